import PyProof.Rows.All
import Wide.All
import OpenK.AllK
import Wide.FinOn
import Lean
import PyProof.EqAt
import PyProof.EqKinds
import PyProof.TupleCall
import PyProof.NeKinds
import PyProof.SumAny
import PyProof.ConsumeS
import PyProof.WalkInts
import PyProof.Draws
import PyProof.EnumMake
import PyProof.Rows.Range3
import PyProof.MeetsStr
import KE.KDictLaws
import PyProof.Rows.CallKwBuiltin
import PySem.Challenge.RW_duskround_k18_columns_and_lying_low
set_option Elab.async false
set_option linter.all false
set_option maxRecDepth 100000
namespace TS
open PySem PyProof.Rows
def LE (less : Keyed → Keyed → Bool) (x y : Keyed) : Prop := less y x = false
structure Ord (less : Keyed → Keyed → Bool) : Prop where
  asym : ∀ x y, less x y = true → less y x = false
  trans : ∀ x y z, LE less x y → LE less y z → LE less x z
section
variable {less : Keyed → Keyed → Bool}
theorem Ord.refl (O : Ord less) (x : Keyed) : LE less x x := by
  unfold LE
  cases h : less x x with
  | false => rfl
  | true => exact (O.asym x x h).symm.trans h ▸ rfl
theorem Ord.le (O : Ord less) {x y : Keyed} (h : less x y = true) : LE less x y := O.asym x y h
theorem Ord.le_lt (O : Ord less) {x y z : Keyed} (h : LE less x y) (h' : less y z = true) : less x z = true := by
  cases e : less x z with
  | true => rfl
  | false =>
    have := O.trans z x y e h
    unfold LE at this
    rw [h'] at this; cases this
end
def ath (xs : Array Keyed) (i : Nat) : Keyed := (xs[i]?).getD (.none, .none)
theorem ath_lt {xs : Array Keyed} {i : Nat} (h : i < xs.size) : xs[i]? = some (ath xs i) := by
  unfold ath; rw [getElem?_pos xs i h]; rfl
theorem ath_congr {xs ys : Array Keyed} {i j : Nat} (h : xs[i]? = ys[j]?) : ath xs i = ath ys j := by unfold ath; rw [h]
theorem ath_mem {xs : Array Keyed} {i : Nat} (h : i < xs.size) : ath xs i ∈ xs.toList := by
  unfold ath; rw [getElem?_pos xs i h]; simp
def Sg (less : Keyed → Keyed → Bool) (xs : Array Keyed) (lo hi : Nat) : Prop := ∀ i j, lo ≤ i → i ≤ j → j < hi → LE less (ath xs i) (ath xs j)
def Ng (less : Keyed → Keyed → Bool) (xs : Array Keyed) (lo hi : Nat) : Prop := ∀ i j, lo ≤ i → i ≤ j → j < hi → LE less (ath xs j) (ath xs i)
structure SB (kd : SortKind) (a₀ : Array Keyed) (st : SortSt) : Prop where
  perm : (arrOf st).Perm a₀
  kd : kindOf st = kd
  fl : failedOf st = none
theorem SB.size {kd : SortKind} {a₀ : Array Keyed} {st : SortSt} (h : SB kd a₀ st) : (arrOf st).size = a₀.size := h.perm.size_eq
theorem SB.mem {kd : SortKind} {a₀ : Array Keyed} {st : SortSt} (h : SB kd a₀ st) {i : Nat} (hi : i < a₀.size) : ath (arrOf st) i ∈ a₀.toList :=
  (Array.perm_iff_toList_perm.mp h.perm).mem_iff.mp (ath_mem (by rw [h.size]; exact hi))
theorem SB.arr {kd : SortKind} {a₀ : Array Keyed} {st : SortSt} (h : SB kd a₀ st) {xs : Array Keyed} (hp : xs.Perm (arrOf st)) : SB kd a₀ (setArr st xs) := ⟨hp.trans h.perm, h.kd, h.fl⟩
def LtOk (prog : Program) (w : World) (A : Around) (E : Value → Shared → Prop) (s : Shared) (kd : SortKind) (a₀ : Array Keyed) (less : Keyed → Keyed → Bool) : Prop :=
  ∀ (x y : Keyed) (st : SortSt) (Q : Option Bool → SortSt → Prop), x ∈ a₀.toList → y ∈ a₀.toList → kindOf st = kd → Q (some (less x y)) st → wpS (model prog w) A E s (lt' x y) Q st
section
variable {prog : Program} {w : World} {A : Around} {E : Value → Shared → Prop} {s : Shared} {kd : SortKind} {a₀ : Array Keyed} {less : Keyed → Keyed → Bool}
theorem wp_elem {xs : Array Keyed} {i : Nat} {Q : Keyed → SortSt → Prop} {st : SortSt} (hi : i < xs.size) (h : Q (ath xs i) st) : wpS (model prog w) A E s (elem' xs i) Q st := by
  rw [elem'_eq, ath_lt hi]; exact wpS_pure h
theorem wp_lt (L : LtOk prog w A E s kd a₀ less) {st : SortSt} {i j : Nat} {Q : Option Bool → SortSt → Prop} (B : SB kd a₀ st) (hi : i < a₀.size) (hj : j < a₀.size)
    (h : Q (some (less (ath (arrOf st) i) (ath (arrOf st) j))) st) : wpS (model prog w) A E s (ltAt' i j) Q st := by
  rw [ltAt'_eq]
  refine wpS_bind (wpS_get ?_)
  exact wpS_bind (wp_elem (by rw [B.size]; exact hi) (wpS_bind (wp_elem (by rw [B.size]; exact hj) (L _ _ _ _ (B.mem hi) (B.mem hj) B.kd h))))
theorem wp_rev {st : SortSt} {i j : Nat} {Q : Unit → SortSt → Prop} (h : Q () (setArr st (mirror (arrOf st) i j ((j - i) / 2)))) : wpS (model prog w) A E s (reverseSlice' i j) Q st := by
  rw [reverseSlice'_eq]; exact wpS_modify h
theorem ath_mirror {xs : Array Keyed} {i j : Nat} (hj : j ≤ xs.size) (k : Nat) : ath (mirror xs i j ((j - i) / 2)) k = if i ≤ k ∧ k < j then ath xs (i + j - 1 - k) else ath xs k := by
  have e := getElem?_mirror_all (i := i) hj k
  by_cases c : i ≤ k ∧ k < j
  · rw [if_pos c] at e ⊢; exact ath_congr e
  · rw [if_neg c] at e ⊢; exact ath_congr e
theorem ath_bubble {xs : Array Keyed} {src d : Nat} (hs : src < xs.size) (hd : d ≤ src) (k : Nat) : ath (bubble xs src d) k = if k = src - d then ath xs src else if src - d < k ∧ k ≤ src then ath xs (k - 1) else ath xs k := by
  have e := getElem?_bubble hs d hd k
  by_cases c : k = src - d
  · rw [if_pos c] at e ⊢; exact ath_congr e
  · rw [if_neg c] at e ⊢
    by_cases c' : src - d < k ∧ k ≤ src
    · rw [if_pos c'] at e ⊢; exact ath_congr e
    · rw [if_neg c'] at e ⊢; exact ath_congr e
def ascL (lo a nrem : Nat) : StateT SortSt Sem AscSt :=
  forIn [a:nrem] ((none, a) : AscSt) fun _ c => do
    let x ← ltAt' (lo + c.snd) (lo + c.snd - 1)
    match x with
    | some b => if b = true then pure (ForInStep.done (none, c.snd)) else pure (ForInStep.yield (none, c.snd + 1))
    | _ => pure (ForInStep.done (some none, c.snd))
def tailL (lo n nrem : Nat) : StateT SortSt Sem (Option Nat) := do
  reverseSlice' lo (lo + n)
  let c ← ascL lo n nrem
  match c.fst with
  | some r => pure r
  | none => pure (some c.snd)
def descL (lo n nrem : Nat) : StateT SortSt Sem DescSt :=
  forIn [n:nrem] ((none, n, 0) : DescSt) fun _ c => do
    let x ← ltAt' (lo + c.snd.fst) (lo + c.snd.fst - 1)
    match x with
    | some b =>
      if b = true then
        if c.snd.snd > 0 then do
          reverseSlice' (lo + c.snd.fst - (c.snd.snd + 1)) (lo + c.snd.fst)
          pure (ForInStep.yield (none, c.snd.fst + 1, 0))
        else pure (ForInStep.yield (none, c.snd.fst + 1, 0))
      else do
        let y ← ltAt' (lo + c.snd.fst - 1) (lo + c.snd.fst)
        match y with
        | some d =>
          if d = true then pure (ForInStep.done (none, c.snd.fst, c.snd.snd))
          else pure (ForInStep.yield (none, c.snd.fst + 1, c.snd.snd + 1))
        | _ => pure (ForInStep.done (some none, c.snd.fst, c.snd.snd))
    | _ => pure (ForInStep.done (some none, c.snd.fst, c.snd.snd))
def partL (lo n nrem : Nat) : StateT SortSt Sem (Option Nat) := do
  liftM (rule "list.sort.descending-run")
  let c ← descL lo (n + 1) nrem
  match c.fst with
  | some r => pure r
  | none =>
    if c.snd.snd > 0 then do
      reverseSlice' (lo + c.snd.fst - (c.snd.snd + 1)) (lo + c.snd.fst)
      tailL lo c.snd.fst nrem
    else tailL lo c.snd.fst nrem
theorem runL_eq (lo nrem : Nat) : countRun' lo nrem = (do
    let c ← ascL lo 1 nrem
    match c.fst with
    | some r => pure r
    | none =>
      if (c.snd == nrem) = true then pure (some c.snd)
      else if c.snd > 1 then do
        let x ← ltAt' lo (lo + c.snd - 1)
        match x with
        | some b => if b = true then pure (some c.snd) else do
            reverseSlice' lo (lo + c.snd)
            partL lo c.snd nrem
        | _ => pure none
      else partL lo c.snd nrem) := by
  rw [countRun'_eq]
  dsimp only
  unfold partL tailL descL ascL
  congr 1
  funext c
  obtain ⟨r, n⟩ := c
  cases r with
  | some r => rfl
  | none =>
    dsimp only
    split
    · rfl
    · split
      · congr 1
        funext x
        cases x with
        | none => rfl
        | some b =>
          dsimp only
          split
          · rfl
          · congr 1
            funext _r
            congr 1; funext _u; congr 1; congr 1; funext s2; obtain ⟨r2, n2, q2⟩ := s2
            cases r2 with
            | some r2 => rfl
            | none =>
              dsimp only; split
              · congr 1; funext _v; congr 1; funext _w; congr 1; funext s3; obtain ⟨r3, n3⟩ := s3; cases r3 <;> rfl
              · congr 1; funext _w; congr 1; funext s3; obtain ⟨r3, n3⟩ := s3; cases r3 <;> rfl
      · congr 1; funext _u; congr 1; congr 1; funext s2; obtain ⟨r2, n2, q2⟩ := s2
        cases r2 with
        | some r2 => rfl
        | none =>
          dsimp only; split
          · congr 1; funext _v; congr 1; funext _w; congr 1; funext s3; obtain ⟨r3, n3⟩ := s3; cases r3 <;> rfl
          · congr 1; funext _w; congr 1; funext s3; obtain ⟨r3, n3⟩ := s3; cases r3 <;> rfl
def Out (lo hi : Nat) (xs ys : Array Keyed) : Prop := ∀ k, k < lo ∨ hi ≤ k → ath ys k = ath xs k
theorem Out.refl {lo hi : Nat} {xs : Array Keyed} : Out lo hi xs xs := fun _ _ => rfl
theorem Out.trans {lo hi : Nat} {xs ys zs : Array Keyed} (a : Out lo hi xs ys) (b : Out lo hi ys zs) : Out lo hi xs zs := fun k h => (b k h).trans (a k h)
theorem wp_ascL (O : Ord less) (L : LtOk prog w A E s kd a₀ less) {st : SortSt} {lo a nrem : Nat} {Q : AscSt → SortSt → Prop} (hn : lo + nrem ≤ a₀.size) (ha : 1 ≤ a) (han : a ≤ nrem) (B : SB kd a₀ st)
    (hs : Sg less (arrOf st) lo (lo + a))
    (h : ∀ n, a ≤ n → n ≤ nrem → Sg less (arrOf st) lo (lo + n) → (n = nrem ∨ less (ath (arrOf st) (lo + n)) (ath (arrOf st) (lo + n - 1)) = true) → Q (none, n) st) :
    wpS (model prog w) A E s (ascL lo a nrem) Q st := by
  unfold ascL
  refine wpS_forRange (I := fun x c st' => st' = st ∧ c = (none, x) ∧ Sg less (arrOf st) lo (lo + x)) ?step ?fin ⟨rfl, rfl, hs⟩
  case fin =>
    rintro c st' ⟨rfl, rfl, hs'⟩
    rw [show max a nrem = nrem by omega] at hs' ⊢
    exact h nrem han (Nat.le_refl _) hs' (.inl rfl)
  case step =>
    rintro x c st' hax hxn ⟨rfl, rfl, hs'⟩
    dsimp only
    refine wpS_bind (wp_lt L B (by omega) (by omega) ?_)
    cases e : less (ath (arrOf st') (lo + x)) (ath (arrOf st') (lo + x - 1)) with
    | true =>
      simp only [if_true]
      exact wpS_pure (h x hax (by omega) hs' (.inr e))
    | false =>
      simp only [Bool.false_eq_true, if_false]
      refine wpS_pure ⟨rfl, rfl, fun i j hi hij hj => ?_⟩
      by_cases c : j < lo + x
      · exact hs' i j hi hij c
      · have : j = lo + x := by omega
        subst this
        by_cases c2 : i = lo + x
        · subst c2; exact O.refl _
        · exact O.trans _ _ _ (hs' i (lo + x - 1) hi (by omega) (by omega)) e
theorem wp_tailL (O : Ord less) (L : LtOk prog w A E s kd a₀ less) {st : SortSt} {lo n nrem : Nat} {Q : Option Nat → SortSt → Prop} (hn : lo + nrem ≤ a₀.size) (h1 : 1 ≤ n) (hnn : n ≤ nrem) (B : SB kd a₀ st)
    (hs : Ng less (arrOf st) lo (lo + n)) (h : ∀ m st', SB kd a₀ st' → 1 ≤ m → m ≤ nrem → Sg less (arrOf st') lo (lo + m) → pendingOf st' = pendingOf st → Out lo (lo + nrem) (arrOf st) (arrOf st') → Q (some m) st') :
    wpS (model prog w) A E s (tailL lo n nrem) Q st := by
  unfold tailL
  have hsz : lo + n ≤ (arrOf st).size := by rw [B.size]; omega
  refine wpS_bind (wp_rev ?_)
  have B' : SB kd a₀ (setArr st (mirror (arrOf st) lo (lo + n) ((lo + n - lo) / 2))) := B.arr (mirror_perm _ _ _ _)
  refine wpS_bind (wp_ascL O L hn h1 hnn B' ?_ fun m hm1 hm2 hsm _ => wpS_pure (h m _ B' (by omega) hm2 hsm rfl ?_))
  · intro i j hi hij hj
    show LE less (ath (mirror (arrOf st) lo (lo + n) ((lo + n - lo) / 2)) i) (ath (mirror (arrOf st) lo (lo + n) ((lo + n - lo) / 2)) j)
    rw [ath_mirror hsz, ath_mirror hsz, if_pos (by omega), if_pos (by omega)]
    exact hs _ _ (by omega) (by omega) (by omega)
  · intro k hk
    show ath (mirror (arrOf st) lo (lo + n) ((lo + n - lo) / 2)) k = _
    rw [ath_mirror hsz, if_neg (by omega)]
theorem ng_mirror (O : Ord less) {xs : Array Keyed} {lo i m : Nat} (hj : m ≤ xs.size) (hli : lo ≤ i) (hs : Ng less xs lo m) (he : ∀ k, i ≤ k → k < m → LE less (ath xs k) (ath xs (m - 1))) : Ng less (mirror xs i m ((m - i) / 2)) lo m := by
  intro a b ha hab hb
  rw [ath_mirror hj, ath_mirror hj]
  by_cases c1 : i ≤ a
  · rw [if_pos (by omega), if_pos (by omega)]
    refine O.trans _ _ _ (he (i + m - 1 - b) (by omega) (by omega)) (hs _ _ (by omega) (by omega) (by omega))
  · rw [if_neg (show ¬ (i ≤ a ∧ a < m) by omega)]
    by_cases c2 : i ≤ b
    · rw [if_pos (by omega)]
      exact hs _ _ (by omega) (by omega) (by omega)
    · rw [if_neg (by omega)]
      exact hs _ _ (by omega) (by omega) (by omega)
theorem out_mirror {xs : Array Keyed} {lo hi i j : Nat} (hj : j ≤ xs.size) (h1 : lo ≤ i) (h2 : j ≤ hi) : Out lo hi xs (mirror xs i j ((j - i) / 2)) := fun k hk => by
  rw [ath_mirror hj, if_neg (by omega)]
theorem wp_descL (O : Ord less) (L : LtOk prog w A E s kd a₀ less) {st : SortSt} {lo n nrem : Nat} {Q : DescSt → SortSt → Prop} (hn : lo + nrem ≤ a₀.size) (h1 : 1 ≤ n) (hnn : n ≤ nrem) (B : SB kd a₀ st)
    (hs : Ng less (arrOf st) lo (lo + n))
    (h : ∀ m neq st', SB kd a₀ st' → n ≤ m → m ≤ nrem → Ng less (arrOf st') lo (lo + m) → neq + 1 ≤ m → (∀ i, lo + m - (neq + 1) ≤ i → i < lo + m → LE less (ath (arrOf st') i) (ath (arrOf st') (lo + m - 1))) → pendingOf st' = pendingOf st → Out lo (lo + nrem) (arrOf st) (arrOf st') → Q (none, m, neq) st') :
    wpS (model prog w) A E s (descL lo n nrem) Q st := by
  unfold descL
  refine wpS_forRange (I := fun x c st' => ∃ neq, c = (none, x, neq) ∧ SB kd a₀ st' ∧ Ng less (arrOf st') lo (lo + x) ∧ neq + 1 ≤ x ∧
      (∀ i, lo + x - (neq + 1) ≤ i → i < lo + x → LE less (ath (arrOf st') i) (ath (arrOf st') (lo + x - 1))) ∧ pendingOf st' = pendingOf st ∧ Out lo (lo + nrem) (arrOf st) (arrOf st')) ?step ?fin
      ⟨0, rfl, B, hs, by omega, fun i h1 h2 => by rw [show i = lo + n - 1 by omega]; exact O.refl _, rfl, Out.refl⟩
  case fin =>
    rintro c st' ⟨neq, rfl, B', hs', hq, he, hp, ho⟩
    rw [show max n nrem = nrem by omega] at hs' hq he ⊢
    exact h nrem neq st' B' hnn (Nat.le_refl _) hs' hq he hp ho
  case step =>
    rintro x c st' hax hxn ⟨neq, rfl, B', hs', hq, he, hp, ho⟩
    dsimp only
    have hsz : lo + x ≤ (arrOf st').size := by rw [B'.size]; omega
    refine wpS_bind (wp_lt L B' (by omega) (by omega) ?_)
    cases e : less (ath (arrOf st') (lo + x)) (ath (arrOf st') (lo + x - 1)) with
    | true =>
      simp only [if_true]
      by_cases hneq : neq > 0
      · rw [if_pos hneq]
        refine wpS_bind (wp_rev (wpS_pure ⟨0, rfl, B'.arr (mirror_perm _ _ _ _), ?_, by omega, fun i h1 h2 => by rw [show i = lo + (x + 1) - 1 by omega]; exact O.refl _, hp, ho.trans (out_mirror hsz (by omega) (by omega))⟩))
        have hm := ng_mirror O (i := lo + x - (neq + 1)) hsz (by omega) hs' he
        intro i j hi hij hj
        by_cases c : j < lo + x
        · exact hm i j hi hij c
        · have : j = lo + x := by omega
          subst this
          by_cases c2 : i = lo + x
          · subst c2; exact O.refl _
          · refine O.trans _ _ _ ?_ (hm i (lo + x - 1) hi (by omega) (by omega))
            show LE less (ath (mirror (arrOf st') (lo + x - (neq + 1)) (lo + x) ((lo + x - (lo + x - (neq + 1))) / 2)) (lo + x)) (ath (mirror (arrOf st') (lo + x - (neq + 1)) (lo + x) ((lo + x - (lo + x - (neq + 1))) / 2)) (lo + x - 1))
            rw [ath_mirror hsz, ath_mirror hsz, if_neg (by omega), if_pos (by omega)]
            exact O.trans _ _ _ (O.le e) (hs' _ _ (by omega) (by omega) (by omega))
      · rw [if_neg hneq]
        refine wpS_pure ⟨0, rfl, B', fun i j hi hij hj => ?_, by omega, fun i h1 h2 => by rw [show i = lo + (x + 1) - 1 by omega]; exact O.refl _, hp, ho⟩
        by_cases c : j < lo + x
        · exact hs' i j hi hij c
        · have : j = lo + x := by omega
          subst this
          by_cases c2 : i = lo + x
          · subst c2; exact O.refl _
          · exact O.trans _ _ _ (O.le e) (hs' i (lo + x - 1) hi (by omega) (by omega))
    | false =>
      simp only [Bool.false_eq_true, if_false]
      refine wpS_bind (wp_lt L B' (by omega) (by omega) ?_)
      cases e2 : less (ath (arrOf st') (lo + x - 1)) (ath (arrOf st') (lo + x)) with
      | true =>
        simp only [if_true]
        exact wpS_pure (h x neq st' B' hax (by omega) hs' hq he hp ho)
      | false =>
        simp only [Bool.false_eq_true, if_false]
        refine wpS_pure ⟨neq + 1, rfl, B', fun i j hi hij hj => ?_, by omega, fun i h1 h2 => ?_, hp, ho⟩
        · by_cases c : j < lo + x
          · exact hs' i j hi hij c
          · have : j = lo + x := by omega
            subst this
            by_cases c2 : i = lo + x
            · subst c2; exact O.refl _
            · exact O.trans _ _ _ e2 (hs' i (lo + x - 1) hi (by omega) (by omega))
        · rw [show lo + (x + 1) - 1 = lo + x by omega]
          by_cases c : i = lo + x
          · subst c; exact O.refl _
          · exact O.trans _ _ _ (he i (by omega) (by omega)) e
theorem wp_partL (O : Ord less) (L : LtOk prog w A E s kd a₀ less) {st : SortSt} {lo n nrem : Nat} {Q : Option Nat → SortSt → Prop} (hn : lo + nrem ≤ a₀.size) (hnn : n + 1 ≤ nrem) (B : SB kd a₀ st)
    (hs : Ng less (arrOf st) lo (lo + (n + 1))) (h : ∀ m st', SB kd a₀ st' → 1 ≤ m → m ≤ nrem → Sg less (arrOf st') lo (lo + m) → pendingOf st' = pendingOf st → Out lo (lo + nrem) (arrOf st) (arrOf st') → Q (some m) st') :
    wpS (model prog w) A E s (partL lo n nrem) Q st := by
  unfold partL
  refine wpS_bind (wpS_lift (wpAny_rule ⟨rfl, ?_⟩))
  refine wpS_bind (wp_descL O L hn (by omega) hnn B hs fun m neq st' B' hm1 hm2 hs' hq he hp ho => ?_)
  dsimp only
  have hsz : lo + m ≤ (arrOf st').size := by rw [B'.size]; omega
  by_cases hneq : neq > 0
  · rw [if_pos hneq]
    refine wpS_bind (wp_rev (wp_tailL O L hn (by omega) hm2 (B'.arr (mirror_perm _ _ _ _)) (ng_mirror O hsz (by omega) hs' he) fun m2 st2 b1 b2 b3 b4 b5 b6 => h m2 st2 b1 b2 b3 b4 (b5.trans hp) (ho.trans ((out_mirror hsz (by omega) (by omega)).trans b6))))
  · rw [if_neg hneq]
    exact wp_tailL O L hn (by omega) hm2 B' hs' fun m2 st2 b1 b2 b3 b4 b5 b6 => h m2 st2 b1 b2 b3 b4 (b5.trans hp) (ho.trans b6)
theorem wp_run (O : Ord less) (L : LtOk prog w A E s kd a₀ less) {st : SortSt} {lo nrem : Nat} {Q : Option Nat → SortSt → Prop} (hn : lo + nrem ≤ a₀.size) (h1 : 1 ≤ nrem) (B : SB kd a₀ st)
    (h : ∀ m st', SB kd a₀ st' → 1 ≤ m → m ≤ nrem → Sg less (arrOf st') lo (lo + m) → pendingOf st' = pendingOf st → Out lo (lo + nrem) (arrOf st) (arrOf st') → Q (some m) st') :
    wpS (model prog w) A E s (countRun' lo nrem) Q st := by
  rw [runL_eq]
  refine wpS_bind (wp_ascL O L hn (Nat.le_refl 1) h1 B (fun i j hi hij hj => by rw [show i = j by omega]; exact O.refl _) fun n hn1 hn2 hsn hor => ?_)
  dsimp only
  by_cases hnn : n = nrem
  · rw [if_pos (by simpa using hnn)]
    exact wpS_pure (h n st B hn1 hn2 hsn rfl Out.refl)
  · rw [if_neg (by simpa using hnn)]
    have hlt := hor.resolve_left hnn
    have hsz : lo + n ≤ (arrOf st).size := by rw [B.size]; omega
    by_cases hgt : n > 1
    · rw [if_pos hgt]
      refine wpS_bind (wp_lt L B (by omega) (by omega) ?_)
      cases e : less (ath (arrOf st) lo) (ath (arrOf st) (lo + n - 1)) with
      | true =>
        simp only [if_true]
        exact wpS_pure (h n st B hn1 hn2 hsn rfl Out.refl)
      | false =>
        simp only [Bool.false_eq_true, if_false]
        have hng : Ng less (arrOf st) lo (lo + n) := fun i j hi hij hj => O.trans _ _ _ (O.trans _ _ _ (hsn j (lo + n - 1) (by omega) (by omega) (by omega)) e) (hsn lo i (Nat.le_refl _) hi (by omega))
        refine wpS_bind (wp_rev (wp_partL O L hn (by omega) (B.arr (mirror_perm _ _ _ _)) ?_ fun m2 st2 b1 b2 b3 b4 b5 b6 => h m2 st2 b1 b2 b3 b4 b5 ((out_mirror hsz (by omega) (by omega)).trans b6)))
        have hm := ng_mirror O (i := lo) hsz (Nat.le_refl _) hng fun k _ _ => hsn k (lo + n - 1) (by omega) (by omega) (by omega)
        intro i j hi hij hj
        by_cases c : j < lo + n
        · exact hm i j hi hij c
        · have : j = lo + n := by omega
          subst this
          by_cases c2 : i = lo + n
          · subst c2; exact O.refl _
          · refine O.trans _ _ _ ?_ (hm i (lo + n - 1) hi (by omega) (by omega))
            show LE less (ath (mirror (arrOf st) lo (lo + n) ((lo + n - lo) / 2)) (lo + n)) (ath (mirror (arrOf st) lo (lo + n) ((lo + n - lo) / 2)) (lo + n - 1))
            rw [ath_mirror hsz, ath_mirror hsz, if_neg (by omega), if_pos (by omega)]
            exact O.trans _ _ _ (O.le hlt) (hng _ _ (by omega) (by omega) (by omega))
    · rw [if_neg hgt]
      have hn1' : n = 1 := by omega
      subst hn1'
      refine wp_partL O L hn (by omega) B (fun i j hi hij hj => ?_) h
      by_cases c : i = j
      · subst c; exact O.refl _
      · rw [show i = lo + 1 - 1 by omega, show j = lo + 1 by omega]
        exact O.le hlt
theorem wp_bin (O : Ord less) (L : LtOk prog w A E s kd a₀ less) {st : SortSt} {lo n ok : Nat} {Q : Bool → SortSt → Prop} (hn : lo + n ≤ a₀.size) (hok : ok ≤ n) (B : SB kd a₀ st) (hs : Sg less (arrOf st) lo (lo + ok))
    (h : ∀ st', SB kd a₀ st' → Sg less (arrOf st') lo (lo + n) → pendingOf st' = pendingOf st → Out lo (lo + n) (arrOf st) (arrOf st') → Q true st') : wpS (model prog w) A E s (binarySort' lo n ok) Q st := by
  rw [binarySort'_eq]
  refine wpS_bind (wpS_mono (wpS_forRange (I := fun k c st' => c = (none, ()) ∧ SB kd a₀ st' ∧ Sg less (arrOf st') lo (lo + min k n) ∧ pendingOf st' = pendingOf st ∧ Out lo (lo + n) (arrOf st) (arrOf st'))
    (Q := fun c st' => c = (none, ()) ∧ SB kd a₀ st' ∧ Sg less (arrOf st') lo (lo + n) ∧ pendingOf st' = pendingOf st ∧ Out lo (lo + n) (arrOf st) (arrOf st')) ?step ?fin ?init) ?post)
  case post =>
    rintro c st' ⟨rfl, B', hs', hp, ho⟩
    exact wpS_pure (h st' B' hs' hp ho)
  case init =>
    refine ⟨rfl, B, fun i j hi hij hj => ?_, rfl, Out.refl⟩
    by_cases c : ok = 0
    · rw [show i = j by omega]; exact O.refl _
    · exact hs i j hi hij (by omega)
  case fin =>
    rintro c st' ⟨hc, B', hs', hp, ho⟩
    refine ⟨hc, B', ?_, hp, ho⟩
    rwa [show min (max (max ok 1) n) n = n by omega] at hs'
  case step =>
    rintro k c st' hak hkn ⟨rfl, B', hs', hp, ho⟩
    rw [show min k n = k by omega] at hs'
    have hk : lo + k < a₀.size := by omega
    refine wpS_bind (wpS_mono (wpS_forRange (I := fun x c st'' => st'' = st' ∧ ∃ l r, c = (none, l, r) ∧ l ≤ r ∧ r ≤ k ∧ r - l ≤ k - x ∧
        (∀ i, i < l → LE less (ath (arrOf st') (lo + i)) (ath (arrOf st') (lo + k))) ∧ (∀ i, r ≤ i → i < k → LE less (ath (arrOf st') (lo + k)) (ath (arrOf st') (lo + i))))
      (Q := fun c st'' => st'' = st' ∧ ∃ l r, c = (none, l, r) ∧ l ≤ k ∧
        (∀ i, i < l → LE less (ath (arrOf st') (lo + i)) (ath (arrOf st') (lo + k))) ∧ (∀ i, l ≤ i → i < k → LE less (ath (arrOf st') (lo + k)) (ath (arrOf st') (lo + i)))) ?istep ?ifin ?iinit) ?ipost)
    case iinit => exact ⟨rfl, 0, k, rfl, by omega, by omega, by omega, fun i hi => by omega, fun i h1 h2 => by omega⟩
    case ifin =>
      rintro c st'' ⟨rfl, l, r, rfl, hlr, hrk, hm, hlo, hhi⟩
      have : l = r := by omega
      subst this
      exact ⟨rfl, l, l, rfl, hrk, hlo, hhi⟩
    case istep =>
      rintro x c st'' _ hxk ⟨rfl, l, r, rfl, hlr, hrk, hm, hlo, hhi⟩
      dsimp only
      by_cases hge : l ≥ r
      · rw [if_pos hge]
        have : l = r := by omega
        subst this
        exact wpS_pure ⟨rfl, l, l, rfl, hrk, hlo, hhi⟩
      · rw [if_neg hge]
        refine wpS_bind (wp_lt L B' hk (by omega) ?_)
        cases e : less (ath (arrOf st'') (lo + k)) (ath (arrOf st'') (lo + (l + r) / 2)) with
        | true =>
          simp only [if_true]
          refine wpS_pure ⟨rfl, l, (l + r) / 2, rfl, by omega, by omega, by omega, hlo, fun i h1 h2 => ?_⟩
          exact O.trans _ _ _ (O.le e) (hs' _ _ (by omega) (by omega) (by omega))
        | false =>
          simp only [Bool.false_eq_true, if_false]
          refine wpS_pure ⟨rfl, (l + r) / 2 + 1, r, rfl, by omega, by omega, by omega, fun i h1 => ?_, hhi⟩
          exact O.trans _ _ _ (hs' (lo + i) (lo + (l + r) / 2) (by omega) (by omega) (by omega)) e
    case ipost =>
      rintro c st'' ⟨rfl, l, r, rfl, hlk, hlo, hhi⟩
      show wpS _ _ _ _ (do moveDown' (lo + k) (lo + l); pure (ForInStep.yield (none, ()))) _ _
      rw [moveDown'_eq]
      have hks : lo + k < (arrOf st'').size := by rw [B'.size]; exact hk
      refine wpS_bind (wpS_modify (wpS_pure ⟨rfl, B'.arr (bubble_perm _ _ _), ?_, hp, ho.trans fun j hj => ?_⟩))
      · rw [show min (k + 1) n = k + 1 by omega]
        intro i j hi hij hj
        show LE less (ath (bubble (arrOf st'') (lo + k) (lo + k - (lo + l))) i) (ath (bubble (arrOf st'') (lo + k) (lo + k - (lo + l))) j)
        rw [ath_bubble hks (by omega), ath_bubble hks (by omega), show lo + k - (lo + k - (lo + l)) = lo + l by omega]
        have hlo' : ∀ i, lo ≤ i → i < lo + l → LE less (ath (arrOf st'') i) (ath (arrOf st'') (lo + k)) := fun i h1 h2 => by
          have := hlo (i - lo) (by omega)
          rwa [show lo + (i - lo) = i by omega] at this
        have hhi' : ∀ i, lo + l ≤ i → i < lo + k → LE less (ath (arrOf st'') (lo + k)) (ath (arrOf st'') i) := fun i h1 h2 => by
          have := hhi (i - lo) (by omega) (by omega)
          rwa [show lo + (i - lo) = i by omega] at this
        repeat' split
        all_goals first
          | (exfalso; omega)
          | exact O.refl _
          | exact hlo' _ (by omega) (by omega)
          | exact hhi' _ (by omega) (by omega)
          | exact hs' _ _ (by omega) (by omega) (by omega)
      · show ath (bubble (arrOf st'') (lo + k) (lo + k - (lo + l))) j = _
        rw [ath_bubble hks (by omega), if_neg (by omega), if_neg (by omega)]
end
end TS
namespace TS
open PySem PyProof.Rows
def gal : Bool → Keyed → Array Keyed → Nat → Nat → Nat → StateT SortSt Sem (Option Nat) := sortPriv% PySem.Builtin.gallop
def mLo : Array Keyed → Array Keyed → StateT SortSt Sem (Array Keyed) := sortPriv% PySem.Builtin.mergeLo
def mHi : Array Keyed → Array Keyed → StateT SortSt Sem (Array Keyed) := sortPriv% PySem.Builtin.mergeHi
abbrev setGal (st : SortSt) (g : Nat) : SortSt := SortSt.mk' (kindOf st) (arrOf st) (pendingOf st) g (failedOf st)
def bey (left : Bool) (key : Keyed) (arr : Array Keyed) (base i : Nat) : StateT SortSt Sem (Option Bool) := do
  let x ← elem' arr (base + i)
  if left then lt' x key else return (← lt' key x).map (!·)
theorem gal_eq (left : Bool) (key : Keyed) (arr : Array Keyed) (base n hint : Nat) : gal left key arr base n hint = (do
  let mut la := 0
  let mut f := 1
  let mut lo := 0
  let mut hi := 0
  let some g ← bey left key arr base hint | return none
  if g then
    let mx := n - hint
    for _ in [0:n] do
      if f ≥ mx then break
      let some g ← bey left key arr base (hint + f) | return none
      if !g then break
      la := f
      f := 2 * f + 1
    lo := hint + la + 1
    hi := hint + min f mx
  else
    let mx := hint + 1
    for _ in [0:n] do
      if f ≥ mx then break
      let some g ← bey left key arr base (hint - f) | return none
      if g then break
      la := f
      f := 2 * f + 1
    lo := hint + 1 - min f mx
    hi := hint - la
  for _ in [0:n] do
    if lo ≥ hi then break
    let m := lo + (hi - lo) / 2
    let some g ← bey left key arr base m | return none
    if g then lo := m + 1 else hi := m
  return some hi) := rfl
section
variable {prog : Program} {w : World} {A : Around} {E : Value → Shared → Prop} {s : Shared} {kd : SortKind} {a₀ : Array Keyed} {less : Keyed → Keyed → Bool}
theorem wp_gal0 {st : SortSt} {left : Bool} {key : Keyed} {arr : Array Keyed} {base n hint : Nat} {Q : Option Nat → SortSt → Prop} (Bf : Nat → Bool) (hh : hint < n)
    (hb : ∀ i, i < n → ∀ Q' : Option Bool → SortSt → Prop, Q' (some (Bf i)) st → wpS (model prog w) A E s (bey left key arr base i) Q' st)
    (mono : ∀ i j, i ≤ j → j < n → Bf j = true → Bf i = true)
    (h : ∀ k, k ≤ n → (∀ i, i < k → Bf i = true) → (∀ i, k ≤ i → i < n → Bf i = false) → Q (some k) st) :
    wpS (model prog w) A E s (gal left key arr base n hint) Q st := by
  have mono' : ∀ i j, i ≤ j → j < n → Bf i = false → Bf j = false := fun i j hij hj e => by
    cases e2 : Bf j with
    | false => rfl
    | true => rw [mono i j hij hj e2] at e; cases e
  rw [gal_eq]
  dsimp only
  refine wpS_bind (hb hint hh _ ?_)
  dsimp only
  cases hB : Bf hint with
  | true =>
    simp only [if_true]
    refine wpS_bind (wpS_mono (wpS_forRange (I := fun i c st' => st' = st ∧ ∃ la f, c = (none, la, f) ∧ i + 1 ≤ f ∧ la < f ∧ hint + la < n ∧ Bf (hint + la) = true)
      (Q := fun c st' => st' = st ∧ ∃ la f, c = (none, la, f) ∧ la < f ∧ hint + la < n ∧ Bf (hint + la) = true ∧ (n - hint ≤ f ∨ (hint + f < n ∧ Bf (hint + f) = false)))
      ?_ ?_ ⟨rfl, 0, 1, rfl, by omega, by omega, by omega, hB⟩) ?_)
    · rintro i c st' _ hi ⟨rfl, la, f, rfl, h1, h2, h3, h4⟩
      dsimp only
      by_cases c1 : f ≥ n - hint
      · rw [if_pos c1]
        exact wpS_pure ⟨rfl, la, f, rfl, h2, h3, h4, .inl c1⟩
      · rw [if_neg c1]
        refine wpS_bind (hb _ (by omega) _ ?_)
        cases e : Bf (hint + f) with
        | true =>
          simp only [Bool.not_true, Bool.false_eq_true, if_false]
          exact wpS_pure ⟨rfl, f, 2 * f + 1, rfl, by omega, by omega, by omega, e⟩
        | false =>
          simp only [Bool.not_false, if_true]
          exact wpS_pure ⟨rfl, la, f, rfl, h2, h3, h4, .inr ⟨by omega, e⟩⟩
    · rintro c st' ⟨rfl, la, f, rfl, h1, h2, h3, h4⟩
      exact ⟨rfl, la, f, rfl, h2, h3, h4, .inl (by omega)⟩
    · rintro c st' ⟨rfl, la, f, rfl, h2, h3, h4, h5⟩
      dsimp only
      refine wpS_bind (wpS_mono (wpS_forRange (I := fun i c st'' => st'' = st' ∧ ∃ lo hi, c = (none, lo, hi) ∧ lo ≤ hi ∧ hi ≤ n ∧ hi - lo ≤ n - i ∧ (∀ i, i < lo → Bf i = true) ∧ (∀ i, hi ≤ i → i < n → Bf i = false))
        (Q := fun c st'' => st'' = st' ∧ ∃ lo hi, c = (none, lo, hi) ∧ hi ≤ n ∧ (∀ i, i < hi → Bf i = true) ∧ (∀ i, hi ≤ i → i < n → Bf i = false)) ?_ ?_
        ⟨rfl, _, _, rfl, by omega, by omega, by omega, fun i hi => mono i (hint + la) (by omega) h3 h4, fun i hi hin => ?_⟩) ?_)
      · rintro i c st'' _ hi ⟨rfl, lo, hi', rfl, g1, g2, g3, g4, g5⟩
        dsimp only
        by_cases c1 : lo ≥ hi'
        · rw [if_pos c1]
          have : lo = hi' := by omega
          subst this
          exact wpS_pure ⟨rfl, _, _, rfl, g2, g4, g5⟩
        · rw [if_neg c1]
          refine wpS_bind (hb _ (by omega) _ ?_)
          cases e : Bf (lo + (hi' - lo) / 2) with
          | true =>
            simp only [if_true]
            exact wpS_pure ⟨rfl, _, _, rfl, by omega, g2, by omega, fun j hj => mono j _ (by omega) (by omega) e, g5⟩
          | false =>
            simp only [Bool.false_eq_true, if_false]
            exact wpS_pure ⟨rfl, _, _, rfl, by omega, by omega, by omega, g4, fun j hj hjn => mono' _ j hj hjn e⟩
      · rintro c st'' ⟨rfl, lo, hi', rfl, g1, g2, g3, g4, g5⟩
        have : lo = hi' := by omega
        subst this
        exact ⟨rfl, _, _, rfl, g2, g4, g5⟩
      · rcases h5 with h5 | ⟨h5, h6⟩
        · omega
        · exact mono' (hint + f) i (by omega) hin h6
      · rintro c st'' ⟨rfl, lo, hi', rfl, g2, g4, g5⟩
        exact wpS_pure (h _ g2 g4 g5)
  | false =>
    simp only [Bool.false_eq_true, if_false]
    refine wpS_bind (wpS_mono (wpS_forRange (I := fun i c st' => st' = st ∧ ∃ la f, c = (none, la, f) ∧ i + 1 ≤ f ∧ la < f ∧ la ≤ hint ∧ Bf (hint - la) = false)
      (Q := fun c st' => st' = st ∧ ∃ la f, c = (none, la, f) ∧ la < f ∧ la ≤ hint ∧ Bf (hint - la) = false ∧ (hint + 1 ≤ f ∨ (f ≤ hint ∧ Bf (hint - f) = true)))
      ?_ ?_ ⟨rfl, 0, 1, rfl, by omega, by omega, by omega, hB⟩) ?_)
    · rintro i c st' _ hi ⟨rfl, la, f, rfl, h1, h2, h3, h4⟩
      dsimp only
      by_cases c1 : f ≥ hint + 1
      · rw [if_pos c1]
        exact wpS_pure ⟨rfl, la, f, rfl, h2, h3, h4, .inl c1⟩
      · rw [if_neg c1]
        refine wpS_bind (hb _ (by omega) _ ?_)
        cases e : Bf (hint - f) with
        | false =>
          simp only [Bool.false_eq_true, if_false]
          exact wpS_pure ⟨rfl, f, 2 * f + 1, rfl, by omega, by omega, by omega, e⟩
        | true =>
          simp only [if_true]
          exact wpS_pure ⟨rfl, la, f, rfl, h2, h3, h4, .inr ⟨by omega, e⟩⟩
    · rintro c st' ⟨rfl, la, f, rfl, h1, h2, h3, h4⟩
      exact ⟨rfl, la, f, rfl, h2, h3, h4, .inl (by omega)⟩
    · rintro c st' ⟨rfl, la, f, rfl, h2, h3, h4, h5⟩
      dsimp only
      refine wpS_bind (wpS_mono (wpS_forRange (I := fun i c st'' => st'' = st' ∧ ∃ lo hi, c = (none, lo, hi) ∧ lo ≤ hi ∧ hi ≤ n ∧ hi - lo ≤ n - i ∧ (∀ i, i < lo → Bf i = true) ∧ (∀ i, hi ≤ i → i < n → Bf i = false))
        (Q := fun c st'' => st'' = st' ∧ ∃ lo hi, c = (none, lo, hi) ∧ hi ≤ n ∧ (∀ i, i < hi → Bf i = true) ∧ (∀ i, hi ≤ i → i < n → Bf i = false)) ?_ ?_
        ⟨rfl, _, _, rfl, by omega, by omega, by omega, fun i hi => ?_, fun i hi hin => mono' (hint - la) i (by omega) hin h4⟩) ?_)
      · rintro i c st'' _ hi ⟨rfl, lo, hi', rfl, g1, g2, g3, g4, g5⟩
        dsimp only
        by_cases c1 : lo ≥ hi'
        · rw [if_pos c1]
          have : lo = hi' := by omega
          subst this
          exact wpS_pure ⟨rfl, _, _, rfl, g2, g4, g5⟩
        · rw [if_neg c1]
          refine wpS_bind (hb _ (by omega) _ ?_)
          cases e : Bf (lo + (hi' - lo) / 2) with
          | true =>
            simp only [if_true]
            exact wpS_pure ⟨rfl, _, _, rfl, by omega, g2, by omega, fun j hj => mono j _ (by omega) (by omega) e, g5⟩
          | false =>
            simp only [Bool.false_eq_true, if_false]
            exact wpS_pure ⟨rfl, _, _, rfl, by omega, by omega, by omega, g4, fun j hj hjn => mono' _ j hj hjn e⟩
      · rintro c st'' ⟨rfl, lo, hi', rfl, g1, g2, g3, g4, g5⟩
        have : lo = hi' := by omega
        subst this
        exact ⟨rfl, _, _, rfl, g2, g4, g5⟩
      · rcases h5 with h5 | ⟨h5, h6⟩
        · omega
        · exact mono i (hint - f) (by omega) (by omega) h6
      · rintro c st'' ⟨rfl, lo, hi', rfl, g2, g4, g5⟩
        exact wpS_pure (h _ g2 g4 g5)
theorem wp_galL (O : Ord less) (L : LtOk prog w A E s kd a₀ less) {st : SortSt} {key : Keyed} {arr : Array Keyed} {base n hint : Nat} {Q : Option Nat → SortSt → Prop} (B : kindOf st = kd) (hk : key ∈ a₀.toList)
    (hm : ∀ i, i < n → base + i < arr.size ∧ ath arr (base + i) ∈ a₀.toList) (hh : hint < n) (hs : Sg less arr base (base + n))
    (h : ∀ k, k ≤ n → (∀ i, i < k → less (ath arr (base + i)) key = true) → (∀ i, k ≤ i → i < n → LE less key (ath arr (base + i))) → Q (some k) st) :
    wpS (model prog w) A E s (gal true key arr base n hint) Q st := by
  refine wp_gal0 (fun i => less (ath arr (base + i)) key) hh (fun i hi Q' hq => ?_) (fun i j hij hj e => O.le_lt (hs (base + i) (base + j) (by omega) (by omega) (by omega)) e) h
  unfold bey
  refine wpS_bind (wp_elem (hm i hi).1 ?_)
  simp only [if_true]
  exact L _ _ _ _ (hm i hi).2 hk B hq
theorem wp_galR (O : Ord less) (L : LtOk prog w A E s kd a₀ less) {st : SortSt} {key : Keyed} {arr : Array Keyed} {base n hint : Nat} {Q : Option Nat → SortSt → Prop} (B : kindOf st = kd) (hk : key ∈ a₀.toList)
    (hm : ∀ i, i < n → base + i < arr.size ∧ ath arr (base + i) ∈ a₀.toList) (hh : hint < n) (hs : Sg less arr base (base + n))
    (h : ∀ k, k ≤ n → (∀ i, i < k → LE less (ath arr (base + i)) key) → (∀ i, k ≤ i → i < n → less key (ath arr (base + i)) = true) → Q (some k) st) :
    wpS (model prog w) A E s (gal false key arr base n hint) Q st := by
  refine wp_gal0 (fun i => !less key (ath arr (base + i))) hh (fun i hi Q' hq => ?_) (fun i j hij hj e => ?_) (fun k h1 h2 h3 => h k h1 (fun i hi => ?_) fun i h4 h5 => ?_)
  · unfold bey
    refine wpS_bind (wp_elem (hm i hi).1 ?_)
    simp only [Bool.false_eq_true, if_false]
    exact wpS_bind (L _ _ _ _ hk (hm i hi).2 B (wpS_pure hq))
  · simp only [Bool.not_eq_true'] at e ⊢
    exact O.trans _ _ _ (hs (base + i) (base + j) (by omega) (by omega) (by omega)) e
  · have := h2 i hi
    simp only [Bool.not_eq_true'] at this
    exact this
  · have := h3 i h4 h5
    simpa using this
theorem mLo_eq (a b : Array Keyed) : mLo a b = (do
  rule "list.sort.merge-lo"
  let tt := a.size + b.size
  let dn (o : Array Keyed) (i j : Nat) := o ++ a.extract i a.size ++ b.extract j b.size
  let la (o : Array Keyed) (i j : Nat) := o ++ b.extract j b.size ++ a.extract i a.size
  let mut o : Array Keyed := #[← elem' b 0]
  let mut i := 0
  let mut j := 1
  if j == b.size then return dn o i j
  if i + 1 == a.size then return la o i j
  let mut mg := gallopOf (← get)
  for _ in [0:tt] do
    let mut ac := 0
    let mut bc := 0
    for _ in [0:tt] do
      let some g ← lt' (← elem' b j) (← elem' a i) | return dn o i j
      if g then
        o := o.push (← elem' b j); j := j + 1; bc := bc + 1; ac := 0
        if j == b.size then return dn o i j
        if bc ≥ mg then break
      else
        o := o.push (← elem' a i); i := i + 1; ac := ac + 1; bc := 0
        if i + 1 == a.size then return la o i j
        if ac ≥ mg then break
    rule "list.sort.gallop"
    mg := mg + 1
    for _ in [0:tt] do
      if mg > 1 then mg := mg - 1
      modify fun s => setGal s mg
      let some k ← gal false (← elem' b j) a i (a.size - i) 0 | return dn o i j
      ac := k
      if k > 0 then
        o := o ++ a.extract i (i + k); i := i + k
        if i + 1 == a.size then return la o i j
        if i == a.size then return dn o i j
      o := o.push (← elem' b j); j := j + 1
      if j == b.size then return dn o i j
      let some k ← gal true (← elem' a i) b j (b.size - j) 0 | return dn o i j
      bc := k
      if k > 0 then
        o := o ++ b.extract j (j + k); j := j + k
        if j == b.size then return dn o i j
      o := o.push (← elem' a i); i := i + 1
      if i + 1 == a.size then return la o i j
      if ac < 7 && bc < 7 then break
    mg := mg + 1
    modify fun s => setGal s mg
  unsupported "internal:list.sort.merge-bound") := rfl
theorem mHi_eq (a b : Array Keyed) : mHi a b = (do
  rule "list.sort.merge-hi"
  let tt := a.size + b.size
  let dn (o : Array Keyed) (i j : Nat) := a.extract 0 i ++ b.extract 0 j ++ o.reverse
  let fb (o : Array Keyed) (i j : Nat) := b.extract 0 j ++ a.extract 0 i ++ o.reverse
  let mut i := a.size - 1
  let mut j := b.size
  let mut o : Array Keyed := #[← elem' a i]
  if i == 0 then return dn o i j
  if j == 1 then return fb o i j
  let mut mg := gallopOf (← get)
  for _ in [0:tt] do
    let mut ac := 0
    let mut bc := 0
    for _ in [0:tt] do
      let some g ← lt' (← elem' b (j - 1)) (← elem' a (i - 1)) | return dn o i j
      if g then
        i := i - 1; o := o.push (← elem' a i); ac := ac + 1; bc := 0
        if i == 0 then return dn o i j
        if ac ≥ mg then break
      else
        j := j - 1; o := o.push (← elem' b j); bc := bc + 1; ac := 0
        if j == 1 then return fb o i j
        if bc ≥ mg then break
    rule "list.sort.gallop"
    mg := mg + 1
    for _ in [0:tt] do
      if mg > 1 then mg := mg - 1
      modify fun s => setGal s mg
      let some at_ ← gal false (← elem' b (j - 1)) a 0 i (i - 1) | return dn o i j
      let k := i - at_
      ac := k
      if k > 0 then
        o := o ++ (a.extract at_ i).reverse; i := at_
        if i == 0 then return dn o i j
      j := j - 1; o := o.push (← elem' b j)
      if j == 1 then return fb o i j
      let some at_ ← gal true (← elem' a (i - 1)) b 0 j (j - 1) | return dn o i j
      let k := j - at_
      bc := k
      if k > 0 then
        o := o ++ (b.extract at_ j).reverse; j := at_
        if j == 1 then return fb o i j
        if j == 0 then return dn o i j
      i := i - 1; o := o.push (← elem' a i)
      if i == 0 then return dn o i j
      if ac < 7 && bc < 7 then break
    mg := mg + 1
    modify fun s => setGal s mg
  unsupported "internal:list.sort.merge-bound") := rfl
end
end TS
namespace TS
open PySem PyProof.Rows
structure MI (less : Keyed → Keyed → Bool) (al bl o : List Keyed) (i j : Nat) : Prop where
  pm : o.Perm (al.take i ++ bl.take j)
  so : o.Pairwise (LE less)
  ba : ∀ x ∈ o, ∀ y ∈ al.drop i, LE less x y
  bb : ∀ x ∈ o, ∀ y ∈ bl.drop j, LE less x y
section
variable {less : Keyed → Keyed → Bool} {al bl o : List Keyed} {i j : Nat}
theorem MI.swap (h : MI less al bl o i j) : MI less bl al o j i := ⟨h.pm.trans List.perm_append_comm, h.so, h.bb, h.ba⟩
theorem take_add {α : Type} (l : List α) (i k : Nat) : l.take (i + k) = l.take i ++ (l.drop i).take k := by
  rw [List.take_add]
theorem MI.blk (h : MI less al bl o i j) (sa : al.Pairwise (LE less)) (k : Nat) (hk : ∀ x ∈ (al.drop i).take k, ∀ y ∈ bl.drop j, LE less x y) : MI less al bl (o ++ (al.drop i).take k) (i + k) j := by
  have sd : (al.drop i).Pairwise (LE less) := sa.sublist (List.drop_sublist _ _)
  have e : (al.drop i).take k ++ al.drop (i + k) = al.drop i := by rw [← List.drop_drop, List.take_append_drop]
  have sd2 := sd
  rw [← e, List.pairwise_append] at sd2
  refine ⟨?_, ?_, ?_, ?_⟩
  · rw [take_add, List.append_assoc]
    refine (h.pm.append_right _).trans ?_
    rw [List.append_assoc]
    exact List.Perm.append_left _ List.perm_append_comm
  · rw [List.pairwise_append]
    exact ⟨h.so, sd2.1, fun x hx y hy => h.ba x hx y (List.mem_of_mem_take hy)⟩
  · intro x hx y hy
    rcases List.mem_append.mp hx with hx | hx
    · exact h.ba x hx y (by rw [← e]; exact List.mem_append_right _ hy)
    · exact sd2.2.2 x hx y hy
  · intro x hx y hy
    rcases List.mem_append.mp hx with hx | hx
    · exact h.bb x hx y hy
    · exact hk x hx y hy
theorem MI.fin (h : MI less al bl o i j) (sa : al.Pairwise (LE less)) (sb : bl.Pairwise (LE less)) (hk : ∀ x ∈ bl.drop j, ∀ y ∈ al.drop i, LE less x y) : (o ++ bl.drop j ++ al.drop i).Perm (al ++ bl) ∧ (o ++ bl.drop j ++ al.drop i).Pairwise (LE less) := by
  constructor
  · rw [List.append_assoc]
    refine (h.pm.append_right _).trans ?_
    have e1 : (al ++ bl).Perm ((al.take i ++ al.drop i) ++ (bl.take j ++ bl.drop j)) := by rw [List.take_append_drop, List.take_append_drop]
    refine List.Perm.trans ?_ e1.symm
    rw [List.append_assoc, List.append_assoc]
    refine List.Perm.append_left _ ?_
    rw [← List.append_assoc]
    exact List.perm_append_comm
  · rw [List.pairwise_append, List.pairwise_append]
    refine ⟨⟨h.so, sb.sublist (List.drop_sublist _ _), h.bb⟩, sa.sublist (List.drop_sublist _ _), fun x hx y hy => ?_⟩
    rcases List.mem_append.mp hx with hx | hx
    · exact h.ba x hx y hy
    · exact hk x hx y hy
structure MH (less : Keyed → Keyed → Bool) (al bl t : List Keyed) (i j : Nat) : Prop where
  pm : t.Perm (al.drop i ++ bl.drop j)
  so : t.Pairwise (LE less)
  ba : ∀ x ∈ t, ∀ y ∈ al.take i, LE less y x
  bb : ∀ x ∈ t, ∀ y ∈ bl.take j, LE less y x
theorem MH.swap {t : List Keyed} (h : MH less al bl t i j) : MH less bl al t j i := ⟨h.pm.trans List.perm_append_comm, h.so, h.bb, h.ba⟩
theorem MH.blk {t : List Keyed} (h : MH less al bl t i j) (sa : al.Pairwise (LE less)) {k : Nat} (hki : k ≤ i) (hk : ∀ x ∈ (al.take i).drop k, ∀ y ∈ bl.take j, LE less y x) : MH less al bl ((al.take i).drop k ++ t) k j := by
  have sd : (al.take i).Pairwise (LE less) := sa.sublist (List.take_sublist _ _)
  have e0 : (al.take i).take k = al.take k := by rw [List.take_take, Nat.min_eq_left hki]
  have e : al.take k ++ (al.take i).drop k = al.take i := by rw [← e0, List.take_append_drop]
  have sd2 := sd
  rw [← e, List.pairwise_append] at sd2
  have e3 : al.drop k = (al.take i).drop k ++ al.drop i := by
    have := List.take_append_drop i al
    have e4 : al.drop k = (al.take i ++ al.drop i).drop k := by rw [this]
    rw [e4]
    by_cases c : i ≤ al.length
    · rw [List.drop_append_of_le_length (by rw [List.length_take]; omega)]
    · have z : al.drop i = [] := List.drop_eq_nil_of_le (by omega)
      rw [z, List.append_nil, List.append_nil]
  refine ⟨?_, ?_, ?_, ?_⟩
  · rw [e3, List.append_assoc]
    exact List.Perm.append_left _ h.pm
  · rw [List.pairwise_append]
    exact ⟨sd2.2.1, h.so, fun x hx y hy => h.ba y hy x (by rw [← e]; exact List.mem_append_right _ hx)⟩
  · intro x hx y hy
    rcases List.mem_append.mp hx with hx | hx
    · exact sd2.2.2 y hy x hx
    · exact h.ba x hx y (by rw [← e]; exact List.mem_append_left _ hy)
  · intro x hx y hy
    rcases List.mem_append.mp hx with hx | hx
    · exact hk x hx y hy
    · exact h.bb x hx y hy
theorem MH.fin {t : List Keyed} (h : MH less al bl t i j) (sa : al.Pairwise (LE less)) (sb : bl.Pairwise (LE less)) (hk : ∀ x ∈ al.take i, ∀ y ∈ bl.take j, LE less x y) : (al.take i ++ bl.take j ++ t).Perm (al ++ bl) ∧ (al.take i ++ bl.take j ++ t).Pairwise (LE less) := by
  constructor
  · refine (List.Perm.append_left _ h.pm).trans ?_
    have e1 : (al ++ bl).Perm ((al.take i ++ al.drop i) ++ (bl.take j ++ bl.drop j)) := by rw [List.take_append_drop, List.take_append_drop]
    refine List.Perm.trans ?_ e1.symm
    rw [List.append_assoc, List.append_assoc]
    refine List.Perm.append_left _ ?_
    rw [← List.append_assoc, ← List.append_assoc]
    exact List.Perm.append_right _ List.perm_append_comm
  · rw [List.pairwise_append, List.pairwise_append]
    refine ⟨⟨sa.sublist (List.take_sublist _ _), sb.sublist (List.take_sublist _ _), hk⟩, h.so, fun x hx y hy => ?_⟩
    rcases List.mem_append.mp hx with hx | hx
    · exact h.ba y hy x hx
    · exact h.bb y hy x hx
end
abbrev R5 := Option (Array Keyed) × Array Keyed × Nat × Nat × Nat
abbrev R6 := Option (Array Keyed) × Array Keyed × Nat × Nat × Nat × Nat
abbrev R7 := Option (Array Keyed) × Array Keyed × Nat × Nat × Nat × Nat × Nat
section
variable (a b : Array Keyed)
abbrev dnL (o : Array Keyed) (i j : Nat) : Array Keyed := o ++ a.extract i a.size ++ b.extract j b.size
abbrev laL (o : Array Keyed) (i j : Nat) : Array Keyed := o ++ b.extract j b.size ++ a.extract i a.size
def one1 (mg : Nat) (o : Array Keyed) (i j ac bc : Nat) : StateT SortSt Sem (ForInStep R6) := do
  let x ← elem' b j
  let y ← elem' a i
  let g ← lt' x y
  match g with
  | some g =>
    if g = true then do
      let x ← elem' b j
      if (j + 1 == b.size) = true then pure (.done (some (dnL a b (o.push x) i (j + 1)), o.push x, i, j + 1, 0, bc + 1))
      else if bc + 1 ≥ mg then pure (.done (none, o.push x, i, j + 1, 0, bc + 1))
      else pure (.yield (none, o.push x, i, j + 1, 0, bc + 1))
    else do
      let x ← elem' a i
      if (i + 1 + 1 == a.size) = true then pure (.done (some (laL a b (o.push x) (i + 1) j), o.push x, i + 1, j, ac + 1, 0))
      else if ac + 1 ≥ mg then pure (.done (none, o.push x, i + 1, j, ac + 1, 0))
      else pure (.yield (none, o.push x, i + 1, j, ac + 1, 0))
  | _ => pure (.done (some (dnL a b o i j), o, i, j, ac, bc))
def p3L (mg ac bc : Nat) (o : Array Keyed) (i j : Nat) : StateT SortSt Sem (ForInStep R7) := do
  let x ← elem' a i
  if (i + 1 + 1 == a.size) = true then pure (.done (some (laL a b (o.push x) (i + 1) j), o.push x, i + 1, j, mg, ac, bc))
  else if (decide (ac < 7) && decide (bc < 7)) = true then pure (.done (none, o.push x, i + 1, j, mg, ac, bc))
  else pure (.yield (none, o.push x, i + 1, j, mg, ac, bc))
def p2L (mg ac bc : Nat) (o : Array Keyed) (i j : Nat) : StateT SortSt Sem (ForInStep R7) := do
  let x ← elem' b j
  if (j + 1 == b.size) = true then pure (.done (some (dnL a b (o.push x) i (j + 1)), o.push x, i, j + 1, mg, ac, bc))
  else do
    let y ← elem' a i
    let r ← gal true y b (j + 1) (b.size - (j + 1)) 0
    match r with
    | some k =>
      if k > 0 then
        if (j + 1 + k == b.size) = true then pure (.done (some (dnL a b (o.push x ++ b.extract (j + 1) (j + 1 + k)) i (j + 1 + k)), o.push x ++ b.extract (j + 1) (j + 1 + k), i, j + 1 + k, mg, ac, k))
        else p3L a b mg ac k (o.push x ++ b.extract (j + 1) (j + 1 + k)) i (j + 1 + k)
      else p3L a b mg ac k (o.push x) i (j + 1)
    | _ => pure (.done (some (dnL a b (o.push x) i (j + 1)), o.push x, i, j + 1, mg, ac, bc))
def p1L (mg ac bc : Nat) (o : Array Keyed) (i j : Nat) : StateT SortSt Sem (ForInStep R7) := do
  modify fun s => setGal s mg
  let x ← elem' b j
  let r ← gal false x a i (a.size - i) 0
  match r with
  | some k =>
    if k > 0 then
      if (i + k + 1 == a.size) = true then pure (.done (some (laL a b (o ++ a.extract i (i + k)) (i + k) j), o ++ a.extract i (i + k), i + k, j, mg, k, bc))
      else if (i + k == a.size) = true then pure (.done (some (dnL a b (o ++ a.extract i (i + k)) (i + k) j), o ++ a.extract i (i + k), i + k, j, mg, k, bc))
      else p2L a b mg k bc (o ++ a.extract i (i + k)) (i + k) j
    else p2L a b mg k bc o i j
  | _ => pure (.done (some (dnL a b o i j), o, i, j, mg, ac, bc))
def outL (c : R5) : StateT SortSt Sem (ForInStep R5) := do
  let d ← forIn [:a.size + b.size] ((none, c.2.1, c.2.2.1, c.2.2.2.1, 0, 0) : R6) fun _ d => one1 a b c.2.2.2.2 d.2.1 d.2.2.1 d.2.2.2.1 d.2.2.2.2.1 d.2.2.2.2.2
  match d.1 with
  | some r => pure (.done (some r, d.2.1, d.2.2.1, d.2.2.2.1, c.2.2.2.2))
  | none => do
    liftM (rule "list.sort.gallop")
    let e ← forIn [:a.size + b.size] ((none, d.2.1, d.2.2.1, d.2.2.2.1, c.2.2.2.2 + 1, d.2.2.2.2.1, d.2.2.2.2.2) : R7) fun _ e =>
      if e.2.2.2.2.1 > 1 then p1L a b (e.2.2.2.2.1 - 1) e.2.2.2.2.2.1 e.2.2.2.2.2.2 e.2.1 e.2.2.1 e.2.2.2.1
      else p1L a b e.2.2.2.2.1 e.2.2.2.2.2.1 e.2.2.2.2.2.2 e.2.1 e.2.2.1 e.2.2.2.1
    match e.1 with
    | some r => pure (.done (some r, e.2.1, e.2.2.1, e.2.2.2.1, e.2.2.2.2.1))
    | none => do
      modify fun s => setGal s (e.2.2.2.2.1 + 1)
      pure (.yield (none, e.2.1, e.2.2.1, e.2.2.2.1, e.2.2.2.2.1 + 1))
end
theorem bnd {σ α β : Type} {m : StateT σ Sem α} {f g : α → StateT σ Sem β} (h : ∀ x, f x = g x) : (m >>= f) = (m >>= g) := by rw [funext h]
theorem bnd2 {σ α β : Type} {m m' : StateT σ Sem α} {f g : α → StateT σ Sem β} (e : m = m') (h : ∀ x, f x = g x) : (m >>= f) = (m' >>= g) := by rw [e, funext h]
theorem ifc {α : Sort _} {c : Prop} [Decidable c] {x y x' y' : α} (h : x = x') (h' : y = y') : (if c then x else y) = (if c then x' else y') := by rw [h, h']
theorem forc {σ β : Type} {r : Std.Legacy.Range} {c : β} {f g : Nat → β → StateT σ Sem (ForInStep β)} (h : ∀ i c, f i c = g i c) : forIn r c f = forIn r c g := by rw [funext fun i => funext (h i)]
section
variable (a b : Array Keyed)
theorem p1_same (mg ac bc : Nat) (o : Array Keyed) (i j : Nat) : (do
      modify fun s => setGal s mg
      let __do_lift ← elem' b j
      let __x ← gal false __do_lift a i (a.size - i) 0
      match __x with
      | some k =>
        have ac := k
        have jp := fun (__r : Unit) (o : Array Keyed) (i : Nat) => do
          let x ← elem' b j
          have o : Array Keyed := o.push x
          have j : Nat := j + 1
          if (j == b.size) = true then pure (ForInStep.done ((some (dnL a b o i j), o, i, j, mg, ac, bc) : R7))
          else do
            let y ← elem' a i
            let __x ← gal true y b j (b.size - j) 0
            match __x with
            | some k =>
              have bc := k
              have jp := fun (__r : Unit) (o : Array Keyed) (j : Nat) => do
                let x ← elem' a i
                have o : Array Keyed := o.push x
                have i : Nat := i + 1
                if (i + 1 == a.size) = true then pure (ForInStep.done ((some (laL a b o i j), o, i, j, mg, ac, bc) : R7))
                else if (decide (ac < 7) && decide (bc < 7)) = true then pure (.done (none, o, i, j, mg, ac, bc))
                else pure (.yield (none, o, i, j, mg, ac, bc))
              if k > 0 then
                have o := o ++ b.extract j (j + k)
                have j := j + k
                if (j == b.size) = true then pure (.done (some (dnL a b o i j), o, i, j, mg, ac, bc)) else jp () o j
              else jp () o j
            | _ => pure (.done (some (dnL a b o i j), o, i, j, mg, ac, bc))
        if k > 0 then
          have o := o ++ a.extract i (i + k)
          have i := i + k
          if (i + 1 == a.size) = true then pure (.done (some (laL a b o i j), o, i, j, mg, ac, bc))
          else if (i == a.size) = true then pure (.done (some (dnL a b o i j), o, i, j, mg, ac, bc)) else jp () o i
        else jp () o i
      | _ => pure (.done (some (dnL a b o i j), o, i, j, mg, ac, bc))) = p1L a b mg ac bc o i j := by
  refine bnd fun _ => bnd fun x => bnd fun r => ?_
  cases r with
  | none => rfl
  | some k =>
    refine ifc (ifc rfl (ifc rfl ?_)) ?_
    all_goals
      refine bnd fun y => ifc rfl (bnd fun z => bnd fun r => ?_)
      cases r with
      | none => rfl
      | some k => rfl
theorem mLo_parts : mLo a b = (do
    liftM (rule "list.sort.merge-lo")
    let x ← elem' b 0
    if (1 == b.size) = true then pure (dnL a b #[x] 0 1)
    else if (0 + 1 == a.size) = true then pure (laL a b #[x] 0 1)
    else do
      let g ← get
      let c ← forIn [:a.size + b.size] ((none, #[x], 0, 1, gallopOf g) : R5) fun _ c => outL a b c
      match c.1 with
      | some r => pure r
      | none => unsupported "internal:list.sort.merge-bound") := by
  rw [mLo_eq]
  refine bnd fun _ => ?_
  refine bnd fun x => ?_
  refine ifc rfl (ifc rfl (bnd fun g => bnd2 (forc fun _ c => ?_) fun c => ?_))
  · refine bnd2 (forc fun _ d => rfl) fun d => ?_
    obtain ⟨r, d⟩ := d
    cases r with
    | some r => rfl
    | none =>
      refine bnd fun _ => bnd2 (forc fun _ e => ?_) fun e => ?_
      · refine ifc ?_ ?_
        · exact p1_same a b _ _ _ _ _ _
        · exact p1_same a b _ _ _ _ _ _
      · obtain ⟨r, e⟩ := e
        cases r <;> rfl
  · obtain ⟨r, c⟩ := c
    cases r <;> rfl
abbrev dnH (o : Array Keyed) (i j : Nat) : Array Keyed := a.extract 0 i ++ b.extract 0 j ++ o.reverse
abbrev fbH (o : Array Keyed) (i j : Nat) : Array Keyed := b.extract 0 j ++ a.extract 0 i ++ o.reverse
def two1 (mg : Nat) (i j : Nat) (o : Array Keyed) (ac bc : Nat) : StateT SortSt Sem (ForInStep (Option (Array Keyed) × Nat × Nat × Array Keyed × Nat × Nat)) := do
  let x ← elem' b (j - 1)
  let y ← elem' a (i - 1)
  let g ← lt' x y
  match g with
  | some g =>
    if g = true then do
      let x ← elem' a (i - 1)
      if (i - 1 == 0) = true then pure (.done (some (dnH a b (o.push x) (i - 1) j), i - 1, j, o.push x, ac + 1, 0))
      else if ac + 1 ≥ mg then pure (.done (none, i - 1, j, o.push x, ac + 1, 0))
      else pure (.yield (none, i - 1, j, o.push x, ac + 1, 0))
    else do
      let x ← elem' b (j - 1)
      if (j - 1 == 1) = true then pure (.done (some (fbH a b (o.push x) i (j - 1)), i, j - 1, o.push x, 0, bc + 1))
      else if bc + 1 ≥ mg then pure (.done (none, i, j - 1, o.push x, 0, bc + 1))
      else pure (.yield (none, i, j - 1, o.push x, 0, bc + 1))
  | _ => pure (.done (some (dnH a b o i j), i, j, o, ac, bc))
abbrev S7 := Option (Array Keyed) × Nat × Nat × Array Keyed × Nat × Nat × Nat
def p3H (mg ac bc : Nat) (i j : Nat) (o : Array Keyed) : StateT SortSt Sem (ForInStep S7) := do
  let x ← elem' a (i - 1)
  if (i - 1 == 0) = true then pure (.done (some (dnH a b (o.push x) (i - 1) j), i - 1, j, o.push x, mg, ac, bc))
  else if (decide (ac < 7) && decide (bc < 7)) = true then pure (.done (none, i - 1, j, o.push x, mg, ac, bc))
  else pure (.yield (none, i - 1, j, o.push x, mg, ac, bc))
def p2H (mg ac bc : Nat) (i j : Nat) (o : Array Keyed) : StateT SortSt Sem (ForInStep S7) := do
  let x ← elem' b (j - 1)
  if (j - 1 == 1) = true then pure (.done (some (fbH a b (o.push x) i (j - 1)), i, j - 1, o.push x, mg, ac, bc))
  else do
    let y ← elem' a (i - 1)
    let r ← gal true y b 0 (j - 1) (j - 1 - 1)
    match r with
    | some k =>
      if j - 1 - k > 0 then
        if (k == 1) = true then pure (.done (some (fbH a b (o.push x ++ (b.extract k (j - 1)).reverse) i k), i, k, o.push x ++ (b.extract k (j - 1)).reverse, mg, ac, j - 1 - k))
        else if (k == 0) = true then pure (.done (some (dnH a b (o.push x ++ (b.extract k (j - 1)).reverse) i k), i, k, o.push x ++ (b.extract k (j - 1)).reverse, mg, ac, j - 1 - k))
        else p3H a b mg ac (j - 1 - k) i k (o.push x ++ (b.extract k (j - 1)).reverse)
      else p3H a b mg ac (j - 1 - k) i (j - 1) (o.push x)
    | _ => pure (.done (some (dnH a b (o.push x) i (j - 1)), i, j - 1, o.push x, mg, ac, bc))
def p1H (mg ac bc : Nat) (i j : Nat) (o : Array Keyed) : StateT SortSt Sem (ForInStep S7) := do
  modify fun s => setGal s mg
  let x ← elem' b (j - 1)
  let r ← gal false x a 0 i (i - 1)
  match r with
  | some k =>
    if i - k > 0 then
      if (k == 0) = true then pure (.done (some (dnH a b (o ++ (a.extract k i).reverse) k j), k, j, o ++ (a.extract k i).reverse, mg, i - k, bc))
      else p2H a b mg (i - k) bc k j (o ++ (a.extract k i).reverse)
    else p2H a b mg (i - k) bc i j o
  | _ => pure (.done (some (dnH a b o i j), i, j, o, mg, ac, bc))
abbrev S5 := Option (Array Keyed) × Nat × Nat × Array Keyed × Nat
def outH (c : S5) : StateT SortSt Sem (ForInStep S5) := do
  let d ← forIn [:a.size + b.size] ((none, c.2.1, c.2.2.1, c.2.2.2.1, 0, 0) : Option (Array Keyed) × Nat × Nat × Array Keyed × Nat × Nat) fun _ d => two1 a b c.2.2.2.2 d.2.1 d.2.2.1 d.2.2.2.1 d.2.2.2.2.1 d.2.2.2.2.2
  match d.1 with
  | some r => pure (.done (some r, d.2.1, d.2.2.1, d.2.2.2.1, c.2.2.2.2))
  | none => do
    liftM (rule "list.sort.gallop")
    let e ← forIn [:a.size + b.size] ((none, d.2.1, d.2.2.1, d.2.2.2.1, c.2.2.2.2 + 1, d.2.2.2.2.1, d.2.2.2.2.2) : S7) fun _ e =>
      if e.2.2.2.2.1 > 1 then p1H a b (e.2.2.2.2.1 - 1) e.2.2.2.2.2.1 e.2.2.2.2.2.2 e.2.1 e.2.2.1 e.2.2.2.1
      else p1H a b e.2.2.2.2.1 e.2.2.2.2.2.1 e.2.2.2.2.2.2 e.2.1 e.2.2.1 e.2.2.2.1
    match e.1 with
    | some r => pure (.done (some r, e.2.1, e.2.2.1, e.2.2.2.1, e.2.2.2.2.1))
    | none => do
      modify fun s => setGal s (e.2.2.2.2.1 + 1)
      pure (.yield (none, e.2.1, e.2.2.1, e.2.2.2.1, e.2.2.2.2.1 + 1))
theorem p1H_same (mg ac bc : Nat) (i j : Nat) (o : Array Keyed) : (do
      modify fun s => setGal s mg
      let x ← elem' b (j - 1)
      let r ← gal false x a 0 i (i - 1)
      match r with
      | some at_ =>
        have k := i - at_
        have ac := k
        have jp := fun (__r : Unit) (i : Nat) (o : Array Keyed) => do
          have j : Nat := j - 1
          let x ← elem' b j
          have o : Array Keyed := o.push x
          if (j == 1) = true then pure (ForInStep.done ((some (fbH a b o i j), i, j, o, mg, ac, bc) : S7))
          else do
            let y ← elem' a (i - 1)
            let r ← gal true y b 0 j (j - 1)
            match r with
            | some at_ =>
              have k := j - at_
              have bc := k
              have jp := fun (__r : Unit) (j : Nat) (o : Array Keyed) => do
                have i : Nat := i - 1
                let x ← elem' a i
                have o : Array Keyed := o.push x
                if (i == 0) = true then pure (ForInStep.done ((some (dnH a b o i j), i, j, o, mg, ac, bc) : S7))
                else if (decide (ac < 7) && decide (bc < 7)) = true then pure (.done (none, i, j, o, mg, ac, bc))
                else pure (.yield (none, i, j, o, mg, ac, bc))
              if k > 0 then
                have o := o ++ (b.extract at_ j).reverse
                have j := at_
                if (j == 1) = true then pure (.done (some (fbH a b o i j), i, j, o, mg, ac, bc)) else if (j == 0) = true then pure (.done (some (dnH a b o i j), i, j, o, mg, ac, bc)) else jp () j o
              else jp () j o
            | _ => pure (.done (some (dnH a b o i j), i, j, o, mg, ac, bc))
        if k > 0 then
          have o := o ++ (a.extract at_ i).reverse
          have i := at_
          if (i == 0) = true then pure (.done (some (dnH a b o i j), i, j, o, mg, ac, bc)) else jp () i o
        else jp () i o
      | _ => pure (.done (some (dnH a b o i j), i, j, o, mg, ac, bc))) = p1H a b mg ac bc i j o := by
  refine bnd fun _ => bnd fun x => bnd fun r => ?_
  cases r with
  | none => rfl
  | some k =>
    refine ifc (ifc rfl ?_) ?_
    all_goals
      refine bnd fun y => ifc rfl (bnd fun z => bnd fun r => ?_)
      cases r with
      | none => rfl
      | some k => rfl
theorem mHi_parts : mHi a b = (do
    liftM (rule "list.sort.merge-hi")
    let x ← elem' a (a.size - 1)
    if (a.size - 1 == 0) = true then pure (dnH a b #[x] (a.size - 1) b.size)
    else if (b.size == 1) = true then pure (fbH a b #[x] (a.size - 1) b.size)
    else do
      let g ← get
      let c ← forIn [:a.size + b.size] ((none, a.size - 1, b.size, #[x], gallopOf g) : S5) fun _ c => outH a b c
      match c.1 with
      | some r => pure r
      | none => unsupported "internal:list.sort.merge-bound") := by
  rw [mHi_eq]
  refine bnd fun _ => ?_
  refine bnd fun x => ?_
  refine ifc rfl (ifc rfl (bnd fun g => bnd2 (forc fun _ c => ?_) fun c => ?_))
  · refine bnd2 (forc fun _ d => rfl) fun d => ?_
    obtain ⟨r, d⟩ := d
    cases r with
    | some r => rfl
    | none =>
      refine bnd fun _ => bnd2 (forc fun _ e => ?_) fun e => ?_
      · refine ifc ?_ ?_
        · exact p1H_same a b _ _ _ _ _ _
        · exact p1H_same a b _ _ _ _ _ _
      · obtain ⟨r, e⟩ := e
        cases r <;> rfl
  · obtain ⟨r, c⟩ := c
    cases r <;> rfl
end
end TS
namespace TS
open PySem PyProof.Rows
theorem ath_list {xs : Array Keyed} {i : Nat} (h : i < xs.size) : xs.toList[i]? = some (ath xs i) := by
  rw [← ath_lt h]; simp
theorem drop_cons {xs : Array Keyed} {i : Nat} (h : i < xs.size) : xs.toList.drop i = ath xs i :: xs.toList.drop (i + 1) := by
  have h' : i < xs.toList.length := by simpa using h
  have e := ath_list h
  rw [List.getElem?_eq_getElem h'] at e
  rw [List.drop_eq_getElem_cons h', Option.some.inj e]
theorem take1 {xs : Array Keyed} {i : Nat} (h : i < xs.size) : (xs.toList.drop i).take 1 = [ath xs i] := by
  rw [drop_cons h]; rfl
theorem drop_at {xs : Array Keyed} {i : Nat} {y : Keyed} (h : y ∈ xs.toList.drop i) : ∃ k, i ≤ k ∧ k < xs.size ∧ y = ath xs k := by
  obtain ⟨n, hn⟩ := List.mem_iff_getElem?.mp h
  rw [List.getElem?_drop] at hn
  have hl := (List.getElem?_eq_some_iff.mp hn).1
  have hl' : i + n < xs.size := by simpa using hl
  rw [ath_list hl'] at hn
  exact ⟨i + n, by omega, hl', (Option.some.inj hn).symm⟩
theorem take_at {xs : Array Keyed} {i k : Nat} {y : Keyed} (h : y ∈ (xs.toList.drop i).take k) : ∃ n, i ≤ n ∧ n < i + k ∧ n < xs.size ∧ y = ath xs n := by
  obtain ⟨n, hn⟩ := List.mem_iff_getElem?.mp h
  rw [List.getElem?_take] at hn
  split at hn
  · rename_i hk
    rw [List.getElem?_drop] at hn
    have hl := (List.getElem?_eq_some_iff.mp hn).1
    have hl' : i + n < xs.size := by simpa using hl
    rw [ath_list hl'] at hn
    exact ⟨i + n, by omega, by omega, hl', (Option.some.inj hn).symm⟩
  · cases hn
theorem pw_at {less : Keyed → Keyed → Bool} (O : Ord less) {xs : Array Keyed} (h : xs.toList.Pairwise (LE less)) {i j : Nat} (hij : i ≤ j) (hj : j < xs.size) : LE less (ath xs i) (ath xs j) := by
  by_cases c : i = j
  · subst c; exact O.refl _
  · rw [List.pairwise_iff_getElem] at h
    have hi' : i < xs.toList.length := by simp; omega
    have hj' : j < xs.toList.length := by simpa using hj
    have := h i j hi' hj' (by omega)
    have e1 := ath_list (xs := xs) (i := i) (by omega)
    have e2 := ath_list hj
    rw [List.getElem?_eq_getElem hi'] at e1
    rw [List.getElem?_eq_getElem hj'] at e2
    rwa [Option.some.inj e1, Option.some.inj e2] at this
theorem sg_all {less : Keyed → Keyed → Bool} (O : Ord less) {xs : Array Keyed} (h : xs.toList.Pairwise (LE less)) {i n : Nat} (hn : i + n ≤ xs.size) : Sg less xs i (i + n) := fun x y _ hxy hy => pw_at O h hxy (by omega)
theorem ext_list (xs : Array Keyed) (i k : Nat) : (xs.extract i (i + k)).toList = (xs.toList.drop i).take k := by
  rw [Array.toList_extract, List.extract_eq_take_drop]; congr 1; omega
theorem ext_end (xs : Array Keyed) (i : Nat) : (xs.extract i xs.size).toList = xs.toList.drop i := by
  rw [Array.toList_extract, List.extract_eq_take_drop]
  exact List.take_of_length_le (by simp)
section
variable {prog : Program} {w : World} {A : Around} {E : Value → Shared → Prop} {s : Shared} {kd : SortKind} {a₀ : Array Keyed} {less : Keyed → Keyed → Bool}
structure Two (less : Keyed → Keyed → Bool) (a₀ a b : Array Keyed) : Prop where
  sa : a.toList.Pairwise (LE less)
  sb : b.toList.Pairwise (LE less)
  ma : ∀ i, i < a.size → ath a i ∈ a₀.toList
  mb : ∀ i, i < b.size → ath b i ∈ a₀.toList
  na : 1 ≤ a.size
  nb : 1 ≤ b.size
  h0 : less (ath b 0) (ath a 0) = true
  hl : ∀ j, j < b.size → less (ath b j) (ath a (a.size - 1)) = true
def Res (less : Keyed → Keyed → Bool) (a b r : Array Keyed) : Prop := r.toList.Perm (a.toList ++ b.toList) ∧ r.toList.Pairwise (LE less)
structure JL (less : Keyed → Keyed → Bool) (a b o : Array Keyed) (i j : Nat) : Prop where
  mi : MI less a.toList b.toList o.toList i j
  hi : i + 1 < a.size
  hj : j < b.size
variable {a b : Array Keyed}
theorem res_dn (T : Two less a₀ a b) {o : Array Keyed} {i j : Nat} (h : MI less a.toList b.toList o.toList i j) (hj : b.size ≤ j ∨ a.size ≤ i) : Res less a b (dnL a b o i j) := by
  unfold Res dnL
  rw [Array.toList_append, Array.toList_append, ext_end, ext_end]
  have := h.swap.fin T.sb T.sa fun x hx y hy => by
    rcases hj with hj | hj
    · obtain ⟨k, h1, h2, _⟩ := drop_at hy; omega
    · obtain ⟨k, h1, h2, _⟩ := drop_at hx; omega
  exact ⟨this.1.trans List.perm_append_comm, this.2⟩
theorem res_la (O : Ord less) (T : Two less a₀ a b) {o : Array Keyed} {i j : Nat} (h : MI less a.toList b.toList o.toList i j) (hi : i + 1 = a.size) : Res less a b (laL a b o i j) := by
  unfold Res laL
  rw [Array.toList_append, Array.toList_append, ext_end, ext_end]
  refine h.fin T.sa T.sb fun x hx y hy => ?_
  obtain ⟨k, h1, h2, rfl⟩ := drop_at hx
  obtain ⟨k', h1', h2', rfl⟩ := drop_at hy
  rw [show k' = a.size - 1 by omega]
  exact O.le (T.hl k h2)
theorem push_b (O : Ord less) (T : Two less a₀ a b) {o : Array Keyed} {i j : Nat} (h : MI less a.toList b.toList o.toList i j) (hj : j < b.size) (hc : i < a.size → LE less (ath b j) (ath a i)) : MI less a.toList b.toList (o.push (ath b j)).toList i (j + 1) := by
  have := (h.swap.blk T.sb 1 fun x hx y hy => by
    rw [take1 hj] at hx
    rw [List.mem_singleton.mp hx]
    obtain ⟨k, h1, h2, rfl⟩ := drop_at hy
    exact O.trans _ _ _ (hc (by omega)) (pw_at O T.sa h1 h2)).swap
  rw [take1 hj] at this
  rwa [Array.toList_push]
theorem push_a (O : Ord less) (T : Two less a₀ a b) {o : Array Keyed} {i j : Nat} (h : MI less a.toList b.toList o.toList i j) (hi : i < a.size) (hc : j < b.size → LE less (ath a i) (ath b j)) : MI less a.toList b.toList (o.push (ath a i)).toList (i + 1) j := by
  have := h.blk T.sa 1 fun x hx y hy => by
    rw [take1 hi] at hx
    rw [List.mem_singleton.mp hx]
    obtain ⟨k, h1, h2, rfl⟩ := drop_at hy
    exact O.trans _ _ _ (hc (by omega)) (pw_at O T.sb h1 h2)
  rw [take1 hi] at this
  rwa [Array.toList_push]
def EndG (less : Keyed → Keyed → Bool) (a b : Array Keyed) (st : SortSt) (N : Nat) (r : ForInStep R7) (st' : SortSt) : Prop :=
  (∃ g, st' = setGal st g) ∧ ((∃ x c, r = .done (some x, c) ∧ Res less a b x) ∨ (∃ o i j c, (r = .done (none, o, i, j, c) ∨ r = .yield (none, o, i, j, c)) ∧ JL less a b o i j ∧ N ≤ i + j))
theorem wp_p3L (O : Ord less) (T : Two less a₀ a b) {st st' : SortSt} {mg ac bc N : Nat} {o : Array Keyed} {i j : Nat} (hg : ∃ g, st' = setGal st g) (J : JL less a b o i j) (hc : LE less (ath a i) (ath b j)) (hN : N ≤ i + j) : wpS (model prog w) A E s (p3L a b mg ac bc o i j) (EndG less a b st N) st' := by
  unfold p3L
  have hi := J.hi
  refine wpS_bind (wp_elem (by omega) ?_)
  have m := push_a O T J.mi (by omega) fun _ => hc
  by_cases c : i + 1 + 1 = a.size
  · rw [if_pos (by simpa using c)]
    exact wpS_pure ⟨hg, .inl ⟨_, _, rfl, res_la O T m c⟩⟩
  · rw [if_neg (by simpa using c)]
    have J' : JL less a b (o.push (ath a i)) (i + 1) j := ⟨m, by omega, J.hj⟩
    split
    · exact wpS_pure ⟨hg, .inr ⟨_, _, _, _, .inl rfl, J', by omega⟩⟩
    · exact wpS_pure ⟨hg, .inr ⟨_, _, _, _, .inr rfl, J', by omega⟩⟩
theorem wp_p2L (O : Ord less) (L : LtOk prog w A E s kd a₀ less) (T : Two less a₀ a b) {st st' : SortSt} {mg ac bc N : Nat} {o : Array Keyed} {i j : Nat} (hk : kindOf st' = kd) (hg : ∃ g, st' = setGal st g) (J : JL less a b o i j) (hc : less (ath b j) (ath a i) = true) (hN : N ≤ i + j) : wpS (model prog w) A E s (p2L a b mg ac bc o i j) (EndG less a b st N) st' := by
  unfold p2L
  have hi := J.hi
  have hj := J.hj
  refine wpS_bind (wp_elem hj ?_)
  have m := push_b O T J.mi hj fun _ => O.le hc
  by_cases c : j + 1 = b.size
  · rw [if_pos (by simpa using c)]
    exact wpS_pure ⟨hg, .inl ⟨_, _, rfl, res_dn T m (.inl (by omega))⟩⟩
  · rw [if_neg (by simpa using c)]
    refine wpS_bind (wp_elem (by omega) ?_)
    refine wpS_bind (wp_galL O L hk (T.ma i (by omega)) (fun k hk => ⟨by omega, T.mb _ (by omega)⟩) (by omega) (sg_all O T.sb (by omega)) fun k h1 h2 h3 => ?_)
    dsimp only
    by_cases ck : k > 0
    · rw [if_pos ck]
      have m2 : MI less a.toList b.toList (o.push (ath b j) ++ b.extract (j + 1) (j + 1 + k)).toList i (j + 1 + k) := by
        rw [Array.toList_append, ext_list]
        refine (m.swap.blk T.sb k fun x hx y hy => ?_).swap
        obtain ⟨n, n1, n2, n3, rfl⟩ := take_at hx
        obtain ⟨k', k1, k2, rfl⟩ := drop_at hy
        have := h2 (n - (j + 1)) (by omega)
        rw [show j + 1 + (n - (j + 1)) = n by omega] at this
        exact O.trans _ _ _ (O.le this) (pw_at O T.sa k1 k2)
      by_cases c2 : j + 1 + k = b.size
      · rw [if_pos (by simpa using c2)]
        exact wpS_pure ⟨hg, .inl ⟨_, _, rfl, res_dn T m2 (.inl (by omega))⟩⟩
      · rw [if_neg (by simpa using c2)]
        exact wp_p3L O T hg ⟨m2, hi, by omega⟩ (h3 k (Nat.le_refl _) (by omega)) (by omega)
    · rw [if_neg ck]
      have : k = 0 := by omega
      subst this
      exact wp_p3L O T hg ⟨m, hi, by omega⟩ (h3 0 (Nat.le_refl _) (by omega)) (by omega)
theorem wp_p1L (O : Ord less) (L : LtOk prog w A E s kd a₀ less) (T : Two less a₀ a b) {st st' : SortSt} {mg ac bc N : Nat} {o : Array Keyed} {i j : Nat} (hk : kindOf st = kd) (hg : ∃ g, st' = setGal st g) (J : JL less a b o i j) (hN : N ≤ i + j) : wpS (model prog w) A E s (p1L a b mg ac bc o i j) (EndG less a b st N) st' := by
  unfold p1L
  have hi := J.hi
  have hj := J.hj
  refine wpS_bind (wpS_modify ?_)
  have hg' : ∃ g, setGal st' mg = setGal st g := by obtain ⟨g, rfl⟩ := hg; exact ⟨mg, rfl⟩
  have hk' : kindOf (setGal st' mg) = kd := by obtain ⟨g, rfl⟩ := hg; exact hk
  refine wpS_bind (wp_elem hj ?_)
  refine wpS_bind (wp_galR O L hk' (T.mb j hj) (fun k hk => ⟨by omega, T.ma _ (by omega)⟩) (by omega) (sg_all O T.sa (by omega)) fun k h1 h2 h3 => ?_)
  dsimp only
  have hkl : i + k < a.size := by
    by_cases c : i + k < a.size
    · exact c
    · have := h2 (a.size - 1 - i) (by omega)
      rw [show i + (a.size - 1 - i) = a.size - 1 by omega] at this
      unfold LE at this
      rw [T.hl j hj] at this; cases this
  have hnext := h3 k (Nat.le_refl _) (by omega)
  by_cases ck : k > 0
  · rw [if_pos ck]
    have m2 : MI less a.toList b.toList (o ++ a.extract i (i + k)).toList (i + k) j := by
      rw [Array.toList_append, ext_list]
      refine J.mi.blk T.sa k fun x hx y hy => ?_
      obtain ⟨n, n1, n2, n3, rfl⟩ := take_at hx
      obtain ⟨k', k1, k2, rfl⟩ := drop_at hy
      have := h2 (n - i) (by omega)
      rw [show i + (n - i) = n by omega] at this
      exact O.trans _ _ _ this (pw_at O T.sb k1 k2)
    by_cases c2 : i + k + 1 = a.size
    · rw [if_pos (by simpa using c2)]
      exact wpS_pure ⟨hg', .inl ⟨_, _, rfl, res_la O T m2 c2⟩⟩
    · rw [if_neg (by simpa using c2), if_neg (by simp; omega)]
      exact wp_p2L O L T hk' hg' ⟨m2, by omega, hj⟩ hnext (by omega)
  · rw [if_neg ck]
    have : k = 0 := by omega
    subst this
    exact wp_p2L O L T hk' hg' J hnext hN
theorem wp_one1 (O : Ord less) (L : LtOk prog w A E s kd a₀ less) (T : Two less a₀ a b) {st' : SortSt} {mg ac bc : Nat} {o : Array Keyed} {i j : Nat} {Q : ForInStep R6 → SortSt → Prop} (hk : kindOf st' = kd) (J : JL less a b o i j)
    (h1 : ∀ x c, Res less a b x → Q (.done (some x, c)) st') (h2 : ∀ o i' j' c, JL less a b o i' j' → i' + j' = i + j + 1 → Q (.done (none, o, i', j', c)) st' ∧ Q (.yield (none, o, i', j', c)) st') :
    wpS (model prog w) A E s (one1 a b mg o i j ac bc) Q st' := by
  unfold one1
  have hi := J.hi
  have hj := J.hj
  refine wpS_bind (wp_elem hj (wpS_bind (wp_elem (by omega) (wpS_bind (L _ _ _ _ (T.mb j hj) (T.ma i (by omega)) hk ?_)))))
  dsimp only
  cases e : less (ath b j) (ath a i) with
  | true =>
    simp only [if_true]
    refine wpS_bind (wp_elem hj ?_)
    have m := push_b O T J.mi hj fun _ => O.le e
    by_cases c : j + 1 = b.size
    · rw [if_pos (by simpa using c)]
      exact wpS_pure (h1 _ _ (res_dn T m (.inl (by omega))))
    · rw [if_neg (by simpa using c)]
      have := h2 _ i (j + 1) (0, bc + 1) ⟨m, hi, by omega⟩ (by omega)
      split
      · exact wpS_pure this.1
      · exact wpS_pure this.2
  | false =>
    simp only [Bool.false_eq_true, if_false]
    refine wpS_bind (wp_elem (by omega) ?_)
    have m := push_a O T J.mi (by omega) fun _ => e
    by_cases c : i + 1 + 1 = a.size
    · rw [if_pos (by simpa using c)]
      exact wpS_pure (h1 _ _ (res_la O T m c))
    · rw [if_neg (by simpa using c)]
      have := h2 _ (i + 1) j (ac + 1, 0) ⟨m, by omega, hj⟩ (by omega)
      split
      · exact wpS_pure this.1
      · exact wpS_pure this.2
theorem wp_mLo (O : Ord less) (L : LtOk prog w A E s kd a₀ less) (T : Two less a₀ a b) {st : SortSt} {Q : Array Keyed → SortSt → Prop} (hk : kindOf st = kd) (h : ∀ r g, Res less a b r → Q r (setGal st g)) : wpS (model prog w) A E s (mLo a b) Q st := by
  rw [mLo_parts]
  have na := T.na
  have nb := T.nb
  refine wpS_bind (wpS_lift (wpAny_rule ⟨rfl, ?_⟩))
  refine wpS_bind (wp_elem (by omega) ?_)
  have h' : ∀ r, Res less a b r → Q r st := fun r hr => h r (gallopOf st) hr
  have m : MI less a.toList b.toList (#[ath b 0] : Array Keyed).toList 0 1 := by
    have m0 : MI less a.toList b.toList (#[] : Array Keyed).toList 0 0 := ⟨by simp, by simp, by simp, by simp⟩
    exact push_b O T m0 (by omega) fun _ => O.le T.h0
  by_cases c : 1 = b.size
  · rw [if_pos (by simpa using c)]
    exact wpS_pure (h' _ (res_dn T m (.inl (by omega))))
  rw [if_neg (by simpa using c)]
  by_cases c2 : 0 + 1 = a.size
  · rw [if_pos (by simpa using c2)]
    exact wpS_pure (h' _ (res_la O T m c2))
  rw [if_neg (by simpa using c2)]
  refine wpS_bind (wpS_get ?_)
  refine wpS_bind (wpS_mono (wpS_forRange (I := fun n c st' => (∃ g, st' = setGal st g) ∧ ∃ o i j mg, c = (none, o, i, j, mg) ∧ JL less a b o i j ∧ n + 1 ≤ i + j)
    (Q := fun c st' => (∃ g, st' = setGal st g) ∧ ∃ x d, c = (some x, d) ∧ Res less a b x) ?_ ?_ ⟨⟨gallopOf st, rfl⟩, _, 0, 1, _, rfl, ⟨m, by omega, by omega⟩, by omega⟩) ?_)
  · rintro n c st' _ hn ⟨hg, o, i, j, mg, rfl, J, hN⟩
    unfold outL
    dsimp only
    have hk' : kindOf st' = kd := by obtain ⟨g, rfl⟩ := hg; exact hk
    refine wpS_bind (wpS_mono (wpS_forRange (I := fun x c st2 => st2 = st' ∧ ∃ o' i' j' d, c = (none, o', i', j', d) ∧ JL less a b o' i' j' ∧ i' + j' = i + j + x)
      (Q := fun c st2 => st2 = st' ∧ ((∃ x d, c = (some x, d) ∧ Res less a b x) ∨ ∃ o' i' j' d, c = (none, o', i', j', d) ∧ JL less a b o' i' j' ∧ i + j + 1 ≤ i' + j')) ?_ ?_ ⟨rfl, o, i, j, _, rfl, J, rfl⟩) ?_)
    · rintro x c st2 _ hx ⟨rfl, o', i', j', ⟨ac, bc⟩, rfl, J', hN'⟩
      dsimp only
      refine wp_one1 O L T hk' J' (fun x c hr => ⟨rfl, .inl ⟨x, c, rfl, hr⟩⟩) fun o2 i2 j2 c J2 h2 => ⟨⟨rfl, .inr ⟨o2, i2, j2, c, rfl, J2, by omega⟩⟩, ⟨rfl, o2, i2, j2, c, rfl, J2, by omega⟩⟩
    · rintro c st2 ⟨rfl, o', i', j', d, rfl, J', hN'⟩
      exact ⟨rfl, .inr ⟨o', i', j', d, rfl, J', by omega⟩⟩
    · rintro c st2 ⟨rfl, ⟨x, d, rfl, hr⟩ | ⟨o', i', j', ⟨ac, bc⟩, rfl, J', hN'⟩⟩
      · exact wpS_pure ⟨hg, x, _, rfl, hr⟩
      · dsimp only
        refine wpS_bind (wpS_lift (wpAny_rule ⟨rfl, ?_⟩))
        refine wpS_bind (wpS_mono (wpS_forRange (I := fun x c st3 => (∃ g, st3 = setGal st g) ∧ ∃ o' i' j' d, c = (none, o', i', j', d) ∧ JL less a b o' i' j' ∧ i + j + 1 ≤ i' + j')
          (Q := fun c st3 => (∃ g, st3 = setGal st g) ∧ ((∃ x d, c = (some x, d) ∧ Res less a b x) ∨ ∃ o' i' j' d, c = (none, o', i', j', d) ∧ JL less a b o' i' j' ∧ i + j + 1 ≤ i' + j')) ?_ ?_ ⟨hg, o', i', j', _, rfl, J', hN'⟩) ?_)
        · rintro x c st3 _ hx ⟨hg3, o3, i3, j3, ⟨mg3, ac3, bc3⟩, rfl, J3, hN3⟩
          dsimp only
          split
          all_goals
            refine wpS_mono (wp_p1L O L T hk hg3 J3 hN3) ?_
            rintro r st4 ⟨hg4, ⟨x, c, rfl, hr⟩ | ⟨o, i, j, c, rfl | rfl, J4, h4⟩⟩
            · exact ⟨hg4, .inl ⟨x, c, rfl, hr⟩⟩
            · exact ⟨hg4, .inr ⟨o, i, j, c, rfl, J4, h4⟩⟩
            · exact ⟨hg4, o, i, j, c, rfl, J4, h4⟩
        · rintro c st3 ⟨hg3, o3, i3, j3, d, rfl, J3, hN3⟩
          exact ⟨hg3, .inr ⟨o3, i3, j3, d, rfl, J3, hN3⟩⟩
        · rintro c st3 ⟨hg3, ⟨x, d, rfl, hr⟩ | ⟨o3, i3, j3, ⟨mg3, ac3, bc3⟩, rfl, J3, hN3⟩⟩
          · exact wpS_pure ⟨hg3, x, _, rfl, hr⟩
          · dsimp only
            refine wpS_bind (wpS_modify (wpS_pure ⟨?_, o3, i3, j3, _, rfl, J3, by omega⟩))
            obtain ⟨g, rfl⟩ := hg3
            exact ⟨_, rfl⟩
  · rintro c st' ⟨hg, o, i, j, mg, rfl, J, hN⟩
    have := J.hi
    have := J.hj
    omega
  · rintro c st' ⟨⟨g, rfl⟩, x, d, rfl, hr⟩
    exact wpS_pure (h x g hr)
end
end TS
namespace TS
open PySem PyProof.Rows
theorem tk_at {xs : Array Keyed} {i : Nat} {y : Keyed} (h : y ∈ xs.toList.take i) : ∃ n, n < i ∧ n < xs.size ∧ y = ath xs n := by
  obtain ⟨n, hn⟩ := List.mem_iff_getElem?.mp h
  rw [List.getElem?_take] at hn
  split at hn
  · have hl := (List.getElem?_eq_some_iff.mp hn).1
    have hl' : n < xs.size := by simpa using hl
    rw [ath_list hl'] at hn
    exact ⟨n, by omega, hl', (Option.some.inj hn).symm⟩
  · cases hn
theorem td_at {xs : Array Keyed} {i k : Nat} {y : Keyed} (h : y ∈ (xs.toList.take i).drop k) : ∃ n, k ≤ n ∧ n < i ∧ n < xs.size ∧ y = ath xs n := by
  rw [List.drop_take] at h
  obtain ⟨n, h1, h2, h3, e⟩ := take_at h
  exact ⟨n, h1, by omega, h3, e⟩
theorem td1 {xs : Array Keyed} {i : Nat} (h0 : 1 ≤ i) (h : i ≤ xs.size) : (xs.toList.take i).drop (i - 1) = [ath xs (i - 1)] := by
  rw [List.drop_take, show i - (i - 1) = 1 by omega, take1 (by omega)]
theorem ext_td (xs : Array Keyed) (k i : Nat) : (xs.extract k i).toList = (xs.toList.take i).drop k := by
  rw [Array.toList_extract, List.extract_eq_take_drop, List.drop_take]
theorem ext_0 (xs : Array Keyed) (i : Nat) : (xs.extract 0 i).toList = xs.toList.take i := by
  rw [ext_td, List.drop_zero]
section
variable {prog : Program} {w : World} {A : Around} {E : Value → Shared → Prop} {s : Shared} {kd : SortKind} {a₀ : Array Keyed} {less : Keyed → Keyed → Bool}
structure JH (less : Keyed → Keyed → Bool) (a b o : Array Keyed) (i j : Nat) : Prop where
  mi : MH less a.toList b.toList o.toList.reverse i j
  hi : 1 ≤ i
  hj : 2 ≤ j
  ia : i ≤ a.size
  jb : j ≤ b.size
variable {a b : Array Keyed}
theorem resH_dn (T : Two less a₀ a b) {o : Array Keyed} {i j : Nat} (h : MH less a.toList b.toList o.toList.reverse i j) (hj : i = 0 ∨ j = 0) : Res less a b (dnH a b o i j) := by
  unfold Res dnH
  rw [Array.toList_append, Array.toList_append, ext_0, ext_0, Array.toList_reverse]
  refine h.fin T.sa T.sb fun x hx y hy => ?_
  rcases hj with hj | hj
  · subst hj; simp at hx
  · subst hj; simp at hy
theorem resH_fb (O : Ord less) (T : Two less a₀ a b) {o : Array Keyed} {i j : Nat} (h : MH less a.toList b.toList o.toList.reverse i j) (hj : j = 1) : Res less a b (fbH a b o i j) := by
  unfold Res fbH
  rw [Array.toList_append, Array.toList_append, ext_0, ext_0, Array.toList_reverse]
  have := h.swap.fin T.sb T.sa fun x hx y hy => by
    obtain ⟨n, n1, n2, rfl⟩ := tk_at hx
    obtain ⟨k, k1, k2, rfl⟩ := tk_at hy
    rw [show n = 0 by omega]
    exact O.trans _ _ _ (O.le T.h0) (pw_at O T.sa (Nat.zero_le _) k2)
  exact ⟨this.1.trans List.perm_append_comm, this.2⟩
theorem pushH_a (O : Ord less) (T : Two less a₀ a b) {o : Array Keyed} {i j : Nat} (h : MH less a.toList b.toList o.toList.reverse i j) (h1 : 1 ≤ i) (hi : i ≤ a.size) (hj : j ≤ b.size) (hc : 1 ≤ j → LE less (ath b (j - 1)) (ath a (i - 1))) : MH less a.toList b.toList (o.push (ath a (i - 1))).toList.reverse (i - 1) j := by
  have := h.blk T.sa (k := i - 1) (by omega) fun x hx y hy => by
    rw [td1 h1 hi] at hx
    rw [List.mem_singleton.mp hx]
    obtain ⟨k, k1, k2, rfl⟩ := tk_at hy
    exact O.trans _ _ _ (pw_at O T.sb (show k ≤ j - 1 by omega) (by omega)) (hc (by omega))
  rw [td1 h1 hi] at this
  rw [Array.toList_push, List.reverse_append]
  exact this
theorem pushH_b (O : Ord less) (T : Two less a₀ a b) {o : Array Keyed} {i j : Nat} (h : MH less a.toList b.toList o.toList.reverse i j) (h1 : 1 ≤ j) (hi : i ≤ a.size) (hj : j ≤ b.size) (hc : 1 ≤ i → LE less (ath a (i - 1)) (ath b (j - 1))) : MH less a.toList b.toList (o.push (ath b (j - 1))).toList.reverse i (j - 1) := by
  have := (h.swap.blk T.sb (k := j - 1) (by omega) fun x hx y hy => by
    rw [td1 h1 hj] at hx
    rw [List.mem_singleton.mp hx]
    obtain ⟨k, k1, k2, rfl⟩ := tk_at hy
    exact O.trans _ _ _ (pw_at O T.sa (show k ≤ i - 1 by omega) (by omega)) (hc (by omega))).swap
  rw [td1 h1 hj] at this
  rw [Array.toList_push, List.reverse_append]
  exact this
theorem rev_blk (o x : Array Keyed) : (o ++ x.reverse).toList.reverse = x.toList ++ o.toList.reverse := by
  rw [Array.toList_append, Array.toList_reverse, List.reverse_append, List.reverse_reverse]
def EndH (less : Keyed → Keyed → Bool) (a b : Array Keyed) (st : SortSt) (N : Nat) (r : ForInStep S7) (st' : SortSt) : Prop :=
  (∃ g, st' = setGal st g) ∧ ((∃ x c, r = .done (some x, c) ∧ Res less a b x) ∨ (∃ i j o c, (r = .done (none, i, j, o, c) ∨ r = .yield (none, i, j, o, c)) ∧ JH less a b o i j ∧ i + j ≤ N))
theorem wp_p3H (O : Ord less) (T : Two less a₀ a b) {st st' : SortSt} {mg ac bc N : Nat} {o : Array Keyed} {i j : Nat} (hg : ∃ g, st' = setGal st g) (J : JH less a b o i j) (hc : LE less (ath b (j - 1)) (ath a (i - 1))) (hN : i + j ≤ N) : wpS (model prog w) A E s (p3H a b mg ac bc i j o) (EndH less a b st N) st' := by
  unfold p3H
  have hi := J.hi
  have ia := J.ia
  refine wpS_bind (wp_elem (by omega) ?_)
  have m := pushH_a O T J.mi J.hi J.ia J.jb fun _ => hc
  by_cases c : i - 1 = 0
  · rw [if_pos (by simpa using c)]
    exact wpS_pure ⟨hg, .inl ⟨_, _, rfl, resH_dn T m (.inl c)⟩⟩
  · rw [if_neg (by simpa using c)]
    have J' : JH less a b (o.push (ath a (i - 1))) (i - 1) j := ⟨m, by omega, J.hj, by omega, J.jb⟩
    split
    · exact wpS_pure ⟨hg, .inr ⟨_, _, _, _, .inl rfl, J', by omega⟩⟩
    · exact wpS_pure ⟨hg, .inr ⟨_, _, _, _, .inr rfl, J', by omega⟩⟩
theorem wp_p2H (O : Ord less) (L : LtOk prog w A E s kd a₀ less) (T : Two less a₀ a b) {st st' : SortSt} {mg ac bc N : Nat} {o : Array Keyed} {i j : Nat} (hk : kindOf st' = kd) (hg : ∃ g, st' = setGal st g) (J : JH less a b o i j) (hc : LE less (ath a (i - 1)) (ath b (j - 1))) (hN : i + j ≤ N) : wpS (model prog w) A E s (p2H a b mg ac bc i j o) (EndH less a b st N) st' := by
  unfold p2H
  have hi := J.hi
  have hj := J.hj
  have ia := J.ia
  have jb := J.jb
  refine wpS_bind (wp_elem (by omega) ?_)
  have m := pushH_b O T J.mi (by omega) ia jb fun _ => hc
  by_cases c : j - 1 = 1
  · rw [if_pos (by simpa using c)]
    exact wpS_pure ⟨hg, .inl ⟨_, _, rfl, resH_fb O T m c⟩⟩
  · rw [if_neg (by simpa using c)]
    refine wpS_bind (wp_elem (by omega) ?_)
    have sg := sg_all O T.sb (i := 0) (n := j - 1) (by omega)
    refine wpS_bind (wp_galL O L hk (T.ma (i - 1) (by omega)) (fun k hk => ⟨by omega, T.mb _ (by omega)⟩) (by omega) sg fun k h1 h2 h3 => ?_)
    dsimp only
    simp only [Nat.zero_add] at h2 h3
    by_cases ck : j - 1 - k > 0
    · rw [if_pos ck]
      have m2 : MH less a.toList b.toList (o.push (ath b (j - 1)) ++ (b.extract k (j - 1)).reverse).toList.reverse i k := by
        rw [rev_blk, ext_td]
        refine (m.swap.blk T.sb (by omega) fun x hx y hy => ?_).swap
        obtain ⟨n, n1, n2, n3, rfl⟩ := td_at hx
        obtain ⟨k', k1, k2, rfl⟩ := tk_at hy
        exact O.trans _ _ _ (pw_at O T.sa (show k' ≤ i - 1 by omega) (by omega)) (h3 n n1 n2)
      by_cases c2 : k = 1
      · rw [if_pos (by simpa using c2)]
        exact wpS_pure ⟨hg, .inl ⟨_, _, rfl, resH_fb O T m2 c2⟩⟩
      rw [if_neg (by simpa using c2)]
      by_cases c3 : k = 0
      · rw [if_pos (by simpa using c3)]
        exact wpS_pure ⟨hg, .inl ⟨_, _, rfl, resH_dn T m2 (.inr c3)⟩⟩
      · rw [if_neg (by simpa using c3)]
        exact wp_p3H O T hg ⟨m2, hi, by omega, ia, by omega⟩ (O.le (h2 (k - 1) (by omega))) (by omega)
    · rw [if_neg ck]
      exact wp_p3H O T hg ⟨m, hi, by omega, ia, by omega⟩ (O.le (h2 (j - 1 - 1) (by omega))) (by omega)
theorem wp_p1H (O : Ord less) (L : LtOk prog w A E s kd a₀ less) (T : Two less a₀ a b) {st st' : SortSt} {mg ac bc N : Nat} {o : Array Keyed} {i j : Nat} (hk : kindOf st = kd) (hg : ∃ g, st' = setGal st g) (J : JH less a b o i j) (hN : i + j ≤ N) : wpS (model prog w) A E s (p1H a b mg ac bc i j o) (EndH less a b st N) st' := by
  unfold p1H
  have hi := J.hi
  have hj := J.hj
  have ia := J.ia
  have jb := J.jb
  refine wpS_bind (wpS_modify ?_)
  have hg' : ∃ g, setGal st' mg = setGal st g := by obtain ⟨g, rfl⟩ := hg; exact ⟨mg, rfl⟩
  have hk' : kindOf (setGal st' mg) = kd := by obtain ⟨g, rfl⟩ := hg; exact hk
  refine wpS_bind (wp_elem (by omega) ?_)
  have sg := sg_all O T.sa (i := 0) (n := i) (by omega)
  refine wpS_bind (wp_galR O L hk' (T.mb (j - 1) (by omega)) (fun k hk => ⟨by omega, T.ma _ (by omega)⟩) (by omega) sg fun k h1 h2 h3 => ?_)
  dsimp only
  simp only [Nat.zero_add] at h2 h3
  by_cases ck : i - k > 0
  · rw [if_pos ck]
    have m2 : MH less a.toList b.toList (o ++ (a.extract k i).reverse).toList.reverse k j := by
      rw [rev_blk, ext_td]
      refine J.mi.blk T.sa (by omega) fun x hx y hy => ?_
      obtain ⟨n, n1, n2, n3, rfl⟩ := td_at hx
      obtain ⟨k', k1, k2, rfl⟩ := tk_at hy
      exact O.trans _ _ _ (pw_at O T.sb (show k' ≤ j - 1 by omega) (by omega)) (O.le (h3 n n1 n2))
    by_cases c2 : k = 0
    · rw [if_pos (by simpa using c2)]
      exact wpS_pure ⟨hg', .inl ⟨_, _, rfl, resH_dn T m2 (.inl c2)⟩⟩
    · rw [if_neg (by simpa using c2)]
      exact wp_p2H O L T hk' hg' ⟨m2, by omega, hj, by omega, jb⟩ (h2 (k - 1) (by omega)) (by omega)
  · rw [if_neg ck]
    exact wp_p2H O L T hk' hg' J (h2 (i - 1) (by omega)) hN
theorem wp_two1 (O : Ord less) (L : LtOk prog w A E s kd a₀ less) (T : Two less a₀ a b) {st' : SortSt} {mg ac bc : Nat} {o : Array Keyed} {i j : Nat} {Q : ForInStep (Option (Array Keyed) × Nat × Nat × Array Keyed × Nat × Nat) → SortSt → Prop} (hk : kindOf st' = kd) (J : JH less a b o i j)
    (h1 : ∀ x c, Res less a b x → Q (.done (some x, c)) st') (h2 : ∀ i' j' o c, JH less a b o i' j' → i' + j' + 1 = i + j → Q (.done (none, i', j', o, c)) st' ∧ Q (.yield (none, i', j', o, c)) st') :
    wpS (model prog w) A E s (two1 a b mg i j o ac bc) Q st' := by
  unfold two1
  have hi := J.hi
  have hj := J.hj
  have ia := J.ia
  have jb := J.jb
  refine wpS_bind (wp_elem (by omega) (wpS_bind (wp_elem (by omega) (wpS_bind (L _ _ _ _ (T.mb (j - 1) (by omega)) (T.ma (i - 1) (by omega)) hk ?_)))))
  dsimp only
  cases e : less (ath b (j - 1)) (ath a (i - 1)) with
  | true =>
    simp only [if_true]
    refine wpS_bind (wp_elem (by omega) ?_)
    have m := pushH_a O T J.mi hi ia jb fun _ => O.le e
    by_cases c : i - 1 = 0
    · rw [if_pos (by simpa using c)]
      exact wpS_pure (h1 _ _ (resH_dn T m (.inl c)))
    · rw [if_neg (by simpa using c)]
      have := h2 (i - 1) j _ (ac + 1, 0) ⟨m, by omega, hj, by omega, jb⟩ (by omega)
      split
      · exact wpS_pure this.1
      · exact wpS_pure this.2
  | false =>
    simp only [Bool.false_eq_true, if_false]
    refine wpS_bind (wp_elem (by omega) ?_)
    have m := pushH_b O T J.mi (by omega) ia jb fun _ => e
    by_cases c : j - 1 = 1
    · rw [if_pos (by simpa using c)]
      exact wpS_pure (h1 _ _ (resH_fb O T m c))
    · rw [if_neg (by simpa using c)]
      have := h2 i (j - 1) _ (0, bc + 1) ⟨m, hi, by omega, ia, by omega⟩ (by omega)
      split
      · exact wpS_pure this.1
      · exact wpS_pure this.2
theorem wp_mHi (O : Ord less) (L : LtOk prog w A E s kd a₀ less) (T : Two less a₀ a b) {st : SortSt} {Q : Array Keyed → SortSt → Prop} (hk : kindOf st = kd) (h : ∀ r g, Res less a b r → Q r (setGal st g)) : wpS (model prog w) A E s (mHi a b) Q st := by
  rw [mHi_parts]
  have na := T.na
  have nb := T.nb
  refine wpS_bind (wpS_lift (wpAny_rule ⟨rfl, ?_⟩))
  refine wpS_bind (wp_elem (by omega) ?_)
  have h' : ∀ r, Res less a b r → Q r st := fun r hr => h r (gallopOf st) hr
  have m : MH less a.toList b.toList (#[ath a (a.size - 1)] : Array Keyed).toList.reverse (a.size - 1) b.size := by
    have m0 : MH less a.toList b.toList (#[] : Array Keyed).toList.reverse a.size b.size := ⟨by simp, by simp, by simp, by simp⟩
    exact pushH_a O T m0 (by omega) (Nat.le_refl _) (Nat.le_refl _) fun _ => O.le (T.hl _ (by omega))
  by_cases c : a.size - 1 = 0
  · rw [if_pos (by simpa using c)]
    exact wpS_pure (h' _ (resH_dn T m (.inl c)))
  rw [if_neg (by simpa using c)]
  by_cases c2 : b.size = 1
  · rw [if_pos (by simpa using c2)]
    exact wpS_pure (h' _ (resH_fb O T m c2))
  rw [if_neg (by simpa using c2)]
  refine wpS_bind (wpS_get ?_)
  refine wpS_bind (wpS_mono (wpS_forRange (I := fun n c st' => (∃ g, st' = setGal st g) ∧ ∃ i j o mg, c = (none, i, j, o, mg) ∧ JH less a b o i j ∧ i + j + n < a.size + b.size)
    (Q := fun c st' => (∃ g, st' = setGal st g) ∧ ∃ x d, c = (some x, d) ∧ Res less a b x) ?_ ?_ ⟨⟨gallopOf st, rfl⟩, _, _, _, _, rfl, ⟨m, by omega, by omega, by omega, by omega⟩, by omega⟩) ?_)
  · rintro n c st' _ hn ⟨hg, i, j, o, mg, rfl, J, hN⟩
    unfold outH
    dsimp only
    have hk' : kindOf st' = kd := by obtain ⟨g, rfl⟩ := hg; exact hk
    refine wpS_bind (wpS_mono (wpS_forRange (I := fun x c st2 => st2 = st' ∧ ∃ i' j' o' d, c = (none, i', j', o', d) ∧ JH less a b o' i' j' ∧ i' + j' + x = i + j)
      (Q := fun c st2 => st2 = st' ∧ ((∃ x d, c = (some x, d) ∧ Res less a b x) ∨ ∃ i' j' o' d, c = (none, i', j', o', d) ∧ JH less a b o' i' j' ∧ i' + j' + 1 ≤ i + j)) ?_ ?_ ⟨rfl, i, j, o, _, rfl, J, rfl⟩) ?_)
    · rintro x c st2 _ hx ⟨rfl, i', j', o', ⟨ac, bc⟩, rfl, J', hN'⟩
      dsimp only
      refine wp_two1 O L T hk' J' (fun x c hr => ⟨rfl, .inl ⟨x, c, rfl, hr⟩⟩) fun i2 j2 o2 c J2 h2 => ⟨⟨rfl, .inr ⟨i2, j2, o2, c, rfl, J2, by omega⟩⟩, ⟨rfl, i2, j2, o2, c, rfl, J2, by omega⟩⟩
    · rintro c st2 ⟨rfl, i', j', o', d, rfl, J', hN'⟩
      exact ⟨rfl, .inr ⟨i', j', o', d, rfl, J', by omega⟩⟩
    · rintro c st2 ⟨rfl, ⟨x, d, rfl, hr⟩ | ⟨i', j', o', ⟨ac, bc⟩, rfl, J', hN'⟩⟩
      · exact wpS_pure ⟨hg, x, _, rfl, hr⟩
      · dsimp only
        refine wpS_bind (wpS_lift (wpAny_rule ⟨rfl, ?_⟩))
        refine wpS_bind (wpS_mono (wpS_forRange (I := fun x c st3 => (∃ g, st3 = setGal st g) ∧ ∃ i' j' o' d, c = (none, i', j', o', d) ∧ JH less a b o' i' j' ∧ i' + j' + 1 ≤ i + j)
          (Q := fun c st3 => (∃ g, st3 = setGal st g) ∧ ((∃ x d, c = (some x, d) ∧ Res less a b x) ∨ ∃ i' j' o' d, c = (none, i', j', o', d) ∧ JH less a b o' i' j' ∧ i' + j' + 1 ≤ i + j)) ?_ ?_ ⟨hg, i', j', o', _, rfl, J', hN'⟩) ?_)
        · rintro x c st3 _ hx ⟨hg3, i3, j3, o3, ⟨mg3, ac3, bc3⟩, rfl, J3, hN3⟩
          dsimp only
          split
          all_goals
            refine wpS_mono (wp_p1H O L T (N := i + j - 1) hk hg3 J3 (by omega)) ?_
            rintro r st4 ⟨hg4, ⟨x, c, rfl, hr⟩ | ⟨i4, j4, o4, c, rfl | rfl, J4, h4⟩⟩
            · exact ⟨hg4, .inl ⟨x, c, rfl, hr⟩⟩
            · exact ⟨hg4, .inr ⟨i4, j4, o4, c, rfl, J4, by omega⟩⟩
            · exact ⟨hg4, i4, j4, o4, c, rfl, J4, by omega⟩
        · rintro c st3 ⟨hg3, i3, j3, o3, d, rfl, J3, hN3⟩
          exact ⟨hg3, .inr ⟨i3, j3, o3, d, rfl, J3, hN3⟩⟩
        · rintro c st3 ⟨hg3, ⟨x, d, rfl, hr⟩ | ⟨i3, j3, o3, ⟨mg3, ac3, bc3⟩, rfl, J3, hN3⟩⟩
          · exact wpS_pure ⟨hg3, x, _, rfl, hr⟩
          · dsimp only
            refine wpS_bind (wpS_modify (wpS_pure ⟨?_, i3, j3, o3, _, rfl, J3, by omega⟩))
            obtain ⟨g, rfl⟩ := hg3
            exact ⟨_, rfl⟩
  · rintro c st' ⟨hg, i, j, o, mg, rfl, J, hN⟩
    have := J.hi
    have := J.hj
    omega
  · rintro c st' ⟨⟨g, rfl⟩, x, d, rfl, hr⟩
    exact wpS_pure (h x g hr)
end
end TS
namespace TS
open PySem PyProof.Rows
def wrt (xs : Array Keyed) (at_ : Nat) (l : List (Keyed × Nat)) : Array Keyed := l.foldl (fun a (p, j) => a.setIfInBounds (at_ + j) p) xs
theorem wrt_at (at_ n : Nat) : ∀ (ms : List Keyed) (k : Nat) (xs : Array Keyed), at_ + k + ms.length ≤ xs.size → (wrt xs at_ (ms.zipIdx k))[n]? = if at_ + k ≤ n ∧ n < at_ + k + ms.length then ms[n - (at_ + k)]? else xs[n]?
  | [], k, xs, h => by
    rw [if_neg (by simp)]; rfl
  | p :: ms, k, xs, h => by
    rw [List.length_cons] at h
    show (wrt (xs.setIfInBounds (at_ + k) p) at_ (ms.zipIdx (k + 1)))[n]? = _
    rw [wrt_at at_ n ms (k + 1) _ (by rw [Array.size_setIfInBounds]; omega)]
    rw [List.length_cons]
    by_cases c : n = at_ + k
    · subst c
      rw [if_neg (by omega), if_pos (by omega), Array.getElem?_setIfInBounds_self_of_lt (by omega)]
      simp
    · rw [Array.getElem?_setIfInBounds_ne (Ne.symm c)]
      by_cases c2 : at_ + (k + 1) ≤ n ∧ n < at_ + (k + 1) + ms.length
      · rw [if_pos c2, if_pos (by omega), show n - (at_ + k) = (n - (at_ + (k + 1))) + 1 by omega, List.getElem?_cons_succ]
      · rw [if_neg c2, if_neg (by omega)]
theorem wrt_list {xs : Array Keyed} {at_ : Nat} {ms : List Keyed} (h : at_ + ms.length ≤ xs.size) : (wrt xs at_ ms.zipIdx).toList = xs.toList.take at_ ++ (ms ++ xs.toList.drop (at_ + ms.length)) := by
  apply List.ext_getElem?
  intro n
  have e := wrt_at at_ n ms 0 xs (by omega)
  rw [Nat.add_zero] at e
  have e' : (wrt xs at_ ms.zipIdx).toList[n]? = (wrt xs at_ ms.zipIdx)[n]? := by simp
  rw [e', e]
  have hx : ∀ k : Nat, xs.toList[k]? = xs[k]? := fun k => Array.getElem?_toList ..
  by_cases c1 : n < at_
  · rw [if_neg (by omega), List.getElem?_append_left (by rw [List.length_take]; simp; omega), List.getElem?_take, if_pos c1, hx]
  · have lt : (xs.toList.take at_).length = at_ := by rw [List.length_take]; simp; omega
    rw [List.getElem?_append_right (by omega), lt]
    by_cases c2 : n < at_ + ms.length
    · rw [if_pos (by omega), List.getElem?_append_left (by omega)]
    · rw [if_neg (by omega), List.getElem?_append_right (by omega), List.getElem?_drop, hx]
      congr 1; omega
theorem three (l : List Keyed) (i j k : Nat) (hij : i ≤ j) (hjk : j ≤ k) (hk : k ≤ l.length) : l = l.take i ++ ((l.take j).drop i ++ ((l.take k).drop j ++ l.drop k)) := by
  have e1 : (l.take k).drop j ++ l.drop k = l.drop j := by
    rw [List.drop_take]
    have := List.take_append_drop (k - j) (l.drop j)
    rw [List.drop_drop, show j + (k - j) = k by omega] at this
    exact this
  have e2 : (l.take j).drop i ++ l.drop j = l.drop i := by
    rw [List.drop_take]
    have := List.take_append_drop (j - i) (l.drop i)
    rw [List.drop_drop, show i + (j - i) = j by omega] at this
    exact this
  rw [e1, e2, List.take_append_drop]
theorem ext_pw {less : Keyed → Keyed → Bool} (O : Ord less) {xs : Array Keyed} {i j lo hi : Nat} (h : Sg less xs lo hi) (h1 : lo ≤ i) (h2 : j ≤ hi) (h3 : hi ≤ xs.size) : (xs.extract i j).toList.Pairwise (LE less) := by
  rw [List.pairwise_iff_getElem]
  intro x y hx hy hxy
  have e : ∀ n (hn : n < (xs.extract i j).toList.length), (xs.extract i j).toList[n] = ath xs (i + n) := fun n hn => by
    have hn' : n < (xs.extract i j).size := by rw [Array.length_toList] at hn; exact hn
    rw [Array.size_extract] at hn'
    unfold ath
    rw [getElem?_pos xs (i + n) (by omega)]
    simp
  rw [e x hx, e y hy]
  have hy' : y < (xs.extract i j).size := by rw [Array.length_toList] at hy; exact hy
  rw [Array.size_extract] at hy'
  exact h _ _ (by omega) (by omega) (by omega)
theorem ath_ext {xs : Array Keyed} {i j n : Nat} (h : n < (xs.extract i j).size) : ath (xs.extract i j) n = ath xs (i + n) := by
  unfold ath
  rw [Array.size_extract] at h
  rw [Array.getElem?_extract, if_pos (by omega)]
section
variable {prog : Program} {w : World} {A : Around} {E : Value → Shared → Prop} {s : Shared} {kd : SortKind} {a₀ : Array Keyed} {less : Keyed → Keyed → Bool}
abbrev Rn := Nat × Nat × Nat
theorem mAt_eq (i : Nat) : mergeAt' i = (do
  let s ← get
  let (some (sa, na, pw), some (sb, nb, _)) := ((pendingOf s)[i]?, (pendingOf s)[i + 1]?) | unsupported "internal:list.sort.pending"
  set (setPending s (((pendingOf s).setIfInBounds i (sa, na + nb, pw)).eraseIdxIfInBounds (i + 1)))
  let some k ← gal false (← elem' (arrOf s) sb) (arrOf s) sa na 0 | return false
  let (sa, na) := (sa + k, na - k)
  if na == 0 then return true
  let some nb ← gal true (← elem' (arrOf s) (sa + na - 1)) (arrOf s) sb nb (nb - 1) | return false
  if nb == 0 then return true
  let x := (arrOf s).extract sa sb
  let y := (arrOf s).extract sb (sb + nb)
  let r ← if na ≤ nb then mLo x y else mHi x y
  modify fun s => setArr s (wrt (arrOf s) sa r.toList.zipIdx)
  return (failedOf (← get)).isNone) := rfl
theorem wpS_set {σ : Type} {M : Model} {v : σ} {Q : PUnit → σ → Prop} {st : σ} (h : Q ⟨⟩ v) : wpS M A E s (set v : StateT σ Sem PUnit) Q st := by
  unfold wpS; rw [StateT.run_set]; exact wpAny_pure ⟨rfl, h⟩
theorem wp_mAt (O : Ord less) (L : LtOk prog w A E s kd a₀ less) {st : SortSt} {Q : Bool → SortSt → Prop} {l1 l2 : List Rn} {sa na pw sb nb pw2 i : Nat} (B : SB kd a₀ st) (hp : pendingOf st = (l1 ++ (sa, na, pw) :: (sb, nb, pw2) :: l2).toArray) (hi : i = l1.length)
    (hsb : sb = sa + na) (h1 : 1 ≤ na) (h2 : 1 ≤ nb) (hz : sb + nb ≤ a₀.size) (s1 : Sg less (arrOf st) sa sb) (s2 : Sg less (arrOf st) sb (sb + nb))
    (h : ∀ st', SB kd a₀ st' → pendingOf st' = (l1 ++ (sa, na + nb, pw) :: l2).toArray → Sg less (arrOf st') sa (sb + nb) → Out sa (sb + nb) (arrOf st) (arrOf st') → Q true st') : wpS (model prog w) A E s (mergeAt' i) Q st := by
  subst hi
  rw [mAt_eq]
  refine wpS_bind (wpS_get ?_)
  have p1 : (pendingOf st)[l1.length]? = some (sa, na, pw) := by rw [hp]; simp
  have p2 : (pendingOf st)[l1.length + 1]? = some (sb, nb, pw2) := by
    rw [hp]; simp [List.getElem?_append_right]
  rw [p1, p2]
  dsimp only
  refine wpS_bind (wpS_set ?_)
  have hpd : ((pendingOf st).setIfInBounds l1.length (sa, na + nb, pw)).eraseIdxIfInBounds (l1.length + 1) = (l1 ++ (sa, na + nb, pw) :: l2).toArray := by
    rw [hp]
    simp only [List.setIfInBounds_toArray, List.eraseIdxIfInBounds_toArray]
    congr 1
    rw [List.set_append_right _ _ (Nat.le_refl _), Nat.sub_self, List.set_cons_zero]
    rw [List.eraseIdx_append_of_length_le (by omega), show l1.length + 1 - l1.length = 1 by omega]
    rfl
  rw [hpd]
  let st1 : SortSt := setPending st (l1 ++ (sa, na + nb, pw) :: l2).toArray
  have B1 : SB kd a₀ st1 := ⟨B.perm, B.kd, B.fl⟩
  have hsz := B.size
  show wpS _ _ _ _ _ Q st1
  refine wpS_bind (wp_elem (by omega) ?_)
  refine wpS_bind (wp_galR O L B.kd (B.mem (by omega)) (fun k hk => ⟨by omega, B.mem (by omega)⟩) (by omega) (by rw [← hsb]; exact s1) fun k g1 g2 g3 => ?_)
  dsimp only
  by_cases c1 : na - k = 0
  · rw [if_pos (by simpa using c1)]
    refine wpS_pure (h st1 B1 rfl (fun i j hi hij hj => ?_) Out.refl)
    show LE less (ath (arrOf st) i) (ath (arrOf st) j)
    by_cases c2 : j < sb
    · exact s1 i j hi hij c2
    · by_cases c3 : sb ≤ i
      · exact s2 i j c3 hij hj
      · have := g2 (i - sa) (by omega)
        rw [show sa + (i - sa) = i by omega] at this
        exact O.trans _ _ _ this (s2 sb j (Nat.le_refl _) (by omega) hj)
  · rw [if_neg (by simpa using c1)]
    refine wpS_bind (wp_elem (by omega) ?_)
    rw [show sa + k + (na - k) - 1 = sb - 1 by omega]
    refine wpS_bind (wp_galL O L B.kd (B.mem (by omega)) (fun k hk => ⟨by omega, B.mem (by omega)⟩) (by omega) s2 fun m f1 f2 f3 => ?_)
    dsimp only
    by_cases c2 : m = 0
    · rw [if_pos (by simpa using c2)]
      refine wpS_pure (h st1 B1 rfl (fun i j hi hij hj => ?_) Out.refl)
      show LE less (ath (arrOf st) i) (ath (arrOf st) j)
      by_cases c2 : j < sb
      · exact s1 i j hi hij c2
      · by_cases c3 : sb ≤ i
        · exact s2 i j c3 hij hj
        · have := f3 (j - sb) (by omega) (by omega)
          rw [show sb + (j - sb) = j by omega] at this
          exact O.trans _ _ _ (s1 i (sb - 1) hi (by omega) (by omega)) this
    · rw [if_neg (by simpa using c2)]
      have hxs : ((arrOf st).extract (sa + k) sb).size = na - k := by rw [Array.size_extract]; omega
      have hys : ((arrOf st).extract sb (sb + m)).size = m := by rw [Array.size_extract]; omega
      have T : Two less a₀ ((arrOf st).extract (sa + k) sb) ((arrOf st).extract sb (sb + m)) := by
        refine ⟨ext_pw O s1 (by omega) (Nat.le_refl _) (by omega), ext_pw O s2 (Nat.le_refl _) (by omega) (by omega), fun i hi => ?_, fun i hi => ?_, by omega, by omega, ?_, fun j hj => ?_⟩
        · rw [ath_ext hi]; rw [hxs] at hi; exact B.mem (by omega)
        · rw [ath_ext hi]; rw [hys] at hi; exact B.mem (by omega)
        · rw [ath_ext (by omega), ath_ext (by omega)]
          exact g3 k (Nat.le_refl _) (by omega)
        · rw [ath_ext hj, ath_ext (by omega)]
          rw [hys] at hj
          rw [hxs, show sa + k + (na - k - 1) = sb - 1 by omega]
          exact f2 j hj
      have fin : ∀ (r : Array Keyed) (g : Nat), Res less ((arrOf st).extract (sa + k) sb) ((arrOf st).extract sb (sb + m)) r →
          wpS (model prog w) A E s (do modify fun s => setArr s (wrt (arrOf s) (sa + k) r.toList.zipIdx); return (failedOf (← get)).isNone) Q (setGal st1 g) := by
        rintro r g ⟨rp, rs⟩
        have rl : r.toList.length = sb + m - (sa + k) := by
          rw [rp.length_eq, List.length_append]
          have e1 : ((arrOf st).extract (sa + k) sb).toList.length = na - k := by rw [Array.length_toList]; exact hxs
          have e2 : ((arrOf st).extract sb (sb + m)).toList.length = m := by rw [Array.length_toList]; exact hys
          rw [e1, e2]; omega
        have wl := wrt_list (xs := arrOf st) (at_ := sa + k) (ms := r.toList) (by rw [rl, hsz]; omega)
        rw [rl, show sa + k + (sb + m - (sa + k)) = sb + m by omega] at wl
        have wa : ∀ n, ath (wrt (arrOf st) (sa + k) r.toList.zipIdx) n = if sa + k ≤ n ∧ n < sb + m then (r.toList[n - (sa + k)]?).getD (.none, .none) else ath (arrOf st) n := fun n => by
          have e := wrt_at (sa + k) n r.toList 0 (arrOf st) (by rw [rl, hsz]; omega)
          rw [Nat.add_zero, rl, show sa + k + (sb + m - (sa + k)) = sb + m by omega] at e
          unfold ath
          rw [e]
          split <;> rfl
        have wm : ∀ n, sa + k ≤ n → n < sb + m → ∃ n', sa + k ≤ n' ∧ n' < sb + m ∧ ath (wrt (arrOf st) (sa + k) r.toList.zipIdx) n = ath (arrOf st) n' := fun n n1 n2 => by
          rw [wa, if_pos ⟨n1, n2⟩, List.getElem?_eq_getElem (by omega)]
          have hm := rp.mem_iff.mp (List.getElem_mem (l := r.toList) (n := n - (sa + k)) (by omega))
          rcases List.mem_append.mp hm with hm | hm
          · rw [ext_td] at hm
            obtain ⟨q, q1, q2, q3, e⟩ := td_at hm
            exact ⟨q, q1, by omega, e⟩
          · rw [ext_td] at hm
            obtain ⟨q, q1, q2, q3, e⟩ := td_at hm
            exact ⟨q, by omega, q2, e⟩
        refine wpS_bind (wpS_modify ?_)
        refine wpS_bind (wpS_get (wpS_pure ?_))
        have ef : (failedOf (setArr (setGal st1 g) (wrt (arrOf (setGal st1 g)) (sa + k) r.toList.zipIdx))).isNone = true := by
          show (failedOf st).isNone = true
          rw [B.fl]; rfl
        rw [ef]
        refine h _ ⟨?_, B.kd, B.fl⟩ rfl (fun i j hi hij hj => ?_) (fun n hn => ?_)
        · show (wrt (arrOf st) (sa + k) r.toList.zipIdx).Perm a₀
          refine Array.Perm.trans ?_ B.perm
          rw [Array.perm_iff_toList_perm, wl]
          have e3 := three (arrOf st).toList (sa + k) sb (sb + m) (by omega) (by omega) (by simp; omega)
          refine List.Perm.trans ?_ (List.Perm.of_eq e3.symm)
          refine List.Perm.append_left _ ?_
          rw [← List.append_assoc]
          refine List.Perm.append_right _ ?_
          rw [ext_td, ext_td] at rp
          exact rp
        · show LE less (ath (wrt (arrOf st) (sa + k) r.toList.zipIdx) i) (ath (wrt (arrOf st) (sa + k) r.toList.zipIdx) j)
          have key1 : ∀ x y, sa ≤ x → x < sa + k → sa + k ≤ y → y < sb + nb → LE less (ath (arrOf st) x) (ath (arrOf st) y) := fun x y x1 x2 y1 y2 => by
            by_cases c : y < sb
            · exact s1 x y x1 (by omega) c
            · have := g2 (x - sa) (by omega)
              rw [show sa + (x - sa) = x by omega] at this
              exact O.trans _ _ _ this (s2 sb y (Nat.le_refl _) (by omega) y2)
          have key2 : ∀ x y, sa + k ≤ x → x < sb + m → sb + m ≤ y → y < sb + nb → LE less (ath (arrOf st) x) (ath (arrOf st) y) := fun x y x1 x2 y1 y2 => by
            by_cases c : x < sb
            · have := f3 (y - sb) (by omega) (by omega)
              rw [show sb + (y - sb) = y by omega] at this
              exact O.trans _ _ _ (s1 x (sb - 1) (by omega) (by omega) (by omega)) this
            · exact s2 x y (by omega) (by omega) y2
          by_cases i1 : i < sa + k
          · have ei := wa i
            rw [if_neg (by omega)] at ei
            rw [ei]
            by_cases j1 : j < sa + k
            · have ej := wa j
              rw [if_neg (by omega)] at ej
              rw [ej]; exact s1 i j hi hij (by omega)
            · by_cases j2 : j < sb + m
              · obtain ⟨n', n1, n2, e⟩ := wm j (by omega) j2
                rw [e]; exact key1 i n' hi i1 n1 (by omega)
              · have ej := wa j
                rw [if_neg (by omega)] at ej
                rw [ej]; exact key1 i j hi i1 (by omega) hj
          · by_cases i2 : i < sb + m
            · by_cases j2 : j < sb + m
              · rw [wa i, wa j, if_pos (by omega), if_pos (by omega), List.getElem?_eq_getElem (by omega), List.getElem?_eq_getElem (by omega)]
                by_cases cij : i = j
                · subst cij; exact O.refl _
                · exact List.pairwise_iff_getElem.mp rs _ _ (by omega) (by omega) (by omega)
              · obtain ⟨n', n1, n2, e⟩ := wm i (by omega) i2
                have ej := wa j
                rw [if_neg (by omega)] at ej
                rw [e, ej]; exact key2 n' j n1 n2 (by omega) hj
            · have ei := wa i
              have ej := wa j
              rw [if_neg (by omega)] at ei ej
              rw [ei, ej]; exact s2 i j (by omega) hij hj
        · show ath (wrt (arrOf st) (sa + k) r.toList.zipIdx) n = _
          rw [wa n, if_neg (by omega)]
      by_cases c3 : na - k ≤ m
      · rw [if_pos c3]
        exact wpS_bind (wp_mLo O L T B.kd fun r g hr => fin r g hr)
      · rw [if_neg c3]
        exact wpS_bind (wp_mHi O L T B.kd fun r g hr => fin r g hr)
end
end TS
namespace TS
open PySem PyProof.Rows
def Runs (less : Keyed → Keyed → Bool) (xs : Array Keyed) : List Rn → Nat → Nat → Prop
  | [], lo, hi => lo = hi
  | (a, n, _) :: r, lo, hi => a = lo ∧ 1 ≤ n ∧ Sg less xs lo (lo + n) ∧ Runs less xs r (lo + n) hi
section
variable {less : Keyed → Keyed → Bool} {xs ys : Array Keyed}
theorem Runs.le : ∀ {l : List Rn} {lo hi : Nat}, Runs less xs l lo hi → lo + l.length ≤ hi
  | [], lo, hi, h => Nat.le_of_eq h
  | (a, n, p) :: r, lo, hi, h => by
    have := Runs.le h.2.2.2
    have := h.2.1
    rw [List.length_cons]; omega
theorem Runs.app : ∀ {l1 l2 : List Rn} {lo hi : Nat}, Runs less xs (l1 ++ l2) lo hi ↔ ∃ m, Runs less xs l1 lo m ∧ Runs less xs l2 m hi
  | [], l2, lo, hi => ⟨fun h => ⟨lo, rfl, h⟩, fun ⟨m, e, h⟩ => by cases e; exact h⟩
  | (a, n, p) :: r, l2, lo, hi => by
    constructor
    · rintro ⟨h1, h2, h3, h4⟩
      obtain ⟨m, a1, a2⟩ := Runs.app.mp h4
      exact ⟨m, ⟨h1, h2, h3, a1⟩, a2⟩
    · rintro ⟨m, ⟨h1, h2, h3, a1⟩, a2⟩
      exact ⟨h1, h2, h3, Runs.app.mpr ⟨m, a1, a2⟩⟩
theorem Runs.out {e1 e2 : Nat} (o : Out e1 e2 xs ys) : ∀ {l : List Rn} {lo hi : Nat}, (hi ≤ e1 ∨ e2 ≤ lo) → Runs less xs l lo hi → Runs less ys l lo hi
  | [], lo, hi, _, h => h
  | (a, n, p) :: r, lo, hi, hc, ⟨h1, h2, h3, h4⟩ => by
    have := Runs.le h4
    refine ⟨h1, h2, fun i j hi hij hj => ?_, Runs.out o (by omega) h4⟩
    rw [o i (by omega), o j (by omega)]
    exact h3 i j hi hij hj
theorem sg_out {e1 e2 lo hi : Nat} (o : Out e1 e2 xs ys) (hc : hi ≤ e1 ∨ e2 ≤ lo) (h : Sg less xs lo hi) : Sg less ys lo hi := fun i j hi hij hj => by
  rw [o i (by omega), o j (by omega)]
  exact h i j hi hij hj
theorem two_of {α : Type} {l : List α} (h : 2 ≤ l.length) : ∃ l1 x y, l = l1 ++ [x, y] := by
  refine ⟨l.take (l.length - 2), l[l.length - 2], l[l.length - 1], ?_⟩
  have := List.take_append_drop (l.length - 2) l
  rw [List.drop_eq_getElem_cons (by omega), List.drop_eq_getElem_cons (by omega), List.drop_eq_nil_of_le (by omega)] at this
  have e : l.length - 2 + 1 = l.length - 1 := by omega
  simp only [e] at this
  exact this.symm
theorem snoc_of {α : Type} {l : List α} (h : l ≠ []) : ∃ l1 x, l = l1 ++ [x] := ⟨l.dropLast, l.getLast h, (List.dropLast_concat_getLast h).symm⟩
end
section
variable {prog : Program} {w : World} {A : Around} {E : Value → Shared → Prop} {s : Shared} {kd : SortKind} {a₀ : Array Keyed} {less : Keyed → Keyed → Bool}
theorem mod_last (l1 : List Rn) (x : Rn) (f : Rn → Rn) : (l1 ++ [x]).modify l1.length f = l1 ++ [f x] := by
  induction l1 with
  | nil => rfl
  | cons a l ih => rw [List.cons_append, List.length_cons, List.modify_succ_cons, ih]; rfl
theorem wp_mR (O : Ord less) (L : LtOk prog w A E s kd a₀ less) {st : SortSt} {Q : Bool → SortSt → Prop} {l1 l2 : List Rn} {x y : Rn} {i lo : Nat} (B : SB kd a₀ st) (hp : pendingOf st = (l1 ++ x :: y :: l2).toArray) (hi : i = l1.length) (hz : lo ≤ a₀.size) (R : Runs less (arrOf st) (l1 ++ x :: y :: l2) 0 lo)
    (h : ∀ st' z, SB kd a₀ st' → pendingOf st' = (l1 ++ z :: l2).toArray → Runs less (arrOf st') (l1 ++ z :: l2) 0 lo → Out 0 lo (arrOf st) (arrOf st') → Q true st') : wpS (model prog w) A E s (mergeAt' i) Q st := by
  obtain ⟨sa, na, pw⟩ := x
  obtain ⟨sb, nb, pw2⟩ := y
  obtain ⟨m, r1, rfl, h1, s1, rfl, h2, s2, r2⟩ := Runs.app.mp R
  have hle := r2.le
  refine wp_mAt O L B hp hi rfl h1 h2 (by omega) s1 s2 fun st' B' hp' s' o' => h st' _ B' hp' ?_ fun k hk => o' k (by omega)
  refine Runs.app.mpr ⟨_, r1.out o' (.inl (Nat.le_refl _)), rfl, by omega, ?_, ?_⟩
  · rw [← Nat.add_assoc]; exact s'
  · rw [← Nat.add_assoc]; exact r2.out o' (.inr (Nat.le_refl _))
theorem runs_pow {xs : Array Keyed} {l1 : List Rn} {a n p q lo hi : Nat} (h : Runs less xs (l1 ++ [(a, n, p)]) lo hi) : Runs less xs (l1 ++ [(a, n, q)]) lo hi := by
  obtain ⟨m, r1, h1, h2, h3, h4⟩ := Runs.app.mp h
  exact Runs.app.mpr ⟨m, r1, h1, h2, h3, h4⟩
theorem wp_sort (O : Ord less) (L : LtOk prog w A E s kd a₀ less) {st : SortSt} {Q : Unit → SortSt → Prop} (B : SB kd a₀ st) (hp0 : pendingOf st = #[]) (h2 : 2 ≤ a₀.size)
    (h : ∀ st', (arrOf st').Perm a₀ → failedOf st' = none → Sg less (arrOf st') 0 a₀.size → Q () st') : wpS (model prog w) A E s sortRuns' Q st := by
  rw [sortRuns'_eq]
  refine wpS_bind (wpS_get ?_)
  dsimp only
  simp only [B.size]
  generalize minRun' a₀.size a₀.size 0 = mr
  refine wpS_bind (wpS_mono (wpS_forRange
    (I := fun x c st' => ∃ lo pl, c = (none, lo) ∧ x ≤ lo ∧ lo ≤ a₀.size ∧ SB kd a₀ st' ∧ pendingOf st' = pl.toArray ∧ Runs less (arrOf st') pl 0 lo)
    (Q := fun c st' => ∃ pl, c = (none, a₀.size) ∧ SB kd a₀ st' ∧ pendingOf st' = pl.toArray ∧ Runs less (arrOf st') pl 0 a₀.size) ?step ?fin ⟨0, [], rfl, Nat.le_refl _, Nat.zero_le _, B, hp0, rfl⟩) ?post)
  case fin =>
    rintro c st' ⟨lo, pl, rfl, h1, h2', B', hp, R⟩
    have : lo = a₀.size := by omega
    subst this
    exact ⟨pl, rfl, B', hp, R⟩
  case step =>
    rintro x c st' _ hx ⟨lo, pl, rfl, h1, h2', B', hp, R⟩
    dsimp only
    by_cases c1 : lo ≥ a₀.size
    · rw [if_pos c1]
      have : lo = a₀.size := by omega
      subst this
      exact wpS_pure ⟨pl, rfl, B', hp, R⟩
    rw [if_neg c1]
    refine wpS_bind (wp_run O L (by omega) (by omega) B' fun m st2 B2 m1 m2 s2 p2 o2 => ?_)
    dsimp only
    have R2 : Runs less (arrOf st2) pl 0 lo := R.out o2 (.inl (Nat.le_refl _))
    by_cases c2 : m < mr
    · rw [if_pos c2]
      refine wpS_bind (wpS_lift (wpAny_rule ⟨rfl, ?_⟩))
      refine wpS_bind (wp_bin O L (by omega) (by omega) B2 s2 fun st3 B3 s3 p3 o3 => ?_)
      simp only [Bool.not_true, Bool.false_eq_true, if_false]
      have R3 := R2.out o3 (.inl (Nat.le_refl _))
      have n1 : 1 ≤ min (a₀.size - lo) mr := by omega
      have n2 : lo + min (a₀.size - lo) mr ≤ a₀.size := by omega
      rw [p2, hp] at p3
      clear o3
      revert s3 n1 n2
      generalize min (a₀.size - lo) mr = n
      intro s3 n1 n2
      refine wpS_bind (wpS_get ?_)
      cases hb : (pendingOf st3).back? with
      | none =>
        dsimp only
        refine wpS_bind (wpS_modify (wpS_pure ⟨lo + n, pl ++ [(lo, n, 0)], rfl, by omega, n2, ⟨B3.perm, B3.kd, B3.fl⟩, ?_, Runs.app.mpr ⟨lo, R3, rfl, n1, s3, rfl⟩⟩))
        show (pendingOf st3).push (lo, n, 0) = _
        rw [p3]; simp
      | some q =>
        obtain ⟨s1, n1', p1⟩ := q
        dsimp only
        have hne : pl ≠ [] := fun e => by subst e; rw [p3] at hb; simp at hb
        refine wpS_bind (wpS_mono (wpS_forRange (I := fun _ c st4 => c = (none, ()) ∧ ∃ pl, pl ≠ [] ∧ SB kd a₀ st4 ∧ Sg less (arrOf st4) lo (lo + n) ∧ pendingOf st4 = pl.toArray ∧ Runs less (arrOf st4) pl 0 lo)
          (Q := fun c st4 => c = (none, ()) ∧ ∃ pl, pl ≠ [] ∧ SB kd a₀ st4 ∧ Sg less (arrOf st4) lo (lo + n) ∧ pendingOf st4 = pl.toArray ∧ Runs less (arrOf st4) pl 0 lo) ?_ (fun c st4 h => h) ⟨rfl, pl, hne, B3, s3, p3, R3⟩) ?_)
        · rintro y c st4 _ hy ⟨rfl, pl4, ne4, B4, s4, p4, R4⟩
          refine wpS_bind (wpS_get ?_)
          by_cases c2 : (pendingOf st4).size > 1
          · rw [if_pos c2]
            have hl : 2 ≤ pl4.length := by rw [p4] at c2; simp at c2; omega
            obtain ⟨l1, u, v, e4⟩ := two_of hl
            have e5 : (pendingOf st4).size - 2 = l1.length := by rw [p4, e4]; simp
            have e6 : (pendingOf st4)[(pendingOf st4).size - 2]? = some u := by rw [e5, p4, e4]; simp
            rw [e6]
            obtain ⟨u1, u2, u3⟩ := u
            dsimp only
            split
            · exact wpS_pure ⟨rfl, pl4, ne4, B4, s4, p4, R4⟩
            · subst e4
              refine wpS_bind (wp_mR O L (l2 := []) B4 p4 e5 (by omega) R4 fun st5 z B5 p5 R5 o5 => ?_)
              simp only [Bool.not_true, Bool.false_eq_true, if_false]
              exact wpS_pure ⟨rfl, _, by simp, B5, sg_out o5 (.inr (Nat.le_refl _)) s4, p5, R5⟩
          · rw [if_neg c2]
            exact wpS_pure ⟨rfl, pl4, ne4, B4, s4, p4, R4⟩
        · rintro c st4 ⟨rfl, pl4, ne4, B4, s4, p4, R4⟩
          dsimp only
          refine wpS_bind (wpS_modify (wpS_bind (wpS_modify (wpS_pure ?_))))
          obtain ⟨l1, ⟨u1, u2, u3⟩, rfl⟩ := snoc_of ne4
          refine ⟨lo + n, (l1 ++ [(u1, u2, power' a₀.size (2 * s1 + n1') (2 * s1 + n1' + n1' + n) a₀.size)]) ++ [(lo, n, 0)], rfl, by omega, n2, ⟨B4.perm, B4.kd, B4.fl⟩, ?_, Runs.app.mpr ⟨lo, runs_pow R4, rfl, n1, s4, rfl⟩⟩
          show ((pendingOf st4).modify ((pendingOf st4).size - 1) _).push (lo, n, 0) = _
          rw [p4]
          simp only [List.modify_toArray, List.push_toArray, List.size_toArray]
          congr 2
          rw [List.length_append, List.length_singleton, Nat.add_sub_cancel]
          exact mod_last l1 _ _
    · rw [if_neg c2]
      have s3 := s2
      have n1 := m1
      have n2 : lo + m ≤ a₀.size := by omega
      have p3 : pendingOf st2 = pl.toArray := by rw [p2, hp]
      have B3 := B2
      have R3 := R2
      clear p2 o2 B2 R2 s2 m1 m2 c2
      revert s3 n1 n2
      generalize m = n
      intro s3 n1 n2
      revert p3 B3 R3 s3
      generalize st2 = st3
      intro p3 B3 R3 s3
      refine wpS_bind (wpS_get ?_)
      cases hb : (pendingOf st3).back? with
      | none =>
        dsimp only
        refine wpS_bind (wpS_modify (wpS_pure ⟨lo + n, pl ++ [(lo, n, 0)], rfl, by omega, n2, ⟨B3.perm, B3.kd, B3.fl⟩, ?_, Runs.app.mpr ⟨lo, R3, rfl, n1, s3, rfl⟩⟩))
        show (pendingOf st3).push (lo, n, 0) = _
        rw [p3]; simp
      | some q =>
        obtain ⟨s1, n1', p1⟩ := q
        dsimp only
        have hne : pl ≠ [] := fun e => by subst e; rw [p3] at hb; simp at hb
        refine wpS_bind (wpS_mono (wpS_forRange (I := fun _ c st4 => c = (none, ()) ∧ ∃ pl, pl ≠ [] ∧ SB kd a₀ st4 ∧ Sg less (arrOf st4) lo (lo + n) ∧ pendingOf st4 = pl.toArray ∧ Runs less (arrOf st4) pl 0 lo)
          (Q := fun c st4 => c = (none, ()) ∧ ∃ pl, pl ≠ [] ∧ SB kd a₀ st4 ∧ Sg less (arrOf st4) lo (lo + n) ∧ pendingOf st4 = pl.toArray ∧ Runs less (arrOf st4) pl 0 lo) ?_ (fun c st4 h => h) ⟨rfl, pl, hne, B3, s3, p3, R3⟩) ?_)
        · rintro y c st4 _ hy ⟨rfl, pl4, ne4, B4, s4, p4, R4⟩
          refine wpS_bind (wpS_get ?_)
          by_cases c2 : (pendingOf st4).size > 1
          · rw [if_pos c2]
            have hl : 2 ≤ pl4.length := by rw [p4] at c2; simp at c2; omega
            obtain ⟨l1, u, v, e4⟩ := two_of hl
            have e5 : (pendingOf st4).size - 2 = l1.length := by rw [p4, e4]; simp
            have e6 : (pendingOf st4)[(pendingOf st4).size - 2]? = some u := by rw [e5, p4, e4]; simp
            rw [e6]
            obtain ⟨u1, u2, u3⟩ := u
            dsimp only
            split
            · exact wpS_pure ⟨rfl, pl4, ne4, B4, s4, p4, R4⟩
            · subst e4
              refine wpS_bind (wp_mR O L (l2 := []) B4 p4 e5 (by omega) R4 fun st5 z B5 p5 R5 o5 => ?_)
              simp only [Bool.not_true, Bool.false_eq_true, if_false]
              exact wpS_pure ⟨rfl, _, by simp, B5, sg_out o5 (.inr (Nat.le_refl _)) s4, p5, R5⟩
          · rw [if_neg c2]
            exact wpS_pure ⟨rfl, pl4, ne4, B4, s4, p4, R4⟩
        · rintro c st4 ⟨rfl, pl4, ne4, B4, s4, p4, R4⟩
          dsimp only
          refine wpS_bind (wpS_modify (wpS_bind (wpS_modify (wpS_pure ?_))))
          obtain ⟨l1, ⟨u1, u2, u3⟩, rfl⟩ := snoc_of ne4
          refine ⟨lo + n, (l1 ++ [(u1, u2, power' a₀.size (2 * s1 + n1') (2 * s1 + n1' + n1' + n) a₀.size)]) ++ [(lo, n, 0)], rfl, by omega, n2, ⟨B4.perm, B4.kd, B4.fl⟩, ?_, Runs.app.mpr ⟨lo, runs_pow R4, rfl, n1, s4, rfl⟩⟩
          show ((pendingOf st4).modify ((pendingOf st4).size - 1) _).push (lo, n, 0) = _
          rw [p4]
          simp only [List.modify_toArray, List.push_toArray, List.size_toArray]
          congr 2
          rw [List.length_append, List.length_singleton, Nat.add_sub_cancel]
          exact mod_last l1 _ _
  case post =>
    rintro c st' ⟨pl, rfl, B', hp, R⟩
    dsimp only
    have hle := R.le
    refine wpS_bind (wpS_mono (wpS_forRange (I := fun x c st4 => c = (none, ()) ∧ ∃ pl, SB kd a₀ st4 ∧ pendingOf st4 = pl.toArray ∧ Runs less (arrOf st4) pl 0 a₀.size ∧ (pl.length ≤ 1 ∨ pl.length + x ≤ a₀.size))
      (Q := fun c st4 => c = (none, ()) ∧ ∃ pl, SB kd a₀ st4 ∧ Runs less (arrOf st4) pl 0 a₀.size ∧ pl.length ≤ 1) ?_ ?_ ⟨rfl, pl, B', hp, R, .inr (by omega)⟩) ?_)
    · rintro x c st4 _ hx ⟨rfl, pl4, B4, p4, R4, hl⟩
      refine wpS_bind (wpS_get ?_)
      have esz : (pendingOf st4).size = pl4.length := by rw [p4]; simp
      by_cases c1 : (pendingOf st4).size ≤ 1
      · rw [if_pos c1]
        exact wpS_pure ⟨rfl, pl4, B4, R4, by omega⟩
      · rw [if_neg c1]
        generalize hcond : Option.any _ _ = cnd
        have mk : ∀ k, k + 2 ≤ pl4.length → ∀ (Q' : ForInStep (Option Unit × Unit) → SortSt → Prop), (∀ st' pl, SB kd a₀ st' → pendingOf st' = pl.toArray → Runs less (arrOf st') pl 0 a₀.size → (pl.length ≤ 1 ∨ pl.length + (x + 1) ≤ a₀.size) → Q' (.yield (none, ())) st') →
            wpS (model prog w) A E s (do
            let b ← mergeAt' k
            if (!b) = true then pure (ForInStep.done ((some (), ()) : Option Unit × Unit)) else pure (ForInStep.yield (none, ()))) Q' st4 := by
          intro k hk Q' hQ
          have e := List.take_append_drop k pl4
          rw [List.drop_eq_getElem_cons (by omega), List.drop_eq_getElem_cons (by omega)] at e
          have hk' : (pl4.take k).length = k := by rw [List.length_take]; omega
          rw [← e] at p4 R4
          refine wpS_bind (wp_mR O L B4 p4 hk'.symm (Nat.le_refl _) R4 fun st5 z B5 p5 R5 o5 => ?_)
          simp only [Bool.not_true, Bool.false_eq_true, if_false]
          refine wpS_pure (hQ _ _ B5 p5 R5 (.inr ?_))
          rw [List.length_append, hk', List.length_cons, List.length_drop]
          omega
        cases cnd with
        | true =>
          simp only [if_true]
          exact mk ((pendingOf st4).size - 2 - 1) (by omega) _ fun st' pl b1 b2 b3 b4 => ⟨rfl, pl, b1, b2, b3, b4⟩
        | false =>
          simp only [Bool.false_eq_true, if_false]
          exact mk ((pendingOf st4).size - 2) (by omega) _ fun st' pl b1 b2 b3 b4 => ⟨rfl, pl, b1, b2, b3, b4⟩
    · rintro c st4 ⟨rfl, pl4, B4, p4, R4, hl⟩
      exact ⟨rfl, pl4, B4, R4, by omega⟩
    · rintro c st4 ⟨rfl, pl4, B4, R4, hl⟩
      refine wpS_pure (h _ B4.perm B4.fl ?_)
      match pl4, R4, hl with
      | [], R4, _ => exact absurd R4 (by show ¬ (0 = a₀.size); omega)
      | [(u1, u2, u3)], ⟨_, _, h3, h4⟩, _ =>
        have h4 : 0 + u2 = a₀.size := h4
        rw [h4] at h3
        exact h3
      | _ :: _ :: _, _, hl => simp at hl
end
end TS
namespace TS
open PySem PyProof.Rows
def midH (h : Heap) (a : Addr) (vs : List Value) : Heap := ((h.update a (Obj.mapSeq fun _ => #[])).push (seqObj "tuple" vs.toArray 0)).push (seqObj "list" #[] 0)
theorem midH_at {h : Heap} {a : Addr} {vs : List Value} {n : Nat} (ho : h.get? a = some (seqObj "list" vs.toArray n)) : (midH h a vs).get? a = some (seqObj "list" #[] (if ((#[] : Array Value)).size == vs.toArray.size then n else n + 1)) := by
  have ha := Heap.lt_size ho
  unfold midH
  rw [Heap.get?_push_ne _ _ _ (by rw [size_push', Heap.size_update]; exact Nat.ne_of_lt (Nat.lt_succ_of_lt ha)), Heap.get?_push_ne _ _ _ (by rw [Heap.size_update]; exact Nat.ne_of_lt ha)]
  exact get?_update_seq ho (fun _ => #[])
section
variable {prog : Program} {w : World} {A : Around} {E : Value → Shared → Prop} {s : Shared}
theorem sort_any {a : Addr} {vs : List Value} {n : Nat} {P : Fin → Shared → Prop} {kd : SortKind} {less : Keyed → Keyed → Bool} (O : Ord less) (ho : s.heap.get? a = some (seqObj "list" vs.toArray n)) (hsz : vs.length ≤ sizeLine)
    (hk : 2 ≤ vs.length → ∀ (Q : SortKind → Shared → Prop), Q kd { s with heap := midH s.heap a vs } → wpAny (model prog w) A (keyKind' vs.toArray) Q E { s with heap := midH s.heap a vs })
    (L : LtOk prog w A E { s with heap := midH s.heap a vs } kd (pairsOf vs) less)
    (h : ∀ (us : List Value), us.Perm vs → us.Pairwise (fun x y => less (y, y) (x, x) = false) → P (.done (.ret .none)) { s with heap := sortedHeap s.heap a vs us.toArray }) :
    wpAny (model prog w) A (Builtin.«list.sort» ⟨[.ref a], []⟩) P E s := by
  rw [list_sort_plain]
  refine wpAny_bind (listItems_at ho rfl ?_)
  refine wpAny_bind (listUpdate_at ho rfl ?_ (hsz := by simpa using hsz))
  refine wpAny_bind (seqEpoch_at (get?_update_seq ho (fun _ => #[])) rfl ?_)
  refine wpAny_bind (wpAny_newTuple ?_)
  refine wpAny_bind (wpAny_newList ?_)
  refine wpAny_holding ?_
  have ho6 := midH_at ho
  show wpAny (model prog w) A _ P E { s with heap := midH s.heap a vs }
  dsimp only
  have fin : ∀ xs : Array Keyed, xs.Perm (pairsOf vs) → Sg less xs 0 (pairsOf vs).size →
      P (.done (.ret .none)) { s with heap := sortedHeap s.heap a vs (xs.map (·.2)) } := by
    intro xs hp hs
    have hl : xs.toList.Perm (vs.zip vs) := by rw [← pairsOf_toList]; exact Array.perm_iff_toList_perm.mp hp
    have hmem : ∀ p, p ∈ xs.toList → p.1 = p.2 ∧ p.1 ∈ vs := fun p hp' => mem_zip_self (hl.mem_iff.mp hp')
    have := h (xs.toList.map (·.2)) ?_ ?_
    · have e : (xs.toList.map (·.2)).toArray = xs.map (·.2) := by
        apply Array.toList_inj.mp; simp
      rwa [e] at this
    · have h1 := hl.map (fun p : Keyed => p.2)
      rwa [List.map_snd_zip (Nat.le_refl _)] at h1
    · rw [List.pairwise_iff_getElem]
      intro i j hi hj hij
      have hi' : i < xs.size := by simpa using hi
      have hj' : j < xs.size := by simpa using hj
      have h1 := hs i j (Nat.zero_le _) (Nat.le_of_lt hij) (by rw [← hp.size_eq]; exact hj')
      have e1 : ath xs i = ((xs.toList.map (·.2))[i], (xs.toList.map (·.2))[i]) := by
        rw [List.getElem_map]
        have hm := ath_mem hi'
        have e := ath_list hi'
        rw [List.getElem?_eq_getElem (by simpa using hi')] at e
        have e := Option.some.inj e
        rw [e]
        exact Prod.ext (hmem _ hm).1 rfl
      have e2 : ath xs j = ((xs.toList.map (·.2))[j], (xs.toList.map (·.2))[j]) := by
        rw [List.getElem_map]
        have hm := ath_mem hj'
        have e := ath_list hj'
        rw [List.getElem?_eq_getElem (by simpa using hj')] at e
        have e := Option.some.inj e
        rw [e]
        exact Prod.ext (hmem _ hm).1 rfl
      rw [e1, e2] at h1
      exact h1
  have hsz' : vs.toArray.size = vs.length := by simp
  by_cases h2 : vs.toArray.size < 2
  · rw [if_pos h2, if_pos h2]
    refine wpAny_bind (wpAny_pure ?_)
    rw [StateT.run_pure]
    refine wpAny_bind (wpAny_pure ?_)
    dsimp only
    refine wpAny_bind (seqEpoch_at ho6 rfl ?_)
    refine wpAny_bind (listUpdate_at ho6 rfl ?_ (hsz2 := by rw [Array.size_map]; show (pairsOf vs).size ≤ _; rw [pairsOf_size]; omega))
    simp only [bne_self_eq_false, Bool.false_eq_true, if_false]
    refine wpAny_pure (fin (pairsOf vs) (Array.Perm.refl _) ?_)
    intro i j _ hij hj
    have : i = j := by rw [pairsOf_size] at hj; omega
    subst this; exact O.refl _
  · rw [if_neg h2, if_neg h2]
    refine wpAny_bind (hk (by omega) _ ?_)
    refine wpAny_bind (wpAny_mono (wp_sort O L (st := SortSt.mk' kd (vs.toArray.zip vs.toArray) #[] 7 none)
      (Q := fun _ st' => (arrOf st').Perm (pairsOf vs) ∧ failedOf st' = none ∧ Sg less (arrOf st') 0 (pairsOf vs).size)
      ⟨Array.Perm.refl _, rfl, rfl⟩ rfl (by rw [pairsOf_size]; omega) fun st' a1 a2 a3 => ⟨a1, a2, a3⟩) ?_ fun _ _ e => e)
    rintro ⟨⟨⟩, st'⟩ s' ⟨rfl, hp, hf, hs⟩
    dsimp only
    refine wpAny_bind (seqEpoch_at ho6 rfl ?_)
    refine wpAny_bind (listUpdate_at ho6 rfl ?_ (hsz2 := by refine Nat.le_trans (Nat.le_of_eq ((Array.size_map ..).trans (hp.size_eq.trans (pairsOf_size _)))) ?_; omega))
    rw [hf]
    simp only [bne_self_eq_false, Bool.false_eq_true, if_false]
    exact wpAny_pure (fin _ hp hs)
def lessI (x y : Keyed) : Bool := decide (numOf x.1 < numOf y.1)
theorem ordI : Ord lessI := by
  refine ⟨fun x y h => ?_, fun x y z h1 h2 => ?_⟩
  · unfold lessI at *
    rw [decide_eq_true_eq] at h
    exact decide_eq_false (by omega)
  · unfold LE lessI at *
    rw [decide_eq_false_iff_not] at *
    omega
theorem ltI {a₀ : Array Keyed} (h0 : IntKeys a₀) : LtOk prog w A E s oneType' a₀ lessI := by
  intro x y st Q hx hy hk hq
  obtain ⟨n, t, e1⟩ := h0 x hx
  obtain ⟨m, u, e2⟩ := h0 y hy
  rw [lt'_eq]
  refine wpS_bind (wpS_get ?_)
  rw [hk, keyLt'_oneType, e1, e2]
  refine wpS_bind (wpS_lift (wpAny_attempt (oneLt_int ⟨rfl, ?_⟩)))
  have e : lessI x y = decide (n < m) := by unfold lessI; rw [e1, e2]; rfl
  rw [e] at hq
  exact wpS_pure hq
theorem sort_ints {a : Addr} {vs : List Value} {ns : List Int} {n : Nat} {P : Fin → Shared → Prop} (ho : s.heap.get? a = some (seqObj "list" vs.toArray n))
    (hI : IntsAre vs ns) (hsz : vs.length ≤ sizeLine)
    (h : ∀ (out : Array Value) (ns' : List Int), IntsAre out.toList ns' → ns'.Perm ns → ns'.Pairwise (· ≤ ·) → P (.done (.ret .none)) { s with heap := sortedHeap s.heap a vs out }) :
    wpAny (model prog w) A (Builtin.«list.sort» ⟨[.ref a], []⟩) P E s := by
  refine sort_any ordI ho hsz (kd := oneType') (fun h2 Q hq => ?_) (ltI hI.intKeys) fun us hp hs => ?_
  · obtain ⟨v₁, v₂, rest, rfl⟩ : ∃ v₁ v₂ rest, vs = v₁ :: v₂ :: rest := by
      match vs, h2 with
      | [], h2 => simp at h2
      | [_], h2 => simp at h2
      | v₁ :: v₂ :: rest, _ => exact ⟨v₁, v₂, rest, rfl⟩
    rw [keyKind_ints hI]
    exact wpAny_pure hq
  · have hall : ∀ v, v ∈ us → ∃ n t, v = .int n t := fun v hv => hI.all v (hp.mem_iff.mp hv)
    refine h us.toArray (us.map numOf) (by simpa using intsAre_map us hall) ?_ ?_
    · have := hp.map numOf
      rwa [hI.nums] at this
    · rw [List.pairwise_map]
      refine hs.imp fun {x y} e => ?_
      unfold lessI at e
      rw [decide_eq_false_iff_not] at e
      simp only at e
      omega
end
end TS
namespace L2
open PySem PySem.Spec PyProof.Rows
abbrev Key := Sum Int Str
def keyIs : Key → Value → Bool
  | .inl k, v => Value.isInt k v
  | .inr x, v => Value.isStrOf x v
def keyH (w : World) : Key → Int
  | .inl k => hashInt k
  | .inr x => hashStr w x
theorem keyIs_shape : ∀ {k : Key} {v : Value}, keyIs k v = true → (∃ i t, k = Sum.inl i ∧ v = Value.int i t) ∨ (∃ x t, k = Sum.inr x ∧ v = Value.str x t)
  | .inl i, v, h => by
    obtain ⟨t, e⟩ := Value.isInt_shape (k := i) (v := v) h
    exact .inl ⟨i, t, rfl, e⟩
  | .inr x, v, h => by
    obtain ⟨t, e⟩ := Value.isStrOf_shape (x := x) (v := v) h
    exact .inr ⟨x, t, rfl, e⟩
theorem keyIs_int (i : Int) (t : Tok) : keyIs (.inl i) (.int i t) = true := by simp [keyIs, Value.isInt]
theorem keyIs_str (x : Str) (t : Tok) : keyIs (.inr x) (.str x t) = true := by simp [keyIs, Value.isStrOf]
theorem key_ll (a b : Int) : decide ((Sum.inl a : Key) = Sum.inl b) = (a == b) := by
  by_cases e : a = b
  · subst e; simp
  · have h : ¬ (Sum.inl a : Key) = Sum.inl b := fun q => e (Sum.inl.inj q)
    rw [decide_eq_false h]
    exact (beq_eq_false_iff_ne.mpr e).symm
theorem key_rr (a b : Str) : decide ((Sum.inr a : Key) = Sum.inr b) = decide (a = b) := by
  by_cases e : a = b
  · subst e; simp
  · have h : ¬ (Sum.inr a : Key) = Sum.inr b := fun q => e (Sum.inr.inj q)
    rw [decide_eq_false h, decide_eq_false e]
theorem key_lr (a : Int) (b : Str) : decide ((Sum.inl a : Key) = Sum.inr b) = false := decide_eq_false (fun q => nomatch q)
theorem key_rl (a : Str) (b : Int) : decide ((Sum.inr a : Key) = Sum.inl b) = false := decide_eq_false (fun q => nomatch q)
def mixKind (prog : Program) (w : World) : PySem.KeyKind prog w Key where
  is := keyIs
  hash := keyH w
  inj := fun v a b ha hb => by
    rcases keyIs_shape ha with ⟨i, t, rfl, rfl⟩ | ⟨x, t, rfl, rfl⟩
    · rcases keyIs_shape hb with ⟨j, u, rfl, e⟩ | ⟨y, u, rfl, e⟩
      · injection e with e1 _; rw [e1]
      · exact nomatch e
    · rcases keyIs_shape hb with ⟨j, u, rfl, e⟩ | ⟨y, u, rfl, e⟩
      · exact nomatch e
      · injection e with e1 _; rw [e1]
  byValue := fun k v h => by
    rcases keyIs_shape h with ⟨i, t, rfl, rfl⟩ | ⟨x, t, rfl, rfl⟩ <;> rfl
  pyHash := fun hv h => by
    rcases keyIs_shape hv with ⟨i, t, rfl, rfl⟩ | ⟨x, t, rfl, rfl⟩
    · exact wpAny_pyHash_int h
    · exact wpAny_pyHash_str h
  eqBool := fun hu hv h => by
    rcases keyIs_shape hu with ⟨i, t, rfl, rfl⟩ | ⟨x, t, rfl, rfl⟩
    · rcases keyIs_shape hv with ⟨j, u, rfl, rfl⟩ | ⟨y, u, rfl, rfl⟩
      · rw [key_ll] at h; exact wpAny_eqBool_int h
      · rw [key_lr] at h; exact SeqAt.EqAt.int_str i t y u _ _ _ _ h
    · rcases keyIs_shape hv with ⟨j, u, rfl, rfl⟩ | ⟨y, u, rfl, rfl⟩
      · rw [key_rl] at h; exact SeqAt.EqAt.str_int x t j u _ _ _ _ h
      · rw [key_rr] at h; exact wpAny_eqBool_str h
  «strs» := fun k x t v h => by
    rcases keyIs_shape h with ⟨i, u, rfl, e⟩ | ⟨y, u, rfl, e⟩
    · exact nomatch e
    · injection e with e1 _
      subst e1
      cases v <;> rfl
theorem mixKind_int (prog : Program) (w : World) (i : Int) (t : Tok) : (mixKind prog w).is (.inl i) (.int i t) = true := keyIs_int i t
theorem mixKind_str (prog : Program) (w : World) (x : Str) (t : Tok) : (mixKind prog w).is (.inr x) (.str x t) = true := keyIs_str x t
end L2
namespace L2
open PySem PySem.Spec PyProof.Rows
inductive V where
  | non | bl (b : Bool) | int (i : Int) | str (x : Str) | byt (b : Array UInt8) | flt (b : UInt64) | ref (a : Addr) | ty (n : String)
  deriving DecidableEq
def RelV : V → Value → Prop
  | .non, u => u = Value.none
  | .bl b, u => u = Value.bool b
  | .int i, u => ∃ t, u = Value.int i t
  | .str x, u => ∃ t, u = Value.str x t
  | .byt b, u => ∃ t, u = Value.bytes b t
  | .flt b, u => ∃ t, u = Value.float b t
  | .ref a, u => u = Value.ref a
  | .ty n, u => u = Value.type n
abbrev Vals : List V → List Value → Prop := Paired RelV
theorem Vals.length {xs : List V} {us : List Value} (r : Vals xs us) : xs.length = us.length := Paired.length r
theorem Vals.get : ∀ {xs : List V} {us : List Value} {i : Nat} {x : V}, Vals xs us → xs[i]? = some x → ∃ u, us[i]? = some u ∧ RelV x u
  | _, _, _, _, .nil, e => by simp at e
  | _, _, 0, _, .cons r _, e => by simp at e; subst e; exact ⟨_, rfl, r⟩
  | _, _, i + 1, x, .cons _ t, e => by
    obtain ⟨u, h1, h2⟩ := Vals.get (i := i) (x := x) t (by simpa using e)
    exact ⟨u, by simpa using h1, h2⟩
theorem Vals.set {x : V} {u : Value} (r : RelV x u) : ∀ {xs : List V} {us : List Value} (i : Nat), Vals xs us → Vals (xs.set i x) (us.set i u)
  | _, _, _, .nil => .nil
  | _, _, 0, .cons _ t => .cons r t
  | _, _, i + 1, .cons q t => .cons q (Vals.set r i t)
theorem Vals.append : ∀ {xs ys : List V} {us ws : List Value}, Vals xs us → Vals ys ws → Vals (xs ++ ys) (us ++ ws)
  | _, _, _, _, .nil, s => s
  | _, _, _, _, .cons r t, s => .cons r (Vals.append t s)
theorem Vals.take : ∀ {xs : List V} {us : List Value} (n : Nat), Vals xs us → Vals (xs.take n) (us.take n)
  | _, _, 0, _ => .nil
  | _, _, _ + 1, .nil => .nil
  | _, _, n + 1, .cons r t => .cons r (Vals.take n t)
theorem Vals.drop : ∀ {xs : List V} {us : List Value} (n : Nat), Vals xs us → Vals (xs.drop n) (us.drop n)
  | _, _, 0, r => r
  | _, _, _ + 1, .nil => .nil
  | _, _, n + 1, .cons _ t => Vals.drop n t
def RelO : Option V → Option Value → Prop
  | some v, some u => RelV v u
  | none, none => True
  | _, _ => False
def KV {κ : Type} : List (κ × V) → List (κ × Value) → Prop := Paired fun (p : κ × V) (q : κ × Value) => p.1 = q.1 ∧ RelV p.2 q.2
def kV : Key → V
  | .inl i => .int i
  | .inr x => .str x
inductive HO where
  /-- a list -/
  | lst (xs : List V)
  /-- a tuple (never changes) -/
  | tup (xs : List V)
  /-- a dict whose keys are ints and texts; one whose keys are tuples of ints and texts (the empty one is both) -/
  | dK (kvs : List (Key × V)) | dT (kvs : List (List Key × V))
  /-- a set of ints: its members, its size -/
  | set (S : Int → Bool) (n : Nat)
  /-- an instance of the class at C, its dict at dx, its attributes -/
  | ins (C dx : Addr) (fs : List (Str × V))
  /-- the dict of the instance at x -/
  | own (x : Addr)
  /-- the dict of an exception -/
  | xd (fs : List (Str × V))
  /-- a bound method, f of x -/
  | met (f x : Addr)
  /-- a range object lo, lo + 1, .. below hi -/
  | rng (lo hi : Int)
  /-- a thing that is known to the object (the script; a dict while a loop walks it): read, never written while it is so -/
  | frz (o : Obj) (u : HO)
  /-- a code object's table -/
  | tbl (ps : Array Value)
  /-- any other thing, by what is true of its one object (a def of one's own: SetO a S n := HO.ext fun h => ..) -/
  | ext (φ : Heap → Prop)
abbrev Hp := Addr → Option HO
def upd (H : Hp) (a : Addr) (o : HO) : Hp := fun b => if b = a then some o else H b
theorem upd_same {H : Hp} {a : Addr} {o : HO} : upd H a o a = some o := by unfold upd; rw [if_pos rfl]
theorem upd_ne {H : Hp} {a b : Addr} {o : HO} (h : b ≠ a) : upd H a o b = H b := by unfold upd; rw [if_neg h]
theorem ne_of {H : Hp} {a b : Addr} {o u : HO} (h : H a = some o) (h' : H b = some u) (d : o ≠ u) : a ≠ b := by
  intro e; subst e; rw [h] at h'; exact d (Option.some.inj h')
theorem ne_of_none {H : Hp} {a b : Addr} {o : HO} (h : H a = some o) (h' : H b = none) : a ≠ b := by
  intro e; subst e; rw [h] at h'; cases h'
section
variable (P : Program) (w : World)
def ObjOk (H : Hp) (h : Heap) (a : Addr) : HO → Prop
  | .lst xs => xs.length ≤ sizeLine ∧ ∃ (its : List Value) (n : Nat), Vals xs its ∧ h.get? a = some { cls := .type "list", data := .seq its.toArray n }
  | .tup xs => xs.length ≤ sizeLine ∧ ∃ its : List Value, Vals xs its ∧ IsTup h a its.toArray
  | .dK kvs => kvs.length ≤ sizeLine ∧ (a == sysModules) = false ∧ ∃ vs, KV kvs vs ∧ h.DictOf (mixKind P w) a vs
  | .dT kvs => kvs.length ≤ sizeLine ∧ (a == sysModules) = false ∧ ∃ xs : List (List Key × Addr × Value),
      Paired (fun (p : List Key × V) (q : List Key × Addr × Value) => p.1 = q.1 ∧ H q.2.1 = some (.tup (p.1.map kV)) ∧ RelV p.2 q.2.2) kvs xs ∧
      ∃ o es ep, h.get? a = some o ∧ o.ExactDict ∧ o.data = .dict es ep ∧ es.toList = xs.map (entryOfKey (tupleKind (mixKind P w))) ∧ (xs.map (·.1)).Nodup
  | .set S n => h.SetOf (intKind P w) a S n
  | .ins C dx fs => H dx = some (.own a) ∧ fs.length ≤ 1000 ∧ dx ≠ a ∧ h.get? a = some (PySem.W.instObj C dx) ∧
      ∃ mA, h.Ns1 dx mA ∧ (∀ f, RelO (fs.lookup f) (mA f)) ∧ PySem.Within mA (fs.map (·.1))
  | .own _ => ∃ o, h.get? a = some o
  | .xd fs => ∃ mA, h.Ns1 a mA ∧ ∀ f, RelO (fs.lookup f) (mA f)
  | .rng lo hi => ∃ t u v, h.get? a = some { cls := .type "range", data := .fields #[.int lo t, .int hi u, .int 1 v] }
  | .frz o u => h.get? a = some o ∧ ObjOk H h a u
  | .tbl ps => h.get? a = some { cls := .none, data := .fields ps }
  | .met f x => h.get? a = some (PySem.W.methodObj (.ref f) (.ref x))
  | .ext φ => φ h ∧ (∃ o, h.get? a = some o) ∧ ∀ h1 h2 : Heap, φ h1 → (∀ o, h1.get? a = some o → h2.get? a = some o) → φ h2
def HOk (H : Hp) (h : Heap) : Prop := ∀ a o, H a = some o → ObjOk P w H h a o
end
section
variable {P : Program} {w : World} {H H' : Hp} {h h' : Heap} {a : Addr} {o : HO}
theorem ObjOk.lt (x : ObjOk P w H h a o) : a < h.objs.size := by
  cases o with
  | lst xs => obtain ⟨_, _, _, _, e⟩ := x; exact Heap.lt_size e
  | tup xs => obtain ⟨_, _, _, p⟩ := x; exact p.lt
  | dK kvs => obtain ⟨_, _, _, _, o, _, _, e, _⟩ := x; exact Heap.lt_size e
  | dT kvs => obtain ⟨_, _, _, _, o, _, _, e, _⟩ := x; exact Heap.lt_size e
  | set S n => obtain ⟨o, _, _, _, e, _⟩ := x; exact Heap.lt_size e
  | ins C dx fs => obtain ⟨_, _, _, e, _⟩ := x; exact Heap.lt_size e
  | own y => obtain ⟨_, e⟩ := x; exact Heap.lt_size e
  | xd fs => obtain ⟨_, ⟨_, _, _, e, _⟩, _⟩ := x; exact Heap.lt_size e
  | rng lo hi => obtain ⟨_, _, _, e⟩ := x; exact Heap.lt_size e
  | frz ob u => obtain ⟨e, _⟩ := x; exact Heap.lt_size e
  | tbl ps => exact Heap.lt_size (show h.get? a = some _ from x)
  | met f y => exact Heap.lt_size (show h.get? a = some _ from x)
  | ext φ => obtain ⟨_, ⟨_, e⟩, _⟩ := x; exact Heap.lt_size e
theorem Paired.mapP {α β : Type} {F G : α → β → Prop} : ∀ {l₁ : List α} {l₂ : List β}, Paired F l₁ l₂ → (∀ a b, F a b → G a b) → Paired G l₁ l₂
  | _, _, .nil, _ => .nil
  | _, _, .cons r t, f => .cons (f _ _ r) (Paired.mapP t f)
theorem ObjOk.stay (x : ObjOk P w H h a o) (k : ∀ b u, (b = a ∨ H b = some (.own a)) → h.get? b = some u → h'.get? b = some u)
    (ho : ∀ b, H b = some (.own a) → H' b = some (.own a)) (ht : ∀ b xs, H b = some (.tup xs) → H' b = some (.tup xs)) : ObjOk P w H' h' a o := by
  induction o with
  | lst xs => obtain ⟨z, its, n, r, e⟩ := x; exact ⟨z, its, n, r, k _ _ (.inl rfl) e⟩
  | tup xs => obtain ⟨z, its, r, ob, e, c⟩ := x; exact ⟨z, its, r, ob, k _ _ (.inl rfl) e, c⟩
  | dK kvs => obtain ⟨z, y, vs, r, ob, es, ep, e, c⟩ := x; exact ⟨z, y, vs, r, ob, es, ep, k _ _ (.inl rfl) e, c⟩
  | dT kvs =>
    obtain ⟨z, y, xs, r, ob, es, ep, e, c⟩ := x
    exact ⟨z, y, xs, Paired.mapP r fun p q z => ⟨z.1, ht _ _ z.2.1, z.2.2⟩, ob, es, ep, k _ _ (.inl rfl) e, c⟩
  | set S n => obtain ⟨ob, es, ep, t, e, c⟩ := x; exact ⟨ob, es, ep, t, k _ _ (.inl rfl) e, c⟩
  | ins C dx fs =>
    obtain ⟨d, z, ne, e, mA, ⟨od, es, ep, e2, c⟩, r⟩ := x
    exact ⟨ho _ d, z, ne, k _ _ (.inl rfl) e, mA, ⟨od, es, ep, k _ _ (.inr d) e2, c⟩, r⟩
  | own y => obtain ⟨ob, e⟩ := x; exact ⟨ob, k _ _ (.inl rfl) e⟩
  | xd fs => obtain ⟨mA, ⟨od, es, ep, e, c⟩, r⟩ := x; exact ⟨mA, ⟨od, es, ep, k _ _ (.inl rfl) e, c⟩, r⟩
  | rng lo hi => obtain ⟨t, u, v, e⟩ := x; exact ⟨t, u, v, k _ _ (.inl rfl) e⟩
  | frz ob u ih => obtain ⟨e, q⟩ := x; exact ⟨k _ _ (.inl rfl) e, ih q⟩
  | tbl ps =>
    have e : h.get? a = some { cls := .none, data := .fields ps } := x
    show h'.get? a = some { cls := .none, data := .fields ps }
    exact k a _ (.inl rfl) e
  | met f y =>
    have e : h.get? a = some (PySem.W.methodObj (.ref f) (.ref y)) := x
    show h'.get? a = some (PySem.W.methodObj (.ref f) (.ref y))
    exact k a _ (.inl rfl) e
  | ext φ => obtain ⟨p, ⟨o, e⟩, st⟩ := x; exact ⟨st _ _ p fun o q => k _ _ (.inl rfl) q, ⟨o, k _ _ (.inl rfl) e⟩, st⟩
theorem HOk.lt (x : HOk P w H h) (e : H a = some o) : a < h.objs.size := (x a o e).lt
theorem HOk.fresh (x : HOk P w H h) (e : h.objs.size ≤ a) : H a = none := by
  cases q : H a with
  | none => rfl
  | some u => exact absurd (Nat.lt_of_lt_of_le (x.lt q) e) (Nat.lt_irrefl _)
theorem HOk.kept (x : HOk P w H h) (k : ∀ b u, h.get? b = some u → h'.get? b = some u) : HOk P w H h' := fun a o e =>
  (x a o e).stay (fun b u _ q => k b u q) (fun _ q => q) fun _ _ q => q
theorem HOk.laid (x : HOk P w H h) (k : ∀ b u, h.get? b = some u → h'.get? b = some u) (hp : h.objs.size ≤ a) (new : ObjOk P w (upd H a o) h' a o) : HOk P w (upd H a o) h' := fun b u e => by
  have hn := x.fresh hp
  by_cases hb : b = a
  · subst hb; rw [upd_same] at e; cases e; exact new
  · rw [upd_ne hb] at e
    exact (x b u e).stay (fun c v _ q => k c v q) (fun c q => by rw [upd_ne (ne_of_none q hn)]; exact q) fun c xs q => by rw [upd_ne (ne_of_none q hn)]; exact q
end
def Rd (H : Hp) (a : Addr) (u : HO) : Prop := H a = some u ∨ ∃ o, H a = some (.frz o u)
theorem Rd.ok {P : Program} {w : World} {H : Hp} {h : Heap} {a : Addr} {u : HO} (r : Rd H a u) (x : HOk P w H h) : ObjOk P w H h a u := by
  rcases r with r | ⟨o, r⟩
  · exact x a u r
  · obtain ⟨_, q⟩ := x a _ r
    exact q
def Mut : Option HO → Prop
  | some (.lst _) => True
  | some (.dK _) => True
  | some (.dT _) => True
  | some (.set _ _) => True
  | some (.ins _ _ _) => True
  | some (.ext _) => True
  | _ => False
section
variable {P : Program} {w : World} {H : Hp} {h h' : Heap} {x e : Addr} {o' : HO}
theorem HOk.write (ok : HOk P w H h) (mu : Mut (H x)) (he : e = x ∨ H e = some (.own x)) (k : ∀ b u, b ≠ e → h.get? b = some u → h'.get? b = some u) (heo : ∃ u, h'.get? e = some u)
    (new : ObjOk P w (upd H x o') h' x o') : HOk P w (upd H x o') h' := fun b u q => by
  have nown : ∀ c y, H c = some (.own y) → c ≠ x := fun c y r z => by subst z; rw [r] at mu; exact mu
  have ntup : ∀ c xs, H c = some (.tup xs) → c ≠ x := fun c xs r z => by subst z; rw [r] at mu; exact mu
  by_cases hb : b = x
  · subst hb; rw [upd_same] at q; cases q; exact new
  · rw [upd_ne hb] at q
    by_cases hbe : b = e
    · have q' : H b = some (.own x) := by
        rcases he with z | z
        · exact absurd (hbe.trans z) hb
        · rw [hbe]; exact z
      rw [q] at q'; cases q'
      obtain ⟨v, hv⟩ := heo
      exact ⟨v, by rw [hbe]; exact hv⟩
    · refine (ok b u q).stay (fun c v hc r => k c v ?_ r) (fun c r => by rw [upd_ne (nown c b r)]; exact r) fun c xs r => by rw [upd_ne (ntup c xs r)]; exact r
      rcases hc with rfl | hc
      · exact hbe
      · rintro rfl
        rcases he with z | z
        · exact nown c b hc z
        · rw [hc] at z; cases z; exact hb rfl
end
structure Un (fs ex : List Addr) (H H' : Hp) (h h' : Heap) : Prop where
  keep : ∀ b o, h.get? b = some o → H b = none → b ∉ fs → b ∉ ex → h'.get? b = some o
  slot : ∀ b o, h.get? b = some o → H b = none → b ∈ fs → b ∉ ex → ∃ sl, h'.get? b = some { o with slots := sl }
  free : ∀ b o, h.get? b = some o → H b = none → b ∉ ex → H' b = none
  there : ∀ b o, h.get? b = some o → b ∉ ex → ∃ o', h'.get? b = some o'
  tups : ∀ b xs, H b = some (.tup xs) → H' b = some (.tup xs)
  frzs : ∀ b o u, H b = some (.frz o u) → H' b = some (.frz o u)
  tbls : ∀ b ps, H b = some (.tbl ps) → ∃ more, H' b = some (.tbl (ps ++ more))
section
variable {fs fs' ex ex' : List Addr} {H H1 H2 : Hp} {h h1 h2 h' : Heap} {a x e : Addr} {o : HO}
theorem Un.any (u : Un fs ex H H1 h h1) {b : Addr} {ob : Obj} (q : h.get? b = some ob) (n : H b = none) (hx : b ∉ ex) : ∃ sl, h1.get? b = some { ob with slots := sl } := by
  by_cases hb : b ∈ fs
  · exact u.slot b ob q n hb hx
  · exact ⟨ob.slots, u.keep b ob q n hb hx⟩
theorem Un.kept (k : ∀ b u, h.get? b = some u → h'.get? b = some u) : Un fs ex H H h h' :=
  ⟨fun b ob q _ _ _ => k b ob q, fun b ob q _ _ _ => ⟨ob.slots, k b ob q⟩, fun _ _ _ n _ => n, fun b ob q _ => ⟨ob, k b ob q⟩, fun _ _ q => q, fun _ _ _ q => q, fun _ ps q => ⟨#[], by rw [q]; simp⟩⟩
theorem Un.refl : Un fs ex H H h h := Un.kept fun _ _ q => q
theorem Un.laid (k : ∀ b u, h.get? b = some u → h'.get? b = some u) (hp : h.objs.size ≤ a) (hn : H a = none) : Un fs ex H (upd H a o) h h' where
  keep := fun b u q _ _ _ => k b u q
  slot := fun b u q _ _ _ => ⟨u.slots, k b u q⟩
  free := fun b u q n _ => by rw [upd_ne (Nat.ne_of_lt (Nat.lt_of_lt_of_le (Heap.lt_size q) hp))]; exact n
  there := fun b u q _ => ⟨u, k b u q⟩
  tups := fun b xs q => by rw [upd_ne (ne_of_none q hn)]; exact q
  frzs := fun b u xs q => by rw [upd_ne (ne_of_none q hn)]; exact q
  tbls := fun b ps q => ⟨#[], by rw [upd_ne (ne_of_none q hn), q]; simp⟩
theorem Un.write (mu : Mut (H x)) (he : e = x ∨ H e = some (.own x)) (k : ∀ b u, b ≠ e → h.get? b = some u → h'.get? b = some u) (heo : ∃ u, h'.get? e = some u) : Un fs ex H (upd H x o) h h' := by
  have hx : ∀ b, H b = none → b ≠ x := fun b n z => by subst z; rw [n] at mu; exact mu
  have hb : ∀ b, H b = none → b ≠ e := fun b n z => by
    subst z
    rcases he with r | r
    · exact hx b n r
    · rw [n] at r; cases r
  have hm : ∀ b u, H b = some u → ¬ Mut (some u) → b ≠ x := fun b u q nm z => by subst z; rw [q] at mu; exact nm mu
  refine ⟨fun b u q n _ _ => k b u (hb b n) q, fun b u q n _ _ => ⟨u.slots, k b u (hb b n) q⟩, fun b u q n _ => by rw [upd_ne (hx b n)]; exact n, fun b u q _ => ?_,
    fun b xs q => by rw [upd_ne (hm b _ q fun z => z)]; exact q, fun b u xs q => by rw [upd_ne (hm b _ q fun z => z)]; exact q, fun b ps q => ⟨#[], by rw [upd_ne (hm b _ q fun z => z), q]; simp⟩⟩
  by_cases hbe : b = e
  · subst hbe; exact heo
  · exact ⟨u, k b u hbe q⟩
end
def trk (h : Heap) (H : Hp) : List Addr := (List.range h.objs.size).filter fun a => (H a).isSome
def hidT (h : Heap) (H : Hp) : Heap := PySem.W.hideAll h (trk h H)
theorem hidT_size (h : Heap) (H : Hp) : (hidT h H).objs.size = h.objs.size := PySem.W.hideAll_size _ _
theorem hidT_get {h : Heap} {H : Hp} {b : Addr} {o : Obj} (e : h.get? b = some o) (n : H b = none) : (hidT h H).get? b = some o :=
  PySem.W.hideAll_get _ e fun hm => by
    have q : (H b).isSome = true := (List.mem_filter.mp hm).2
    rw [n] at q; simp at q
theorem of_hidT {h : Heap} {H : Hp} {b : Addr} {o : Obj} (e : (hidT h H).get? b = some o) : h.get? b = some o ∧ H b = none := by
  have e' : h.get? b = some o := PySem.W.of_hideAll (trk h H) e
  refine ⟨e', ?_⟩
  cases q : H b with
  | none => rfl
  | some x =>
    have hm : b ∈ trk h H := List.mem_filter.mpr ⟨List.mem_range.mpr (Heap.lt_size e'), by simp [q]⟩
    have z : (hidT h H).get? b = none := PySem.W.hideAll_none (trk h H) hm
    rw [z] at e; cases e
def allNews (g h : Heap) (L : Addr) : List (Addr × Obj) := (List.range h.objs.size).filterMap fun a => if a = L ∨ (g.get? a).isSome = true then none else (h.get? a).map fun o => (a, o)
def rest (g h : Heap) (L d : Addr) : List (Addr × Obj) := (allNews g h L).filter fun p => decide (p.1 ≠ d)
end L2
namespace L2
open PySem PySem.Spec PyProof.Rows
structure Mod (K : PySem.W.Frag) (mg : Str → Option Value) (base : Heap) : Prop where
  kin : K.In base
  glob : base.Ns mainGlobals mg
  blt : ∃ mb, base.Ns builtinsNs mb ∧ ∀ x : Str, x ≠ "__name__" → mb x = bootBuiltins x
  nolimit : base.NoLimit
structure Cx where
  prog : Program
  w : World
  K : PySem.W.Frag
  mg : Str → Option Value
  base : Heap
  A : Around
  N : List Str
  s₀ : Shared
  H₀ : Hp
  env : Env
  outer : List Env
  stack : List Env
  ex : List Addr
  fn : Str → Bool
  calm : Bool
  pn : List (Addr × Obj)
  xe : Value → Shared → Prop
def frs (l : List Env) : List Addr := l.filterMap (·.frame)
abbrev Cx.fs (X : Cx) : List Addr := frs X.outer
def Vis (sc : Scope) (x : Str) : Prop := sc.names.lookup x = some .local ∨ sc.names.lookup x = some .cell ∨ sc.names.lookup x = some .free
def Loc (sc : Scope) (x : Str) : Prop := sc.names.lookup x = some .local ∨ sc.names.lookup x = some .cell
def Look (env : Env) (h : Heap) (m : Str → Option Value) (x : Str) (u : Value) : Prop :=
  (env.kindOf x = some .local ∧ m x = some u) ∨ ((env.kindOf x = some .cell ∨ env.kindOf x = some .free) ∧ ∃ c, env.cells.lookup x = some c ∧ h.IsCell c (some u))
structure Cx.Ok (X : Cx) : Prop where
  mod : Mod X.K X.mg X.base
  kind : X.env.scope.kind = .function
  glob : X.env.globals = mainGlobals
  blt : X.env.builtins = builtinsNs
  above : X.s₀.heap.objs.size ≤ X.env.locals
  inj : ∀ x y c, X.env.cells.lookup x = some c → X.env.cells.lookup y = some c → x = y
  has : ∀ x, (X.env.kindOf x = some .cell ∨ X.env.kindOf x = some .free) → ∃ c, X.env.cells.lookup x = some c
  cab : ∀ x c, X.fn x = true → X.env.cells.lookup x = some c → X.s₀.heap.objs.size ≤ c
  hd : X.calm = true → X.A.handled = none
  frames : X.A.frames = some X.stack
  stk : X.stack = X.outer ∨ (X.stack = X.env :: X.outer ∧ X.env.frame = some X.env.locals)
  exf : ∀ b ∈ X.ex, b ≠ X.env.locals ∧ ∀ x c, X.env.cells.lookup x = some c → c ≠ b
  bs : ∀ b o, X.base.get? b = some o → X.s₀.heap.get? b = some o ∧ X.H₀ b = none
  bsz : X.base.objs.size ≤ X.s₀.heap.objs.size
  noex : ∀ b o, X.base.get? b = some o → b ∉ X.ex
  exfs : ∀ b ∈ X.ex, b ∉ X.fs
  funs : X.s₀.heap.FunFrames X.base X.outer
  frf : ∀ b ∈ X.fs, X.H₀ b = none
structure Inv (X : Cx) (pins : List (Addr × Obj)) (σ : List (Option V)) (H : Hp) (s : Shared) : Prop where
  ok : X.Ok
  os : s.os = X.s₀.os
  bare : AllBare s.gens
  base : Un X.fs X.ex X.H₀ H X.s₀.heap s.heap
  loc : ∃ m, s.heap.Ns X.env.locals m ∧ ∀ (i : Nat) (x : Str) (v : V), X.N[i]? = some x → σ[i]? = some (some v) → Vis X.env.scope x → ∃ u, RelV v u ∧ Look X.env s.heap m x u
  cell : ∀ x c, X.env.cells.lookup x = some c → ∃ v, s.heap.IsCell c v
  free : H X.env.locals = none
  freeC : ∀ x c, X.env.cells.lookup x = some c → H c = none
  pin : ∀ p ∈ X.pn ++ pins, s.heap.get? p.1 = some p.2 ∧ H p.1 = none ∧ p.1 ≠ X.env.locals ∧ p.1 ∉ X.fs ∧ ∀ v, p.2.data ≠ .cell v
  hok : HOk X.prog X.w H s.heap
  len : σ.length = X.N.length
section
variable {X : Cx} {pins : List (Addr × Obj)} {σ : List (Option V)} {H H' : Hp} {s : Shared} {h' : Heap}
theorem Cx.Ok.nofr (ok : X.Ok) {b : Addr} {o : Obj} (e : X.base.get? b = some o) : b ∉ X.fs := fun hb => by
  have := (ok.funs.mem hb).1
  rw [e] at this; cases this
theorem Inv.bs (I : Inv X pins σ H s) : ∀ b o, X.base.get? b = some o → s.heap.get? b = some o ∧ H b = none := fun b o e =>
  ⟨I.base.keep b o (I.ok.bs b o e).1 (I.ok.bs b o e).2 (I.ok.nofr e) (I.ok.noex b o e), I.base.free b o (I.ok.bs b o e).1 (I.ok.bs b o e).2 (I.ok.noex b o e)⟩
theorem Inv.bk (I : Inv X pins σ H s) : ∀ b o, X.base.get? b = some o → s.heap.get? b = some o := fun b o e => (I.bs b o e).1
theorem Inv.mod (I : Inv X pins σ H s) : Mod X.K X.mg X.base := I.ok.mod
theorem Inv.kIn (I : Inv X pins σ H s) : X.K.In s.heap := I.ok.mod.kin.keeps I.bk
theorem Inv.fr (I : Inv X pins σ H s) : ∃ m, Fr X.base X.env.locals s.heap m :=
  let ⟨m, hn, _⟩ := I.loc
  ⟨m, hn, I.bk, Nat.le_trans I.ok.bsz I.ok.above⟩
theorem Inv.lt (I : Inv X pins σ H s) : X.env.locals < s.heap.objs.size := let ⟨_, hn, _⟩ := I.loc; hn.lt
theorem Inv.sz (I : Inv X pins σ H s) : X.s₀.heap.objs.size ≤ s.heap.objs.size := Nat.le_trans I.ok.above (Nat.le_of_lt I.lt)
theorem Inv.nofs (I : Inv X pins σ H s) {a : Addr} (h : s.heap.objs.size ≤ a) : a ∉ X.fs := fun hb => by
  obtain ⟨_, o, ho, _⟩ := I.ok.funs.mem hb
  exact absurd (Nat.lt_of_lt_of_le (Heap.lt_size ho) (Nat.le_trans I.sz h)) (Nat.lt_irrefl _)
theorem Inv.cne (I : Inv X pins σ H s) : ∀ x c, X.env.cells.lookup x = some c → c ≠ X.env.locals := fun x c e z => by
  obtain ⟨v, o, ho, hd⟩ := I.cell x c e
  obtain ⟨m, ⟨o', es, ep, ho', hd', _⟩, _⟩ := I.loc
  rw [z, ho'] at ho; cases ho; rw [hd'] at hd; cases hd
theorem Inv.funs (I : Inv X pins σ H s) : s.heap.FunFrames X.base X.outer := by
  have all : ∀ (l : List Env), (∀ b ∈ frs l, b ∈ X.fs) → X.s₀.heap.FunFrames X.base l → s.heap.FunFrames X.base l := by
    intro l
    induction l with
    | nil => intro _ _; trivial
    | cons env r ih =>
      intro hs hl
      obtain ⟨hk, ⟨L, o, hf, hn, ho, hd⟩, hr⟩ := hl
      have hL : L ∈ X.fs := hs L (by unfold frs; rw [List.filterMap_cons, hf]; exact List.mem_cons_self)
      obtain ⟨sl, e⟩ := I.base.slot L o ho (I.ok.frf L hL) hL fun z => I.ok.exfs L z hL
      exact ⟨hk, ⟨L, _, hf, hn, e, hd⟩, ih (fun b hb => hs b (by unfold frs; rw [List.filterMap_cons, hf]; exact List.mem_cons_of_mem _ hb)) hr⟩
  exact all X.outer (fun _ hb => hb) I.ok.funs
theorem Inv.stack (I : Inv X pins σ H s) : s.heap.FunFrames X.base X.stack := by
  rcases I.ok.stk with e | ⟨e, hf⟩
  · rw [e]; exact I.funs
  · rw [e]
    obtain ⟨m, hn, _⟩ := I.loc
    refine .cons (by rw [I.ok.kind]; decide) hf hn ?_ I.funs
    exact Heap.get?_none_of_le (Nat.le_trans I.ok.bsz I.ok.above)
theorem Inv.stkSub (I : Inv X pins σ H s) : ∀ b ∈ frs X.stack, b ∈ X.env.locals :: X.fs := fun b hb => by
  rcases I.ok.stk with e | ⟨e, hf⟩
  · rw [e] at hb; exact List.mem_cons_of_mem _ hb
  · rw [e] at hb
    unfold frs at hb
    rw [List.filterMap_cons, hf] at hb
    exact hb
theorem Inv.stkFree (I : Inv X pins σ H s) : ∀ b ∈ frs X.stack, H b = none := fun b hb => by
  rcases List.mem_cons.mp (I.stkSub b hb) with e | hb
  · rw [e]; exact I.free
  · obtain ⟨_, o, ho, _⟩ := I.ok.funs.mem hb
    exact I.base.free b o ho (I.ok.frf b hb) fun z => I.ok.exfs b z hb
theorem Inv.step {g' : Array GenState} {t' : Nat} {d' : Drawn} {ch : List Addr} (I : Inv X pins σ H s)
    (hch : ∀ b ∈ ch, (b ∈ X.ex ∨ X.s₀.heap.objs.size ≤ b) ∧ b ≠ X.env.locals ∧ (∀ x c, X.env.cells.lookup x = some c → c ≠ b) ∧ ∀ p ∈ X.pn ++ pins, p.1 ≠ b)
    (keep : ∀ b o, b ≠ X.env.locals → b ∉ X.fs → b ∉ ch → s.heap.get? b = some o → H b = none → h'.get? b = some o)
    (slot : ∀ b o, b ≠ X.env.locals → b ∈ X.fs → b ∉ ch → s.heap.get? b = some o → H b = none → ∃ sl, h'.get? b = some { o with slots := sl }) (free : ∀ b o, b ∉ ch → s.heap.get? b = some o → H b = none → H' b = none)
    (there : ∀ b o, b ∉ ch → s.heap.get? b = some o → ∃ o', h'.get? b = some o')
    (tups : ∀ b xs, H b = some (.tup xs) → H' b = some (.tup xs)) (frzs : ∀ b o u, H b = some (.frz o u) → H' b = some (.frz o u)) (tbls : ∀ b ps, H b = some (.tbl ps) → ∃ more, H' b = some (.tbl (ps ++ more)))
    (ns : ∀ m, s.heap.Ns X.env.locals m → h'.Ns X.env.locals m) (hok : HOk X.prog X.w H' h') (hg : AllBare g') :
    Inv X pins σ H' { s with heap := h', gens := g', drawn := d', toks := t' } := by
  have neL : ∀ b o, X.s₀.heap.get? b = some o → b ≠ X.env.locals := fun b o e => Nat.ne_of_lt (Nat.lt_of_lt_of_le (Heap.lt_size e) I.ok.above)
  have neC : ∀ b o, X.s₀.heap.get? b = some o → b ∉ X.ex → b ∉ ch := fun b o e hx hb => by
    rcases (hch b hb).1 with z | z
    · exact hx z
    · exact absurd (Nat.lt_of_lt_of_le (Heap.lt_size e) z) (Nat.lt_irrefl _)
  have cellK : ∀ x c, X.env.cells.lookup x = some c → ∀ v, s.heap.IsCell c v → h'.IsCell c v := fun x c e v ⟨o, ho, hd⟩ => by
    have nch : c ∉ ch := fun z => (hch c z).2.2.1 x c e rfl
    by_cases hc : c ∈ X.fs
    · obtain ⟨sl, q⟩ := slot c o (I.cne x c e) hc nch ho (I.freeC x c e)
      exact ⟨_, q, hd⟩
    · exact ⟨o, keep c o (I.cne x c e) hc nch ho (I.freeC x c e), hd⟩
  refine ⟨I.ok, I.os, hg, ⟨fun b o e n hb hx => ?_, fun b o e n hb hx => ?_, fun b o e n hx => ?_, fun b o e hx => ?_, fun b xs e => tups b xs (I.base.tups b xs e), fun b o xs e => frzs b o xs (I.base.frzs b o xs e), fun b ps e => ?_⟩, ?_, fun x c e => ?_, ?_, fun x c e => ?_, fun p hp => ?_, hok, I.len⟩
  · exact keep b o (neL b o e) hb (neC b o e hx) (I.base.keep b o e n hb hx) (I.base.free b o e n hx)
  · obtain ⟨sl, e1⟩ := I.base.slot b o e n hb hx
    obtain ⟨sl', e2⟩ := slot b _ (neL b o e) hb (neC b o e hx) e1 (I.base.free b o e n hx)
    exact ⟨sl', e2⟩
  · obtain ⟨o', e1⟩ := I.base.there b o e hx
    exact free b o' (neC b o e hx) e1 (I.base.free b o e n hx)
  · obtain ⟨o', e1⟩ := I.base.there b o e hx
    exact there b o' (neC b o e hx) e1
  · obtain ⟨m1, e1⟩ := I.base.tbls b ps e
    obtain ⟨m2, e2⟩ := tbls b _ e1
    exact ⟨m1 ++ m2, by rw [e2, Array.append_assoc]⟩
  · obtain ⟨m, hn, hl⟩ := I.loc
    refine ⟨m, ns m hn, fun i x v e1 e2 e3 => ?_⟩
    obtain ⟨u, r, l⟩ := hl i x v e1 e2 e3
    refine ⟨u, r, ?_⟩
    rcases l with l | ⟨k, c, e, z⟩
    · exact .inl l
    · exact .inr ⟨k, c, e, cellK x c e _ z⟩
  · obtain ⟨v, z⟩ := I.cell x c e
    exact ⟨v, cellK x c e v z⟩
  · obtain ⟨m, ⟨o, _, _, ho, _⟩, _⟩ := I.loc
    exact free _ o (fun z => (hch _ z).2.1 rfl) ho I.free
  · obtain ⟨v, o, ho, hd⟩ := I.cell x c e
    exact free c o (fun z => (hch c z).2.2.1 x c e rfl) ho (I.freeC x c e)
  · obtain ⟨e, n, ne, nf, d⟩ := I.pin p hp
    have nch : p.1 ∉ ch := fun z => (hch p.1 z).2.2.2 p hp rfl
    exact ⟨keep p.1 p.2 ne nf nch e n, free p.1 p.2 nch e n, ne, nf, d⟩
theorem Inv.un {t' : Nat} (I : Inv X pins σ H s) (u : Un X.fs [] H H' s.heap h') (hok : HOk X.prog X.w H' h') : Inv X pins σ H' { s with heap := h', toks := t' } := by
  obtain ⟨m, ⟨o, es, ep, ho, r⟩, _⟩ := id I.loc
  obtain ⟨sl, hL⟩ := u.any ho I.free (by simp)
  exact I.step (g' := s.gens) (d' := s.drawn) (ch := []) (fun _ z => nomatch z) (fun b o _ hb _ e n => u.keep b o e n hb (by simp)) (fun b o _ hb _ e n => u.slot b o e n hb (by simp)) (fun b o _ e n => u.free b o e n (by simp)) (fun b o _ e => u.there b o e (by simp)) u.tups u.frzs u.tbls (fun m' hm => by
    obtain ⟨o', es', ep', ho', r'⟩ := hm
    rw [ho] at ho'; cases ho'
    exact ⟨_, es', ep', hL, r'⟩) hok I.bare
theorem Inv.call {g' : Array GenState} {t' : Nat} {d' : Drawn} {ch : List Addr} (I : Inv X pins σ H s) (u : Un (frs X.stack) ch H H' s.heap h') (hok : HOk X.prog X.w H' h') (hg : AllBare g')
    (hch : ∀ b ∈ ch, (b ∈ X.ex ∨ X.s₀.heap.objs.size ≤ b) ∧ b ≠ X.env.locals ∧ (∀ x c, X.env.cells.lookup x = some c → c ≠ b) ∧ ∀ p ∈ X.pn ++ pins, p.1 ≠ b) :
    Inv X pins σ H' { s with heap := h', gens := g', drawn := d', toks := t' } := by
  obtain ⟨m, ⟨o, es, ep, ho, r⟩, _⟩ := id I.loc
  obtain ⟨sl, hL⟩ := u.any ho I.free fun z => (hch _ z).2.1 rfl
  exact I.step (ch := ch) hch (fun b o hL hb hc e n => u.keep b o e n (fun z => (List.mem_cons.mp (I.stkSub b z)).elim hL hb) hc) (fun b o _ _ hc e n => u.any e n hc) (fun b o hc e n => u.free b o e n hc) (fun b o hc e => u.there b o e hc) u.tups u.frzs u.tbls (fun m' hm => by
    obtain ⟨o', es', ep', ho', r'⟩ := hm
    rw [ho] at ho'; cases ho'
    exact ⟨_, es', ep', hL, r'⟩) hok hg
theorem Inv.turned {t' : Nat} {it : Addr} (I : Inv X pins σ H s) (k : ∀ b o, b ≠ it → s.heap.get? b = some o → h'.get? b = some o) (hn : H it = none) (hL : it ≠ X.env.locals)
    (h1 : it ∈ X.ex ∨ X.s₀.heap.objs.size ≤ it) (h2 : ∀ x c, X.env.cells.lookup x = some c → c ≠ it) (h3 : ∀ p ∈ X.pn ++ pins, p.1 ≠ it) : Inv X pins σ H { s with heap := h', toks := t' } := by
  have nit : ∀ b u, H b = some u → b ≠ it := fun b u e z => by rw [z, hn] at e; cases e
  refine I.step (g' := s.gens) (d' := s.drawn) (ch := [it]) (fun b hb => ?_) (fun b o _ _ hc e _ => k b o (fun z => hc (by simp [z])) e) (fun b o _ _ hc e _ => ⟨o.slots, k b o (fun z => hc (by simp [z])) e⟩) (fun _ _ _ _ n => n)
    (fun b o hc e => ⟨o, k b o (fun z => hc (by simp [z])) e⟩) (fun _ _ e => e) (fun _ _ _ e => e) (fun b ps e => ⟨#[], by rw [e]; simp⟩) (fun m hm => ?_) (fun b u e => ?_) I.bare
  · have e : b = it := by simpa using hb
    subst e
    exact ⟨h1, hL, h2, h3⟩
  · obtain ⟨o, es, ep, ho, r⟩ := hm
    exact ⟨o, es, ep, k _ o (Ne.symm hL) ho, r⟩
  · refine (I.hok b u e).stay (fun c v hc q => k c v ?_ q) (fun _ q => q) fun _ _ q => q
    rcases hc with z | z
    · rw [z]; exact nit b u e
    · exact nit c _ z
theorem Inv.tok (I : Inv X pins σ H s) (t : Nat) : Inv X pins σ H { s with toks := t } := I.un (h' := s.heap) (t' := t) Un.refl I.hok
theorem Inv.kept {t' : Nat} (I : Inv X pins σ H s) (k : ∀ b u, s.heap.get? b = some u → h'.get? b = some u) : Inv X pins σ H { s with heap := h', toks := t' } := I.un (Un.kept k) (I.hok.kept k)
theorem Inv.laid {a : Addr} {o : HO} {t' : Nat} (I : Inv X pins σ H s) (k : ∀ b u, s.heap.get? b = some u → h'.get? b = some u) (hp : s.heap.objs.size ≤ a) (new : ObjOk X.prog X.w (upd H a o) h' a o) :
    Inv X pins σ (upd H a o) { s with heap := h', toks := t' } := I.un (Un.laid k hp (I.hok.fresh hp)) (I.hok.laid k hp new)
theorem Inv.write {x e : Addr} {o : HO} {t' : Nat} (I : Inv X pins σ H s) (mu : Mut (H x)) (he : e = x ∨ H e = some (.own x)) (k : ∀ b u, b ≠ e → s.heap.get? b = some u → h'.get? b = some u) (heo : ∃ u, h'.get? e = some u)
    (new : ObjOk X.prog X.w (upd H x o) h' x o) : Inv X pins σ (upd H x o) { s with heap := h', toks := t' } := I.un (Un.write mu he k heo) (I.hok.write mu he k heo new)
theorem Inv.weak {σ' : List (Option V)} (I : Inv X pins σ H s) (hl : σ'.length = σ.length) (w : ∀ (i : Nat) v, σ'[i]? = some (some v) → σ[i]? = some (some v)) : Inv X pins σ' H s :=
  ⟨I.ok, I.os, I.bare, I.base, let ⟨m, hn, hl'⟩ := I.loc; ⟨m, hn, fun i x v e1 e2 e3 => hl' i x v e1 (w i v e2) e3⟩, I.cell, I.free, I.freeC, I.pin, I.hok, hl.trans I.len⟩
theorem Inv.pins_of {pins' : List (Addr × Obj)} (I : Inv X pins σ H s) (h : ∀ p ∈ pins', s.heap.get? p.1 = some p.2 ∧ H p.1 = none ∧ p.1 ≠ X.env.locals ∧ p.1 ∉ X.fs ∧ ∀ v, p.2.data ≠ .cell v) : Inv X pins' σ H s :=
  ⟨I.ok, I.os, I.bare, I.base, I.loc, I.cell, I.free, I.freeC, fun p hp => (List.mem_append.mp hp).elim (fun z => I.pin p (List.mem_append_left _ z)) (h p), I.hok, I.len⟩
theorem nodup_ix {N : List Str} (hN : N.Nodup) {i j : Nat} {x : Str} (a : N[i]? = some x) (b : N[j]? = some x) : i = j := by
  obtain ⟨h1, e1⟩ := List.getElem?_eq_some_iff.mp a
  obtain ⟨h2, e2⟩ := List.getElem?_eq_some_iff.mp b
  exact (List.getElem_inj hN).mp (e1.trans e2.symm)
theorem store_ok2 {M : Model} {A : Around} {E : Value → Shared → Prop} {i : Nat} {x : Str} {v : V} {u : Value} {Q : Unit → Shared → Prop} (I : Inv X pins σ H s) (hN : X.N.Nodup) (hi : X.N[i]? = some x) (hx : Loc X.env.scope x) (r : RelV v u)
    (h : ∀ s', Inv X pins (σ.set i (some v)) H s' → (∃ a, Heap.SameBut a s.heap s'.heap ∧ (a = X.env.locals ∨ X.env.cells.lookup x = some a)) → Q () s') (hf : X.fn x = true ∨ X.env.scope.names.lookup x = some .local := by first | exact .inl rfl | exact .inr rfl | assumption) : wpAny M A (storeName X.env x u) Q E s := by
  obtain ⟨m, hn, hl⟩ := id I.loc
  have hcls : (X.env.scope.kind == .class || (X.env.scope.kind == .module && X.env.locals != X.env.globals)) = false := by rw [I.ok.kind]; rfl
  have hiσ : i < σ.length := by rw [I.len]; exact (List.getElem?_eq_some_iff.mp hi).1
  have cne := I.cne
  have tracked : ∀ {a : Addr} {h' : Heap}, (∃ o, s.heap.get? a = some o ∧ H a = none) → Heap.SameBut a s.heap h' → HOk X.prog X.w H h' := fun {a h'} ha hs b ob e => by
    obtain ⟨_, _, hfree⟩ := ha
    refine (I.hok b ob e).stay (fun c w' hc q => (hs.2 c ?_).trans q) (fun _ q => q) fun _ _ q => q
    rintro rfl
    rcases hc with rfl | hc
    · rw [hfree] at e; cases e
    · rw [hfree] at hc; cases hc
  rcases hx with hk | hk
  · refine wpAny_storeName_local hk hn (fun h' hn' hs => ?_) hcls
    obtain ⟨oL, _, _, hoL, _⟩ := id hn
    refine h _ ⟨I.ok, I.os, I.bare, ⟨fun b o e n hb hx => ?_, fun b o e n hb hx => ?_, I.base.free, fun b o e hx => ?_, I.base.tups, I.base.frzs, I.base.tbls⟩, ⟨_, hn', fun j y v' e1 e2 e3 => ?_⟩, fun y c e => ?_, I.free, I.freeC, fun p hp => ?_, tracked ⟨oL, hoL, I.free⟩ hs, by simpa using I.len⟩ ⟨_, hs, .inl rfl⟩
    · exact (hs.2 b (Nat.ne_of_lt (Nat.lt_of_lt_of_le (Heap.lt_size e) I.ok.above))).trans (I.base.keep b o e n hb hx)
    · obtain ⟨sl, e1⟩ := I.base.slot b o e n hb hx
      exact ⟨sl, (hs.2 b (Nat.ne_of_lt (Nat.lt_of_lt_of_le (Heap.lt_size e) I.ok.above))).trans e1⟩
    · obtain ⟨o', e1⟩ := I.base.there b o e hx
      exact ⟨o', (hs.2 b (Nat.ne_of_lt (Nat.lt_of_lt_of_le (Heap.lt_size e) I.ok.above))).trans e1⟩
    · by_cases hj : j = i
      · subst hj
        rw [hi] at e1; cases e1
        rw [List.getElem?_set_self hiσ] at e2
        cases e2
        exact ⟨u, r, .inl ⟨hk, by simp⟩⟩
      · rw [List.getElem?_set_ne (Ne.symm hj)] at e2
        obtain ⟨u', r', q⟩ := hl j y v' e1 e2 e3
        refine ⟨u', r', ?_⟩
        rcases q with ⟨k, e⟩ | ⟨k, c, e, z⟩
        · refine .inl ⟨k, ?_⟩
          have : y ≠ x := fun e => hj (nodup_ix hN e1 (e ▸ hi))
          simp [this, e]
        · exact .inr ⟨k, c, e, z.sameBut hs (cne y c e)⟩
    · obtain ⟨w', z⟩ := I.cell y c e
      exact ⟨w', z.sameBut hs (cne y c e)⟩
    · obtain ⟨e, n, ne, nf, d⟩ := I.pin p hp
      exact ⟨(hs.2 p.1 ne).trans e, n, ne, nf, d⟩
  · have hfn : X.fn x = true := by
      rcases hf with z | z
      · exact z
      · rw [z] at hk; cases hk
    obtain ⟨c, hc⟩ := I.ok.has x (.inl hk)
    obtain ⟨w', z⟩ := I.cell x c hc
    refine wpAny_storeName_cell I.ok.kind hk hc z (fun h' hc' hs => ?_)
    obtain ⟨oc, hoc, hocd⟩ := id z
    refine h { s with heap := h' } ⟨I.ok, I.os, I.bare, ⟨fun b o e n hb hx => ?_, fun b o e n hb hx => ?_, I.base.free, fun b o e hx => ?_, I.base.tups, I.base.frzs, I.base.tbls⟩, ⟨m, hn.sameBut hs (Ne.symm (cne x c hc)), fun j y v' e1 e2 e3 => ?_⟩, fun y c' e => ?_, I.free, I.freeC, fun p hp => ?_, tracked ⟨oc, hoc, I.freeC x c hc⟩ hs, by simpa using I.len⟩ ⟨c, hs, .inr hc⟩
    · exact (hs.2 b (Nat.ne_of_lt (Nat.lt_of_lt_of_le (Heap.lt_size e) (I.ok.cab x c hfn hc)))).trans (I.base.keep b o e n hb hx)
    · obtain ⟨sl, e1⟩ := I.base.slot b o e n hb hx
      exact ⟨sl, (hs.2 b (Nat.ne_of_lt (Nat.lt_of_lt_of_le (Heap.lt_size e) (I.ok.cab x c hfn hc)))).trans e1⟩
    · obtain ⟨o', e1⟩ := I.base.there b o e hx
      exact ⟨o', (hs.2 b (Nat.ne_of_lt (Nat.lt_of_lt_of_le (Heap.lt_size e) (I.ok.cab x c hfn hc)))).trans e1⟩
    · by_cases hj : j = i
      · subst hj
        rw [hi] at e1; cases e1
        rw [List.getElem?_set_self hiσ] at e2
        cases e2
        exact ⟨u, r, .inr ⟨.inl hk, c, hc, hc'⟩⟩
      · rw [List.getElem?_set_ne (Ne.symm hj)] at e2
        obtain ⟨u', r', q⟩ := hl j y v' e1 e2 e3
        refine ⟨u', r', ?_⟩
        rcases q with q | ⟨k, c', e, z'⟩
        · exact .inl q
        · refine .inr ⟨k, c', e, z'.sameBut hs ?_⟩
          rintro rfl
          exact hj (nodup_ix hN e1 (I.ok.inj _ _ _ e hc ▸ hi))
    · by_cases hcc : c' = c
      · subst hcc; exact ⟨_, hc'⟩
      · obtain ⟨w2, z2⟩ := I.cell y c' e
        exact ⟨w2, z2.sameBut hs hcc⟩
    · obtain ⟨e, n, ne, nf, d⟩ := I.pin p hp
      refine ⟨(hs.2 p.1 ?_).trans e, n, ne, nf, d⟩
      intro q
      rw [q, hoc] at e
      have q' : oc = p.2 := Option.some.inj e
      exact d w' (by rw [← q']; exact hocd)
theorem store_ok {M : Model} {A : Around} {E : Value → Shared → Prop} {i : Nat} {x : Str} {v : V} {u : Value} {Q : Unit → Shared → Prop} (I : Inv X pins σ H s) (hN : X.N.Nodup) (hi : X.N[i]? = some x) (hx : Loc X.env.scope x) (r : RelV v u)
    (h : ∀ s', Inv X pins (σ.set i (some v)) H s' → Q () s') (hf : X.fn x = true ∨ X.env.scope.names.lookup x = some .local := by first | exact .inl rfl | exact .inr rfl | assumption) : wpAny M A (storeName X.env x u) Q E s :=
  store_ok2 I hN hi hx r (fun s' I' _ => h s' I') hf
theorem Inv.call' {s' : Shared} {ch : List Addr} (I : Inv X pins σ H s) (ho : s'.os = s.os) (u : Un (frs X.stack) ch H H' s.heap s'.heap) (hok : HOk X.prog X.w H' s'.heap) (hg : AllBare s'.gens)
    (hch : ∀ b ∈ ch, (b ∈ X.ex ∨ X.s₀.heap.objs.size ≤ b) ∧ b ≠ X.env.locals ∧ (∀ x c, X.env.cells.lookup x = some c → c ≠ b) ∧ ∀ p ∈ X.pn ++ pins, p.1 ≠ b) : Inv X pins σ H' s' := by
  obtain ⟨h', g', d', t', o'⟩ := s'
  have e : o' = s.os := ho
  subst e
  exact I.call (g' := g') (t' := t') (d' := d') u hok hg hch
end
abbrev XK := Value → Option Addr → Hp → Prop
abbrev St := List (Option V)
abbrev VK := V → Hp → Prop
abbrev TE := St → Hp → VK → Prop
abbrev TT := St → Hp → (Bool → Hp → Prop) → Prop
abbrev TA := St → Hp → (List V → Hp → Prop) → Prop
structure Ends where
  nx : St → Hp → Prop
  rt : VK
  bk : St → Hp → Prop := fun _ _ => False
  ct : St → Hp → Prop := fun _ _ => False
abbrev TS := Ends → St → Hp → Prop
def EP (X : Cx) (pins : List (Addr × Obj)) (σ : St) (Q : VK) (u : Value) (s' : Shared) : Prop := ∃ v H', Inv X pins σ H' s' ∧ RelV v u ∧ Q v H'
def TP (X : Cx) (pins : List (Addr × Obj)) (σ : St) (Q : Bool → Hp → Prop) (b : Bool) (s' : Shared) : Prop := ∃ H', Inv X pins σ H' s' ∧ Q b H'
def AP (X : Cx) (pins : List (Addr × Obj)) (σ : St) (Q : List V → Hp → Prop) (us : List Value) (s' : Shared) : Prop := ∃ vs H', Inv X pins σ H' s' ∧ Vals vs us ∧ Q vs H'
def SP (X : Cx) (pins : List (Addr × Obj)) (D : Ends) (f : Flow) (s' : Shared) : Prop :=
  match f with
  | .next => ∃ σ' H', Inv X pins σ' H' s' ∧ D.nx σ' H'
  | .brk => ∃ σ' H', Inv X pins σ' H' s' ∧ D.bk σ' H'
  | .cont => ∃ σ' H', Inv X pins σ' H' s' ∧ D.ct σ' H'
  | .ret u => ∃ v σ' H', Inv X pins σ' H' s' ∧ RelV v u ∧ D.rt v H'
def PE (X : Cx) (e : Expr) (t : TE) : Prop :=
  ∀ (pins : List (Addr × Obj)) (s : Shared) (σ : St) (H : Hp) (Q : VK), Inv X pins σ H s → t σ H Q → wpAny (model X.prog X.w) X.A (eval e X.env) (EP X pins σ Q) X.xe s
def PT (X : Cx) (e : Expr) (t : TT) : Prop :=
  ∀ (pins : List (Addr × Obj)) (s : Shared) (σ : St) (H : Hp) (Q : Bool → Hp → Prop), Inv X pins σ H s → t σ H Q → wpAny (model X.prog X.w) X.A (isTrue e X.env (eval e X.env)) (TP X pins σ Q) X.xe s
def PW (X : Cx) (e : Expr) (t : TT) : Prop :=
  ∀ (whole : Sem Value) (pins : List (Addr × Obj)) (s : Shared) (σ : St) (H : Hp) (Q : Bool → Hp → Prop), Inv X pins σ H s → t σ H Q → wpAny (model X.prog X.w) X.A (isTrue e X.env whole) (TP X pins σ Q) X.xe s
theorem PW.pt {X : Cx} {e : Expr} {t : TT} (h : PW X e t) : PT X e t := h _
def PA (X : Cx) (es : List Expr) (t : TA) : Prop :=
  ∀ (pos : Pos) (pins : List (Addr × Obj)) (s : Shared) (σ : St) (H : Hp) (Q : List V → Hp → Prop), Inv X pins σ H s → t σ H Q → wpAny (model X.prog X.w) X.A (spliced (backTo pos (starEach es X.env))) (AP X pins σ Q) X.xe s
def PS (X : Cx) (st : Stmt) (t : TS) : Prop :=
  ∀ (pins : List (Addr × Obj)) (s : Shared) (σ : St) (H : Hp) (D : Ends), Inv X pins σ H s → t D σ H → wpAny (model X.prog X.w) X.A (exec st X.env) (SP X pins D) X.xe s
def PSs (X : Cx) (st : List Stmt) (t : TS) : Prop :=
  ∀ (pins : List (Addr × Obj)) (s : Shared) (σ : St) (H : Hp) (D : Ends), Inv X pins σ H s → t D σ H → wpAny (model X.prog X.w) X.A (execs st X.env) (SP X pins D) X.xe s
theorem thn {α : Type} {t : Sem α} {Q Q' : α → Shared → Prop} {M : Model} {A : Around} {E : Value → Shared → Prop} {s : Shared} (h : wpAny M A t Q E s) (hQ : ∀ a s, Q a s → Q' a s) : wpAny M A t Q' E s := wpAny_mono h hQ fun _ _ x => x
end L2
namespace L2
open PySem PySem.Spec PyProof.Rows
section
variable {X : Cx}
theorem bin {a b : Expr} {ta tb : TE} (ha : PE X a ta) (hb : PE X b tb) {pins : List (Addr × Obj)} {s : Shared} {σ : St} {H : Hp} {R : V → V → Hp → Prop} (I : Inv X pins σ H s) (h : ta σ H fun x H1 => tb σ H1 fun y H2 => R x y H2)
    {α : Type} {Q : α → Shared → Prop} {f : Value → Value → Sem α}
    (hf : ∀ v u s2 x y H2, Inv X pins σ H2 s2 → RelV x v → RelV y u → R x y H2 → wpAny (model X.prog X.w) X.A (f v u) Q X.xe s2) :
    wpAny (model X.prog X.w) X.A (eval a X.env) (fun v s₁ => wpAny (model X.prog X.w) X.A (eval b X.env) (fun u s₂ => wpAny (model X.prog X.w) X.A (f v u) Q X.xe s₂) X.xe s₁) X.xe s := by
  refine thn (ha pins s σ H _ I h) fun v s1 ⟨x, H1, I1, r1, q1⟩ => ?_
  refine thn (hb pins s1 σ H1 _ I1 q1) fun u s2 ⟨y, H2, I2, r2, q2⟩ => ?_
  exact hf v u s2 x y H2 I2 r1 r2 q2
def tVar (i : Nat) : TE := fun σ H Q => ∃ v, σ[i]? = some (some v) ∧ Q v H
def tC (v : V) : TE := fun _ H Q => Q v H
theorem pe_var {i : Nat} {x : Str} {pos : Pos} (hN : X.N[i]? = some x) (hv : Vis X.env.scope x) (hd : (x == ("__debug__" : Str)) = false := by decide) (hcd : (x == ("__classdict__" : Str)) = false := by decide) : PE X (.Name x pos) (tVar i) := by
  intro pins s σ H Q I h
  obtain ⟨v, e, h⟩ := h
  obtain ⟨m, hn, hl⟩ := I.loc
  obtain ⟨u, r, l⟩ := hl i x v hN e hv
  have fin : EP X pins σ Q u s := ⟨v, H, I, r, h⟩
  rcases l with ⟨hk, hm⟩ | ⟨hk, c, hc, hcell⟩
  · exact wpAny_Name (wpAny_loadName_local I.ok.kind hk hn hm fin) hd
  · rcases hk with hk | hk
    · exact wpAny_Name (wpAny_loadName_cell I.ok.kind hk hc hcell fin) hd
    · exact wpAny_Name (wpAny_loadName_free I.ok.kind hk hc hcell fin hcd) hd
theorem pe_int {i j pos} : PE X (.Constant (.int i) j pos) (tC (.int i)) := fun _ _ _ H _ I h => wpAny_Constant_int ⟨.int i, H, I.tok _, ⟨_, rfl⟩, h⟩
theorem pe_bl {b j pos} : PE X (.Constant (.bool b) j pos) (tC (.bl b)) := fun _ _ _ H _ I h => Constant_bool ⟨.bl b, H, I, rfl, h⟩
theorem pe_non {j pos} : PE X (.Constant .none j pos) (tC .non) := fun _ _ _ H _ I h => Constant_none ⟨.non, H, I, rfl, h⟩
def Gl (X : Cx) (x : Str) : Prop := X.env.kindOf x = some .globalImplicit
theorem ld_glob {E : Value → Shared → Prop} {pins : List (Addr × Obj)} {s : Shared} {σ : St} {H : Hp} {x : Str} {u : Value} {pos : Pos} {Q : Value → Shared → Prop} (I : Inv X pins σ H s) (hg : Gl X x) (hm : X.mg x = some u) (h : Q u s)
    (hd : (x == ("__debug__" : Str)) = false := by decide) : wpAny (model X.prog X.w) X.A (eval (.Name x pos) X.env) Q E s :=
  Calls.Name_function_global I.ok.kind hg (Calls.loadGlobal_global (by rw [I.ok.glob]; exact I.mod.glob.keeps I.bk) hm h) hd
theorem ld_blt {E : Value → Shared → Prop} {pins : List (Addr × Obj)} {s : Shared} {σ : St} {H : Hp} {x : Str} {u : Value} {pos : Pos} {Q : Value → Shared → Prop} (I : Inv X pins σ H s) (hg : Gl X x) (hm : X.mg x = none) (hv : bootBuiltins x = some u) (h : Q u s)
    (hn : x ≠ "__name__" := by decide) (hd : (x == ("__debug__" : Str)) = false := by decide) : wpAny (model X.prog X.w) X.A (eval (.Name x pos) X.env) Q E s := by
  obtain ⟨mb, h1, h2⟩ := I.mod.blt
  exact Calls.Name_function_global I.ok.kind hg (Calls.loadGlobal_builtin (by rw [I.ok.glob]; exact I.mod.glob.keeps I.bk) hm (by rw [I.ok.blt]; exact h1.keeps I.bk) ((h2 x hn).trans hv) h) hd
theorem pe_bltn {x : Str} {v : V} {u : Value} {pos : Pos} (hg : Gl X x) (hm : X.mg x = none) (hv : bootBuiltins x = some u) (r : RelV v u) (hn : x ≠ "__name__" := by decide) (hd : (x == ("__debug__" : Str)) = false := by decide) : PE X (.Name x pos) (tC v) :=
  fun _ _ _ H _ I h => ld_blt I hg hm hv ⟨v, H, I, r, h⟩ hn hd
variable {a b : Expr} {ta tb : TE} {pos : Pos}
def PC (X : Cx) (op : CmpOp) (a b : Expr) (t : TE) : Prop :=
  ∀ (pins : List (Addr × Obj)) (s : Shared) (σ : St) (H : Hp) (Q : VK), Inv X pins σ H s → t σ H Q →
    wpAny (model X.prog X.w) X.A (eval a X.env) (fun v s₁ => wpAny (model X.prog X.w) X.A (eval b X.env) (fun u s₂ => wpAny (model X.prog X.w) X.A (compareOp op v u) (EP X pins σ Q) X.xe s₂) X.xe s₁) X.xe s
theorem nobehind (b : Expr) {op : CmpOp} (h : op ≠ .In) (h2 : op ≠ .NotIn) : behindInMarks op b = false := by
  have e1 : (op == CmpOp.In) = false := by cases op <;> first | rfl | exact absurd rfl h
  have e2 : (op == CmpOp.NotIn) = false := by cases op <;> first | rfl | exact absurd rfl h2
  cases b <;> simp [behindInMarks, e1, e2]
def tB (t : TE) : TT := fun σ H Q => t σ H fun x H1 => ∃ c, x = .bl c ∧ Q c H1
theorem pt_cmp {op : CmpOp} {t : TE} (h : PC X op a b t) (h1 : behindInMarks op b = false := by first | exact nobehind _ (by decide) (by decide) | rfl) : PT X (.Compare a [op] [b] pos) (tB t) := by
  intro pins s σ H Q I hw
  refine wpAny_isTrue_Compare1 (thn (h pins s σ H _ I hw) fun v s1 h1 => thn h1 fun u s2 h2 => thn h2 fun c s3 ⟨x, H1, I1, r1, q1⟩ => ?_) h1
  obtain ⟨d, rfl, q⟩ := q1
  cases r1
  exact wpAny_truthy_bool ⟨H1, I1, q⟩
theorem pt_val {e : Expr} {t : TE} (h : PE X e t) (he : ∀ whole, isTrue e X.env whole = (do let v ← whole; standAt e.pos; holding [v] (truthy v)) := by intro _; rfl) : PT X e (tB t) := by
  intro pins s σ H Q I hw
  refine isTrue_plain (thn (h pins s σ H _ I hw) fun v s1 ⟨x, H1, I1, r1, q1⟩ => ?_) (he _)
  obtain ⟨d, rfl, q⟩ := q1
  cases r1
  exact wpAny_truthy_bool ⟨H1, I1, q⟩
variable {tA tB' : TT} {rest : List Expr}
def tAnd (t u : TT) : TT := fun σ H Q => t σ H fun c H1 => if c = true then u σ H1 Q else Q false H1
def tOr (t u : TT) : TT := fun σ H Q => t σ H fun c H1 => if c = true then Q true H1 else u σ H1 Q
def tNot (t : TT) : TT := fun σ H Q => t σ H fun c H1 => Q (!c) H1
theorem pw_and1 (ha : PT X a tA) : PW X (.BoolOp .And [a] pos) tA := by
  intro wh pins s σ H Q I h
  refine isTrue_and (thn (ha pins s σ H Q I h) fun c s1 e => ?_)
  cases c with
  | true => exact isTrue_and_nil e
  | false => exact e
theorem pw_or1 (ha : PT X a tA) : PW X (.BoolOp .Or [a] pos) tA := by
  intro wh pins s σ H Q I h
  refine isTrue_or (thn (ha pins s σ H Q I h) fun c s1 e => ?_)
  cases c with
  | false => exact isTrue_or_nil e
  | true => exact e
theorem pw_and (ha : PT X a tA) (hb : PW X (.BoolOp .And (b :: rest) pos) tB') : PW X (.BoolOp .And (a :: b :: rest) pos) (tAnd tA tB') := by
  intro wh pins s σ H Q I h
  refine isTrue_and (thn (ha pins s σ H _ I h) fun c s1 ⟨H1, I1, q1⟩ => ?_)
  cases c with
  | true => exact hb wh pins s1 σ H1 Q I1 q1
  | false => exact ⟨H1, I1, q1⟩
theorem pw_or (ha : PT X a tA) (hb : PW X (.BoolOp .Or (b :: rest) pos) tB') : PW X (.BoolOp .Or (a :: b :: rest) pos) (tOr tA tB') := by
  intro wh pins s σ H Q I h
  refine isTrue_or (thn (ha pins s σ H _ I h) fun c s1 ⟨H1, I1, q1⟩ => ?_)
  cases c with
  | true => exact ⟨H1, I1, q1⟩
  | false => exact hb wh pins s1 σ H1 Q I1 q1
theorem pt_not (ha : PT X a tA) : PT X (.UnaryOp .Not a pos) (tNot tA) := by
  intro pins s σ H Q I h
  exact isTrue_not (ha pins s σ H (fun c H1 => Q (!c) H1) I h)
def tAndV (ta tb : TE) : TE := fun σ H Q => ta σ H fun x H1 => ∃ c, x = .bl c ∧ if c = true then tb σ H1 Q else Q (.bl false) H1
def tOrV (ta tb : TE) : TE := fun σ H Q => ta σ H fun x H1 => ∃ c, x = .bl c ∧ if c = true then Q (.bl true) H1 else tb σ H1 Q
def tNotV (ta : TE) : TE := fun σ H Q => ta σ H fun x H1 => ∃ c, x = .bl c ∧ Q (.bl (!c)) H1
theorem pe_one {op} {t : TE} (h : PE X a t) : PE X (.BoolOp op [a] pos) t := fun pins s σ H Q I hw => BoolOp_one (h pins s σ H Q I hw)
theorem pe_and (ha : PE X a ta) (hb : PE X (.BoolOp .And (b :: rest) pos) tb) : PE X (.BoolOp .And (a :: b :: rest) pos) (tAndV ta tb) := by
  intro pins s σ H Q I h
  refine BoolOp_and (thn (ha pins s σ H _ I h) fun v s1 ⟨x, H1, I1, r1, q1⟩ => ?_)
  obtain ⟨c, rfl, q1⟩ := q1
  cases r1
  refine wpAny_truthy_bool ?_
  cases c with
  | true => exact hb pins s1 σ H1 Q I1 q1
  | false => exact ⟨.bl false, H1, I1, rfl, q1⟩
theorem pe_or (ha : PE X a ta) (hb : PE X (.BoolOp .Or (b :: rest) pos) tb) : PE X (.BoolOp .Or (a :: b :: rest) pos) (tOrV ta tb) := by
  intro pins s σ H Q I h
  refine BoolOp_or (thn (ha pins s σ H _ I h) fun v s1 ⟨x, H1, I1, r1, q1⟩ => ?_)
  obtain ⟨c, rfl, q1⟩ := q1
  cases r1
  refine wpAny_truthy_bool ?_
  cases c with
  | false => exact hb pins s1 σ H1 Q I1 q1
  | true => exact ⟨.bl true, H1, I1, rfl, q1⟩
theorem pe_not (ha : PE X a ta) : PE X (.UnaryOp .Not a pos) (tNotV ta) := by
  intro pins s σ H Q I h
  refine UnaryOp_ (thn (ha pins s σ H _ I h) fun v s1 ⟨x, H1, I1, r1, q1⟩ => ?_)
  obtain ⟨c, rfl, q1⟩ := q1
  cases r1
  exact not_of (wpAny_truthy_bool ⟨.bl (!c), H1, I1, rfl, q1⟩)
end
end L2
namespace L2
open PySem PySem.Spec PyProof.Rows
def SqL (K : PySem.W.Frag) (H : Hp) (a : Addr) (xs : List V) : Prop :=
  Rd H a (.lst xs) ∨
    ∃ (o : Obj) (its : Array Value) (n : Nat), K.lookup a = some o ∧ o.cls = .type "list" ∧ o.dict = none ∧ o.data = .seq its n ∧ its.size ≤ sizeLine ∧ Vals xs its.toList
def SqT (K : PySem.W.Frag) (H : Hp) (a : Addr) (xs : List V) : Prop :=
  Rd H a (.tup xs) ∨
    ∃ (o : Obj) (its : Array Value) (n : Nat), K.lookup a = some o ∧ o.cls = .type "tuple" ∧ o.data = .seq its n ∧ its.size ≤ sizeLine ∧ Vals xs its.toList
def absV : Value → Option V
  | .none => some .non
  | .bool b => some (.bl b)
  | .int i _ => some (.int i)
  | .str x _ => some (.str x)
  | .bytes b _ => some (.byt b)
  | .float b _ => some (.flt b)
  | .ref a => some (.ref a)
  | .type n => some (.ty n)
  | _ => none
theorem RelV.abs {x : V} {u : Value} (r : RelV x u) : absV u = some x := by
  cases x with
  | non => cases r; rfl
  | bl _ => cases r; rfl
  | int _ => obtain ⟨t, rfl⟩ := r; rfl
  | str _ => obtain ⟨t, rfl⟩ := r; rfl
  | byt _ => obtain ⟨t, rfl⟩ := r; rfl
  | flt _ => obtain ⟨t, rfl⟩ := r; rfl
  | ref _ => cases r; rfl
  | ty _ => cases r; rfl
theorem RelV.inj {x y : V} {u : Value} (r : RelV x u) (q : RelV y u) : x = y := Option.some.inj (r.abs.symm.trans q.abs)
theorem Vals.inj : ∀ {xs ys : List V} {us : List Value}, Vals xs us → Vals ys us → xs = ys
  | _, _, _, .nil, .nil => rfl
  | _, _, _, .cons r t, .cons r' t' => by rw [r.inj r', Vals.inj t t']
section
variable {X : Cx} {pins : List (Addr × Obj)} {σ : St} {H : Hp} {s : Shared} {a : Addr} {xs ys : List V}
theorem SqL.of {K : PySem.W.Frag} (h : H a = some (.lst xs)) : SqL K H a xs := .inl (.inl h)
theorem SqT.of {K : PySem.W.Frag} (h : H a = some (.tup xs)) : SqT K H a xs := .inl (.inl h)
theorem Inv.list (I : Inv X pins σ H s) (h : SqL X.K H a xs) : ∃ its : List Value, Vals xs its ∧ PlainL s.heap a its.toArray ∧ xs.length ≤ sizeLine := by
  rcases h with h | ⟨o, its, n, hk, hc, hd, hs, hz, r⟩
  · obtain ⟨z, its, n, r, e⟩ := h.ok I.hok
    exact ⟨its, r, ⟨_, n, e, rfl, rfl, rfl⟩, z⟩
  · refine ⟨its.toList, r, ⟨o, n, I.kIn a o hk, hc, hd, by simpa using hs⟩, ?_⟩
    have e := r.length
    simp only [Array.length_toList] at e
    omega
theorem Inv.tuple (I : Inv X pins σ H s) (h : SqT X.K H a xs) : ∃ its : List Value, Vals xs its ∧ IsTup s.heap a its.toArray ∧ xs.length ≤ sizeLine := by
  rcases h with h | ⟨o, its, n, hk, hc, hs, hz, r⟩
  · obtain ⟨z, its, r, p⟩ := h.ok I.hok
    exact ⟨its, r, p, z⟩
  · refine ⟨its.toList, r, ⟨o, I.kIn a o hk, hc, n, by simpa using hs⟩, ?_⟩
    have e := r.length
    simp only [Array.length_toList] at e
    omega
theorem Inv.list_inj (I : Inv X pins σ H s) (h : SqL X.K H a xs) (h' : SqL X.K H a ys) : xs = ys := by
  obtain ⟨its, r, ⟨o, n, e, _, _, d⟩, _⟩ := I.list h
  obtain ⟨its', r', ⟨o', n', e', _, _, d'⟩, _⟩ := I.list h'
  rw [e] at e'; cases e'
  rw [d] at d'
  injection d' with d1 _
  have : its = its' := by simpa using congrArg Array.toList d1
  subst this
  exact r.inj r'
theorem Inv.tuple_inj (I : Inv X pins σ H s) (h : SqT X.K H a xs) (h' : SqT X.K H a ys) : xs = ys := by
  obtain ⟨its, r, ⟨o, e, _, n, d⟩, _⟩ := I.tuple h
  obtain ⟨its', r', ⟨o', e', _, n', d'⟩, _⟩ := I.tuple h'
  rw [e] at e'; cases e'
  rw [d] at d'
  injection d' with d1 _
  have : its = its' := by simpa using congrArg Array.toList d1
  subst this
  exact r.inj r'
end
abbrev Cx.wish (X : Cx) (E : Value → Shared → Prop) : Cx := { X with xe := E }
abbrev Cx.nox (X : Cx) : Cx := X.wish fun _ _ => False
theorem Cx.Ok.wish {X : Cx} (ok : X.Ok) (E : Value → Shared → Prop) : (X.wish E).Ok :=
  ⟨ok.mod, ok.kind, ok.glob, ok.blt, ok.above, ok.inj, ok.has, ok.cab, ok.hd, ok.frames, ok.stk, ok.exf, ok.bs, ok.bsz, ok.noex, ok.exfs, ok.funs, ok.frf⟩
theorem Cx.Ok.unwish {X : Cx} {E : Value → Shared → Prop} (ok : (X.wish E).Ok) : X.Ok :=
  ⟨ok.mod, ok.kind, ok.glob, ok.blt, ok.above, ok.inj, ok.has, ok.cab, ok.hd, ok.frames, ok.stk, ok.exf, ok.bs, ok.bsz, ok.noex, ok.exfs, ok.funs, ok.frf⟩
section
variable {X : Cx} {pins : List (Addr × Obj)} {σ : St} {H : Hp} {s : Shared} {E : Value → Shared → Prop}
theorem Inv.wish (I : Inv X pins σ H s) (E : Value → Shared → Prop) : Inv (X.wish E) pins σ H s := ⟨I.ok.wish E, I.os, I.bare, I.base, I.loc, I.cell, I.free, I.freeC, I.pin, I.hok, I.len⟩
theorem Inv.unwish (I : Inv (X.wish E) pins σ H s) : Inv X pins σ H s := ⟨I.ok.unwish, I.os, I.bare, I.base, I.loc, I.cell, I.free, I.freeC, I.pin, I.hok, I.len⟩
theorem SP.unwish {D : Ends} {f : Flow} {s' : Shared} (h : SP (X.wish E) pins D f s') : SP X pins D f s' := by
  cases f with
  | next => obtain ⟨σ', H', I, q⟩ := h; exact ⟨σ', H', I.unwish, q⟩
  | brk => obtain ⟨σ', H', I, q⟩ := h; exact ⟨σ', H', I.unwish, q⟩
  | cont => obtain ⟨σ', H', I, q⟩ := h; exact ⟨σ', H', I.unwish, q⟩
  | ret u => obtain ⟨v, σ', H', I, r, q⟩ := h; exact ⟨v, σ', H', I.unwish, r, q⟩
theorem PSs.nox {st : List Stmt} {t : TS} (h : PSs X.nox st t) : PSs X st t := fun pins s σ H D I hw =>
  wpAny_mono (h pins s σ H D (I.wish _) hw) (fun _ _ q => q.unwish) fun _ _ z => False.elim z
end
section
variable {X : Cx} {st : Stmt} {rest : List Stmt} {t u : TS} {e : Expr} {te : TE} {pos : Pos}
def tNext : TS := fun D σ H => D.nx σ H
def tSeq (t u : TS) : TS := fun D σ H => t { D with nx := u D } σ H
theorem pss_nil : PSs X [] tNext := fun _ _ σ H _ I h => wpAny_execs_nil ⟨σ, H, I, h⟩
theorem pss_cons (h1 : PS X st t) (h2 : PSs X rest u) : PSs X (st :: rest) (tSeq t u) := by
  intro pins s σ H D I h
  refine wpAny_execs_cons (thn (h1 pins s σ H { D with nx := u D } I h) fun f s1 q => ?_)
  cases f with
  | next =>
    obtain ⟨σ', H', I', q⟩ := q
    exact h2 pins s1 σ' H' D I' q
  | ret v => exact q
  | brk => exact q
  | cont => exact q
theorem pss_one (h1 : PS X st t) : PSs X [st] t := by
  intro pins s σ H D I h
  refine wpAny_execs_cons (thn (h1 pins s σ H D I h) fun f s1 q => ?_)
  cases f with
  | next => exact wpAny_execs_nil q
  | ret v => exact q
  | brk => exact q
  | cont => exact q
theorem Inv.quiet {pins : List (Addr × Obj)} {σ : St} {H : Hp} {s : Shared} (I : Inv X pins σ H s) : interactive X.env = false := by simp [interactive, I.ok.kind]
def tDrop (te : TE) : TS := fun D σ H => te σ H fun _ H1 => D.nx σ H1
theorem ps_expr (he : PE X e te) (hs : swapsWith e none pos.line X.env = pure false := by rfl) : PS X (.Expr e pos) (tDrop te) := by
  intro pins s σ H D I h
  exact wpAny_Expr_any (thn (he pins s σ H _ I h) fun v s1 ⟨x, H1, I1, r1, q1⟩ => ⟨σ, H1, I1, q1⟩) I.quiet hs
def tRet (te : TE) : TS := fun D σ H => te σ H D.rt
theorem ps_ret (he : PE X e te) : PS X (.Return (some e) pos) (tRet te) := by
  intro pins s σ H D I h
  exact wpAny_Return_some (thn (he pins s σ H _ I h) fun v s1 ⟨x, H1, I1, r1, q1⟩ => ⟨x, σ, H1, I1, r1, q1⟩)
def tIfS (c : TT) (t u : TS) : TS := fun D σ H => c σ H fun b H1 => if b = true then t D σ H1 else u D σ H1
theorem ps_if {c : Expr} {a b : List Stmt} {tc : TT} (hc : PT X c tc) (ha : PSs X a t) (hb : PSs X b u) : PS X (.If c a b pos) (tIfS tc t u) := by
  intro pins s σ H D I h
  refine wpAny_If (thn (hc pins s σ H _ I h) fun d s1 ⟨H1, I1, q1⟩ => ?_)
  cases d with
  | true => exact ha pins s1 σ H1 D I1 q1
  | false => exact hb pins s1 σ H1 D I1 q1
end
abbrev TG := V → St → Hp → (St → Hp → Prop) → Prop
abbrev TGs := List V → St → Hp → (St → Hp → Prop) → Prop
def PG (X : Cx) (target : Expr) (t : TG) : Prop :=
  ∀ (pins : List (Addr × Obj)) (s : Shared) (σ : St) (H : Hp) (v : V) (u : Value) (Q : St → Hp → Prop), Inv X pins σ H s → RelV v u → t v σ H Q →
    wpAny (model X.prog X.w) X.A (assign target X.env u) (fun _ s' => ∃ σ' H', Inv X pins σ' H' s' ∧ Q σ' H') X.xe s
def PGs (X : Cx) (ts : List Expr) (t : TGs) : Prop :=
  ∀ (pins : List (Addr × Obj)) (s : Shared) (σ : St) (H : Hp) (vs : List V) (us : List Value) (Q : St → Hp → Prop), Inv X pins σ H s → Vals vs us → t vs σ H Q →
    wpAny (model X.prog X.w) X.A (assignInOrder ((assignEach ts X.env).map (·.2)) us) (fun _ s' => ∃ σ' H', Inv X pins σ' H' s' ∧ Q σ' H') X.xe s
abbrev TSet := V → V → V → Hp → (Hp → Prop) → Prop
def PSet (X : Cx) (t : TSet) : Prop :=
  ∀ (pins : List (Addr × Obj)) (s : Shared) (σ : St) (H : Hp) (o i v : V) (ov iv u : Value) (Q : Hp → Prop), Inv X pins σ H s → RelV o ov → RelV i iv → RelV v u → t o i v H Q →
    wpAny (model X.prog X.w) X.A (setItem ov iv u) (fun _ s' => ∃ H', Inv X pins σ H' s' ∧ Q H') X.xe s
section
variable {X : Cx} {pos : Pos}
def gName (i : Nat) : TG := fun v σ H Q => Q (σ.set i (some v)) H
theorem pg_name {i : Nat} {x : Str} (hN : X.N.Nodup) (hi : X.N[i]? = some x) (hx : Loc X.env.scope x) (hf : X.fn x = true ∨ X.env.scope.names.lookup x = some .local := by first | exact .inl rfl | exact .inr rfl | assumption) : PG X (.Name x pos) (gName i) := by
  intro pins s σ H v u Q I r h
  exact wpAny_assign_Name (store_ok I hN hi hx r (fun s' I' => ⟨_, H, I', h⟩) hf)
def gNil : TGs := fun vs σ H Q => vs = [] ∧ Q σ H
def gCons (t : TG) (u : TGs) : TGs := fun vs σ H Q => ∃ v r, vs = v :: r ∧ t v σ H fun σ' H' => u r σ' H' Q
theorem pgs_nil : PGs X [] gNil := by
  intro pins s σ H vs us Q I r h
  obtain ⟨e, h⟩ := h
  subst e
  cases r
  exact assignInOrder_nil ⟨σ, H, I, h⟩
theorem pgs_cons {e : Expr} {es : List Expr} {t : TG} {u : TGs} (h1 : PG X e t) (h2 : PGs X es u)
    (hs : (assignEach (e :: es) X.env).map (·.2) = assign e X.env :: (assignEach es X.env).map (·.2) := by rfl) : PGs X (e :: es) (gCons t u) := by
  intro pins s σ H vs us Q I r h
  obtain ⟨v, vr, e1, h⟩ := h
  subst e1
  cases r with
  | cons r rr =>
    rw [hs]
    refine assignInOrder_cons (thn (h1 pins s σ H _ _ _ I r h) fun _ s1 ⟨σ1, H1, I1, q1⟩ => ?_)
    exact h2 pins s1 σ1 H1 _ _ Q I1 rr q1
def gTup (K : PySem.W.Frag) (n : Nat) (t : TGs) : TG := fun v σ H Q => ∃ a xs, v = .ref a ∧ SqT K H a xs ∧ xs.length = n ∧ t xs σ H Q
theorem pg_tup {es : List Expr} {k : Nat} {t : TGs} {n : Nat} (hc : X.calm = true) (h : PGs X es t)
    (hn : (assignEach es X.env).length = n := by rfl) (hst : (assignEach es X.env).findIdx? (·.1) = none := by rfl) : PG X (.Tuple es k pos) (gTup X.K n t) := by
  intro pins s σ H v u Q I r hw
  obtain ⟨a, xs, e1, hq, hl, hw⟩ := hw
  subst e1
  cases r
  obtain ⟨its, rv, ht, hz⟩ := I.tuple hq
  refine assign_Tuple_tuple (I.ok.hd hc) ht (by simp [hn, ← hl, rv.length]) hst fun h' hx => ?_
  have I1 : Inv X pins σ H { s with heap := h' } := I.kept (t' := s.toks) fun b o e => hx b o (Nat.ne_of_lt (Heap.lt_size e)) e
  exact h pins _ σ H xs _ Q I1 (by simpa using rv) hw
def gSub (to ti : TE) (t : TSet) : TG := fun v σ H Q => to σ H fun o H1 => ti σ H1 fun i H2 => t o i v H2 fun H3 => Q σ H3
theorem pg_sub {o i : Expr} {to ti : TE} {t : TSet} (ho : PE X o to) (hi : PE X i ti) (hs : PSet X t)
    (ha : ∀ v, assign (.Subscript o i pos) X.env v = (do
      let ov ← holding [v] (eval o X.env)
      let iv ← holding [v, ov] (eval i X.env)
      standAt pos
      holding [v, ov, iv] (setItem ov iv v)
      release [v, ov, iv] []) := by intro _; rfl) : PG X (.Subscript o i pos) (gSub to ti t) := by
  intro pins s σ H v u Q I r h
  rw [ha]
  refine wpAny_bind (wpAny_holding (thn (ho pins s σ H _ I h) fun ov s1 ⟨x, H1, I1, r1, q1⟩ => ?_))
  refine wpAny_bind (wpAny_holding (thn (hi pins s1 σ H1 _ I1 q1) fun iv s2 ⟨y, H2, I2, r2, q2⟩ => ?_))
  refine wpAny_bind (wpAny_standAt (wpAny_bind (wpAny_holding (thn (hs pins s2 σ H2 x y v ov iv u _ I2 r1 r2 r q2) fun _ s3 ⟨H3, I3, q3⟩ => ?_))))
  exact wpAny_release ⟨σ, H3, I3, q3⟩
def tAsg (te : TE) (g : TG) : TS := fun D σ H => te σ H fun x H1 => g x σ H1 D.nx
theorem ps_asg {tg e : Expr} {te : TE} {g : TG} (he : PE X e te) (hg : PG X tg g) (hs : swapsWithSole [tg] e pos.line X.env = pure false := by rfl) (hw : swappedStores [tg] e X.env = pure none := by rfl)
    (h1 : (assignEach [tg] X.env).map (·.2) = [assign tg X.env] := by rfl) : PS X (.Assign [tg] e pos) (tAsg te g) := by
  intro pins s σ H D I h
  refine wpAny_Assign_stores (thn (he pins s σ H _ I h) fun v s1 ⟨x, H1, I1, r1, q1⟩ => ?_) hs hw
  rw [h1]
  exact thn (hg pins s1 σ H1 x v _ I1 r1 q1) fun _ s2 q => q
theorem ps_set {i : Nat} {x : Str} {e : Expr} {te : TE} {pos' : Pos} (hN : X.N.Nodup) (hi : X.N[i]? = some x) (hx : Loc X.env.scope x) (he : PE X e te) (hs : swapsWith e (some (.Name x pos')) pos.line X.env = pure false := by rfl) (hf : X.fn x = true ∨ X.env.scope.names.lookup x = some .local := by first | exact .inl rfl | exact .inr rfl | assumption) :
    PS X (.Assign [.Name x pos'] e pos) (tAsg te (gName i)) := by
  intro pins s σ H D I h
  refine wpAny_Assign_Name (thn (he pins s σ H _ I h) fun v s1 ⟨y, H1, I1, r1, q1⟩ => ?_) hs
  exact store_ok I1 hN hi hx r1 (fun s2 I2 => ⟨_, H1, I2, q1⟩) hf
end
structure It where
  go : Nat → Hp → Prop
  yld : Nat → Hp → V → Hp → Prop
  stop : Nat → Hp → Prop
def FpOk (X : Cx) (pins : List (Addr × Obj)) (H : Hp) (b : Addr) : Prop :=
  H b = none ∧ b ≠ X.env.locals ∧ b ∉ X.fs ∧ (b ∈ X.ex ∨ X.s₀.heap.objs.size ≤ b) ∧ (∀ x c, X.env.cells.lookup x = some c → c ≠ b) ∧ ∀ p ∈ X.pn ++ pins, p.1 ≠ b
theorem Inv.fpOk {X : Cx} {pins : List (Addr × Obj)} {σ : St} {H H' : Hp} {s : Shared} {b : Addr} (I : Inv X pins σ H s) (hb : s.heap.objs.size ≤ b) (hn : H' b = none) : FpOk X pins H' b := by
  refine ⟨hn, Nat.ne_of_gt (Nat.lt_of_lt_of_le I.lt hb), I.nofs hb, .inr (Nat.le_trans I.sz hb), fun x c e z => ?_, fun p hp z => ?_⟩
  · obtain ⟨v, q⟩ := I.cell x c e
    exact absurd (Nat.lt_of_lt_of_le q.lt (by rw [z]; exact hb)) (Nat.lt_irrefl _)
  · exact absurd (Nat.lt_of_lt_of_le (Heap.lt_size (I.pin p hp).1) (by rw [z]; exact hb)) (Nat.lt_irrefl _)
structure Turn (P : Program) (w : World) (K : PySem.W.Frag) (tg : Expr) (J : It) (fp : List Addr) (it : Addr) (tn : Nat → Heap → Prop) : Prop where
  mem : it ∈ fp
  obj : ∀ i h, tn i h → ∀ b ∈ fp, ∃ o, h.get? b = some o ∧ ∀ v, o.data ≠ .cell v
  keep : ∀ i h h', tn i h → (∀ b ∈ fp, ∀ o, h.get? b = some o → h'.get? b = some o) → tn i h'
  item : ∀ (X : Cx), X.prog = P → X.w = w → X.K = K → X.calm = true → ∀ (i : Nat) (pins : List (Addr × Obj)) (s : Shared) (σ : St) (H : Hp) (E : Value → Shared → Prop), Inv X pins σ H s → (∀ b ∈ fp, FpOk X pins H b) → tn i s.heap → J.go i H →
    wpAny (model P w) X.A (pyNext (.ref it)) (fun r s1 => ∃ u, r = some u ∧
      wpAny (model P w) X.A (letOwnedTupleGo tg (.ref it) u) (fun _ s2 => ∃ x H', Inv X pins σ H' s2 ∧ RelV x u ∧ J.yld i H x H' ∧ tn (i + 1) s2.heap ∧ ∀ b ∈ fp, H' b = none) E s1) E s
  done : ∀ (X : Cx), X.prog = P → X.w = w → X.K = K → X.calm = true → ∀ (i : Nat) (pins : List (Addr × Obj)) (s : Shared) (σ : St) (H : Hp) (E : Value → Shared → Prop), Inv X pins σ H s → (∀ b ∈ fp, FpOk X pins H b) → tn i s.heap → J.stop i H →
    wpAny (model P w) X.A (pyNext (.ref it)) (fun r s1 => r = none ∧ Inv X pins σ H s1) E s
  self : ∀ (A : Around) (i : Nat) (s : Shared) (Q : Value → Shared → Prop) (E : Value → Shared → Prop), tn i s.heap → Q (.ref it) s → wpAny (model P w) A (pyIter (.ref it)) Q E s
abbrev TI := St → Hp → (It → Hp → Prop) → Prop
def PIE (X : Cx) (pins : List (Addr × Obj)) (σ : St) (tg : Expr) (R : It → Hp → Prop) (itv : Value) (s2 : Shared) : Prop :=
  ∃ (it : Addr) (fp : List Addr) (tn : Nat → Heap → Prop) (J : It) (H' : Hp), itv = .ref it ∧ Inv X pins σ H' s2 ∧ Turn X.prog X.w X.K tg J fp it tn ∧ tn 0 s2.heap ∧ (∀ b ∈ fp, FpOk X pins H' b) ∧ R J H'
def PI (X : Cx) (tg iter : Expr) (wi : TI) : Prop :=
  ∀ (pins : List (Addr × Obj)) (s : Shared) (σ : St) (H : Hp) (R : It → Hp → Prop), Inv X pins σ H s → wi σ H R →
    wpAny (model X.prog X.w) X.A (eval iter X.env) (fun v s1 => wpAny (model X.prog X.w) X.A (pyIter v) (PIE X pins σ tg R) X.xe s1) X.xe s
theorem go_of {M : Model} {A : Around} {E : Value → Shared → Prop} {s : Shared} {tg : Expr} {it : Addr} {u : Value} {o : Obj} {n : String} {vs : Array Value} {Q : Unit → Shared → Prop} (ho : s.heap.get? it = some o) (hc : o.cls = .type n) (hd : o.data = .fields vs)
    (hn : ["enumerate", "zip", "dict_itemiterator", "dict_reverseitemiterator", "odict_iterator", "itertools.zip_longest", "itertools.pairwise"].contains n = false) (hQ : Q () s) : wpAny M A (letOwnedTupleGo tg (.ref it) u) Q E s := by
  unfold letOwnedTupleGo
  cases tg <;> first
    | exact wpAny_pure hQ
    | (cases u <;> first
        | exact wpAny_pure hQ
        | (refine wpAny_bind (wpAny_load ho ?_)
           rw [hc, hd]
           show wpAny M A (if (["enumerate", "zip", "dict_itemiterator", "dict_reverseitemiterator", "odict_iterator", "itertools.zip_longest", "itertools.pairwise"].contains n && vs[0]? == some (rawInt _)) = true then _ else _) Q E s
           rw [if_neg (by intro h; rw [hn, Bool.false_and] at h; cases h)]
           exact wpAny_pure hQ))
def Itl (K : PySem.W.Frag) (a : Addr) : It :=
  ⟨fun i H => ∃ xs x, SqL K H a xs ∧ xs[i]? = some x, fun i H x H' => H' = H ∧ ∀ xs, SqL K H a xs → xs[i]? = some x, fun i H => ∃ xs, SqL K H a xs ∧ xs.length ≤ i⟩
def Itt (K : PySem.W.Frag) (a : Addr) : It :=
  ⟨fun i H => ∃ xs x, SqT K H a xs ∧ xs[i]? = some x, fun i H x H' => H' = H ∧ ∀ xs, SqT K H a xs → xs[i]? = some x, fun i H => ∃ xs, SqT K H a xs ∧ xs.length ≤ i⟩
def Itr (lo : Int) (n : Nat) : It := ⟨fun i _ => i < n, fun i H x H' => H' = H ∧ x = .int (lo + i), fun i _ => n ≤ i⟩
theorem turn_list {P : Program} {w : World} {K : PySem.W.Frag} {tg : Expr} (a it : Addr) : Turn P w K tg (Itl K a) [it] it (fun i h => h.IsListIter it a i) where
  mem := by simp
  obj := fun i h st b hb => by
    have e : b = it := by simpa using hb
    subst e
    obtain ⟨o, e, c, d⟩ := st
    exact ⟨o, e, fun v z => by rw [d] at z; cases z⟩
  keep := fun i h h' st k => st.at fun o e => k it (by simp) o e
  item := by
    intro X hP hw hK hc i pins s σ H E I hf st hg
    subst hP hw hK
    obtain ⟨xs, x, hq, hx⟩ := hg
    obtain ⟨its, rv, p, hz⟩ := I.list hq
    obtain ⟨u, hu, ru⟩ := rv.get hx
    obtain ⟨f0, f1, f2, f3, f4, f5⟩ := hf it (by simp)
    refine wpAny_pyNext_list_item st p.isList (x := u) (by simpa using hu) fun h' st' sb => ?_
    have I1 : Inv X pins σ H { s with heap := h' } := I.turned (t' := s.toks) (fun b o hb e => (sb.2 b hb).trans e) f0 f1 f3 f4 f5
    obtain ⟨o, e, c, d⟩ := id st'
    exact ⟨u, rfl, go_of (s := { s with heap := h' }) e c d (by decide) ⟨x, H, I1, ru, ⟨rfl, fun ys hy => by rw [I.list_inj hy hq]; exact hx⟩, st', fun b hb => (hf b hb).1⟩⟩
  done := by
    intro X hP hw hK hc i pins s σ H E I hf st hg
    subst hP hw hK
    obtain ⟨xs, hq, hx⟩ := hg
    obtain ⟨its, rv, p, hz⟩ := I.list hq
    obtain ⟨f0, f1, f2, f3, f4, f5⟩ := hf it (by simp)
    have hl := rv.length
    exact wpAny_pyNext_list_end (I.ok.hd hc) st p.isList (by simp; omega) fun h' eb => ⟨rfl, I.turned (t' := s.toks) (fun b o hb e => eb b o hb e) f0 f1 f3 f4 f5⟩
  self := fun _ _ _ _ _ st h => wpAny_pyIter_listiter st h
theorem turn_tuple {P : Program} {w : World} {K : PySem.W.Frag} {tg : Expr} (a it : Addr) : Turn P w K tg (Itt K a) [it] it (fun i h => h.IsTupleIter it a i) where
  mem := by simp
  obj := fun i h st b hb => by
    have e : b = it := by simpa using hb
    subst e
    obtain ⟨o, e, c, d⟩ := st
    exact ⟨o, e, fun v z => by rw [d] at z; cases z⟩
  keep := fun i h h' st k => st.at fun o e => k it (by simp) o e
  item := by
    intro X hP hw hK hc i pins s σ H E I hf st hg
    subst hP hw hK
    obtain ⟨xs, x, hq, hx⟩ := hg
    obtain ⟨its, rv, p, hz⟩ := I.tuple hq
    obtain ⟨u, hu, ru⟩ := rv.get hx
    obtain ⟨f0, f1, f2, f3, f4, f5⟩ := hf it (by simp)
    refine wpAny_pyNext_tuple_item st (show s.heap.IsTuple a its.toArray from p) (x := u) (by simpa using hu) fun h' st' sb => ?_
    have I1 : Inv X pins σ H { s with heap := h' } := I.turned (t' := s.toks) (fun b o hb e => (sb.2 b hb).trans e) f0 f1 f3 f4 f5
    obtain ⟨o, e, c, d⟩ := id st'
    exact ⟨u, rfl, go_of (s := { s with heap := h' }) e c d (by decide) ⟨x, H, I1, ru, ⟨rfl, fun ys hy => by rw [I.tuple_inj hy hq]; exact hx⟩, st', fun b hb => (hf b hb).1⟩⟩
  done := by
    intro X hP hw hK hc i pins s σ H E I hf st hg
    subst hP hw hK
    obtain ⟨xs, hq, hx⟩ := hg
    obtain ⟨its, rv, p, hz⟩ := I.tuple hq
    obtain ⟨f0, f1, f2, f3, f4, f5⟩ := hf it (by simp)
    have hl := rv.length
    exact wpAny_pyNext_tuple_end (I.ok.hd hc) st (show s.heap.IsTuple a its.toArray from p) (by simp; omega) fun h' eb => ⟨rfl, I.turned (t' := s.toks) (fun b o hb e => eb b o hb e) f0 f1 f3 f4 f5⟩
  self := fun _ _ _ _ _ st h => wpAny_pyIter_tupleiter st h
theorem turn_range {P : Program} {w : World} {K : PySem.W.Frag} {tg : Expr} (it : Addr) (lo : Int) (n : Nat) : Turn P w K tg (Itr lo n) [it] it (fun i h => IsRangeIter h it (lo + (i : Nat) * 1) ((n : Int) - (i : Nat)) 1) where
  mem := by simp
  obj := fun i h st b hb => by
    have e : b = it := by simpa using hb
    subst e
    exact ⟨_, st, fun v z => by
      have z' : Data.fields _ = Data.cell v := z
      cases z'⟩
  keep := fun i h h' st k => k it (by simp) _ st
  item := by
    intro X hP hw hK hc i pins s σ H E I hf st hg
    subst hP hw hK
    obtain ⟨f0, f1, f2, f3, f4, f5⟩ := hf it (by simp)
    have W := Walks.range (prog := X.prog) (w := X.w) (I.ok.hd hc) it lo 1 n
    refine W.item i s _ _ hg st fun v h' tk hv st' kk => ?_
    obtain ⟨t, rfl⟩ := hv
    have I1 : Inv X pins σ H { s with heap := h', toks := tk } := I.turned (fun b o hb e => kk b o (by simpa using hb) e) f0 f1 f3 f4 f5
    refine ⟨_, rfl, go_of (s := { s with heap := h', toks := tk }) (n := "range_iterator") st' rfl rfl (by decide) ⟨.int (lo + i), H, I1, ⟨t, ?_⟩, ⟨rfl, rfl⟩, st', fun b hb => (hf b hb).1⟩⟩
    rw [Int.mul_one]
  done := by
    intro X hP hw hK hc i pins s σ H E I hf st hg
    subst hP hw hK
    obtain ⟨f0, f1, f2, f3, f4, f5⟩ := hf it (by simp)
    exact wpAny_pyNext_range_end (I.ok.hd hc) st (by have : n ≤ i := hg; omega) fun h' eb => ⟨rfl, I.turned (t' := s.toks) (fun b o hb e => eb b o hb e) f0 f1 f3 f4 f5⟩
  self := fun _ _ _ _ _ st h => wpAny_pyIter_rangeiter st h
end L2
namespace L2
open PySem PySem.Spec PyProof.Rows
section
variable {X : Cx} {tg : Expr}
def iList (K : PySem.W.Frag) (tl : TE) : TI := fun σ H R => tl σ H fun x H1 => ∃ a, x = .ref a ∧ (∃ xs, SqL K H1 a xs) ∧ R (Itl K a) H1
def iTup (K : PySem.W.Frag) (tl : TE) : TI := fun σ H R => tl σ H fun x H1 => ∃ a, x = .ref a ∧ (∃ xs, SqT K H1 a xs) ∧ R (Itt K a) H1
theorem pi_list {l : Expr} {tl : TE} (hl : PE X l tl) : PI X tg l (iList X.K tl) := by
  intro pins s σ H R I h
  refine thn (hl pins s σ H _ I h) fun v s1 ⟨x, H1, I1, r1, q1⟩ => ?_
  obtain ⟨a, e, ⟨xs, hq⟩, q⟩ := q1
  subst e
  cases r1
  obtain ⟨its, rv, p, hz⟩ := I1.list hq
  refine wpAny_pyIter_list p.isList ?_
  refine ⟨s1.heap.objs.size, [s1.heap.objs.size], _, _, H1, rfl, I1.kept (t' := s1.toks) fun b o e => Heap.get?_push_of_some _ e, turn_list a _, ⟨_, Heap.get?_push_size _ rfl, rfl, rfl⟩, fun b hb => ?_, q⟩
  have e : b = s1.heap.objs.size := by simpa using hb
  subst e
  exact I1.fpOk (Nat.le_refl _) (I1.hok.fresh (Nat.le_refl _))
theorem pi_tup {l : Expr} {tl : TE} (hl : PE X l tl) : PI X tg l (iTup X.K tl) := by
  intro pins s σ H R I h
  refine thn (hl pins s σ H _ I h) fun v s1 ⟨x, H1, I1, r1, q1⟩ => ?_
  obtain ⟨a, e, ⟨xs, hq⟩, q⟩ := q1
  subst e
  cases r1
  obtain ⟨its, rv, p, hz⟩ := I1.tuple hq
  refine wpAny_pyIter_tuple (show s1.heap.IsTuple a its.toArray from p) ?_
  refine ⟨s1.heap.objs.size, [s1.heap.objs.size], _, _, H1, rfl, I1.kept (t' := s1.toks) fun b o e => Heap.get?_push_of_some _ e, turn_tuple a _, ⟨_, Heap.get?_push_size _ rfl, rfl, rfl⟩, fun b hb => ?_, q⟩
  have e : b = s1.heap.objs.size := by simpa using hb
  subst e
  exact I1.fpOk (Nat.le_refl _) (I1.hok.fresh (Nat.le_refl _))
theorem range_it {pins : List (Addr × Obj)} {σ : St} {H : Hp} {s : Shared} {R : It → Hp → Prop} {E : Value → Shared → Prop} {lo hi : Int} {t u v : Tok} {tk : Nat} (I : Inv X pins σ H s) (h1 : -(2 ^ 62) ≤ lo) (h2 : lo < 2 ^ 62) (h3 : -(2 ^ 62) ≤ hi) (h4 : hi < 2 ^ 62)
    (q : R (Itr lo (hi - lo).toNat) H) : wpAny (model X.prog X.w) X.A (pyIter (.ref s.heap.objs.size)) (PIE X pins σ tg R) E { s with heap := s.heap.push { cls := .type "range", data := .fields #[.int lo t, .int hi u, .int 1 v] }, toks := tk } := by
  refine wpAny_pyIter_range (IsRange.new ..) (small_one h1 h2 h3 h4) ?_
  have I1 : Inv X pins σ H { s with heap := s.heap.push { cls := .type "range", data := .fields #[.int lo t, .int hi u, .int 1 v] }, toks := tk } := I.kept fun b o e => Heap.get?_push_of_some _ e
  refine ⟨(s.heap.push { cls := .type "range", data := .fields #[.int lo t, .int hi u, .int 1 v] }).objs.size, [(s.heap.push { cls := .type "range", data := .fields #[.int lo t, .int hi u, .int 1 v] }).objs.size], _, _, H, rfl,
    I1.kept (t' := tk) fun b o e => Heap.get?_push_of_some _ e, turn_range _ lo (hi - lo).toNat, ?_, fun b hb => ?_, q⟩
  · have e1 : lo + ((0 : Nat) : Int) * 1 = lo := by simp
    have e2 : (((hi - lo).toNat : Nat) : Int) - ((0 : Nat) : Int) = Builtin.Range.rangeSize lo hi 1 := by rw [rangeSize_one]; split <;> omega
    show IsRangeIter _ _ (lo + ((0 : Nat) : Int) * 1) ((((hi - lo).toNat : Nat) : Int) - ((0 : Nat) : Int)) 1
    rw [e1, e2]
    exact Heap.get?_push_size _ rfl
  · have e : b = (s.heap.push { cls := .type "range", data := .fields #[.int lo t, .int hi u, .int 1 v] }).objs.size := by simpa using hb
    subst e
    exact I1.fpOk (Nat.le_refl _) (I1.hok.fresh (Nat.le_refl _))
def iRng1 (ta : TA) : TI := fun σ H R => ta σ H fun vs H1 => ∃ j : Int, vs = [.int j] ∧ -(2 ^ 62) ≤ j ∧ j < 2 ^ 62 ∧ R (Itr 0 j.toNat) H1
def iRng2 (ta : TA) : TI := fun σ H R => ta σ H fun vs H1 => ∃ i j : Int, vs = [.int i, .int j] ∧ (-(2 ^ 62) ≤ i ∧ i < 2 ^ 62 ∧ -(2 ^ 62) ≤ j ∧ j < 2 ^ 62) ∧ R (Itr i (j - i).toNat) H1
theorem pi_range1 {a : Expr} {ta : TA} {p pos : Pos} (hg : Gl X "range") (hm : X.mg "range" = none) (ha : PA X [a] ta) (hs : starEach [a] X.env = [(false, eval a X.env)] := by rfl) : PI X tg (.Call (.Name "range" p) [a] [] pos) (iRng1 ta) := by
  intro pins s σ H R I h
  refine Call_ (ld_blt I hg hm boot_range (PyProof.Rows.callWith_type1 (thn (ha pos pins s σ H _ I h) fun us s1 ⟨vs, H1, I1, r1, q1⟩ => ?_) hs rfl))
  obtain ⟨j, e, q1, q2, q⟩ := q1
  subst e
  cases r1 with
  | cons r rr =>
    cases rr
    obtain ⟨t, rfl⟩ := r
    exact call_range_1 (range_it I1 (by omega) (by omega) q1 q2 (by simpa using q))
theorem pi_range2 {a b : Expr} {ta : TA} {p pos : Pos} (hg : Gl X "range") (hm : X.mg "range" = none) (ha : PA X [a, b] ta) (hs : starEach [a, b] X.env = [(false, eval a X.env), (false, eval b X.env)] := by rfl) (hs2 : starEach [b] X.env = [(false, eval b X.env)] := by rfl) :
    PI X tg (.Call (.Name "range" p) [a, b] [] pos) (iRng2 ta) := by
  intro pins s σ H R I h
  refine Call_ (ld_blt I hg hm boot_range (PyProof.Rows.callWith_type1 (thn (ha pos pins s σ H _ I h) fun us s1 ⟨vs, H1, I1, r1, q1⟩ => ?_) (by rw [hs, hs2]) (by rw [hs2]; rfl)))
  obtain ⟨i, j, e, ⟨q1, q2, q3, q4⟩, q⟩ := q1
  subst e
  cases r1 with
  | cons r rr =>
    cases rr with
    | cons r' rr =>
      cases rr
      obtain ⟨t, rfl⟩ := r
      obtain ⟨t', rfl⟩ := r'
      exact call_range_2 (range_it I1 q1 q2 q3 q4 q)
def tFor (wi : TI) (g : TG) (tb : TS) : TS := fun D σ H => wi σ H fun J H1 => ∃ W : Nat → Nat → St → Hp → Prop, (∃ m, W 0 m σ H1) ∧ ∀ i m σ H, W i m σ H →
  (J.stop i H ∧ D.nx σ H) ∨ (J.go i H ∧ ∃ N : St → Hp → Prop, (∀ σ' H', N σ' H' → ∃ m', m' < m ∧ W (i + 1) m' σ' H') ∧ ∀ x H', J.yld i H x H' → g x σ H' fun σ2 H2 => tb { D with nx := N, ct := N, bk := D.nx } σ2 H2)
def pinsAt (fp : List Addr) (h : Heap) : List (Addr × Obj) := fp.filterMap fun b => (h.get? b).map fun o => (b, o)
theorem mem_pinsAt {fp : List Addr} {h : Heap} {b : Addr} {o : Obj} (hb : b ∈ fp) (e : h.get? b = some o) : (b, o) ∈ pinsAt fp h := List.mem_filterMap.mpr ⟨b, hb, by rw [e]; rfl⟩
theorem of_pinsAt {fp : List Addr} {h : Heap} {p : Addr × Obj} (hp : p ∈ pinsAt fp h) : p.1 ∈ fp ∧ h.get? p.1 = some p.2 := by
  obtain ⟨b, hb, e⟩ := List.mem_filterMap.mp hp
  cases q : h.get? b with
  | none => rw [q] at e; cases e
  | some o =>
    rw [q] at e
    have e' : (b, o) = p := Option.some.inj e
    subst e'
    exact ⟨hb, q⟩
theorem Inv.pinned {pins : List (Addr × Obj)} {σ : St} {H : Hp} {s : Shared} {fp : List Addr} (I : Inv X pins σ H s) (hf : ∀ b ∈ fp, FpOk X pins H b) (ho : ∀ b ∈ fp, ∃ o, s.heap.get? b = some o ∧ ∀ v, o.data ≠ .cell v) : Inv X (pins ++ pinsAt fp s.heap) σ H s :=
  I.pins_of fun p hp => (List.mem_append.mp hp).elim (fun z => I.pin p (List.mem_append_right _ z)) fun z => by
    obtain ⟨hb, e⟩ := of_pinsAt z
    obtain ⟨f0, f1, f2, _⟩ := hf p.1 hb
    obtain ⟨o, e', d⟩ := ho p.1 hb
    rw [e] at e'; cases e'
    exact ⟨e, f0, f1, f2, d⟩
theorem Inv.unpinned {pins pl : List (Addr × Obj)} {σ : St} {H : Hp} {s : Shared} (I : Inv X (pins ++ pl) σ H s) : Inv X pins σ H s := I.pins_of fun p hp => I.pin p (List.mem_append_right _ (List.mem_append_left _ hp))
theorem ps_for {iter : Expr} {body : List Stmt} {wi : TI} {g : TG} {tb : TS} {pos : Pos} (hp : PassesOwn (model X.prog X.w) X.A X.env X.xe) (hc : X.calm = true) (hi : PI X tg iter wi) (hg : PG X tg g) (hb : PSs X body tb)
    (hs : ∀ x, foldedSetIterable iter X.env x = pure x := by intro _; rfl) : PS X (.For tg iter body [] pos) (tFor wi g tb) := by
  intro pins s σ H D I h
  refine wpAny_For (thn (hi pins s σ H _ I h) fun v s1 h1 => thn h1 fun itv s2 h2 => ?_) hs
  obtain ⟨it, fp, tn, J, H2, e, I2, T, st2, f2, W, ⟨m0, w0⟩, turn⟩ := h2
  subst e
  have stat : ∀ {H' : Hp}, (∀ b ∈ fp, H' b = none) → ∀ b ∈ fp, FpOk X pins H' b := fun hn b hb => ⟨hn b hb, (f2 b hb).2⟩
  refine codeAny_forLoop_any (fun n s' => ∃ i σ' H', Inv X pins σ' H' s' ∧ tn i s'.heap ∧ (∀ b ∈ fp, H' b = none) ∧ W i n σ' H') ?_ m0 ⟨0, σ, H2, I2, st2, fun b hb => (f2 b hb).1, w0⟩
  rintro n s3 ⟨i, σ3, H3, I3, st3, fr3, w3⟩
  rcases turn i n σ3 H3 w3 with ⟨stop, qn⟩ | ⟨go, N, hN, step⟩
  · refine wpAny_passesOwn hp (thn (T.done X rfl rfl rfl hc i pins s3 σ3 H3 X.xe I3 (stat fr3) st3 stop) fun r s4 ⟨hr, I4⟩ => ?_)
    subst hr
    exact wpAny_execs_nil ⟨σ3, H3, I4, qn⟩
  · refine wpAny_passesOwn hp (thn (T.item X rfl rfl rfl hc i pins s3 σ3 H3 X.xe I3 (stat fr3) st3 go) fun r s4 ⟨u, hr, h4⟩ => ?_)
    subst hr
    refine wpAny_passesOwn hp (thn h4 fun _ s5 ⟨x, H5, I5, r5, y5, st5, fr5⟩ => ?_)
    have I5' := I5.pinned (stat fr5) (T.obj _ _ st5)
    refine wpAny_passesOwn hp (thn (hg _ s5 σ3 H5 x u _ I5' r5 (step x H5 y5)) fun _ s6 ⟨σ6, H6, I6, q6⟩ => ?_)
    refine wpAny_passesOwn hp (thn (hb _ s6 σ6 H6 _ I6 q6) fun f s7 q7 => ?_)
    have again : ∀ {σ7 : St} {H7 : Hp}, Inv X (pins ++ pinsAt fp s5.heap) σ7 H7 s7 → N σ7 H7 → ∃ m, m < n ∧ ∃ i σ' H', Inv X pins σ' H' s7 ∧ tn i s7.heap ∧ (∀ b ∈ fp, H' b = none) ∧ W i m σ' H' := fun {σ7 H7} I7 n7 => by
      obtain ⟨m', hm, w7⟩ := hN σ7 H7 n7
      refine ⟨m', hm, i + 1, σ7, H7, I7.unpinned, T.keep _ _ _ st5 fun b hb o e => (I7.pin (b, o) (List.mem_append_right _ (List.mem_append_right _ (mem_pinsAt hb e)))).1, fun b hb => ?_, w7⟩
      obtain ⟨o, e, d⟩ := T.obj _ _ st5 b hb
      exact (I7.pin (b, o) (List.mem_append_right _ (List.mem_append_right _ (mem_pinsAt hb e)))).2.1
    cases f with
    | next => obtain ⟨σ7, H7, I7, n7⟩ := q7; exact again I7 n7
    | cont => obtain ⟨σ7, H7, I7, n7⟩ := q7; exact again I7 n7
    | brk => obtain ⟨σ7, H7, I7, q7⟩ := q7; exact ⟨σ7, H7, I7.unpinned, q7⟩
    | ret v => obtain ⟨x7, σ7, H7, I7, r7, q7⟩ := q7; exact ⟨x7, σ7, H7, I7.unpinned, r7, q7⟩
end
end L2
namespace L2
open PySem PySem.Spec PyProof.Rows
abbrev R2 := V → V → Hp → VK → Prop
def OpR (X : Cx) (f : Value → Value → Sem Value) (r : R2) : Prop :=
  ∀ (pins : List (Addr × Obj)) (s : Shared) (σ : St) (H : Hp) (x y : V) (v u : Value) (Q : VK), Inv X pins σ H s → RelV x v → RelV y u → r x y H Q →
    wpAny (model X.prog X.w) X.A (f v u) (EP X pins σ Q) X.xe s
def UnR (X : Cx) (f : Value → Sem Value) (r : V → Hp → VK → Prop) : Prop :=
  ∀ (pins : List (Addr × Obj)) (s : Shared) (σ : St) (H : Hp) (x : V) (v : Value) (Q : VK), Inv X pins σ H s → RelV x v → r x H Q →
    wpAny (model X.prog X.w) X.A (f v) (EP X pins σ Q) X.xe s
def CallR (X : Cx) (f : Value) (r : List V → Hp → VK → Prop) : Prop :=
  ∀ (pins : List (Addr × Obj)) (s : Shared) (σ : St) (H : Hp) (xs : List V) (us : List Value) (Q : VK), Inv X pins σ H s → Vals xs us → r xs H Q →
    wpAny (model X.prog X.w) X.A (call f us) (EP X pins σ Q) X.xe s
def tOp (r : R2) (ta tb : TE) : TE := fun σ H Q => ta σ H fun x H1 => tb σ H1 fun y H2 => r x y H2 Q
def tUn (r : V → Hp → VK → Prop) (ta : TE) : TE := fun σ H Q => ta σ H fun x H1 => r x H1 Q
def rI (C : Int → Int → Prop) (g : Int → Int → V) : R2 := fun x y H Q => ∃ i j, x = .int i ∧ y = .int j ∧ C i j ∧ Q (g i j) H
def rI0 (g : Int → Int → V) : R2 := fun x y H Q => ∃ i j, x = .int i ∧ y = .int j ∧ Q (g i j) H
def rU (g : Int → V) : V → Hp → VK → Prop := fun x H Q => ∃ i, x = .int i ∧ Q (g i) H
section
variable {X : Cx} {a b c : Expr} {ta tb tc : TE} {pos : Pos}
theorem binT (ha : PE X a ta) (hb : PE X b tb) {pins : List (Addr × Obj)} {s : Shared} {σ : St} {H : Hp} {R : V → V → Hp → Prop} (I : Inv X pins σ H s)
    (h : ta σ H fun x H1 => tb σ H1 fun y H2 => R x y H2) {Q : Value → Shared → Prop} {f : Value → Value → Sem Value}
    (hf : ∀ v u s2 x y H2, Inv X pins σ H2 s2 → RelV x v → RelV y u → R x y H2 → wpAny (model X.prog X.w) X.A (f v u) Q X.xe s2) :
    wpAny (model X.prog X.w) X.A (eval a X.env) (fun v s₁ => wpAny (model X.prog X.w) X.A (eval b X.env) (fun u s₂ => wpAny (model X.prog X.w) X.A (f v u) Q X.xe s₂) X.xe s₁) X.xe s := by
  refine thn (ha pins s σ H _ I h) fun v s1 ⟨x, H1, I1, r1, q1⟩ => ?_
  refine thn (hb pins s1 σ H1 _ I1 q1) fun u s2 ⟨y, H2, I2, r2, q2⟩ => ?_
  exact hf v u s2 x y H2 I2 r1 r2 q2
theorem pe_op {op : Operator} {r : R2} (ho : OpR X (binaryOp op) r) (ha : PE X a ta) (hb : PE X b tb) : PE X (.BinOp a op b pos) (tOp r ta tb) := by
  intro pins s σ H Q I h
  exact wpAny_BinOp (binT ha hb I h fun v u s2 x y H2 I2 rx ry q => ho pins s2 σ H2 x y v u Q I2 rx ry q)
theorem pe_un {op : UnaryOp} {r : V → Hp → VK → Prop} (ho : UnR X (unaryOp op) r) (ha : PE X a ta) : PE X (.UnaryOp op a pos) (tUn r ta) := by
  intro pins s σ H Q I h
  exact UnaryOp_ (thn (ha pins s σ H _ I h) fun v s1 ⟨x, H1, I1, r1, q1⟩ => ho pins s1 σ H1 x v Q I1 r1 q1)
theorem opI {f : Value → Value → Sem Value} {C : Int → Int → Prop} {g : Int → Int → Int}
    (rule : ∀ (i j : Int) (t u : Tok) (s : Shared) (Q : Value → Shared → Prop) (E : Value → Shared → Prop), C i j → Q (.int (g i j) s.toks) { s with toks := s.toks + 1 } → wpAny (model X.prog X.w) X.A (f (.int i t) (.int j u)) Q E s) :
    OpR X f (rI C fun i j => .int (g i j)) := by
  intro pins s σ H x y v u Q I rx ry h
  obtain ⟨i, j, rfl, rfl, hc, q⟩ := h
  obtain ⟨t, rfl⟩ := rx
  obtain ⟨t', rfl⟩ := ry
  exact rule i j t t' s _ _ hc ⟨.int (g i j), H, I.tok _, ⟨_, rfl⟩, q⟩
theorem opI0 {f : Value → Value → Sem Value} {g : Int → Int → Int}
    (rule : ∀ (i j : Int) (t u : Tok) (s : Shared) (Q : Value → Shared → Prop) (E : Value → Shared → Prop), Q (.int (g i j) s.toks) { s with toks := s.toks + 1 } → wpAny (model X.prog X.w) X.A (f (.int i t) (.int j u)) Q E s) :
    OpR X f (rI0 fun i j => .int (g i j)) := by
  intro pins s σ H x y v u Q I rx ry h
  obtain ⟨i, j, rfl, rfl, q⟩ := h
  obtain ⟨t, rfl⟩ := rx
  obtain ⟨t', rfl⟩ := ry
  exact rule i j t t' s _ _ ⟨.int (g i j), H, I.tok _, ⟨_, rfl⟩, q⟩
theorem opB0 {f : Value → Value → Sem Value} {g : Int → Int → Bool}
    (rule : ∀ (i j : Int) (t u : Tok) (s : Shared) (Q : Value → Shared → Prop) (E : Value → Shared → Prop), Q (.bool (g i j)) s → wpAny (model X.prog X.w) X.A (f (.int i t) (.int j u)) Q E s) :
    OpR X f (rI0 fun i j => .bl (g i j)) := by
  intro pins s σ H x y v u Q I rx ry h
  obtain ⟨i, j, rfl, rfl, q⟩ := h
  obtain ⟨t, rfl⟩ := rx
  obtain ⟨t', rfl⟩ := ry
  exact rule i j t t' s _ _ ⟨.bl (g i j), H, I, rfl, q⟩
def CDiv (i j : Int) : Prop := 0 < j ∧ j < 1073741824
def CPow (i j : Int) : Prop := 0 ≤ j ∧ j ≤ 1000000 ∧ i.natAbs < 2 ^ 64
def CMul (i j : Int) : Prop := (-(2 ^ 64) < i ∧ i < 2 ^ 64) ∨ (-(2 ^ 64) < j ∧ j < 2 ^ 64)
theorem CMul.ok {i j : Int} (h : CMul i j) : IntMulOk i j := by
  rcases h with ⟨h1, h2⟩ | ⟨h1, h2⟩
  · exact .of_left (intBits_le_64 h1 h2)
  · exact .of_right (intBits_le_64 h1 h2)
theorem op_add : OpR X (binaryOp .Add) (rI0 fun i j => .int (i + j)) := opI0 fun _ _ _ _ _ _ _ q => add_int q
theorem op_sub : OpR X (binaryOp .Sub) (rI0 fun i j => .int (i - j)) := opI0 fun _ _ _ _ _ _ _ q => sub_int q
theorem op_mul : OpR X (binaryOp .Mult) (rI CMul fun i j => .int (i * j)) := opI fun _ _ _ _ _ _ _ hc q => mul_int q hc.ok
theorem op_fdiv : OpR X (binaryOp .FloorDiv) (rI CDiv fun i j => .int (i / j)) := opI fun i j _ _ _ _ _ hc q => by
  have h1 : (0 : Int) < j := hc.1
  have h2 : j < 1073741824 := hc.2
  exact floordiv_int (by omega) (by rw [Int.fdiv_eq_ediv_of_nonneg i (by omega)]; exact q) (.inl (PyProof.noPylong_small (by omega)))
theorem op_mod : OpR X (binaryOp .Mod) (rI (fun _ j => 0 < j) fun i j => .int (i % j)) := opI fun i j _ _ _ _ _ hc q => by
  have h1 : (0 : Int) < j := hc
  exact mod_int' (by omega) (by rw [Int.fmod_eq_emod_of_nonneg i (by omega)]; exact q)
theorem op_pow : OpR X (binaryOp .Pow) (rI CPow fun i j => .int (i ^ j.toNat)) := opI fun _ _ _ _ _ _ _ hc q => pow_int_small hc.1 hc.2.1 hc.2.2 q
theorem unI {f : Value → Sem Value} {g : Int → Int}
    (rule : ∀ (i : Int) (t : Tok) (s : Shared) (Q : Value → Shared → Prop) (E : Value → Shared → Prop), Q (.int (g i) s.toks) { s with toks := s.toks + 1 } → wpAny (model X.prog X.w) X.A (f (.int i t)) Q E s) :
    UnR X f (rU fun i => .int (g i)) := by
  intro pins s σ H x v Q I rx h
  obtain ⟨i, rfl, q⟩ := h
  obtain ⟨t, rfl⟩ := rx
  exact rule i t s _ _ ⟨.int (g i), H, I.tok _, ⟨_, rfl⟩, q⟩
theorem un_neg : UnR X (unaryOp .USub) (rU fun i => .int (-i)) := unI fun _ _ _ _ _ q => neg_int q
end
def scal : V → V → Bool
  | .non, .non => true | .non, .int _ => true | .int _, .non => true | .non, .bl _ => true | .bl _, .non => true | .non, .str _ => true | .str _, .non => true
  | .int _, .int _ => true | .bl _, .bl _ => true | .str _, .str _ => true | .byt _, .byt _ => true
  | .int _, .str _ => true | .str _, .int _ => true | .bl _, .str _ => true | .str _, .bl _ => true
  | _, _ => false
def rEq : R2 := fun x y H Q => scal x y = true ∧ Q (.bl (decide (x = y))) H
def rNe : R2 := fun x y H Q => scal x y = true ∧ Q (.bl (!decide (x = y))) H
theorem dec_int {i j : Int} : decide (V.int i = V.int j) = (i == j) := by
  rw [Bool.eq_iff_iff]
  simp
theorem dec_bl {i j : Bool} : decide (V.bl i = V.bl j) = (i == j) := by
  rw [Bool.eq_iff_iff]
  simp
theorem dec_str {i j : Str} : decide (V.str i = V.str j) = (i == j) := by
  rw [Bool.eq_iff_iff]
  simp
theorem dec_byt {i j : Array UInt8} : decide (V.byt i = V.byt j) = (i.toList == j.toList) := by
  rw [Bool.eq_iff_iff]
  cases i
  cases j
  simp
section
variable {X : Cx} {a b c : Expr} {ta tb tc : TE} {pos : Pos}
theorem fin_bl {pins : List (Addr × Obj)} {σ : St} {H : Hp} {s : Shared} {Q : VK} {k k' : Bool} (I : Inv X pins σ H s) (q : Q (.bl k) H) (e : k = k') : EP X pins σ Q (.bool k') s := by
  subst e
  exact ⟨.bl k, H, I, rfl, q⟩
theorem op_eq : OpR X (compareOp .Eq) rEq := by
  intro pins s σ H x y v u Q I rx ry h
  obtain ⟨hs, q⟩ := h
  cases x with
  | non =>
    cases rx
    cases y with
    | non => cases ry; exact PySem.EqNone.eq_none_none (fin_bl I q (by simp))
    | bl j => cases ry; exact PySem.EqNone.eq_none_bool (fin_bl I q (by simp))
    | int j => obtain ⟨t', rfl⟩ := ry; exact PySem.EqNone.eq_none_int (fin_bl I q (by simp))
    | str j => obtain ⟨t', rfl⟩ := ry; exact PySem.EqNone.eq_none_str (fin_bl I q (by simp))
    | _ => exact absurd (show false = true from hs) Bool.false_ne_true
  | bl i =>
    cases rx
    cases y with
    | non => cases ry; exact PySem.EqNone.eq_bool_none (fin_bl I q (by simp))
    | bl j => cases ry; exact eq_bool (fin_bl I q dec_bl)
    | str j => obtain ⟨t', rfl⟩ := ry; exact PySem.EqMixed.eq_bool_str (fin_bl I q (by simp))
    | _ => exact absurd (show false = true from hs) Bool.false_ne_true
  | int i =>
    obtain ⟨t, rfl⟩ := rx
    cases y with
    | non => cases ry; exact PySem.EqNone.eq_int_none (fin_bl I q (by simp))
    | int j => obtain ⟨t', rfl⟩ := ry; exact eq_int (fin_bl I q dec_int)
    | str j => obtain ⟨t', rfl⟩ := ry; exact PySem.EqMixed.eq_int_str (fin_bl I q (by simp))
    | _ => exact absurd (show false = true from hs) Bool.false_ne_true
  | str i =>
    obtain ⟨t, rfl⟩ := rx
    cases y with
    | non => cases ry; exact PySem.EqNone.eq_str_none (fin_bl I q (by simp))
    | bl j => cases ry; exact PySem.EqMixed.eq_str_bool (fin_bl I q (by simp))
    | int j => obtain ⟨t', rfl⟩ := ry; exact PySem.EqMixed.eq_str_int (fin_bl I q (by simp))
    | str j => obtain ⟨t', rfl⟩ := ry; exact eq_str (fin_bl I q dec_str)
    | _ => exact absurd (show false = true from hs) Bool.false_ne_true
  | byt i =>
    obtain ⟨t, rfl⟩ := rx
    cases y with
    | byt j => obtain ⟨t', rfl⟩ := ry; exact PySem.W.eq_bytes (fin_bl I q dec_byt)
    | _ => exact absurd (show false = true from hs) Bool.false_ne_true
  | _ => cases y <;> exact absurd (show false = true from hs) Bool.false_ne_true
theorem op_ne : OpR X (compareOp .NotEq) rNe := by
  intro pins s σ H x y v u Q I rx ry h
  obtain ⟨hs, q⟩ := h
  cases x with
  | non =>
    cases rx
    cases y with
    | non => cases ry; exact PySem.EqNone.ne_none_none (fin_bl I q (by simp))
    | bl j => cases ry; exact PySem.EqNone.ne_none_bool (fin_bl I q (by simp))
    | int j => obtain ⟨t', rfl⟩ := ry; exact PySem.EqNone.ne_none_int (fin_bl I q (by simp))
    | str j => obtain ⟨t', rfl⟩ := ry; exact PySem.EqNone.ne_none_str (fin_bl I q (by simp))
    | _ => exact absurd (show false = true from hs) Bool.false_ne_true
  | bl i =>
    cases rx
    cases y with
    | non => cases ry; exact PySem.EqNone.ne_bool_none (fin_bl I q (by simp))
    | bl j => cases ry; exact ne_bool (fin_bl I q (congrArg not dec_bl))
    | str j => obtain ⟨t', rfl⟩ := ry; exact PySem.EqMixed.ne_bool_str (fin_bl I q (by simp))
    | _ => exact absurd (show false = true from hs) Bool.false_ne_true
  | int i =>
    obtain ⟨t, rfl⟩ := rx
    cases y with
    | non => cases ry; exact PySem.EqNone.ne_int_none (fin_bl I q (by simp))
    | int j => obtain ⟨t', rfl⟩ := ry; exact ne_int (fin_bl I q (congrArg not dec_int))
    | str j => obtain ⟨t', rfl⟩ := ry; exact PySem.EqMixed.ne_int_str (fin_bl I q (by simp))
    | _ => exact absurd (show false = true from hs) Bool.false_ne_true
  | str i =>
    obtain ⟨t, rfl⟩ := rx
    cases y with
    | non => cases ry; exact PySem.EqNone.ne_str_none (fin_bl I q (by simp))
    | bl j => cases ry; exact PySem.EqMixed.ne_str_bool (fin_bl I q (by simp))
    | int j => obtain ⟨t', rfl⟩ := ry; exact PySem.EqMixed.ne_str_int (fin_bl I q (by simp))
    | str j => obtain ⟨t', rfl⟩ := ry; exact ne_str (fin_bl I q (congrArg not dec_str))
    | _ => exact absurd (show false = true from hs) Bool.false_ne_true
  | byt i =>
    obtain ⟨t, rfl⟩ := rx
    cases y with
    | byt j => obtain ⟨t', rfl⟩ := ry; exact PySem.W.ne_bytes (fin_bl I q (congrArg not dec_byt))
    | _ => exact absurd (show false = true from hs) Bool.false_ne_true
  | _ => cases y <;> exact absurd (show false = true from hs) Bool.false_ne_true
theorem op_lt : OpR X (compareOp .Lt) (rI0 fun i j => .bl (decide (i < j))) := opB0 fun _ _ _ _ _ _ _ q => lt_int q
theorem op_gt : OpR X (compareOp .Gt) (rI0 fun i j => .bl (decide (j < i))) := opB0 fun _ _ _ _ _ _ _ q => gt_int q
theorem op_ge : OpR X (compareOp .GtE) (rI0 fun i j => .bl (decide (j ≤ i))) := opB0 fun _ _ _ _ _ _ _ q => ge_int q
theorem nomark (b : Expr) {op : CmpOp} (h : op ≠ .In := by decide) (h2 : op ≠ .NotIn := by decide) : behindInMarks op b = false := by
  have e1 : (op == CmpOp.In) = false := by cases op <;> first | rfl | exact absurd rfl h
  have e2 : (op == CmpOp.NotIn) = false := by cases op <;> first | rfl | exact absurd rfl h2
  cases b <;> simp [behindInMarks, e1, e2]
theorem pe_cmpR {op : CmpOp} {r : R2} (ho : OpR X (compareOp op) r) (ha : PE X a ta) (hb : PE X b tb) (hm : behindInMarks op b = false) : PE X (.Compare a [op] [b] pos) (tOp r ta tb) := by
  intro pins s σ H Q I h
  exact wpAny_Compare1 (binT ha hb I h fun v u s2 x y H2 I2 rx ry q => ho pins s2 σ H2 x y v u Q I2 rx ry q) hm
def tTest (t : TE) : TT := fun σ H Q => t σ H fun x H' => ∃ k, x = .bl k ∧ Q k H'
theorem pt_cmpR {op : CmpOp} {r : R2} (ho : OpR X (compareOp op) r) (ha : PE X a ta) (hb : PE X b tb) (hm : behindInMarks op b = false) : PT X (.Compare a [op] [b] pos) (tTest (tOp r ta tb)) := by
  intro pins s σ H Q I h
  refine wpAny_isTrue_Compare1 (thn (ha pins s σ H _ I h) fun v s1 ⟨x, H1, I1, r1, q1⟩ => thn (hb pins s1 σ H1 _ I1 q1) fun u s2 ⟨y, H2, I2, r2, q2⟩ =>
    thn (ho pins s2 σ H2 x y v u _ I2 r1 r2 q2) fun c s3 ⟨z, H3, I3, r3, k, e, q3⟩ => ?_) hm
  subst e
  cases r3
  exact wpAny_truthy_bool ⟨H3, I3, q3⟩
theorem line63 : (sizeLine : Nat) < 2 ^ 63 := by rw [sizeLine_eq]; decide
theorem vals1 {x : V} {us : List Value} (r : Vals [x] us) : ∃ u, us = [u] ∧ RelV x u := by
  cases r with
  | cons r1 r2 => cases r2; exact ⟨_, rfl, r1⟩
theorem vals2 {x y : V} {us : List Value} (r : Vals [x, y] us) : ∃ u w', us = [u, w'] ∧ RelV x u ∧ RelV y w' := by
  cases r with
  | cons r1 r2 =>
    cases r2 with
    | cons r3 r4 => cases r4; exact ⟨_, _, rfl, r1, r3⟩
theorem call_abs : CallR X (.builtin "abs") (fun xs H Q => ∃ i, xs = [.int i] ∧ Q (.int (if i < 0 then -i else i)) H) := by
  intro pins s σ H xs us Q I r h
  obtain ⟨i, rfl, q⟩ := h
  obtain ⟨u, rfl, t, rfl⟩ := vals1 r
  exact call_abs_int fun u tk => ⟨.int (if i < 0 then -i else i), H, I.tok _, ⟨_, rfl⟩, q⟩
theorem call_max2 (hc : X.calm = true) : CallR X (.builtin "max") (fun xs H Q => ∃ i j, xs = [.int i, .int j] ∧ Q (.int (if j > i then j else i)) H) := by
  intro pins s σ H xs us Q I r h
  obtain ⟨i, j, rfl, q⟩ := h
  obtain ⟨u, w', rfl, ⟨t, rfl⟩, ⟨t', rfl⟩⟩ := vals2 r
  refine max_two_ints (I.ok.hd hc) fun h' tk k => ⟨_, H, I.kept k, ?_, q⟩
  by_cases hj : j > i
  · rw [if_pos hj, if_pos hj]; exact ⟨_, rfl⟩
  · rw [if_neg hj, if_neg hj]; exact ⟨_, rfl⟩
theorem call_int1 : CallR X (.type "int") (fun xs H Q => (∃ i, xs = [.int i] ∧ Q (.int i) H) ∨ ∃ k, xs = [.bl k] ∧ Q (.int (if k then 1 else 0)) H) := by
  intro pins s σ H xs us Q I r h
  rcases h with ⟨i, rfl, q⟩ | ⟨k, rfl, q⟩
  · obtain ⟨u, rfl, t, rfl⟩ := vals1 r
    exact call_int_int ⟨.int i, H, I, ⟨_, rfl⟩, q⟩
  · obtain ⟨u, rfl, r1⟩ := vals1 r
    cases r1
    exact call_int_bool ⟨.int (if k then 1 else 0), H, I.tok _, ⟨_, rfl⟩, q⟩
end
end L2
namespace L2
open PySem PySem.Spec PyProof.Rows
structure ObjM (h : Heap) (x dx C : Addr) (mA : Str → Option Value) : Prop where
  obj : h.get? x = some (PySem.W.instObj C dx)
  ns : h.Ns1 dx mA
  ne : dx ≠ x
theorem lookIn_ns {h : Heap} {dx : Addr} {mA : Str → Option Value} (n : h.Ns1 dx mA) : ∃ od, h.get? dx = some od ∧ ∀ name, PySem.W.lookIn name od = some (mA name) := by
  obtain ⟨o, es, ep, ho, hd, hk, _, hm⟩ := n
  refine ⟨o, ho, fun name => ?_⟩
  have e := hm name
  unfold nsFind findBy at e
  rw [← Array.find?_toList] at e
  unfold PySem.W.lookIn
  rw [hd]
  dsimp only
  split
  · rename_i y q
    rw [q] at e
    exact congrArg some e
  · rename_i q
    rw [q] at e
    have a : es.toList.any (·.refKey) = false := by
      rw [List.any_eq_false]
      intro y hy
      obtain ⟨z, t, hkey⟩ := hk y (Array.mem_toList_iff.mp hy)
      simp [DictEntry.refKey, hkey]
    have a' : ¬ es.toList.any (·.refKey) = true := by rw [a]; exact Bool.false_ne_true
    rw [if_neg a']
    exact congrArg some e
theorem ObjM.look {h : Heap} {x dx C : Addr} {mA : Str → Option Value} (I : ObjM h x dx C mA) : ∃ od, PySem.W.InstAt h x (PySem.W.instObj C dx) C (some od) ∧ ∀ name, PySem.W.lookIn name od = some (mA name) :=
  let ⟨od, ho, hl⟩ := lookIn_ns I.ns
  ⟨od, ⟨I.obj, rfl, rfl, ho⟩, hl⟩
theorem RelO.some_of {v : V} {o : Option Value} (r : RelO (some v) o) : ∃ u, o = some u ∧ RelV v u := by
  cases o with
  | none => exact (show False from r).elim
  | some u => exact ⟨u, rfl, r⟩
section
variable {P : Program} {w : World} {H H' : Hp} {h h' : Heap} {a C dx : Addr} {fs fs' : List (Str × V)}
theorem ins_get (hok : HOk P w H h) (e : H a = some (.ins C dx fs)) : ∃ mA, ObjM h a dx C mA ∧ (∀ f, RelO (fs.lookup f) (mA f)) ∧ PySem.Within mA (fs.map (·.1)) ∧ fs.length ≤ 1000 ∧ H dx = some (.own a) := by
  obtain ⟨d, z, ne, ob, mA, n, r, q⟩ := (show ObjOk P w H h a (.ins C dx fs) from hok a _ e)
  exact ⟨mA, ⟨ob, n, ne⟩, r, q, z, d⟩
end
structure Cls (K : PySem.W.Frag) (C : Addr) : Prop where
  pg : PySem.W.plainGet K C Str.empty = true
  hd : PySem.W.hasDictIn K C = true
  po : PySem.W.plainOver K C = true
  sa : PySem.W.findIn K (.ref C) "__setattr__" = some (some (.builtin "object.__setattr__"))
theorem Cls.get {K : PySem.W.Frag} {C : Addr} (c : Cls K C) (f : Str) : PySem.W.plainGet K C f = true := c.pg
section
variable {X : Cx} {pins : List (Addr × Obj)} {σ : St} {H : Hp} {s : Shared} {A : Around} {E : Value → Shared → Prop} {Q : Value → Shared → Prop} {c : Value} {b : Bool}
inductive TyOf (K : PySem.W.Frag) (H : Hp) : V → Value → Prop where
  | non : TyOf K H .non (.type "NoneType")
  | bl (x : Bool) : TyOf K H (.bl x) (.type "bool")
  | int (i : Int) : TyOf K H (.int i) (.type "int")
  | str (x : Str) : TyOf K H (.str x) (.type "str")
  | flt (x : UInt64) : TyOf K H (.flt x) (.type "float")
  | lst {a : Addr} {xs : List V} (e : H a = some (.lst xs)) : TyOf K H (.ref a) (.type "list")
  | frz {a : Addr} {o : Obj} {xs : List V} (e : H a = some (.frz o (.lst xs))) : TyOf K H (.ref a) (.type "list")
  | tup {a : Addr} {xs : List V} (e : H a = some (.tup xs)) : TyOf K H (.ref a) (.type "tuple")
  | dK {a : Addr} {kvs : List (Key × V)} (e : H a = some (.dK kvs)) : TyOf K H (.ref a) (.type "dict")
  | dT {a : Addr} {kvs : List (List Key × V)} (e : H a = some (.dT kvs)) : TyOf K H (.ref a) (.type "dict")
  | ins {a C dx : Addr} {fs : List (Str × V)} (e : H a = some (.ins C dx fs)) (cl : Cls K C) (ha : PySem.W.findIn K (.ref C) "__class__" = some (some (.builtin "object.__class__")))
      (hn : PySem.W.specialIn K (.builtin "object.__class__") "__get__" = some (some (.builtin "getset_descriptor.__get__"))) (htk : PySem.W.takesIn K (.builtin "object.__class__") = some true)
      (hm : PySem.W.mroIn K C (.type "object") = some true) : TyOf K H (.ref a) (.ref C)
theorem isinst_ok {x : V} {u t : Value} (I : Inv X pins σ H s) (rx : RelV x u) (ty : TyOf X.K H x t) (e : PySem.W.kitOne X.K t c = some b) (h : ∀ tk, Q (.bool b) { s with toks := tk }) :
    wpAny (model X.prog X.w) A (call (.builtin "isinstance") [u, c]) Q E s := by
  cases ty with
  | non => cases (show u = Value.none from rx); exact PySem.W.kia_one PySem.W.kitx_none I.kIn True.intro e (fun z => nomatch z) h
  | bl y => cases (show u = Value.bool y from rx); exact PySem.W.kia_one PySem.W.kitx_bool I.kIn True.intro e (fun z => nomatch z) h
  | int i => obtain ⟨t, q⟩ := (show ∃ t, u = Value.int i t from rx); cases q; exact PySem.W.kia_one PySem.W.kitx_int I.kIn True.intro e (fun z => nomatch z) h
  | str y => obtain ⟨t, q⟩ := (show ∃ t, u = Value.str y t from rx); cases q; exact PySem.W.kia_one PySem.W.kitx_str I.kIn True.intro e (fun z => nomatch z) h
  | flt y => obtain ⟨t, q⟩ := (show ∃ t, u = Value.float y t from rx); cases q; exact PySem.W.kia_one PySem.W.kitx_float I.kIn True.intro e (fun z => nomatch z) h
  | @lst a xs ea =>
    cases (show u = Value.ref a from rx)
    obtain ⟨_, _, n, _, h1⟩ := (show ObjOk X.prog X.w H s.heap a (.lst xs) from I.hok a _ ea)
    exact PySem.W.kia_one PySem.W.kitx_list I.kIn ⟨_, h1, rfl⟩ e (fun z => nomatch z) h
  | @frz a ob xs ea =>
    cases (show u = Value.ref a from rx)
    obtain ⟨_, _, _, n, _, h1⟩ := (show ObjOk X.prog X.w H s.heap a (.frz ob (.lst xs)) from I.hok a _ ea)
    exact PySem.W.kia_one PySem.W.kitx_list I.kIn ⟨_, h1, rfl⟩ e (fun z => nomatch z) h
  | @tup a xs ea =>
    cases (show u = Value.ref a from rx)
    obtain ⟨_, _, _, p⟩ := (show ObjOk X.prog X.w H s.heap a (.tup xs) from I.hok a _ ea)
    obtain ⟨o, h1, h2, _⟩ := p
    exact PySem.W.kia_one PySem.W.kitx_tuple I.kIn ⟨o, h1, h2⟩ e (fun z => nomatch z) h
  | @dK a kvs ea =>
    cases (show u = Value.ref a from rx)
    obtain ⟨_, _, vs, _, p⟩ := (show ObjOk X.prog X.w H s.heap a (.dK kvs) from I.hok a _ ea)
    obtain ⟨o, es, ep, h1, h2, _⟩ := p
    exact PySem.W.kia_one PySem.W.kitx_dict I.kIn ⟨o, h1, h2.1⟩ e (fun z => nomatch z) h
  | @dT a kvs ea =>
    cases (show u = Value.ref a from rx)
    obtain ⟨_, _, xs, _, o, es, ep, h1, h2, _⟩ := (show ObjOk X.prog X.w H s.heap a (.dT kvs) from I.hok a _ ea)
    exact PySem.W.kia_one PySem.W.kitx_dict I.kIn ⟨o, h1, h2.1⟩ e (fun z => nomatch z) h
  | @ins a C dx fs ea cl ha hn htk hm =>
    cases (show u = Value.ref a from rx)
    obtain ⟨mA, O, _⟩ := ins_get I.hok ea
    obtain ⟨od, J, _⟩ := O.look
    exact PySem.W.kia_one (PySem.W.kitx_own (cl.get _) cl.hd ha hn htk hm) I.kIn J e (fun z => nomatch z) h
end
end L2
namespace L2
open PySem PySem.Spec PyProof.Rows
structure Room (k : Nat) (A : Around) : Prop where
  hd : A.handled = none
  dp : A.depth + 3 * k + 5 < recursionLimit
  un : A.units + 16 * k + 200 < cLine
theorem Room.mono {j k : Nat} {A : Around} (r : Room k A) (h : j ≤ k) : Room j A := ⟨r.hd, by have := r.dp; omega, by have := r.un; omega⟩
theorem Room.deeper {k : Nat} {A : Around} (r : Room (k + 1) A) (env : Env) : Room k (A.deeper env) :=
  ⟨r.hd, by have := r.dp; show A.depth + 1 + 3 * k + 5 < _; omega, by have := r.un; show A.units + 3 + 16 * k + 200 < _; omega⟩
theorem Room.depth {k : Nat} {A : Around} (r : Room k A) : A.depth < recursionLimit := by have := r.dp; omega
theorem Room.units {k : Nat} {A : Around} (r : Room k A) : A.units + 64 < cLine := by have := r.un; omega
def tNil : TA := fun _ H Q => Q [] H
def tCons (ta : TE) (tr : TA) : TA := fun σ H Q => ta σ H fun x H1 => tr σ H1 fun xs H2 => Q (x :: xs) H2
section
variable {X : Cx} {e : Expr} {es : List Expr} {te : TE} {t : TA} {pos : Pos}
theorem pa_nil : PA X [] tNil := fun _ _ _ _ H Q I h => Calls.spliced_nil ⟨[], H, I, .nil, h⟩
theorem pa_cons (ha : PE X e te) (hr : PA X es t) (hs : starEach (e :: es) X.env = (false, eval e X.env) :: starEach es X.env := by rfl) : PA X (e :: es) (tCons te t) := by
  intro pos pins s σ H Q I h
  rw [hs]
  show wpAny _ _ (spliced ((false, eval e X.env) :: backTo pos (starEach es X.env))) _ _ s
  refine Calls.spliced_cons (thn (ha pins s σ H _ I h) fun u s1 ⟨x, H1, I1, r1, q1⟩ => ?_)
  exact thn (hr pos pins s1 σ H1 _ I1 q1) fun us s2 ⟨xs, H2, I2, r2, q2⟩ => ⟨x :: xs, H2, I2, .cons r1 r2, q2⟩
def tTup (t : TA) : TE := fun σ H Q => t σ H fun xs H1 => xs.length ≤ sizeLine ∧ ∀ p, H1 p = none → Q (.ref p) (upd H1 p (.tup xs))
def tLst (t : TA) : TE := fun σ H Q => t σ H fun xs H1 => xs.length ≤ sizeLine ∧ ∀ p, H1 p = none → Q (.ref p) (upd H1 p (.lst xs))
theorem pe_tup {x1} (h : PA X es t) : PE X (.Tuple es x1 pos) (tTup t) := by
  intro pins s σ H Q I hq
  refine wpAny_Tuple_spliced (thn (h pos pins s σ H _ I hq) fun us s1 ⟨xs, H1, I1, r, z, q⟩ => ⟨by rw [← r.length]; exact z, ?_⟩)
  have hf : H1 s1.heap.objs.size = none := I1.hok.fresh (Nat.le_refl _)
  refine ⟨.ref s1.heap.objs.size, upd H1 s1.heap.objs.size (.tup xs), I1.laid (t' := s1.toks) (fun b u e => Heap.get?_push_of_some _ e) (Nat.le_refl _) ?_, rfl, q _ hf⟩
  exact ⟨z, us, r, ⟨_, Heap.get?_push_size _ rfl, rfl, _, rfl⟩⟩
theorem pe_lst (h : PA X es t) : PE X (.List es pos) (tLst t) := by
  intro pins s σ H Q I hq
  refine wpAny_List_spliced (thn (h pos pins s σ H _ I hq) fun us s1 ⟨xs, H1, I1, r, z, q⟩ => ⟨by rw [← r.length]; exact z, ?_⟩)
  have hf : H1 s1.heap.objs.size = none := I1.hok.fresh (Nat.le_refl _)
  refine ⟨.ref s1.heap.objs.size, upd H1 s1.heap.objs.size (.lst xs), I1.laid (t' := s1.toks) (fun b u e => Heap.get?_push_of_some _ e) (Nat.le_refl _) ?_, rfl, q _ hf⟩
  exact ⟨z, us, 0, r, Heap.get?_push_size _ rfl⟩
end
abbrev Sp := List V → Hp → VK → XK → Prop
abbrev CXT := List Env → Hp → Shared → XK → Value → Shared → Prop
structure Env0 (P : Program) (w : World) (K : PySem.W.Frag) (mg : Str → Option Value) (base : Heap) (A : Around) (outer : List Env) (s : Shared) (H : Hp) : Prop where
  frames : A.frames = some outer
  mod : Mod K mg base
  bs : ∀ b o, base.get? b = some o → s.heap.get? b = some o ∧ H b = none
  bsz : base.objs.size ≤ s.heap.objs.size
  funs : s.heap.FunFrames base outer
  frf : ∀ b ∈ frs outer, H b = none
  hok : HOk P w H s.heap
  bare : AllBare s.gens
def CE (outer : List Env) (P : Program) (w : World) (H : Hp) (s : Shared) (Q : VK) (u : Value) (s' : Shared) : Prop :=
  ∃ v H', s'.os = s.os ∧ AllBare s'.gens ∧ Un (frs outer) [] H H' s.heap s'.heap ∧ HOk P w H' s'.heap ∧ RelV v u ∧ Q v H'
def CR (CX : CXT) (outer : List Env) (P : Program) (w : World) (H : Hp) (s : Shared) (Q : VK) (E : XK) (r : Result) (s' : Shared) : Prop :=
  match r with
  | .ok (.ret u) => CE outer P w H s Q u s'
  | .ok _ => False
  | .error e => CX outer H s E e s'
structure FnOk (P : Program) (w : World) (K : PySem.W.Frag) (mg : Str → Option Value) (base : Heap) (CX : CXT) (k : Nat) (f : Addr) (fd : FuncData) (ps : List Str) (sp : Sp) : Prop where
  len : ∀ vs H Q E, sp vs H Q E → vs.length = ps.length
  run : ∀ (A : Around) (outer : List Env) (s : Shared) (H : Hp) (args : Args) (us : List Value) (vs : List V) (Q : VK) (E : XK), Room k A → Env0 P w K mg base A outer s H → BindsTo s fd args (ps.zip us) → Vals vs us → sp vs H Q E →
    codeAny (model P w) A (.call (.ref f) args) (CR CX outer P w H s Q E) s
theorem FnOk.imp {P : Program} {w : World} {K : PySem.W.Frag} {mg : Str → Option Value} {base : Heap} {CX : CXT} {k : Nat} {f : Addr} {fd : FuncData} {ps : List Str} {sp sp' : Sp} (F : FnOk P w K mg base CX k f fd ps sp)
    (h : ∀ vs H Q E, sp' vs H Q E → sp vs H Q E) : FnOk P w K mg base CX k f fd ps sp' :=
  ⟨fun vs H Q E q => F.len vs H Q E (h _ _ _ _ q), fun A outer s H args us vs Q E hr he hb hv hs => F.run A outer s H args us vs Q E hr he hb hv (h _ _ _ _ hs)⟩
section
variable {X : Cx} {pins : List (Addr × Obj)} {σ : St} {H : Hp} {s s' : Shared}
theorem Inv.env0 (I : Inv X pins σ H s) : Env0 X.prog X.w X.K X.mg X.base X.A X.stack s H :=
  ⟨I.ok.frames, I.ok.mod, I.bs, Nat.le_trans I.ok.bsz I.sz, I.stack, I.stkFree, I.hok, I.bare⟩
theorem Inv.after {Q : VK} {u : Value} (I : Inv X pins σ H s) (h : CE X.stack X.prog X.w H s Q u s') : EP X pins σ Q u s' := by
  obtain ⟨v, H', os, bare, un, hok, r, q⟩ := h
  obtain ⟨hh, g, d, t, os'⟩ := s'
  obtain rfl : os' = s.os := os
  exact ⟨v, H', I.call (h' := hh) (g' := g) (d' := d) (t' := t) (ch := []) un hok bare (fun b z => absurd z (by simp)), r, q⟩
end
def tCall (sp : Sp) (dvs : List V) (E : XK) (t : TA) : TE := fun σ H Q => t σ H fun vs H1 => sp (vs ++ dvs) H1 Q E
def Binds (K : PySem.W.Frag) (fd : FuncData) (ps : List Str) (ds : List Value) : Prop :=
  ∀ (s : Shared) (us : List Value), K.In s.heap → (us ++ ds).length = ps.length → BindsTo s fd ⟨us, []⟩ (ps.zip (us ++ ds))
theorem Binds.all {K : PySem.W.Frag} {fd : FuncData} {ps : List Str} (h : ∀ us : List Value, us.length = ps.length → bindArgs fd ⟨us, []⟩ = pure (ps.zip us)) : Binds K fd ps [] := fun s us _ hl => by
  rw [List.append_nil] at hl ⊢
  exact .of_eq (h us hl)
def Passes (CX : CXT) (X : Cx) (E : XK) : Prop := ∀ (pins : List (Addr × Obj)) (σ : St) (H : Hp) (s : Shared) (e : Value) (s' : Shared), Inv X pins σ H s → CX X.stack H s E e s' → X.xe e s'
section
variable {X : Cx} {CX : CXT} {k : Nat} {f C : Addr} {fd : FuncData} {ps : List Str} {sp : Sp} {dvs : List V} {ds : List Value} {E : XK} {x m : Str} {p pos apos : Pos} {e o : Expr} {es : List Expr} {ta : TE} {t : TA}
theorem run_fn {pins : List (Addr × Obj)} {σ : St} {H : Hp} {s : Shared} {Q : VK} {us : List Value} {vs : List V} (F : FnOk X.prog X.w X.K X.mg X.base CX k f fd ps sp) (hr : Room k X.A) (hb : Binds X.K fd ps ds) (hd : Vals dvs ds) (hx : Passes CX X E)
    (I : Inv X pins σ H s) (r : Vals vs us) (h : sp (vs ++ dvs) H Q E) : wpAny (model X.prog X.w) X.A (call (.ref f) us) (EP X pins σ Q) X.xe s := by
  have r2 : Vals (vs ++ dvs) (us ++ ds) := r.append hd
  have hl : (us ++ ds).length = ps.length := by rw [← r2.length]; exact F.len _ _ _ _ h
  refine wpAny_call (codeAny_mono (F.run X.A X.stack s H ⟨us, []⟩ (us ++ ds) (vs ++ dvs) Q E hr I.env0 (hb s us I.kIn hl) r2 h) fun r s' hq => ?_)
  cases r with
  | error e => exact hx pins σ H s e s' I hq
  | ok fl =>
    cases fl with
    | ret u => exact I.after hq
    | next => exact False.elim hq
    | brk => exact False.elim hq
    | cont => exact False.elim hq
theorem pe_call (F : FnOk X.prog X.w X.K X.mg X.base CX k f fd ps sp) (hr : Room k X.A) (hg : Gl X x) (hm : X.mg x = some (.ref f)) (hk : PySem.W.keepIn X.K (.ref f) = true) (hb : Binds X.K fd ps ds) (hd : Vals dvs ds) (hx : Passes CX X E)
    (ha : PA X (e :: es) t) (hdb : (x == ("__debug__" : Str)) = false := by decide) (he : starEach (e :: es) X.env = (false, eval e X.env) :: starEach es X.env := by rfl) (hpl : (backTo pos (starEach es X.env)).any (·.1) = false := by rfl) :
    PE X (.Call (.Name x p) (e :: es) [] pos) (tCall sp dvs E t) := by
  intro pins s σ H Q I h
  refine wpAny_Call_Name_kw (ld_glob I hg hm ?_ hdb)
  refine PySem.W.callWith_K (h₀ := X.base) I.ok.mod.kin hk (thn (ha pos pins s σ H _ I h) fun us s1 ⟨vs, H1, I1, r, q⟩ => ⟨I1.kIn, ?_⟩) he hpl
  exact run_fn F hr hb hd hx I1 r q
end
structure FnScope (N P : List Str) (sc : Scope) : Prop where
  kind : sc.kind = .function
  co : sc.isCoroutine = false
  gen : sc.isGenerator = false
  nd : N.Nodup
  pre : N.take P.length = P
  par : ∀ x ∈ P, sc.names.lookup x = some .local ∨ sc.names.lookup x = some .cell
  nofree : ∀ y ∈ sc.names, y.2 ≠ .free
theorem bindL_out {kindOf : Str → Option NameKind} {x : Str} : ∀ {binds : List (Str × Value)} {m : Str → Option Value}, (∀ v, (x, v) ∉ binds) → bindL kindOf binds m x = m x
  | [], _, _ => rfl
  | (n, v) :: r, m, h => by
    unfold bindL
    rw [bindL_out fun w hw => h w (List.mem_cons_of_mem _ hw)]
    split
    · have : x ≠ n := by rintro rfl; exact h v List.mem_cons_self
      simp [this]
    · rfl
theorem bindC_out {kindOf : Str → Option NameKind} {x : Str} : ∀ {binds : List (Str × Value)} {m : Str → Option Value}, (∀ v, (x, v) ∉ binds) → bindC kindOf binds m x = m x
  | [], _, _ => rfl
  | (n, v) :: r, m, h => by
    unfold bindC
    rw [bindC_out fun w hw => h w (List.mem_cons_of_mem _ hw)]
    split
    · rfl
    · have : x ≠ n := by rintro rfl; exact h v List.mem_cons_self
      simp [this]
theorem bindL_get {kindOf : Str → Option NameKind} {x : Str} {v : Value} : ∀ {P : List Str} {vs : List Value} {i : Nat} {m : Str → Option Value}, P.Nodup → P[i]? = some x → vs[i]? = some v → kindOf x = some .local →
    bindL kindOf (P.zip vs) m x = some v
  | [], _, _, _, _, h, _, _ => by simp at h
  | _ :: _, [], _, _, _, _, h, _ => by simp at h
  | p :: P, w :: vs, 0, m, nd, h1, h2, hk => by
    simp at h1 h2; subst h1; subst h2
    show bindL kindOf ((p, w) :: P.zip vs) m p = _
    unfold bindL
    rw [bindL_out fun v hv => (List.nodup_cons.mp nd).1 (List.of_mem_zip hv).1, if_pos hk]
    simp
  | p :: P, w :: vs, i + 1, m, nd, h1, h2, hk => by
    show bindL kindOf ((p, w) :: P.zip vs) m x = _
    unfold bindL
    exact bindL_get (i := i) (List.nodup_cons.mp nd).2 (by simpa using h1) (by simpa using h2) hk
theorem bindC_get {kindOf : Str → Option NameKind} {x : Str} {v : Value} : ∀ {P : List Str} {vs : List Value} {i : Nat} {m : Str → Option Value}, P.Nodup → P[i]? = some x → vs[i]? = some v → kindOf x ≠ some .local →
    bindC kindOf (P.zip vs) m x = some v
  | [], _, _, _, _, h, _, _ => by simp at h
  | _ :: _, [], _, _, _, _, h, _ => by simp at h
  | p :: P, w :: vs, 0, m, nd, h1, h2, hk => by
    simp at h1 h2; subst h1; subst h2
    show bindC kindOf ((p, w) :: P.zip vs) m p = _
    unfold bindC
    rw [bindC_out fun v hv => (List.nodup_cons.mp nd).1 (List.of_mem_zip hv).1, if_neg hk]
    simp
  | p :: P, w :: vs, i + 1, m, nd, h1, h2, hk => by
    show bindC kindOf ((p, w) :: P.zip vs) m x = _
    unfold bindC
    exact bindC_get (i := i) (List.nodup_cons.mp nd).2 (by simpa using h1) (by simpa using h2) hk
def start (N : List Str) (vs : List V) : St := vs.map some ++ List.replicate (N.length - vs.length) none
def cxOf (CX : CXT) (P : Program) (w : World) (K : PySem.W.Frag) (mg : Str → Option Value) (base : Heap) (N : List Str) (qual : Str) (scope : Scope) (f : Addr) (cd : Value) (A : Around) (outer : List Env) (s : Shared) (H : Hp) (E : XK) : Cx where
  prog := P
  w := w
  K := K
  mg := mg
  base := base
  A := A.deeper (envOfC qual scope s.heap.objs.size f cd)
  N := N
  s₀ := s
  H₀ := H
  env := envOfC qual scope s.heap.objs.size f cd
  outer := outer
  stack := envOfC qual scope s.heap.objs.size f cd :: outer
  ex := []
  calm := true
  fn := fun _ => true
  pn := []
  xe := fun e s' => wpAny (model P w) (A.deeper (envOfC qual scope s.heap.objs.size f cd)) (leaving (envOfC qual scope s.heap.objs.size f cd) e) (fun _ s'' => CX outer H s E e s'') (fun e' s'' => CX outer H s E e' s'') s'
theorem cell_has {sc : Scope} {n : Nat} {x : Str} (h : sc.names.lookup x = some .cell) : ∃ c, (cellsFrom n sc.names []).lookup x = some c := by
  have q := PySem.W.cellsFrom_some sc.names n [] (.inl h)
  exact Option.isSome_iff_exists.mp q
theorem inv_start {CX : CXT} {P : Program} {w : World} {K : PySem.W.Frag} {mg : Str → Option Value} {base : Heap} {N ps : List Str} {qual : Str} {scope : Scope} {f : Addr} {cd : Value} {A : Around} {outer : List Env} {s s1 : Shared} {H : Hp} {E : XK} {us : List Value} {vs : List V}
    (S : FnScope N ps scope) (hd : A.handled = none) (e0 : Env0 P w K mg base A outer s H) (hl : vs.length = ps.length) (r : Vals vs us)
    (x : InCallC s s.heap.objs.size (bindL (envOfC qual scope s.heap.objs.size f cd).kindOf (ps.zip us) fun _ => none) (cellsFrom (s.heap.objs.size + 1) scope.names []) (bindC (envOfC qual scope s.heap.objs.size f cd).kindOf (ps.zip us) fun _ => none) s1) :
    Inv (cxOf CX P w K mg base N qual scope f cd A outer s H E) [] (start N vs) H s1 := by
  have hpl : ps.length ≤ N.length := by have := congrArg List.length S.pre; rw [List.length_take] at this; omega
  obtain ⟨h1, tk, rfl, hk⟩ := x.done
  have noA : ∀ b : Addr, b ∉ (cxOf CX P w K mg base N qual scope f cd A outer s H E).ex := fun b z => absurd (show b ∈ ([] : List Addr) from z) (by simp)
  refine ⟨⟨e0.mod, S.kind, rfl, rfl, Nat.le_refl _, fun y z c h1 h2 => ?_, fun y hy => ?_, fun y c _ h => ?_, fun _ => hd, Around.frames_deeper e0.frames, .inr ⟨rfl, rfl⟩, fun b z => absurd z (noA b), e0.bs, e0.bsz, fun b _ _ => noA b, fun b z => absurd z (noA b), e0.funs, e0.frf⟩,
    rfl, e0.bare, Un.kept hk, ⟨_, x.toInCall.ns, fun i y v h1 h2 h3 => ?_⟩, fun y c h => ⟨_, x.cell y c h⟩, e0.hok.fresh (Nat.le_refl _), fun y c h => ?_, fun p hp => absurd (show p ∈ ([] : List (Addr × Obj)) from hp) (by simp), e0.hok.kept hk, ?_⟩
  · exact name_of_addr x.apart (PySem.mem_of_lookup h1) (PySem.mem_of_lookup h2)
  · have hy : scope.names.lookup y = some .cell ∨ scope.names.lookup y = some .free := hy
    rcases hy with hy | hy
    · exact cell_has hy
    · exact absurd rfl (S.nofree _ (PySem.mem_of_lookup hy))
  · exact Nat.le_of_lt (x.above y c (PySem.mem_of_lookup h))
  · have hi : i < vs.length := by
      unfold start at h2
      by_cases hi : i < vs.length
      · exact hi
      · rw [List.getElem?_append_right (by simpa using hi)] at h2
        rw [List.getElem?_replicate] at h2
        split at h2 <;> cases h2
    have ha : vs[i]? = some v := by
      unfold start at h2
      rw [List.getElem?_append_left (by simpa using hi), List.getElem?_map] at h2
      cases e : vs[i]? with
      | none => rw [e] at h2; cases h2
      | some a => rw [e] at h2; cases h2; rfl
    obtain ⟨u, hu, rv⟩ := r.get ha
    have hp : ps[i]? = some y := by
      rw [← S.pre, List.getElem?_take_of_lt (by omega)]; exact h1
    have ndP : ps.Nodup := by rw [← S.pre]; exact S.nd.sublist (List.take_sublist _ _)
    refine ⟨u, rv, ?_⟩
    rcases S.par y (List.mem_of_getElem? hp) with k | k
    · exact .inl ⟨k, bindL_get ndP hp hu k⟩
    · obtain ⟨c, e⟩ := cell_has (n := s.heap.objs.size + 1) k
      refine .inr ⟨.inl k, c, e, ?_⟩
      have q := x.cell y c e
      rw [bindC_get ndP hp hu (by show scope.names.lookup y ≠ _; rw [k]; decide)] at q
      exact q
  · exact e0.hok.fresh (Nat.le_of_lt (x.above y c (PySem.mem_of_lookup h)))
  · unfold start
    show _ = N.length
    rw [List.length_append, List.length_map, List.length_replicate]
    omega
theorem fn_of {CX : CXT} {P : Program} {w : World} {K : PySem.W.Frag} {mg : Str → Option Value} {base : Heap} {k : Nat} {f : Addr} {name qual : Str} {params : Arguments} {body : List Stmt} {scope : Scope} {dV kV doc pm cdv ct oc : Value} {an od : Option Addr}
    {osl : Array (Option Value)} {N ps : List Str} {sp : Sp} (lk : K.lookup f = some ⟨oc, od, .func (PySem.W.fnOf name qual params body scope dV kV doc pm an cdv ct), osl⟩) (hcd : PySem.W.codeIn K cdv qual = true) (S : FnScope N ps scope)
    (len : ∀ vs H Q E, sp vs H Q E → vs.length = ps.length)
    (hbody : ∀ (A : Around) (outer : List Env) (s : Shared) (H : Hp) (vs : List V) (Q : VK) (E : XK), Room k (A.deeper (envOfC qual scope s.heap.objs.size f cdv)) → sp vs H Q E →
      ∃ t, PSs (cxOf CX P w K mg base N qual scope f cdv A outer s H E) body t ∧ t { nx := fun _ H' => Q .non H', rt := Q } (start N vs) H) :
    FnOk P w K mg base CX (k + 1) f (PySem.W.fnOf name qual params body scope dV kV doc pm an cdv ct) ps sp := by
  refine ⟨len, fun A outer s H args us vs Q E hr e0 hb r hsp => ?_⟩
  have hl := len _ _ _ _ hsp
  have KX : K.In s.heap := e0.mod.kin.keeps fun b o e => (e0.bs b o e).1
  have lim : s.heap.NoLimit := e0.mod.nolimit.keeps fun b o e => (e0.bs b o e).1
  have hkind : ∀ y ∈ ps.zip us, scope.names.lookup y.1 = some .local ∨ (scope.names.lookup y.1 = some .cell ∧ ((cellsFrom (s.heap.objs.size + 1) scope.names []).lookup y.1).isSome = true) := fun ⟨n, v⟩ hy => by
    rcases S.par n (List.of_mem_zip hy).1 with q | q
    · exact .inl q
    · exact .inr ⟨q, PySem.W.cellsFrom_some _ _ _ (.inl q)⟩
  refine codeAny_call_function hr.depth (KX _ _ lk) rfl S.co S.gen rfl (PySem.W.codeRec_of KX hcd) (hb _ _ _ _ ?_)
  refine wpAny_newFunctionEnv_cells S.kind hkind fun env he s1 x => ?_
  subst he
  refine ⟨lim.keeps x.toInCall.keep, codeAny_func ?_⟩
  obtain ⟨t, ht, hq⟩ := hbody A outer s H vs Q E (hr.deeper _) hsp
  have I : Inv (cxOf CX P w K mg base N qual scope f cdv A outer s H E) [] (start N vs) H s1 := inv_start S hr.hd e0 hl r x
  refine wpAny_mono (ht [] s1 (start N vs) H _ I hq) (fun fl s' hs => ?_) fun e s' hs => hs
  have fin : ∀ {σ' : St} {H' : Hp} {v : V} {u : Value}, Inv (cxOf CX P w K mg base N qual scope f cdv A outer s H E) [] σ' H' s' → RelV v u → Q v H' → CE outer P w H s Q u s' :=
    fun {σ' H' v u} J rv q => ⟨v, H', J.os, J.bare, J.base, J.hok, rv, q⟩
  cases fl with
  | ret u =>
    obtain ⟨v, σ', H', J, rv, q⟩ := hs
    exact fin J rv q
  | next =>
    obtain ⟨σ', H', J, q⟩ := hs
    exact fin (v := V.non) (u := Value.none) J rfl q
  | brk =>
    obtain ⟨_, _, _, q⟩ := hs
    exact False.elim q
  | cont =>
    obtain ⟨_, _, _, q⟩ := hs
    exact False.elim q
end L2
namespace L2
open PySem PySem.Spec PyProof.Rows
section
variable {X : Cx} {x : Str} {p pos : Pos} {e : Expr} {es : List Expr} {t : TA} {id T : String} {r : List V → Hp → VK → Prop}
def tCB (r : List V → Hp → VK → Prop) (t : TA) : TE := fun σ H Q => t σ H fun vs H1 => r vs H1 Q
theorem pe_callB (hc : CallR X (.builtin id) r) (hg : Gl X x) (hm : X.mg x = none) (hv : bootBuiltins x = some (.builtin id)) (ha : PA X (e :: es) t) (hn : x ≠ "__name__" := by decide) (hdb : (x == ("__debug__" : Str)) = false := by decide)
    (he : starEach (e :: es) X.env = (false, eval e X.env) :: starEach es X.env := by rfl) (hpl : (backTo pos (starEach es X.env)).any (·.1) = false := by rfl) : PE X (.Call (.Name x p) (e :: es) [] pos) (tCB r t) := by
  intro pins s σ H Q I h
  refine wpAny_Call_Name_kw (ld_blt I hg hm hv ?_ hn hdb)
  exact PyProof.Rows.callWith_builtin1 (thn (ha pos pins s σ H _ I h) fun us s1 ⟨vs, H1, I1, r1, q1⟩ => hc pins s1 σ H1 vs us Q I1 r1 q1) he hpl
theorem pe_callTy (hc : CallR X (.type T) r) (hg : Gl X x) (hm : X.mg x = none) (hv : bootBuiltins x = some (.type T)) (ha : PA X (e :: es) t) (hn : x ≠ "__name__" := by decide) (hdb : (x == ("__debug__" : Str)) = false := by decide)
    (he : starEach (e :: es) X.env = (false, eval e X.env) :: starEach es X.env := by rfl) (hpl : (backTo pos (starEach es X.env)).any (·.1) = false := by rfl) : PE X (.Call (.Name x p) (e :: es) [] pos) (tCB r t) := by
  intro pins s σ H Q I h
  refine wpAny_Call_Name_kw (ld_blt I hg hm hv ?_ hn hdb)
  exact PyProof.Rows.callWith_type1 (thn (ha pos pins s σ H _ I h) fun us s1 ⟨vs, H1, I1, r1, q1⟩ => hc pins s1 σ H1 vs us Q I1 r1 q1) he hpl
end
end L2
namespace HT
open PySem PyProof.Rows
section
variable {prog : Program} {w : World} {A : Around} {E : Value → Shared → Prop} {s : Shared}
def sIx (n d : Nat) : Option Int → Nat
  | none => d
  | some v => if v < 0 then (v + (n : Int)).toNat else min v.toNat n
end
end HT
namespace L2
open PySem PySem.Spec PyProof.Rows
abbrev TO := St → Hp → (Option Int → Hp → Prop) → Prop
def PO (X : Cx) (e : Option Expr) (t : TO) : Prop :=
  ∀ (pins : List (Addr × Obj)) (s : Shared) (σ : St) (H : Hp) (Q : Option Int → Hp → Prop), Inv X pins σ H s → t σ H Q →
    wpAny (model X.prog X.w) X.A (evalPart e X.env) (fun u s' => ∃ o H', Inv X pins σ H' s' ∧ IsPart u o ∧ Q o H') X.xe s
def tNoPart : TO := fun _ H Q => Q none H
def tPart (t : TE) : TO := fun σ H Q => t σ H fun x H1 => ∃ i, x = .int i ∧ Q (some i) H1
section
variable {X : Cx} {e : Expr} {te : TE} {lo hi : Option Expr} {tl th : TO} {pos p2 : Pos}
theorem po_none : PO X none tNoPart := by
  intro pins s σ H Q I h
  rw [evalPart_none]
  exact wpAny_pure ⟨none, H, I, .none, h⟩
theorem po_some (h : PE X e te) : PO X (some e) (tPart te) := by
  intro pins s σ H Q I hw
  rw [evalPart_some]
  refine thn (h pins s σ H _ I hw) fun u s1 ⟨x, H1, I1, r1, q1⟩ => ?_
  obtain ⟨i, rfl, q⟩ := q1
  obtain ⟨t, rfl⟩ := r1
  exact ⟨some i, H1, I1, .int i t, q⟩
def SlR (X : Cx) (r : V → Option Int → Option Int → Hp → VK → Prop) : Prop :=
  ∀ (pins : List (Addr × Obj)) (s : Shared) (σ : St) (H : Hp) (x : V) (v vl vu : Value) (lo hi : Option Int) (sl : Addr) (Q : VK), Inv X pins σ H s → RelV x v → s.heap.IsSliceOf sl vl vu .none → IsPart vl lo → IsPart vu hi → r x lo hi H Q →
    ∃ T id, typeLookup (.type T) "__getitem__" = pure (some (.builtin id)) ∧ s.TypeIs v T ∧ wpAny (model X.prog X.w) X.A (getItem v (.ref sl)) (EP X pins σ Q) X.xe s
def tSl (r : V → Option Int → Option Int → Hp → VK → Prop) (te : TE) (tl th : TO) : TE := fun σ H Q => te σ H fun x H1 => tl σ H1 fun l H2 => th σ H2 fun u H3 => r x l u H3 Q
theorem pe_slice {r : V → Option Int → Option Int → Hp → VK → Prop} (hr : SlR X r) (he : PE X e te) (hl : PO X lo tl) (hu : PO X hi th) : PE X (.Subscript e (.Slice lo hi none p2) pos) (tSl r te tl th) := by
  intro pins s σ H Q I h
  refine Subscript_ (thn (he pins s σ H _ I h) fun v s1 ⟨x, H1, I1, r1, q1⟩ => ?_)
  refine wpAny_Slice (thn (hl pins s1 σ H1 _ I1 q1) fun vl s2 ⟨l, H2, I2, pl, q2⟩ => thn (hu pins s2 σ H2 _ I2 q2) fun vu s3 ⟨u, H3, I3, pu, q3⟩ => ?_)
  rw [evalPart_none]
  refine wpAny_pure ?_
  have I4 : Inv X pins σ H3 { s3 with heap := s3.heap.push { cls := .type "slice", data := .fields #[vl, vu, .none] } } := I3.kept (t' := s3.toks) fun b ob q => Heap.get?_push_of_some _ q
  obtain ⟨T, id, hT, ht, hg⟩ := hr pins { s3 with heap := s3.heap.push { cls := .type "slice", data := .fields #[vl, vu, .none] } } σ H3 x v vl vu l u s3.heap.objs.size Q I4 r1 (Heap.IsSliceOf.new ..) pl pu q3
  show wpAny (model X.prog X.w) X.A (subscriptTail e (.Slice lo hi none p2) v (.ref s3.heap.objs.size)) (EP X pins σ Q) X.xe { s3 with heap := s3.heap.push { cls := .type "slice", data := .fields #[vl, vu, .none] } }
  exact tail_any (ops := [.ref s3.heap.objs.size, v]) ht hT hg (by with_unfolding_all rfl)
def cutV (xs : List V) (lo hi : Option Int) : List V := (xs.drop (HT.sIx xs.length 0 lo)).take (HT.sIx xs.length xs.length hi - HT.sIx xs.length 0 lo)
theorem cutV_length (xs : List V) (lo hi : Option Int) : (cutV xs lo hi).length ≤ xs.length := by
  unfold cutV
  rw [List.length_take, List.length_drop]
  omega
end
end L2
namespace L2
open PySem PySem.Spec PyProof.Rows
def ixN (n : Nat) (i : Int) : Option Nat := if 0 ≤ i then (if i < n then some i.toNat else none) else if -(n : Int) ≤ i then some (i + n).toNat else none
def atI {α : Type} (xs : List α) (i : Int) : Option α := (ixN xs.length i).bind fun j => xs[j]?
theorem ixN_seq {n : Nat} {i : Int} {j : Nat} (h : ixN n i = some j) : seqIndex? i n = some j ∧ j < n ∧ -(n : Int) ≤ i ∧ i < n := by
  unfold ixN at h
  by_cases h0 : 0 ≤ i
  · rw [if_pos h0] at h
    by_cases h1 : i < n
    · rw [if_pos h1] at h
      have e : i.toNat = j := Option.some.inj h
      exact ⟨by rw [seqIndex_of h0 h1, e], by omega, by omega, h1⟩
    · rw [if_neg h1] at h; cases h
  · rw [if_neg h0] at h
    by_cases h1 : -(n : Int) ≤ i
    · rw [if_pos h1] at h
      have e : (i + n).toNat = j := Option.some.inj h
      exact ⟨by rw [seqIndex_neg (by omega) h1, e], by omega, h1, by omega⟩
    · rw [if_neg h1] at h; cases h
theorem atI_get {α : Type} {xs : List α} {i : Int} {v : α} (h : atI xs i = some v) : ∃ j, seqIndex? i xs.length = some j ∧ xs[j]? = some v ∧ j < xs.length ∧ -(xs.length : Int) ≤ i ∧ i < xs.length := by
  unfold atI at h
  cases e : ixN xs.length i with
  | none => rw [e] at h; cases h
  | some j =>
    rw [e] at h
    obtain ⟨h1, h2, h3, h4⟩ := ixN_seq e
    exact ⟨j, h1, h, h2, h3, h4⟩
theorem atI_nat {α : Type} {xs : List α} {j : Nat} {v : α} (h : xs[j]? = some v) : atI xs (j : Int) = some v := by
  have hj : j < xs.length := (List.getElem?_eq_some_iff.mp h).1
  have e : ixN xs.length (j : Int) = some j := by
    unfold ixN
    rw [if_pos (by omega), if_pos (by omega)]; simp
  unfold atI; rw [e]; exact h
def PlainIx (b : Expr) : Prop := ∀ o i, subscripted b false o i = operate [o, i] (getItem o i)
def IxR (X : Cx) (r : R2) : Prop :=
  ∀ (value slice : Expr) (pins : List (Addr × Obj)) (s : Shared) (σ : St) (H : Hp) (x y : V) (v u : Value) (Q : VK), Inv X pins σ H s → RelV x v → RelV y u → r x y H Q →
    subscripted slice false v u = operate [v, u] (getItem v u) → wpAny (model X.prog X.w) X.A (subscriptTail value slice v u) (EP X pins σ Q) X.xe s
def MtR (X : Cx) (id : String) (r : V → List V → Hp → VK → Prop) : Prop :=
  ∀ (pins : List (Addr × Obj)) (s : Shared) (σ : St) (H : Hp) (x : V) (xs : List V) (v : Value) (us : List Value) (Q : VK), Inv X pins σ H s → RelV x v → Vals xs us → r x xs H Q →
    wpAny (model X.prog X.w) X.A (call (.builtin id) (v :: us)) (EP X pins σ Q) X.xe s
section
variable {X : Cx} {a b : Expr} {ta tb : TE} {pos : Pos}
theorem pe_ix {r : R2} (hr : IxR X r) (ha : PE X a ta) (hb : PE X b tb) (hs : PlainIx b) : PE X (.Subscript a b pos) (tOp r ta tb) := by
  intro pins s σ H Q I h
  exact Subscript_ (binT ha hb I h fun v u s2 x y H2 I2 rx ry q => hr a b pins s2 σ H2 x y v u Q I2 rx ry q (hs _ _))
def rIxL (K : PySem.W.Frag) : R2 := fun x y H Q => ∃ p xs i v, x = .ref p ∧ y = .int i ∧ SqL K H p xs ∧ atI xs i = some v ∧ Q v H
def rIxT (K : PySem.W.Frag) : R2 := fun x y H Q => ∃ p xs i v, x = .ref p ∧ y = .int i ∧ SqT K H p xs ∧ atI xs i = some v ∧ Q v H
theorem ix_list : IxR X (rIxL X.K) := by
  intro value slice pins s σ H x y v u Q I rx ry h hs
  obtain ⟨p, xs, i, z, rfl, rfl, hq, he, q⟩ := h
  cases rx
  obtain ⟨t, rfl⟩ := ry
  obtain ⟨its, r, pl, hz⟩ := I.list hq
  obtain ⟨j, h1, h2, h3, h4, h5⟩ := atI_get he
  obtain ⟨w, ew, rw'⟩ := r.get h2
  have hl := r.length
  have hn := line63
  have fin : EP X pins σ Q w s := ⟨z, H, I, rw', q⟩
  by_cases h0 : 0 ≤ i
  · have hj : i.toNat = j := by
      rw [seqIndex_of h0 h5] at h1
      exact Option.some.inj h1
    exact item_listR pl.isList h0 (by omega) (by rw [hj]; simpa using ew) fin hs
  · have hj : (i + (its.toArray.size : Int)).toNat = j := by
      rw [seqIndex_neg (by omega) h4] at h1
      rw [List.size_toArray, ← hl]
      exact Option.some.inj h1
    exact subscriptTail_builtinR (x := w) pl.isList.typeIs slot_list_getitem.lookup
      (wpAny_getItem_list_neg (Q := fun r s' => r = w ∧ EP X pins σ Q r s') pl.isList (by omega) (by rw [List.size_toArray] <;> omega) (by omega) (by rw [hj]; simpa using ew) ⟨rfl, fin⟩) hs
theorem ix_tup : IxR X (rIxT X.K) := by
  intro value slice pins s σ H x y v u Q I rx ry h hs
  obtain ⟨p, xs, i, z, rfl, rfl, hq, he, q⟩ := h
  cases rx
  obtain ⟨t, rfl⟩ := ry
  obtain ⟨its, r, pl, hz⟩ := I.tuple hq
  obtain ⟨j, h1, h2, h3, h4, h5⟩ := atI_get he
  obtain ⟨w, ew, rw'⟩ := r.get h2
  have hl := r.length
  have hn := line63
  have fin : EP X pins σ Q w s := ⟨z, H, I, rw', q⟩
  exact subscriptTail_builtinR (x := w) pl.typeIs slot_tuple_getitem.lookup
    (getItem_tuple (j := j) (Q := fun r s' => r = w ∧ EP X pins σ Q r s') pl (by omega) (by omega) (by rw [List.size_toArray, ← hl]; exact h1) (by simpa using ew) ⟨rfl, fin⟩) hs
theorem mapSeq_set (its : List Value) (n j : Nat) (u : Value) : Obj.mapSeq (·.setIfInBounds j u) { cls := .type "list", data := .seq its.toArray n } = { cls := .type "list", data := .seq (its.set j u).toArray n } := by
  simp [Obj.mapSeq]
theorem Inv.lst {pins : List (Addr × Obj)} {σ : St} {H : Hp} {s : Shared} {p : Addr} {xs : List V} (I : Inv X pins σ H s) (h : H p = some (.lst xs)) :
    ∃ (its : List Value) (n : Nat), Vals xs its ∧ s.heap.get? p = some { cls := .type "list", data := .seq its.toArray n } ∧ xs.length ≤ sizeLine := by
  obtain ⟨z, its, n, r, e⟩ := I.hok p _ h
  exact ⟨its, n, r, e, z⟩
theorem Inv.lstUpd {pins : List (Addr × Obj)} {σ : St} {H : Hp} {s : Shared} {p : Addr} {xs ys : List V} {its its' : List Value} {n n' : Nat} {f : Obj → Obj} (I : Inv X pins σ H s) (h : H p = some (.lst xs))
    (ho : s.heap.get? p = some { cls := .type "list", data := .seq its.toArray n }) (hf : f { cls := .type "list", data := .seq its.toArray n } = { cls := .type "list", data := .seq its'.toArray n' }) (r : Vals ys its') (hz : ys.length ≤ sizeLine) (t : Nat) :
    Inv X pins σ (upd H p (.lst ys)) { s with heap := s.heap.update p f, toks := t } := by
  have e : (s.heap.update p f).get? p = some { cls := .type "list", data := .seq its'.toArray n' } := by
    rw [Heap.get?_update_self f ho (by rw [hf] <;> rfl), hf]
  refine I.write (x := p) (e := p) (by rw [h]; trivial) (.inl rfl) (fun b u hb q => (Heap.get?_update_other _ _ (Ne.symm hb)).trans q) ⟨_, e⟩ ?_
  exact ⟨hz, its', n', r, e⟩
def rSetL : V → V → V → Hp → (Hp → Prop) → Prop := fun o i v H Q => ∃ p xs k j, o = .ref p ∧ i = .int k ∧ H p = some (.lst xs) ∧ ixN xs.length k = some j ∧ Q (upd H p (.lst (xs.set j v)))
theorem set_list : PSet X rSetL := by
  intro pins s σ H o i v ov iv u Q I ro ri rv h
  obtain ⟨p, xs, k, j, rfl, rfl, hp, hj, q⟩ := h
  cases ro
  obtain ⟨t, rfl⟩ := ri
  obtain ⟨its, n, r, ho, hz⟩ := I.lst hp
  obtain ⟨h1, h2, h3, h4⟩ := ixN_seq hj
  have hl := r.length
  have hn := line63
  have I' : Inv X pins σ (upd H p (.lst (xs.set j v))) { s with heap := s.heap.update p (Obj.mapSeq (·.setIfInBounds j u)) } :=
    I.lstUpd hp ho (mapSeq_set its n j u) (r.set rv j) (by rw [List.length_set]; exact hz) s.toks
  by_cases h0 : 0 ≤ k
  · have hk : k.toNat = j := by
      rw [seqIndex_of h0 h4] at h1
      exact Option.some.inj h1
    exact PySem.W.ki_setAt ho h0 (by omega) (by rw [List.size_toArray, ← hl]; exact h4) (by rw [hk]; exact ⟨_, I', q⟩)
  · have hk : (k + (its.toArray.size : Int)).toNat = j := by
      rw [seqIndex_neg (by omega) h3] at h1
      rw [List.size_toArray, ← hl]
      exact Option.some.inj h1
    exact PySem.W.ki_setBack ho (by omega) (by rw [List.size_toArray, ← hl]; exact h3) (by omega) (by rw [hk]; exact ⟨_, I', q⟩)
theorem slice_bounds (lo hi : Option Int) (n : Nat) : (sliceBounds lo hi none n).1 = ((HT.sIx n 0 lo : Nat) : Int) ∧ (sliceBounds lo hi none n).2.1 = ((HT.sIx n n hi : Nat) : Int) ∧ (sliceBounds lo hi none n).2.2 = 1 := by
  refine ⟨?_, ?_, rfl⟩
  · cases lo with
    | none => simp [sliceBounds, HT.sIx]
    | some i =>
      simp only [sliceBounds, HT.sIx, Option.getD_none, show (1 : Int) > 0 by decide, if_true]
      by_cases h : i < 0
      · simp only [h, if_true] <;> omega
      · simp only [h, if_false] <;> omega
  · cases hi with
    | none => simp [sliceBounds, HT.sIx]
    | some i =>
      simp only [sliceBounds, HT.sIx, Option.getD_none, show (1 : Int) > 0 by decide, if_true]
      by_cases h : i < 0
      · simp only [h, if_true] <;> omega
      · simp only [h, if_false] <;> omega
theorem slicePick_cut (its : List Value) (lo hi : Option Int) : slicePick its.toArray lo hi none = ((its.drop (HT.sIx its.length 0 lo)).take (HT.sIx its.length its.length hi - HT.sIx its.length 0 lo)).toArray := by
  obtain ⟨h1, h2, h3⟩ := slice_bounds lo hi its.toArray.size
  unfold slicePick
  rw [h1, h2, h3]
  simp only [sliceRange_one, pick_run, List.size_toArray] <;> rfl
def rSlL (K : PySem.W.Frag) : V → Option Int → Option Int → Hp → VK → Prop := fun x lo hi H Q => ∃ a xs, x = .ref a ∧ SqL K H a xs ∧ ∀ p, H p = none → Q (.ref p) (upd H p (.lst (cutV xs lo hi)))
theorem sl_list : SlR X (rSlL X.K) := by
  intro pins s σ H x v vl vu lo hi sl Q I rx hs pl pu h
  obtain ⟨a, xs, rfl, hx, q⟩ := h
  cases rx
  obtain ⟨its, r, ht, hz⟩ := I.list hx
  have hlen := r.length
  refine ⟨"list", _, slot_list_getitem.lookup, ht.isList.typeIs, ?_⟩
  refine wpAny_getItem_list_slice ht.isList hs pl pu .none (by simp) ?_ (by rw [List.size_toArray] <;> omega)
  rw [slicePick_cut, ← hlen]
  refine ⟨.ref s.heap.objs.size, _, I.laid (t' := s.toks) (o := .lst (cutV xs lo hi)) (fun b ob q => Heap.get?_push_of_some _ q) (Nat.le_refl _) ?_, rfl, q _ (I.hok.fresh (Nat.le_refl _))⟩
  exact ⟨Nat.le_trans (cutV_length xs lo hi) hz, _, 0, (r.drop (HT.sIx xs.length 0 lo)).take (HT.sIx xs.length xs.length hi - HT.sIx xs.length 0 lo), Heap.get?_push_size _ rfl⟩
theorem call_len_seq : CallR X (.builtin "len") (fun xs H Q => ∃ p ys, xs = [.ref p] ∧ (SqL X.K H p ys ∨ SqT X.K H p ys) ∧ Q (.int ys.length) H) := by
  intro pins s σ H xs us Q I r h
  obtain ⟨p, ys, rfl, hq, q⟩ := h
  obtain ⟨u, rfl, rx⟩ := vals1 r
  cases rx
  have hn := line63
  rcases hq with hq | hq
  · obtain ⟨its, r', pl, hz⟩ := I.list hq
    have hlen := r'.length
    exact Calls.call_len_list pl.isList (by simp only [List.size_toArray] <;> omega) ⟨.int ys.length, H, I.tok _, ⟨s.toks + 1, by rw [List.size_toArray, hlen]⟩, q⟩
  · obtain ⟨its, r', pl, hz⟩ := I.tuple hq
    have hlen := r'.length
    exact len_tuple pl (by simp only [List.size_toArray] <;> omega) ⟨.int ys.length, H, I.tok _, ⟨s.toks + 1, by rw [List.size_toArray, hlen]⟩, q⟩
theorem call_list_of : CallR X (.type "list") (fun xs H Q => ∃ p ys, xs = [.ref p] ∧ (SqL X.K H p ys ∨ SqT X.K H p ys) ∧ ∀ l, H l = none → Q (.ref l) (upd H l (.lst ys))) := by
  intro pins s σ H xs us Q I r h
  obtain ⟨p, ys, rfl, hq, q⟩ := h
  obtain ⟨u, rfl, rx⟩ := vals1 r
  cases rx
  have fin : ∀ (its : List Value), Vals ys its → ys.length ≤ sizeLine → ∀ (h' : Heap) (c' : Nat), (∀ b o', s.heap.get? b = some o' → h'.get? b = some o') →
      h'.get? s.heap.objs.size = some { cls := .type "list", dict := none, data := .seq its.toArray c', slots := #[] } → EP X pins σ Q (.ref s.heap.objs.size) { s with heap := h' } := fun its r' hz h' c' kp e =>
    ⟨.ref s.heap.objs.size, _, I.laid (t' := s.toks) kp (Nat.le_refl _) (show ObjOk X.prog X.w _ h' _ (.lst ys) from ⟨hz, its, c', r', e⟩), rfl, q _ (I.hok.fresh (Nat.le_refl _))⟩
  rcases hq with hq | hq
  · obtain ⟨its, r', pl, hz⟩ := I.list hq
    have hlen := r'.length
    obtain ⟨o, ho, hc, n, hd⟩ := pl.isList
    exact call_list_seq p (.inl rfl) ho hc hd (fun h' c' kp e => fin its r' hz h' c' kp e) (by simp only [List.size_toArray] <;> omega)
  · obtain ⟨its, r', pl, hz⟩ := I.tuple hq
    have hlen := r'.length
    obtain ⟨o, ho, hc, n, hd⟩ := pl
    exact call_list_seq p (.inr rfl) ho hc hd (fun h' c' kp e => fin its r' hz h' c' kp e) (by simp only [List.size_toArray] <;> omega)
theorem call_tuple_of : CallR X (.type "tuple") (fun xs H Q => ∃ p ys, xs = [.ref p] ∧ ((SqL X.K H p ys ∧ ∀ l, H l = none → Q (.ref l) (upd H l (.tup ys))) ∨ (SqT X.K H p ys ∧ Q (.ref p) H))) := by
  intro pins s σ H xs us Q I r h
  obtain ⟨p, ys, rfl, h⟩ := h
  obtain ⟨u, rfl, rx⟩ := vals1 r
  cases rx
  rcases h with ⟨hq, q⟩ | ⟨hq, q⟩
  · obtain ⟨its, r', pl, hz⟩ := I.list hq
    have hlen := r'.length
    refine call_tuple_list pl.isList (fun h' kp => ?_) (by simp only [List.size_toArray] <;> omega)
    have I1 : Inv X pins σ H { s with heap := h' } := I.kept (t' := s.toks) kp
    have I2 : Inv X pins σ (upd H h'.objs.size (.tup ys)) { s with heap := h'.push { cls := .type "tuple", data := .seq its.toArray } } :=
      I1.laid (t' := s.toks) (fun b o e => Heap.get?_push_of_some _ e) (Nat.le_refl _) (show ObjOk X.prog X.w _ _ _ (.tup ys) from ⟨hz, its, r', IsTup.new _ _⟩)
    exact ⟨.ref h'.objs.size, _, I2, rfl, q _ (I1.hok.fresh (Nat.le_refl _))⟩
  · obtain ⟨its, r', pl, hz⟩ := I.tuple hq
    exact call_tuple_same pl ⟨.ref p, H, I, rfl, q⟩
def tyV (K : PySem.W.Frag) (T : String) (x : V) (H : Hp) : Prop := match x with
  | .str _ => T = "str"
  | .int _ => T = "int"
  | .ref p => (T = "list" ∧ ∃ xs, SqL K H p xs) ∨ (T = "tuple" ∧ ∃ o, K.lookup p = some o ∧ o.cls = .type "tuple" ∧ o.dict = none) ∨
      (T = "dict" ∧ ((∃ kvs, H p = some (.dK kvs)) ∨ ∃ kvs, H p = some (.dT kvs))) ∨ (T = "set" ∧ ∃ S n, H p = some (.set S n))
  | _ => False
theorem tyV_is {pins : List (Addr × Obj)} {σ : St} {H : Hp} {s : Shared} {T : String} {x : V} {v : Value} (I : Inv X pins σ H s) (r : RelV x v) (ty : tyV X.K T x H) :
    s.TypeIs v T ∧ ∀ a, v = .ref a → ∃ ob, s.heap.get? a = some ob ∧ ob.dict = none := by
  cases x with
  | str z =>
    obtain ⟨t, rfl⟩ := r
    cases (show T = "str" from ty)
    exact ⟨typeIs_str s z t, fun _ e => nomatch e⟩
  | int i =>
    obtain ⟨t, rfl⟩ := r
    cases (show T = "int" from ty)
    exact ⟨typeIs_int s i t, fun _ e => nomatch e⟩
  | ref p =>
    cases r
    rcases ty with ⟨rfl, xs, hq⟩ | ⟨rfl, o, hk, hc, hd⟩ | ⟨rfl, hk⟩ | ⟨rfl, S, n, hk⟩
    · obtain ⟨its, _, pl, _⟩ := I.list hq
      refine ⟨pl.isList.typeIs, fun a e => ?_⟩
      cases e
      obtain ⟨o, n, e, c, hd, _⟩ := pl
      exact ⟨o, e, hd⟩
    · refine ⟨⟨o, I.kIn p o hk, hc⟩, fun a e => ?_⟩
      cases e
      exact ⟨o, I.kIn _ o hk, hd⟩
    · have z : ∃ o, s.heap.get? p = some o ∧ o.ExactDict := by
        rcases hk with ⟨kvs, hk⟩ | ⟨kvs, hk⟩
        · obtain ⟨_, _, _, _, o, _, _, e, ex, _⟩ := I.hok p _ hk
          exact ⟨o, e, ex⟩
        · obtain ⟨_, _, _, _, o, _, _, e, ex, _⟩ := I.hok p _ hk
          exact ⟨o, e, ex⟩
      obtain ⟨o, e, ex⟩ := z
      refine ⟨⟨o, e, ex.1⟩, fun a e2 => ?_⟩
      cases e2
      exact ⟨o, e, ex.2.1⟩
    · obtain ⟨o, _, _, _, e, ex, _⟩ := I.hok p _ hk
      refine ⟨⟨o, e, ex.1⟩, fun a e2 => ?_⟩
      cases e2
      exact ⟨o, e, ex.2.1⟩
  | _ => exact False.elim ty
def tBM (K : PySem.W.Frag) (T : String) (r : V → List V → Hp → VK → Prop) (to : TE) (t : TA) : TE := fun σ H Q => to σ H fun x H1 => tyV K T x H1 ∧ t σ H1 fun xs H2 => r x xs H2 Q
variable {o e : Expr} {es : List Expr} {to : TE} {t : TA} {name : Str} {apos cpos : Pos} {T id : String} {r : V → List V → Hp → VK → Prop}
theorem pe_bm (pa : PlainAttrs T) (slot : Slot T name id) (hty : typeOf (.builtin id) = pure (.type "method_descriptor")) (hm : MtR X id r) (ho : PE X o to) (ha : PA X (e :: es) t)
    (hbase : attributeBase o name X.env (eval o X.env) = eval o X.env := by rfl)
    (hfew : ((backTo cpos (starEach (e :: es) X.env)).all (fun x => !x.1) && (backToKw cpos (keywordEach [] X.env)).all (fun x => x.1.isSome)
      && decide ((e :: es).length + ([] : List Keyword).length + (if ([] : List Keyword).isEmpty then 0 else 1) < 30)) = true := by rfl)
    (hline : (apos.endLine == cpos.line) = true := by rfl) (hs : starEach (e :: es) X.env = (false, eval e X.env) :: starEach es X.env := by rfl) (hplain : (backTo cpos (starEach es X.env)).any (·.1) = false := by rfl) :
    PE X (.Call (.Attribute o name apos) (e :: es) [] cpos) (tBM X.K T r to t) := by
  intro pins s σ H Q I h
  refine wpAny_Call_method_late hbase hfew hline rfl (thn (ho pins s σ H _ I h) fun v s1 ⟨x, H1, I1, r1, ty, q1⟩ => ?_)
  obtain ⟨h1, h2⟩ := tyV_is I1 r1 ty
  refine ⟨T, id, pa, slot, hty, h1, h2, ?_⟩
  have hA := ha cpos pins s1 σ H1 _ I1 q1
  rw [hs] at hA ⊢
  refine Calls.callWith_builtin (by show (false || (backTo cpos (starEach es X.env)).any (·.1)) = false; rw [hplain] <;> rfl) (Calls.evalArgs_plain ?_)
  exact thn hA fun us s2 ⟨vs, H2, I2, r2, q2⟩ => hm pins s2 σ H2 x vs v us Q I2 r1 r2 q2
/- xs.append(e), list.index on a module's tuple .. are MtR facts of 06m -/
end
end L2
namespace L2
open PySem PySem.Spec PyProof.Rows
def MtM (X : Cx) (id : String) (r : V → List V → Hp → VK → Prop) : Prop :=
  ∀ (pins : List (Addr × Obj)) (s : Shared) (σ : St) (H : Hp) (x : V) (xs : List V) (v : Value) (us : List Value) (Q : VK), Inv X pins σ H s → RelV x v → Vals xs us → r x xs H Q →
    wpAny (model X.prog X.w) X.A (call (.builtin id) (v :: us)) (EP X pins σ Q) X.xe s
theorem Vals.one : ∀ {x : V} {us : List Value}, Vals [x] us → ∃ u, us = [u] ∧ RelV x u
  | _, _, .cons r .nil => ⟨_, rfl, r⟩
section
variable {X : Cx} {pins : List (Addr × Obj)} {σ : St} {H : Hp} {s : Shared} {l b : Addr} {xs ys zs : List V}
theorem Inv.lset {its its' : List Value} {n : Nat} {f : Array Value → Array Value} {t' : Nat} (I : Inv X pins σ H s) (hH : H l = some (.lst xs))
    (e : s.heap.get? l = some { cls := .type "list", data := .seq its.toArray n }) (hf : f its.toArray = its'.toArray) (hv : Vals ys its') (hz : ys.length ≤ sizeLine) :
    Inv X pins σ (upd H l (.lst ys)) { s with heap := s.heap.update l (Obj.mapSeq f), toks := t' } := by
  have q := PySem.IsL.update e f
  rw [hf] at q
  refine I.write (x := l) (e := l) (by rw [hH]; exact trivial) (.inl rfl) (fun b' u hb hu => (Heap.get?_update_other s.heap (Obj.mapSeq f) (Ne.symm hb)).trans hu) ⟨_, q⟩ ?_
  exact ⟨hz, its', _, hv, q⟩
theorem Inv.lstM (I : Inv X pins σ H s) (hH : H l = some (.lst xs)) : xs.length ≤ sizeLine ∧ ∃ (its : List Value) (n : Nat), Vals xs its ∧ xs.length = its.length ∧ s.heap.get? l = some { cls := .type "list", data := .seq its.toArray n } := by
  obtain ⟨z, its, n, r, e⟩ := I.hok l _ hH
  exact ⟨z, its, n, r, r.length, e⟩
theorem notLongL {n : Nat} (h : n ≤ sizeLine) : Builtin.List.listTooLong n = false := by
  unfold Builtin.List.listTooLong
  exact decide_eq_false (by omega)
end
section
variable {X : Cx}
def rAppend : V → List V → Hp → VK → Prop := fun x vs H Q => ∃ l xs y, x = .ref l ∧ vs = [y] ∧ H l = some (.lst xs) ∧ xs.length < sizeLine ∧ Q .non (upd H l (.lst (xs ++ [y])))
theorem mt_append : MtM X "list.append" rAppend := by
  intro pins s σ H x vs v us Q I rx rv h
  obtain ⟨l, xs, y, rfl, rfl, hH, hz, q⟩ := h
  cases rx
  obtain ⟨u, rfl, ru⟩ := rv.one
  obtain ⟨z, its, n, r, hl, e⟩ := I.lstM hH
  refine call_meets F.slot_list_append ⟨_, e, rfl⟩ F.entry_list_append (F.args_list_append_2 _ _) (PySem.list_append l its.toArray n u (by rw [List.size_toArray]; omega)) ⟨e, ?_⟩
  refine ⟨.non, _, I.lset (its' := its ++ [u]) hH e (by simp) (r.append (.cons ru .nil)) ?_, rfl, q⟩
  rw [List.length_append, List.length_singleton]
  omega
def rExtend : V → List V → Hp → VK → Prop := fun x vs H Q => ∃ l b xs zs, x = .ref l ∧ vs = [.ref b] ∧ H l = some (.lst xs) ∧ H b = some (.lst zs) ∧ xs.length + zs.length ≤ sizeLine ∧ Q .non (upd H l (.lst (xs ++ zs)))
theorem mt_extend : MtM X "list.extend" rExtend := by
  intro pins s σ H x vs v us Q I rx rv h
  obtain ⟨l, b, xs, zs, rfl, rfl, hH, hB, hz, q⟩ := h
  cases rx
  obtain ⟨u, rfl, ru⟩ := rv.one
  cases ru
  obtain ⟨z, its, n, r, hl, e⟩ := I.lstM hH
  obtain ⟨z2, its2, n2, r2, hl2, e2⟩ := I.lstM hB
  have hsz : its.toArray.size + its2.toArray.size ≤ sizeLine := by rw [List.size_toArray, List.size_toArray]; omega
  have hlong : ¬ (!its.toArray.isEmpty && Builtin.List.listTooLong (its.toArray.size + its2.toArray.size)) = true := by
    rw [notLongL hsz, Bool.and_false]
    exact Bool.false_ne_true
  refine call_meets F.slot_list_extend ⟨_, e, rfl⟩ F.entry_list_extend (F.args_list_extend_2 _ _)
    (AutoSeq1.list_extend_list_list_0 l its.toArray n b its2.toArray n2 hlong (by rw [List.size_toArray]; omega) (by omega)) ⟨e, e2, ?_⟩
  refine ⟨.non, _, I.lset (its' := its ++ its2) hH e (by simp) (r.append r2) ?_, rfl, q⟩
  rw [List.length_append]
  omega
end
end L2
namespace L2
open PySem PySem.Spec PyProof.Rows
section
variable {κ : Type} [DecidableEq κ]
def valV (kvs : List (κ × V)) (k : κ) : Option V := (kvs.find? fun kv => decide (kv.1 = k)).map (·.2)
def putK (kvs : List (κ × V)) (k : κ) (v : V) : List (κ × V) :=
  if (kvs.any fun kv => decide (kv.1 = k)) = true then kvs.map (fun kv => if kv.1 = k then (kv.1, v) else kv) else kvs ++ [(k, v)]
theorem valV_pos {p : κ × V} {r : List (κ × V)} {k : κ} (e : p.1 = k) : valV (p :: r) k = some p.2 := by simp [valV, List.find?_cons, e]
theorem valV_neg {p : κ × V} {r : List (κ × V)} {k : κ} (e : ¬ p.1 = k) : valV (p :: r) k = valV r k := by simp [valV, List.find?_cons, e]
theorem valV_any (k : κ) : ∀ kvs : List (κ × V), (kvs.any fun kv => decide (kv.1 = k)) = (valV kvs k).isSome
  | [] => rfl
  | p :: r => by
    rw [List.any_cons]
    by_cases e : p.1 = k
    · simp only [valV_pos e, decide_eq_true e, Bool.true_or, Option.isSome_some]
    · rw [valV_neg e, decide_eq_false e, Bool.false_or]; exact valV_any k r
theorem length_putK (kvs : List (κ × V)) (k : κ) (v : V) : (putK kvs k v).length ≤ kvs.length + 1 := by
  unfold putK
  split
  · rw [List.length_map]; omega
  · rw [List.length_append, List.length_cons, List.length_nil]; omega
theorem RelO.isSome_eq {o : Option V} {u : Option Value} (r : RelO o u) : o.isSome = u.isSome := by
  cases o with
  | none => cases u with
    | none => rfl
    | some _ => exact (show False from r).elim
  | some _ => cases u with
    | none => exact (show False from r).elim
    | some _ => rfl
theorem RelO.getD {o : Option V} {u : Option Value} {d : V} {d' : Value} (r : RelO o u) (rd : RelV d d') : RelV (o.getD d) (u.getD d') := by
  cases o with
  | none => cases u with
    | none => exact rd
    | some _ => exact (show False from r).elim
  | some _ => cases u with
    | none => exact (show False from r).elim
    | some _ => exact r
theorem KV.val {kvs : List (κ × V)} {vs : List (κ × Value)} (r : KV kvs vs) (k : κ) : RelO (valV kvs k) (valueAt vs k) := by
  unfold KV at r
  induction r with
  | nil => exact True.intro
  | @cons p q ps qs h t ih =>
    obtain ⟨h1, h2⟩ := h
    by_cases e : p.1 = k
    · have e' : q.1 = k := h1.symm.trans e
      have b : valueAt (q :: qs) k = some q.2 := by simp [valueAt, List.find?_cons, e']
      rw [valV_pos e, b]; exact h2
    · have e' : ¬ q.1 = k := fun z => e (h1.trans z)
      have b : valueAt (q :: qs) k = valueAt qs k := by simp [valueAt, List.find?_cons, e']
      rw [valV_neg e, b]; exact ih
theorem KV.any {kvs : List (κ × V)} {vs : List (κ × Value)} (r : KV kvs vs) (k : κ) : (kvs.any fun kv => decide (kv.1 = k)) = vs.any fun kv => decide (kv.1 = k) := by
  unfold KV at r
  induction r with
  | nil => rfl
  | cons h t ih => rw [List.any_cons, List.any_cons, ih, h.1]
theorem KV.repl {kvs : List (κ × V)} {vs : List (κ × Value)} (r : KV kvs vs) (k : κ) {y : V} {u : Value} (ry : RelV y u) :
    KV (kvs.map fun kv => if kv.1 = k then (kv.1, y) else kv) (vs.map fun kv => if kv.1 = k then (kv.1, u) else kv) := by
  unfold KV at r ⊢
  induction r with
  | nil => exact .nil
  | @cons p q ps qs h t ih =>
    rw [List.map_cons, List.map_cons]
    refine .cons ?_ ih
    obtain ⟨h1, h2⟩ := h
    by_cases e : p.1 = k
    · rw [if_pos e, if_pos (h1.symm.trans e)]; exact ⟨h1, ry⟩
    · rw [if_neg e, if_neg (fun z => e (h1.trans z))]; exact ⟨h1, h2⟩
theorem KV.put {kvs : List (κ × V)} {vs : List (κ × Value)} (r : KV kvs vs) (k : κ) {y : V} {u : Value} (ry : RelV y u) : KV (putK kvs k y) (stored vs k u) := by
  unfold putK stored
  rw [r.any k]
  by_cases e : (vs.any fun kv => decide (kv.1 = k)) = true
  · rw [if_pos e, if_pos e]; exact r.repl k ry
  · rw [if_neg e, if_neg e]; exact Paired.snoc r ⟨rfl, ry⟩
theorem KV.keys {kvs : List (κ × V)} {vs : List (κ × Value)} (r : KV kvs vs) : kvs.map (·.1) = vs.map (·.1) := by
  unfold KV at r
  induction r with
  | nil => rfl
  | cons h t ih => rw [List.map_cons, List.map_cons, ih, h.1]
theorem KV.length {kvs : List (κ × V)} {vs : List (κ × Value)} (r : KV kvs vs) : kvs.length = vs.length := Paired.length r
end
theorem kV_is {P : Program} {w : World} {k : Key} {u : Value} (r : RelV (kV k) u) : (mixKind P w).is k u = true := by
  cases k with
  | inl i => obtain ⟨t, e⟩ := (show ∃ t, u = Value.int i t from r); subst e; exact mixKind_int P w i t
  | inr x => obtain ⟨t, e⟩ := (show ∃ t, u = Value.str x t from r); subst e; exact mixKind_str P w x t
theorem items_are {P : Program} {w : World} : ∀ {ks : List Key} {us : List Value}, Vals (ks.map kV) us → ItemsAre (mixKind P w) ks us
  | [], _, r => by rw [List.map_nil] at r; cases r; exact .nil
  | k :: ks, _, r => by
    rw [List.map_cons] at r
    cases r with
    | cons h t => exact .cons (kV_is h) (items_are t)
abbrev KT (H : Hp) : List (List Key × V) → List (List Key × Addr × Value) → Prop := Paired fun p q => p.1 = q.1 ∧ H q.2.1 = some (.tup (p.1.map kV)) ∧ RelV p.2 q.2.2
theorem KT.val {H : Hp} {kvs : List (List Key × V)} {xs : List (List Key × Addr × Value)} (r : KT H kvs xs) (k : List Key) : RelO (valV kvs k) ((atKey xs k).map (·.2)) := by
  induction r with
  | nil => exact True.intro
  | @cons p q ps qs h t ih =>
    obtain ⟨h1, _, h2⟩ := h
    by_cases e : p.1 = k
    · have e' : q.1 = k := h1.symm.trans e
      have b : atKey (q :: qs) k = some q.2 := by simp [atKey, List.find?_cons, e']
      rw [valV_pos e, b]; exact h2
    · have e' : ¬ q.1 = k := fun z => e (h1.trans z)
      have b : atKey (q :: qs) k = atKey qs k := by simp [atKey, List.find?_cons, e']
      rw [valV_neg e, b]; exact ih
theorem KT.repl {H : Hp} {kvs : List (List Key × V)} {xs : List (List Key × Addr × Value)} (r : KT H kvs xs) (k : List Key) {y : V} {u : Value} (ry : RelV y u) :
    KT H (kvs.map fun kv => if kv.1 = k then (kv.1, y) else kv) (xs.map (putAt k u)) := by
  induction r with
  | nil => exact .nil
  | @cons p q ps qs h t ih =>
    rw [List.map_cons, List.map_cons]
    refine .cons ?_ ih
    obtain ⟨h1, h2, h3⟩ := h
    unfold putAt
    by_cases e : p.1 = k
    · rw [if_pos e, if_pos (h1.symm.trans e)]; exact ⟨h1, h2, ry⟩
    · rw [if_neg e, if_neg (fun z => e (h1.trans z))]; exact ⟨h1, h2, h3⟩
theorem KT.put {H : Hp} {kvs : List (List Key × V)} {xs : List (List Key × Addr × Value)} (r : KT H kvs xs) (k : List Key) {b : Addr} {y : V} {u : Value} (hb : H b = some (.tup (k.map kV))) (ry : RelV y u) :
    KT H (putK kvs k y) (storedH xs k b u) := by
  have e : (kvs.any fun kv => decide (kv.1 = k)) = (atKey xs k).isSome := by
    rw [valV_any, (r.val k).isSome_eq, Option.isSome_map]
  unfold putK storedH
  rw [e]
  by_cases q : (atKey xs k).isSome = true
  · rw [if_pos q, if_pos q]; exact r.repl k ry
  · rw [if_neg q, if_neg q]; exact Paired.snoc r ⟨rfl, hb, ry⟩
theorem KT.keeps {H H' : Hp} {kvs : List (List Key × V)} {xs : List (List Key × Addr × Value)} (r : KT H kvs xs) (ht : ∀ b ys, H b = some (.tup ys) → H' b = some (.tup ys)) : KT H' kvs xs :=
  Paired.mapP r fun _ _ z => ⟨z.1, ht _ _ z.2.1, z.2.2⟩
section
variable {P : Program} {w : World} {H : Hp} {h : Heap} {a : Addr}
theorem rd_of {u : HO} (ok : HOk P w H h) (e : Rd H a u) : ObjOk P w H h a u := e.ok ok
theorem dk_rd {kvs : List (Key × V)} (ok : HOk P w H h) (e : Rd H a (.dK kvs)) : kvs.length ≤ sizeLine ∧ (a == sysModules) = false ∧ ∃ vs, KV kvs vs ∧ h.DictOf (mixKind P w) a vs :=
  show ObjOk P w H h a (.dK kvs) from rd_of ok e
theorem dk_of {kvs : List (Key × V)} (ok : HOk P w H h) (e : H a = some (.dK kvs)) : kvs.length ≤ sizeLine ∧ (a == sysModules) = false ∧ ∃ vs, KV kvs vs ∧ h.DictOf (mixKind P w) a vs := dk_rd ok (.inl e)
theorem key_of {ks : List Key} (ok : HOk P w H h) (e : H a = some (.tup (ks.map kV))) : (tupleKind (mixKind P w)).is h ks a := by
  obtain ⟨_, its, r, o, h1, h2, n, h3⟩ := (show ObjOk P w H h a (.tup (ks.map kV)) from ok a _ e)
  exact ⟨o, its.toArray, n, h1, h2, h3, by simpa using items_are r⟩
theorem dt_rd {kvs : List (List Key × V)} (ok : HOk P w H h) (e : Rd H a (.dT kvs)) : kvs.length ≤ sizeLine ∧ (a == sysModules) = false ∧
    ∃ xs, KT H kvs xs ∧ h.DictOfH (tupleKind (mixKind P w)) a xs := by
  obtain ⟨z, y, xs, r, o, es, ep, h1, h2, h3, h4, h5⟩ := (show ObjOk P w H h a (.dT kvs) from rd_of ok e)
  refine ⟨z, y, xs, r, o, es, ep, h1, h2, h3, h4, fun x hx => ?_, h5⟩
  have all : ∀ {l : List (List Key × V)} {m : List (List Key × Addr × Value)}, KT H l m → ∀ x ∈ m, (tupleKind (mixKind P w)).is h x.1 x.2.1 := by
    intro l m q
    induction q with
    | nil => intro x hx; exact nomatch hx
    | @cons p q ps qs hq t ih =>
      intro x hx
      rcases List.mem_cons.mp hx with e | hx
      · subst e
        exact key_of ok (by rw [← hq.1]; exact hq.2.1)
      · exact ih x hx
  exact all r x hx
theorem dt_of {kvs : List (List Key × V)} (ok : HOk P w H h) (e : H a = some (.dT kvs)) : kvs.length ≤ sizeLine ∧ (a == sysModules) = false ∧
    ∃ xs, KT H kvs xs ∧ h.DictOfH (tupleKind (mixKind P w)) a xs := dt_rd ok (.inl e)
end
def DGet (H : Hp) (a : Addr) (y : V) (r : Option V) : Prop :=
  (∃ kvs k, Rd H a (.dK kvs) ∧ y = kV k ∧ r = valV kvs k) ∨ ∃ kvs k b, Rd H a (.dT kvs) ∧ y = .ref b ∧ H b = some (.tup (k.map kV)) ∧ r = valV kvs k
def DPut (H : Hp) (a : Addr) (y v : V) (H' : Hp) : Prop :=
  (∃ kvs k, H a = some (.dK kvs) ∧ y = kV k ∧ kvs.length < sizeLine ∧ H' = upd H a (.dK (putK kvs k v))) ∨
  ∃ kvs k b, H a = some (.dT kvs) ∧ y = .ref b ∧ H b = some (.tup (k.map kV)) ∧ kvs.length < sizeLine ∧ H' = upd H a (.dT (putK kvs k v))
theorem DGet.k {H : Hp} {a : Addr} {kvs : List (Key × V)} {k : Key} (e : H a = some (.dK kvs)) : DGet H a (kV k) (valV kvs k) := .inl ⟨kvs, k, .inl e, rfl, rfl⟩
theorem DPut.k {H : Hp} {a : Addr} {kvs : List (Key × V)} {k : Key} {v : V} (e : H a = some (.dK kvs)) (hl : kvs.length < sizeLine) : DPut H a (kV k) v (upd H a (.dK (putK kvs k v))) := .inl ⟨kvs, k, e, rfl, hl, rfl⟩
section
variable {X : Cx} {pins : List (Addr × Obj)} {σ : St} {H : Hp} {s : Shared} {a : Addr} {y v : V} {u r : Value} {o : Option V} {A : Around} {E : Value → Shared → Prop}
theorem Inv.big (I : Inv X pins σ H s) : sysModules < s.heap.objs.size := by
  have h : mainGlobals < s.heap.objs.size := (I.mod.glob.keeps I.bk).lt
  exact Nat.lt_trans (by decide) h
theorem d_getItem {Q : Value → Shared → Prop} (hu : A.units + 1 < cLine) (I : Inv X pins σ H s) (g : DGet H a y (some v)) (ry : RelV y u) (h : ∀ w' s', Inv X pins σ H s' → RelV v w' → Q w' s') :
    wpAny (model X.prog X.w) A (getItem (.ref a) u) Q E s := by
  rcases g with ⟨kvs, k, e, ey, l⟩ | ⟨kvs, k, b, e, ey, eb, l⟩
  · subst ey
    obtain ⟨z, hd, vs, rel, dd⟩ := dk_rd I.hok e
    obtain ⟨w', hw, rw'⟩ := RelO.some_of (v := v) (o := valueAt vs k) (by rw [l]; exact rel.val k)
    exact wpAny_getItem_of (kV_is ry) dd.mapOf hw (h w' _ (I.tok _) rw')
  · subst ey
    cases (show u = Value.ref b from ry)
    obtain ⟨z, hd, xs, rel, dd⟩ := dt_rd I.hok e
    obtain ⟨w', hw, rw'⟩ := RelO.some_of (v := v) (o := (atKey xs k).map (·.2)) (by rw [l]; exact rel.val k)
    obtain ⟨p, hp, hp2⟩ := Option.map_eq_some_iff.mp hw
    refine wpAny_getItem_heap (tupleKind_room_in1 hu) (key_of I.hok eb) dd hp ?_
    rw [hp2]
    exact h w' _ (I.tok _) rw'
theorem d_write {h' : Heap} {t' : Nat} {ob : HO} (I : Inv X pins σ H s) (mu : Mut (H a)) (hs : Heap.SameBut a s.heap h') (he : ∃ q, h'.get? a = some q) (new : ObjOk X.prog X.w (upd H a ob) h' a ob) :
    Inv X pins σ (upd H a ob) { s with heap := h', toks := t' } :=
  I.write (x := a) (e := a) mu (.inl rfl) (fun b q hb z => (hs.2 b hb).trans z) he new
theorem dk_new {P : Program} {w : World} {H' : Hp} {h' : Heap} {kvs : List (Key × V)} {vs : List (Key × Value)} (z : kvs.length ≤ sizeLine) (hd : (a == sysModules) = false) (rel : KV kvs vs) (dd : h'.DictOf (mixKind P w) a vs) :
    ObjOk P w H' h' a (.dK kvs) := ⟨z, hd, vs, rel, dd⟩
theorem d_setItem {H' : Hp} {Q : Unit → Shared → Prop} (hu : A.units + 1 < cLine) (I : Inv X pins σ H s) (g : DPut H a y v H') (ry : RelV y u) (rv : RelV v r) (h : ∀ s', Inv X pins σ H' s' → Q () s') :
    wpAny (model X.prog X.w) A (setItem (.ref a) u r) Q E s := by
  rcases g with ⟨kvs, k, e, ey, l, eH⟩ | ⟨kvs, k, b, e, ey, eb, l, eH⟩
  · subst ey eH
    obtain ⟨z, hd, vs, rel, dd⟩ := dk_of I.hok e
    have hz : vs.length ≤ sizeLine := by rw [← rel.length]; exact z
    have hl : (putK kvs k v).length ≤ sizeLine := by have := length_putK kvs k v; omega
    refine wpAny_setItem_pairs (hsz := hz) (kV_is ry) dd fun h' dd' hs => h _ ?_
    have he : ∃ q, h'.get? a = some q := let ⟨q, _, _, hq, _⟩ := dd'; ⟨q, hq⟩
    exact d_write I (by rw [e]; exact True.intro) hs he (dk_new hl hd (rel.put k rv) dd')
  · subst ey eH
    cases (show u = Value.ref b from ry)
    obtain ⟨z, hd, xs, rel, dd⟩ := dt_of I.hok e
    have hz : xs.length ≤ sizeLine := by rw [← Paired.length rel]; exact z
    have hl : (putK kvs k v).length ≤ sizeLine := by have := length_putK kvs k v; omega
    refine wpAny_setItem_heap (hsz := hz) (tupleKind_room_in1 hu) (key_of I.hok eb) dd fun h' dd' hs => h _ ?_
    obtain ⟨q, es, ep, hq, h2, h3, h4, _, h5⟩ := dd'
    refine d_write I (by rw [e]; exact True.intro) hs ⟨q, hq⟩ ⟨hl, hd, _, (rel.put k eb rv).keeps fun c ys ec => ?_, q, es, ep, hq, h2, h3, h4, h5⟩
    rw [upd_ne (ne_of ec e (fun z => nomatch z))]
    exact ec
end
def NoSl (i : Expr) : Prop := ∀ ov iv, subscripted i false ov iv = operate [ov, iv] (getItem ov iv)
theorem subD_of {prog : Program} {w : World} {A : Around} {E : Value → Shared → Prop} {s : Shared} {env : Env} {value slice : Expr} {pos : Pos} {T id : String} {Q : Value → Shared → Prop}
    (hl : typeLookup (.type T) "__getitem__" = pure (some (.builtin id))) (hs : NoSl slice)
    (h : wpAny (model prog w) A (eval value env) (fun o s₁ => wpAny (model prog w) A (eval slice env) (fun i s₂ => s₂.TypeIs o T ∧ wpAny (model prog w) A (getItem o i) Q E s₂) E s₁) E s) :
    wpAny (model prog w) A (eval (.Subscript value slice pos) env) Q E s := by
  refine Subscript_ (wpAny_mono h (fun o s₁ h₁ => wpAny_mono h₁ (fun i s₂ h₂ => ?_) fun _ _ x => x) fun _ _ x => x)
  obtain ⟨hT, h₂⟩ := h₂
  unfold subscriptTail
  refine wpAny_bind ?_
  rw [getitemInPython_of_ne hT.not_modules]
  refine wpAny_bind (wpAny_specialOf hT hl ?_)
  have fin : wpAny (model prog w) A (subscripted slice false o i) (fun r s₃ => wpAny (model prog w) A (letTemporaryGo value o r >>= fun _ => pure r) Q E s₃) E s₂ := by
    rw [hs o i]
    exact wpAny_operating (wpAny_mono h₂ (fun r s₃ h₃ => wpAny_bind (wpAny_letTemporaryGo (wpAny_pure h₃))) fun _ _ x => x)
  first
    | exact wpAny_pure (wpAny_bind fin)
    | exact wpAny_bind (wpAny_pure (wpAny_bind fin))
    | exact wpAny_bind fin
theorem dict_typeIs {X : Cx} {pins : List (Addr × Obj)} {σ : St} {H : Hp} {s : Shared} {a : Addr} {y : V} {o : Option V} (I : Inv X pins σ H s) (g : DGet H a y o) : s.TypeIs (.ref a) "dict" := by
  rcases g with ⟨kvs, k, e, _, _⟩ | ⟨kvs, k, b, e, _, _, _⟩
  · obtain ⟨_, _, vs, _, dd⟩ := dk_rd I.hok e
    exact dd.typeIs
  · obtain ⟨_, _, xs, _, dd⟩ := dt_rd I.hok e
    exact dd.typeIs
def tDGet (td ty : TE) : TE := fun σ H Q => td σ H fun x H1 => ty σ H1 fun y H2 => ∃ a v, x = .ref a ∧ DGet H2 a y (some v) ∧ Q v H2
def sDPut (td ty tv : TE) : TS := fun D σ H => tv σ H fun v H1 => td σ H1 fun x H2 => ty σ H2 fun y H3 => ∃ a H4, x = .ref a ∧ DPut H3 a y v H4 ∧ D.nx σ H4
section
variable {X : Cx} {o i e value : Expr} {pos pos' tpos : Pos} {td ty tv : TE}
theorem pe_dget (hu : X.A.units + 1 < cLine) (ho : PE X o td) (hi : PE X i ty) (hs : NoSl i) : PE X (.Subscript o i pos) (tDGet td ty) := by
  intro pins s σ H Q I h
  refine subD_of PySem.F.slot_dict_getitem.lookup hs (thn (ho pins s σ H _ I h) fun u s1 ⟨x, H1, I1, rx, q1⟩ => thn (hi pins s1 σ H1 _ I1 q1) fun iv s2 ⟨y, H2, I2, ry, a, v, ex, g, q2⟩ => ?_)
  subst ex
  obtain rfl : u = Value.ref a := rx
  exact ⟨dict_typeIs I2 g, d_getItem hu I2 g ry fun w' s3 I3 rw' => ⟨v, H2, I3, rw', q2⟩⟩
theorem ps_dput (hu : X.A.units + 1 < cLine) (ho : PE X o td) (hi : PE X i ty) (hv : PE X value tv) (hs : swapsWith value (some (.Subscript o i pos')) pos.line X.env = pure false) :
    PS X (.Assign [.Subscript o i pos'] value pos) (sDPut td ty tv) := by
  intro pins s σ H D I h
  refine wpAny_Assign_Subscript (thn (hv pins s σ H _ I h) fun r s1 ⟨v, H1, I1, rv, q1⟩ => thn (ho pins s1 σ H1 _ I1 q1) fun u s2 ⟨x, H2, I2, rx, q2⟩ => thn (hi pins s2 σ H2 _ I2 q2) fun iv s3 ⟨y, H3, I3, ry, a, H4, ex, g, q3⟩ => ?_) hs
  subst ex
  obtain rfl : u = Value.ref a := rx
  exact d_setItem hu I3 g ry rv fun s4 I4 => ⟨σ, H4, I4, q3⟩
end
theorem dk_empty {P : Program} {w : World} {H : Hp} (h : Heap) (hb : sysModules < h.objs.size) : ObjOk P w H (h.push { cls := .type "dict", data := .dict #[] }) h.objs.size (.dK []) :=
  ⟨Nat.zero_le _, beq_eq_false_iff_ne.mpr (Ne.symm (Nat.ne_of_lt hb)), [], .nil, Heap.DictOf.new h⟩
def tDNewK : TE := fun _ H Q => ∀ p, H p = none → Q (.ref p) (upd H p (.dK []))
section
variable {X : Cx} {pos : Pos}
theorem pe_dnewK : PE X (.Dict [] [] pos) tDNewK := fun pins s σ H Q I h =>
  wpAny_Dict_empty ⟨.ref s.heap.objs.size, _, I.laid (a := s.heap.objs.size) (o := .dK []) (t' := s.toks) (fun _ _ q => Heap.get?_push_of_some _ q) (Nat.le_refl _) (dk_empty s.heap I.big), rfl, h _ (I.hok.fresh (Nat.le_refl _))⟩
end
structure M1 (X : Cx) (o : Expr) (m : Str) (apos : Pos) (e : Expr) (cpos : Pos) : Prop where
  base : attributeBase o m X.env (eval o X.env) = eval o X.env
  few : ((backTo cpos (starEach [e] X.env)).all (fun x => !x.1) && (backToKw cpos (keywordEach [] X.env)).all (fun x => x.1.isSome)
    && decide (([e] : List Expr).length + ([] : List Keyword).length + (if ([] : List Keyword).isEmpty then 0 else 1) < 30)) = true
  line : (apos.endLine == cpos.line) = true
  trees : backTo cpos (starEach [e] X.env) = [(false, eval e X.env)]
structure M2 (X : Cx) (o : Expr) (m : Str) (apos : Pos) (e f : Expr) (cpos : Pos) : Prop where
  base : attributeBase o m X.env (eval o X.env) = eval o X.env
  few : ((backTo cpos (starEach [e, f] X.env)).all (fun x => !x.1) && (backToKw cpos (keywordEach [] X.env)).all (fun x => x.1.isSome)
    && decide (([e, f] : List Expr).length + ([] : List Keyword).length + (if ([] : List Keyword).isEmpty then 0 else 1) < 30)) = true
  line : (apos.endLine == cpos.line) = true
  trees : backTo cpos (starEach [e, f] X.env) = [(false, eval e X.env), (false, eval f X.env)]
def IsD (H : Hp) (a : Addr) : Prop := (∃ kvs, Rd H a (.dK kvs)) ∨ ∃ kvs, Rd H a (.dT kvs)
theorem isD_at {X : Cx} {pins : List (Addr × Obj)} {σ : St} {H : Hp} {s : Shared} {a : Addr} (I : Inv X pins σ H s) (d : IsD H a) :
    s.TypeIs (.ref a) "dict" ∧ (∀ b, Value.ref a = .ref b → ∃ ob, s.heap.get? b = some ob ∧ ob.dict = none) ∧ (a == sysModules) = false := by
  rcases d with ⟨kvs, e⟩ | ⟨kvs, e⟩
  · obtain ⟨_, hd, vs, _, dd⟩ := dk_rd I.hok e
    refine ⟨dd.typeIs, fun b q => ?_, hd⟩
    cases q
    obtain ⟨ob, _, _, h1, h2, _⟩ := dd
    exact ⟨ob, h1, h2.2.1⟩
  · obtain ⟨_, hd, xs, _, dd⟩ := dt_rd I.hok e
    refine ⟨dd.typeIs, fun b q => ?_, hd⟩
    cases q
    obtain ⟨ob, _, _, h1, h2, _⟩ := dd
    exact ⟨ob, h1, h2.2.1⟩
section
variable {X : Cx} {pins : List (Addr × Obj)} {σ : St} {H : Hp} {s : Shared} {a : Addr} {y d : V} {u r : Value} {o : Option V} {A : Around} {E : Value → Shared → Prop}
theorem d_get2 {Q : Value → Shared → Prop} (hu : A.units + 1 < cLine) (I : Inv X pins σ H s) (g : DGet H a y o) (ry : RelV y u) (rd : RelV d r) (h : ∀ w' s', Inv X pins σ H s' → RelV (o.getD d) w' → Q w' s') :
    wpAny (model X.prog X.w) A (call (.builtin "dict.get") [.ref a, u, r]) Q E s := by
  rcases g with ⟨kvs, k, e, ey, l⟩ | ⟨kvs, k, b, e, ey, eb, l⟩
  · subst ey
    obtain ⟨z, hd, vs, rel, dd⟩ := dk_rd I.hok e
    refine call_meetsIn PySem.F.slot_dict_get dd.typeIs PySem.F.entry_dict_get (PySem.F.args_dict_get_3 _ _ _) (meets_dict_get_default (mixKind X.prog X.w) a (kV_is ry) hd r) ⟨_, dd.mapOf, h _ _ (I.tok _) ?_⟩
    rw [l]
    exact (rel.val k).getD rd
  · subst ey
    cases (show u = Value.ref b from ry)
    obtain ⟨z, hd, xs, rel, dd⟩ := dt_rd I.hok e
    refine call_meetsIn PySem.F.slot_dict_get dd.typeIs PySem.F.entry_dict_get (PySem.F.args_dict_get_3 _ _ _) (meetsH_dict_get_default (tupleKind (mixKind X.prog X.w)) a b hd r) ⟨tupleKind_room_in1 hu, k, xs, key_of I.hok eb, dd, h _ _ (I.tok _) ?_⟩
    rw [l]
    exact (rel.val k).getD rd
end
def tDGet2 (td ty tx : TE) : TE := fun σ H Q => td σ H fun x H1 => ∃ a, x = .ref a ∧ IsD H1 a ∧ ty σ H1 fun y H2 => tx σ H2 fun z H3 => ∃ o, DGet H3 a y o ∧ Q (o.getD z) H3
section
variable {X : Cx} {o e f : Expr} {apos cpos : Pos} {td ty tx : TE}
theorem pe_dget2 (hu : X.A.units + 1 < cLine) (ho : PE X o td) (he : PE X e ty) (hf : PE X f tx) (m : M2 X o "get" apos e f cpos) : PE X (.Call (.Attribute o "get" apos) [e, f] [] cpos) (tDGet2 td ty tx) := by
  intro pins s σ H Q I h
  refine wpAny_Call_method m.base m.few m.line PySem.F.plainAttrs_dict PySem.F.slot_dict_get PySem.F.type_dict_get (thn (ho pins s σ H _ I h) fun u s1 ⟨x, H1, I1, rx, a, ex, d, q1⟩ => ?_)
  subst ex
  obtain rfl : u = Value.ref a := rx
  obtain ⟨t1, t2, _⟩ := isD_at I1 d
  refine ⟨t1, t2, ?_⟩
  rw [m.trees]
  refine Calls.callWith_builtin rfl (Calls.evalArgs_plain (Calls.spliced_cons (thn (he pins s1 σ H1 _ I1 q1) fun iv s2 ⟨y, H2, I2, ry, q2⟩ =>
    Calls.spliced_cons (thn (hf pins s2 σ H2 _ I2 q2) fun fv s3 ⟨z, H3, I3, rz, ov, g, q3⟩ => Calls.spliced_nil ?_))))
  exact d_get2 hu I3 g ry rz fun w' s4 I4 rw' => ⟨_, H3, I4, rw', q3⟩
end
end L2
namespace Att
open PySem PySem.W PySem.Calls PyProof.Rows
theorem ints_of_wellAll {P : Params} {h : Heap} : ∀ (ns : List Int) (vs : List Value), WellAll P h vs (ns.map WData.int) → IntsAre vs ns := by
  intro ns
  induction ns with
  | nil =>
    intro vs w
    rw [List.map_nil] at w
    cases w
    exact .nil
  | cons n ns ih =>
    intro vs w
    rw [List.map_cons] at w
    cases w with
    | cons a b =>
      cases a
      exact .cons _ _ (ih _ b)
theorem script_of {l : OpenLaw} {n : Nat} (hn : l.most = some n) {P : Params} {h : Heap} {args : List WData} {vals : List Value}
    (hpre : l.row.toRowW.claim.pre args = true) (hwl : WellAll P h vals args) :
    ∃ a vs ns, vals = [Value.ref a] ∧ args = [WData.list (ns.map WData.int)] ∧ h.get? a = some { cls := .type "list", data := .seq vs.toArray } ∧ IntsAre vs ns ∧ ns.length ≤ n := by
  have hsh : WShape.hasAll [] args [.list .int] = true := (pre_splitW hpre).1
  have hc : l.pre.holds [] { args := args } = true := (pre_splitW hpre).2
  obtain ⟨d, r, rfl, h1, h2⟩ := hasAllW_cons hsh
  obtain rfl := hasAllW_nil h2
  obtain ⟨xs, rfl, h3⟩ := hasW_list h1
  obtain ⟨ns, rfl⟩ := items_int h3
  have hlen : ns.length ≤ n := by
    unfold OpenLaw.pre at hc
    have h4 : (WTm.not (.lt (.lit (.int (n : Int))) (.len (.arg 0)))).holds [] { args := [.list (ns.map .int)] } = true := by
      have h4 := (holds_andW hc).1
      rw [hn] at h4
      exact h4
    have h5 := condW_of h4 (w_not (w_lt w_lit (w_len_list (w_arg rfl))))
    rw [List.length_map] at h5
    refine Nat.le_of_not_lt fun q => ?_
    have q' : (n : Int) < ((ns.length : Nat) : Int) := by omega
    first
      | (rw [decide_eq_true q'] at h5; exact absurd h5 (by decide))
      | (simp at h5; omega)
  cases hwl with
  | cons w1 w2 =>
    cases w2
    cases w1 with
    | list ho hall => exact ⟨_, _, ns, rfl, rfl, ho, ints_of_wellAll ns _ hall, hlen⟩
theorem post_true (l : OpenLaw) (args : List WData) : l.row.toRowW.claim.post args (.bool true) args = true :=
  postW_of (r := l.row.toRowW) (X := (true == true))
    (show WShape.has [] (.bool true) .bool = true by first | rfl | decide | simp [WShape.has, WShape.arms, WShape.armsAll])
    (show (WTm.eq .res (.lit (.bool true))).value [] { args := args, res := some (.bool true), after := args } = some (.bool (true == true)) from w_eq_bool (w_res rfl) w_lit) rfl
theorem attach_call {l : OpenLaw} {n : Nat} {q : Program} {loose : List Str} {XP : (Str → Option Value) → Heap → Prop} {YP : World → Heap → Prop} {d : DefRec}
    (hn : l.most = some n) (hdf : d.params.defaults = [])
    (call : ∀ (w : World) (s₀ s₁ : Shared) (mg mb : Str → Option Value) (fa : Addr) (o : Obj) (pm cd doc : Value) (a : Addr) (vs : List Value) (ns : List Int),
      Ground q loose [] XP w s₀ mg mb s₁.heap → YP w s₁.heap →
      s₁.heap.get? fa = some o → o.data = .func (docDef d.name d.params d.body d.scope pm cd doc) → s₁.heap.CodeRec cd d.name → mg d.name = some (.ref fa) →
      s₁.heap.get? a = some { cls := .type "list", data := .seq vs.toArray } → IntsAre vs ns → ns.length ≤ n → s₁.gens = #[] →
      codeAny (model l.prog w) callerA (.call (.ref fa) ⟨[.ref a], []⟩) (fun r s' => r = .ok (.ret (.bool true)) ∧ OldK s₁.heap s'.heap ∧ s'.os = s₁.os ∧ AllBare s'.gens) s₁) :
    WalkO q loose XP YP l.row.toRowW d [] (fun f vs => PySem.call f vs) := by
  intro w s₀ s₁ mg mb G Y fa o pm cd doc dV kV ho hd hcd hD hmg hg args vals as hpre hlay hrd hwl hlo
  obtain rfl : dV = .none := Dflts.none hD hdf
  obtain rfl : kV = .none := Dflts.noKw hD
  obtain ⟨a, vs, ns, rfl, rfl, hobj, hints, hlen⟩ := script_of hn hpre hwl
  refine enter_call (codeAny_mono (call w s₀ s₁ mg mb fa o pm cd doc a vs ns G Y ho (fd_plain hd) hcd hmg hobj hints hlen hg) fun r s' hq => ?_)
  obtain ⟨rfl, h2, h3, h4⟩ := hq
  exact ⟨.inl ⟨.bool true, .bool true, [], rfl, fun _ => rfl, .bool true, post_true l _, fun _ => ⟨List.Pairwise.nil, fun _ hm => (nomatch hm)⟩⟩, h2, h3, h4⟩
end Att
namespace L2
open PySem PySem.Spec PyProof.Rows
theorem vals_ints : ∀ {vs : List Value} {ns : List Int}, IntsAre vs ns → Vals (ns.map V.int) vs
  | _, _, .nil => .nil
  | _, _, .cons n t h => .cons ⟨t, rfl⟩ (vals_ints h)
def Only (H : Hp) : Prop := ∀ b, H b = none ∨ ∃ o xs, H b = some (.frz o (.lst xs))
theorem law_call {P : Program} {w : World} {K : PySem.W.Frag} {mg mb : Str → Option Value} {CX : CXT} {k : Nat} {fa a : Addr} {fd : FuncData} {x : Str} {sp : Sp} {s₁ : Shared} {vs : List Value} {ns : List Int}
    (KX : K.In s₁.heap) (hns : s₁.heap.Ns mainGlobals mg) (hb : s₁.heap.Ns builtinsNs mb) (hbb : ∀ x : Str, x ≠ "__name__" → mb x = bootBuiltins x) (hlim : s₁.heap.NoLimit) (hg : s₁.gens = #[])
    (ha : s₁.heap.get? a = some { cls := .type "list", data := .seq vs.toArray }) (hi : IntsAre vs ns) (hl : ns.length ≤ sizeLine) (hr : Room k callerA)
    (F : ∀ base : Heap, K.In base → base.Ns mainGlobals mg → FnOk P w K mg base CX k fa fd [x] sp) (hbind : ∀ (s : Shared) (u : Value), BindsTo s fd ⟨[u], []⟩ [(x, u)])
    (hsp : ∀ H : Hp, Only H → SqL K H a (ns.map V.int) → sp [.ref a] H (fun v _ => v = .bl true) fun _ _ _ => False)
    (hCX : ∀ H e s', CX [] H s₁ (fun _ _ _ => False) e s' → False) :
    codeAny (model P w) callerA (.call (.ref fa) ⟨[.ref a], []⟩) (fun r s' => r = .ok (.ret (.bool true)) ∧ OldK s₁.heap s'.heap ∧ s'.os = s₁.os ∧ AllBare s'.gens) s₁ := by
  have rv := vals_ints hi
  have lenV := hi.length
  have core : ∀ H : Hp, Only H → SqL K H a (ns.map V.int) → HOk P w H s₁.heap → (∀ b, H b ≠ none → b = a) → (H a ≠ none → K.lookup a = none) →
      codeAny (model P w) callerA (.call (.ref fa) ⟨[.ref a], []⟩) (fun r s' => r = .ok (.ret (.bool true)) ∧ OldK s₁.heap s'.heap ∧ s'.os = s₁.os ∧ AllBare s'.gens) s₁ := by
    intro H hO hS hok hA hK
    have base_of : ∀ {b : Addr} {o : Obj}, s₁.heap.get? b = some o → H b = none → (hidT s₁.heap H).get? b = some o := fun e n => hidT_get e n
    have noA : ∀ {b : Addr} {o : Obj} {es : Array DictEntry} {ep : Nat}, s₁.heap.get? b = some o → o.data = .dict es ep → H b = none := fun {b o es ep} e d => by
      cases q : H b with
      | none => rfl
      | some u =>
        have e' : b = a := hA b (by rw [q]; simp)
        subst e'
        rw [ha] at e; cases e
        have d' : Data.seq vs.toArray _ = Data.dict es ep := d
        cases d'
    have nsK : ∀ {b : Addr} {m : Str → Option Value}, s₁.heap.Ns b m → (hidT s₁.heap H).Ns b m := fun {b m} ⟨o, es, ep, e, d, r⟩ => ⟨o, es, ep, base_of e (noA e d), d, r⟩
    have hKb : K.In (hidT s₁.heap H) := fun b o e => base_of (KX b o e) (by
      cases q : H b with
      | none => rfl
      | some u =>
        have e' : b = a := hA b (by rw [q]; simp)
        subst e'
        rw [hK (by rw [q]; simp)] at e; cases e)
    have hM : Mod K mg (hidT s₁.heap H) := ⟨hKb, nsK hns, ⟨mb, nsK hb, hbb⟩, let ⟨mc, h1, h2⟩ := hlim; ⟨mc, nsK h1, h2⟩⟩
    have e0 : Env0 P w K mg (hidT s₁.heap H) callerA [] s₁ H := ⟨rfl, hM, fun b o e => of_hidT e, Nat.le_of_eq (hidT_size _ _), trivial, fun b hb => absurd (show b ∈ ([] : List Addr) from hb) (by simp), hok, .of_eq hg⟩
    refine codeAny_mono ((F _ hKb (nsK hns)).run callerA [] s₁ H ⟨[.ref a], []⟩ [.ref a] [.ref a] _ _ hr e0 (hbind s₁ (.ref a)) (.cons rfl .nil) (hsp H hO hS)) fun r s' h => ?_
    cases r with
    | error e => exact (hCX H e s' h).elim
    | ok fl =>
      cases fl with
      | next => exact False.elim h
      | brk => exact False.elim h
      | cont => exact False.elim h
      | ret u =>
        obtain ⟨v, H', os, bare, un, hok', r', q⟩ := h
        have q' : v = .bl true := q
        subst q'
        obtain rfl : u = Value.bool true := r'
        refine ⟨rfl, OldK.of_keep fun b o e => ?_, os, bare⟩
        cases q : H b with
        | none => exact un.keep b o e q (by intro z; exact absurd (show b ∈ ([] : List Addr) from z) (by simp)) (by simp)
        | some u =>
          rcases hO b with z | ⟨ob, xs, z⟩
          · rw [q] at z; cases z
          · have z2 := un.frzs b ob _ z
            obtain ⟨e1, _⟩ := hok b _ z
            obtain ⟨e2, _⟩ := hok' b _ z2
            rw [e] at e1; cases e1
            exact e2
  cases hk : K.lookup a with
  | some o =>
    have e := KX a o hk
    rw [ha] at e
    cases e
    refine core (fun _ => none) (fun _ => .inl rfl) (.inr ⟨_, vs.toArray, _, hk, rfl, rfl, rfl, by rw [List.size_toArray, lenV]; exact hl, by simpa using rv⟩) (fun b u z => by have z' : (none : Option HO) = some u := z; cases z') (fun b z => absurd rfl z) fun z => absurd rfl z
  | none =>
    refine core (fun b => if b = a then some (.frz { cls := .type "list", data := .seq vs.toArray } (.lst (ns.map V.int))) else none) (fun b => ?_) (.inl (.inr ⟨{ cls := .type "list", data := .seq vs.toArray }, if_pos rfl⟩)) (fun b u z => ?_) (fun b z => ?_) fun _ => hk
    · by_cases hb : b = a
      · exact .inr ⟨_, _, if_pos hb⟩
      · exact .inl (if_neg hb)
    · by_cases hb : b = a
      · have z' := (if_pos hb).symm.trans z
        cases z'
        subst hb
        exact ⟨ha, by rw [List.length_map]; exact hl, vs, _, rv, ha⟩
      · have z' := (if_neg hb).symm.trans z
        cases z'
    · by_cases hb : b = a
      · exact hb
      · exact absurd (if_neg hb) z
end L2
namespace L2
open PySem PySem.Spec PyProof.Rows
theorem walk_of {l : PySem.W.OpenLaw} {n k : Nat} {q : Program} {loose : List Str} {XP : (Str → Option Value) → Heap → Prop} {YP : World → Heap → Prop} {d : DefRec} {K : Params → PySem.W.Frag} {CX : World → CXT} {sp : World → Sp} {x : Str}
    (hn : l.most = some n) (hn2 : n ≤ sizeLine) (hdf : d.params.defaults = []) (hr : Room k callerA)
    (hY : ∀ (w : World) (h : Heap), YP w h → (K w.params).In h)
    (F : ∀ (w : World) (mg : Str → Option Value) (fa : Addr) (h : Heap), (K w.params).In h → h.Ns mainGlobals mg → mg d.name = some (.ref fa) →
      ∃ fd : FuncData, (∀ (s : Shared) (u : Value), BindsTo s fd ⟨[u], []⟩ [(x, u)]) ∧
        ∀ base : Heap, (K w.params).In base → base.Ns mainGlobals mg → FnOk l.prog w (K w.params) mg base (CX w) k fa fd [x] (sp w))
    (hsp : ∀ (w : World) (H : Hp) (a : Addr) (ns : List Int), ns.length ≤ n → Only H → SqL (K w.params) H a (ns.map V.int) → sp w [.ref a] H (fun v _ => v = .bl true) fun _ _ _ => False)
    (hCX : ∀ (w : World) (H : Hp) (s : Shared) (e : Value) (s' : Shared), CX w [] H s (fun _ _ _ => False) e s' → False) :
    PySem.W.WalkO q loose XP YP l.row.toRowW d [] (fun f vs => PySem.call f vs) := by
  refine Att.attach_call hn hdf fun w s₀ s₁ mg mb fa o pm cd doc a vs ns G Y ho hd hcd hmg hobj hints hlen hg => ?_
  have KX := hY w _ Y
  obtain ⟨fd, hb, hF⟩ := F w mg fa _ KX G.T.g hmg
  exact law_call KX G.T.g G.T.b G.T.builtins G.T.nolimit hg hobj hints (Nat.le_trans hlen hn2) hr hF hb (fun H hO hS => hsp w H a ns hlen hO hS) fun H e s' => hCX w H s₁ e s'
end L2
namespace L2
open PySem PySem.Spec PyProof.Rows
def defArgs (s : Stmt) : Arguments := match s with
  | .FunctionDef _ a _ _ _ _ _ _ _ _ => a
  | _ => { posonlyargs := [], args := [], vararg := none, kwonlyargs := [], kw_defaults := [], kwarg := none, defaults := [] }
def defBody (s : Stmt) : List Stmt := match s with
  | .FunctionDef _ _ b _ _ _ _ _ _ _ => b
  | _ => []
def defScope (s : Stmt) : Scope := match s with
  | .FunctionDef _ _ _ _ _ _ sc _ _ _ => sc
  | _ => { kind := .function, names := [], isGenerator := false, isCoroutine := false }
abbrev CX0 : CXT := fun _ _ _ _ _ _ => False
abbrev E0 : XK := fun _ _ _ => False
theorem pass0 {X : Cx} : Passes CX0 X E0 := fun _ _ _ _ _ _ _ h => h.elim
structure Fun (K : PySem.W.Frag) (x qual : Str) (st : Stmt) (f : Addr) (fd : FuncData) : Prop where
  ex : ∃ (oc : Value) (od : Option Addr) (kV doc pm : Value) (an : Option Addr) (cdv ct : Value) (osl : Array (Option Value)),
    fd = PySem.W.fnOf x qual (defArgs st) (defBody st) (defScope st) .none kV doc pm an cdv ct ∧ K.lookup f = some ⟨oc, od, .func fd, osl⟩ ∧ PySem.W.codeIn K cdv qual = true
  kp : PySem.W.keepIn K (.ref f) = true
section
variable {P : Program} {w : World} {K : PySem.W.Frag} {mg : Str → Option Value} {base : Heap}
theorem Fun.ok {x qual : Str} {st : Stmt} {f : Addr} {fd : FuncData} {N ps : List Str} {k : Nat} {sp : Sp} (F : Fun K x qual st f fd) (S : FnScope N ps (defScope st)) (len : ∀ vs H Q E, sp vs H Q E → vs.length = ps.length)
    (hbody : ∀ (cdv : Value) (A : Around) (outer : List Env) (s : Shared) (H : Hp) (vs : List V) (Q : VK) (E : XK), Room k (A.deeper (envOfC qual (defScope st) s.heap.objs.size f cdv)) → sp vs H Q E →
      ∃ t, PSs (cxOf CX0 P w K mg base N qual (defScope st) f cdv A outer s H E).nox (defBody st) t ∧ t { nx := fun _ H' => Q .non H', rt := Q } (start N vs) H) : FnOk P w K mg base CX0 (k + 1) f fd ps sp := by
  obtain ⟨oc, od, kV, doc, pm, an, cdv, ct, osl, rfl, lk, hcd⟩ := F.ex
  refine fn_of lk hcd S len fun A outer s H vs Q E hr hsp => ?_
  obtain ⟨t, h, q⟩ := hbody cdv A outer s H vs Q E hr hsp
  exact ⟨t, h.nox, q⟩
theorem Fun.binds {x qual : Str} {st : Stmt} {f : Addr} {fd : FuncData} {ps : List Str} (F : Fun K x qual st f fd)
    (h : ∀ (kV doc pm : Value) (an : Option Addr) (cdv ct : Value) (us : List Value), us.length = ps.length → bindArgs (PySem.W.fnOf x qual (defArgs st) (defBody st) (defScope st) .none kV doc pm an cdv ct) ⟨us, []⟩ = pure (ps.zip us)) : Binds K fd ps [] := by
  obtain ⟨oc, od, kV, doc, pm, an, cdv, ct, osl, rfl, lk, hcd⟩ := F.ex
  exact .all (h kV doc pm an cdv ct)
theorem fun_mk {x qual : Str} {st : Stmt} {f : Addr} {oc : Value} {od an : Option Addr} {osl : Array (Option Value)} {kV doc pm cdv ct : Value} (l : K.lookup f = some ⟨oc, od, .func (PySem.W.fnOf x qual (defArgs st) (defBody st) (defScope st) .none kV doc pm an cdv ct), osl⟩)
    (c : PySem.W.codeIn K cdv qual = true) (k : PySem.W.keepIn K (.ref f) = true) : Fun K x qual st f (PySem.W.fnOf x qual (defArgs st) (defBody st) (defScope st) .none kV doc pm an cdv ct) := ⟨⟨oc, od, kV, doc, pm, an, cdv, ct, osl, rfl, l, c⟩, k⟩
end
theorem hu_of {A : Around} {k : Nat} (hr : Room k A) : A.units + 1 < cLine := Nat.lt_of_le_of_lt (Nat.add_le_add_left (by decide : 1 ≤ 64) _) hr.units
section
variable {X : Cx}
theorem pv (i : Nat) {x : Str} {pos : Pos} (hN : X.N[i]? = some x := by rfl) (hv : Vis X.env.scope x := by first | exact Or.inl rfl | exact Or.inr (Or.inl rfl) | exact Or.inr (Or.inr rfl)) (hd : (x == ("__debug__" : Str)) = false := by decide)
    (hcd : (x == ("__classdict__" : Str)) = false := by decide) : PE X (.Name x pos) (tVar i) := pe_var hN hv hd hcd
end
def Same (H H' : Hp) : Prop := ∀ b o, H b = some o → H' b = some o
section
variable {κ : Type} [DecidableEq κ]
theorem nd_snoc : ∀ {l : List κ} {k : κ}, l.Nodup → ¬ k ∈ l → (l ++ [k]).Nodup
  | [], k, _, _ => by simp
  | a :: r, k, h, hk => by
    obtain ⟨h1, h2⟩ := List.nodup_cons.mp h
    show (a :: (r ++ [k])).Nodup
    refine List.nodup_cons.mpr ⟨fun m => ?_, nd_snoc h2 fun m => hk (List.mem_cons.mpr (Or.inr m))⟩
    rcases List.mem_append.mp m with q | q
    · exact h1 q
    · exact hk (List.mem_cons.mpr (Or.inl (List.mem_singleton.mp q).symm))
end
end L2
namespace L2
open PySem PySem.Spec PyProof.Rows
theorem lookup_cons_if {α : Type} {x y : Str} {c : α} {l : List (Str × α)} : ((y, c) :: l).lookup x = if x = y then some c else l.lookup x := by
  by_cases h : x = y
  · subst h; simp [List.lookup_cons]
  · rw [if_neg h, List.lookup_cons]
    have : (x == y) = false := by simpa using h
    rw [this]
theorem closure_loop {env : Env} : ∀ (names : List (Str × NameKind)) (acc : List (Str × Addr)), (∀ y ∈ names, y.2 = .free → ∃ c, env.cells.lookup y.1 = some c) → (∀ x c, acc.lookup x = some c → env.cells.lookup x = some c) →
    ∃ cl, (forIn names acc fun x s => if (x.snd == NameKind.free) = true then (do let c ← cellOf env x.fst; pure (ForInStep.yield ((x.fst, c) :: s)) : Sem _) else pure (ForInStep.yield s)) = (pure cl : Sem (List (Str × Addr))) ∧
      (∀ x c, cl.lookup x = some c → env.cells.lookup x = some c) ∧ (∀ x, (acc.lookup x).isSome = true → (cl.lookup x).isSome = true) ∧ ∀ y ∈ names, y.2 = .free → (cl.lookup y.1).isSome = true
  | [], acc, _, h2 => ⟨acc, rfl, h2, fun _ h => h, fun _ h => absurd h (by simp)⟩
  | (n, k) :: r, acc, h1, h2 => by
    by_cases hk : k = NameKind.free
    · subst hk
      obtain ⟨c, hc⟩ := h1 (n, .free) List.mem_cons_self rfl
      have h2' : ∀ x c', ((n, c) :: acc).lookup x = some c' → env.cells.lookup x = some c' := fun x c' e => by
        rw [lookup_cons_if] at e
        by_cases hx : x = n
        · rw [if_pos hx] at e; cases e; rw [hx]; exact hc
        · rw [if_neg hx] at e; exact h2 x c' e
      obtain ⟨cl, e1, e2, e3, e4⟩ := closure_loop r ((n, c) :: acc) (fun y hy => h1 y (List.mem_cons_of_mem _ hy)) h2'
      refine ⟨cl, ?_, e2, fun x hx => e3 x ?_, fun y hy hf => ?_⟩
      · rw [List.forIn_cons]
        have : cellOf env n = pure c := by unfold cellOf; rw [hc]
        simp only [beq_self_eq_true, if_true, this, pure_bind]
        exact e1
      · rw [lookup_cons_if]
        by_cases hx' : x = n
        · rw [if_pos hx']; rfl
        · rw [if_neg hx']; exact hx
      · rcases List.mem_cons.mp hy with rfl | hy
        · refine e3 n ?_
          rw [lookup_cons_if, if_pos rfl]; rfl
        · exact e4 y hy hf
    · obtain ⟨cl, e1, e2, e3, e4⟩ := closure_loop r acc (fun y hy => h1 y (List.mem_cons_of_mem _ hy)) h2
      refine ⟨cl, ?_, e2, e3, fun y hy hf => ?_⟩
      · rw [List.forIn_cons]
        have : (k == NameKind.free) = false := by simpa using hk
        simp only [this, Bool.false_eq_true, if_false, pure_bind]
        exact e1
      · rcases List.mem_cons.mp hy with rfl | hy
        · exact absurd hf hk
        · exact e4 y hy hf
theorem closure_of {scope : Scope} {env : Env} (h : ∀ y ∈ scope.names, y.2 = .free → ∃ c, env.cells.lookup y.1 = some c) :
    ∃ cl, closureFor scope env = pure cl ∧ (∀ x c, cl.lookup x = some c → env.cells.lookup x = some c) ∧ ∀ y ∈ scope.names, y.2 = .free → (cl.lookup y.1).isSome = true := by
  obtain ⟨cl, e1, e2, _, e4⟩ := closure_loop scope.names [] h (fun _ _ e => by simp at e)
  refine ⟨cl, ?_, e2, e4⟩
  simp only [closureFor]
  rw [e1, pure_bind]
theorem relabel_lookup {env : Env} : ∀ {names : List (Str × NameKind)} {x : Str} {k : NameKind},
    (names.map fun (n, k) => if (k == NameKind.free && env.scope.kind == .function && env.kindOf n == some .cell) then (n, NameKind.cell) else (n, k)).lookup x = some k →
    names.lookup x = some k ∨ (k = .cell ∧ names.lookup x = some .free)
  | [], _, _, h => by simp at h
  | (n, j) :: r, x, k, h => by
    have ih := @relabel_lookup env r x k
    rw [List.map_cons] at h
    by_cases hc : (j == NameKind.free && env.scope.kind == .function && env.kindOf n == some .cell) = true
    · simp only [hc, if_true] at h
      rw [lookup_cons_if] at h
      rw [lookup_cons_if]
      by_cases hx : x = n
      · rw [if_pos hx] at h ⊢
        cases h
        have hj : j = NameKind.free := by
          rw [Bool.and_eq_true, Bool.and_eq_true] at hc
          exact eq_of_beq hc.1.1
        exact .inr ⟨rfl, by rw [hj]⟩
      · rw [if_neg hx] at h ⊢; exact ih h
    · simp only [hc, Bool.false_eq_true, if_false] at h
      rw [lookup_cons_if] at h
      rw [lookup_cons_if]
      by_cases hx : x = n
      · rw [if_pos hx] at h ⊢; exact .inl h
      · rw [if_neg hx] at h ⊢; exact ih h
theorem lookup_relabel_free {env : Env} : ∀ {names : List (Str × NameKind)} {x : Str}, names.lookup x = some .free →
    (names.map fun (n, k) => if (k == NameKind.free && env.scope.kind == .function && env.kindOf n == some .cell) then (n, NameKind.cell) else (n, k)).lookup x = some .cell ∨
    (names.map fun (n, k) => if (k == NameKind.free && env.scope.kind == .function && env.kindOf n == some .cell) then (n, NameKind.cell) else (n, k)).lookup x = some .free
  | [], _, h => by simp at h
  | (n, j) :: r, x, h => by
    have ih := @lookup_relabel_free env r x
    rw [List.map_cons]
    rw [lookup_cons_if] at h
    by_cases hc : (j == NameKind.free && env.scope.kind == .function && env.kindOf n == some .cell) = true
    · simp only [hc, if_true]
      rw [lookup_cons_if]
      by_cases hx : x = n
      · rw [if_pos hx]; exact .inl rfl
      · rw [if_neg hx] at h ⊢; exact ih h
    · simp only [hc, Bool.false_eq_true, if_false]
      rw [lookup_cons_if]
      by_cases hx : x = n
      · rw [if_pos hx] at h ⊢; cases h; exact .inr rfl
      · rw [if_neg hx] at h ⊢; exact ih h
abbrev compCx (X : Cx) (N' : List Str) (scope : Scope) (cl : List (Str × Addr)) (fp : List Addr) (s3 : Shared) (H3 : Hp) : Cx :=
  { X with N := N', s₀ := s3, H₀ := H3, env := compEnvC scope cl s3.heap.objs.size X.env, outer := X.stack, stack := X.stack, ex := fp, fn := fun _ => false, pn := [], xe := fun _ _ => False }
def capσ (own : Nat) (fr : List Nat) (σ : St) : St := List.replicate own none ++ fr.map fun j => (σ[j]?).join
structure CScope (X : Cx) (own : List Str) (fr : List Nat) (N' : List Str) (scope : Scope) : Prop where
  kind : scope.kind = .function
  names : N' = own ++ fr.filterMap (fun j => X.N[j]?)
  len : N'.length = own.length + fr.length
  nd : N'.Nodup
  nocell : ∀ y ∈ scope.names, y.2 ≠ .cell
  loc : ∀ y ∈ scope.names, y.2 = .local → scope.names.lookup y.1 = some .local
  cap : ∀ x ∈ fr.filterMap (fun j => X.N[j]?), scope.names.lookup x = some .free
  free : ∀ y ∈ scope.names, y.2 = .free → X.env.kindOf y.1 = some .cell ∨ X.env.kindOf y.1 = some .free
theorem filterMap_at {N : List Str} : ∀ {fr : List Nat} {k : Nat} {x : Str}, (fr.filterMap (fun j => N[j]?)).length = fr.length → (fr.filterMap (fun j => N[j]?))[k]? = some x → ∃ j, fr[k]? = some j ∧ N[j]? = some x
  | [], _, _, _, e => by simp at e
  | j :: r, k, x, hl, e => by
    cases hj : N[j]? with
    | none =>
      rw [List.filterMap_cons, hj] at hl
      have := List.length_filterMap_le (fun j => N[j]?) r
      simp only [List.length_cons] at hl
      omega
    | some y =>
      rw [List.filterMap_cons, hj] at hl e
      simp only [List.length_cons, Nat.add_right_cancel_iff] at hl
      cases k with
      | zero => simp at e; exact ⟨j, by simp, by rw [hj, e]⟩
      | succ k => exact filterMap_at (k := k) hl (by simpa using e)
section
variable {X : Cx} {pins : List (Addr × Obj)} {σ : St} {H : Hp} {s s3 : Shared}
theorem inv_comp {own N' : List Str} {fr : List Nat} {scope : Scope} {cl : List (Str × Addr)} {fp : List Addr} {h' : Heap} {t : Nat} (S : CScope X own fr N' scope) (I : Inv X pins σ H s)
    (hcl : ∀ x c, cl.lookup x = some c → X.env.cells.lookup x = some c) (hcl2 : ∀ y ∈ scope.names, y.2 = .free → (cl.lookup y.1).isSome = true)
    (hfp : ∀ b ∈ fp, FpOk X pins H b) (hft : ∀ b ∈ fp, b < s.heap.objs.size)
    (hns : h'.Ns s.heap.objs.size (fun _ => none)) (hk : ∀ b o, s.heap.get? b = some o → h'.get? b = some o) :
    Inv (compCx X N' scope cl fp s H) [] (capσ own.length fr σ) H { s with heap := h', toks := t } := by
  have look : ∀ x, (compEnvC scope cl s.heap.objs.size X.env).kindOf x = (relabel scope X.env).names.lookup x := fun _ => rfl
  have frlen : (fr.filterMap (fun j => X.N[j]?)).length = fr.length := by
    have := S.len
    rw [S.names, List.length_append] at this
    omega
  refine ⟨⟨I.ok.mod, ?_, I.ok.glob, I.ok.blt, Nat.le_refl _, fun x y c e1 e2 => I.ok.inj x y c (hcl _ _ e1) (hcl _ _ e2), fun x hx => ?_, (fun x c z _ => nomatch z), I.ok.hd, I.ok.frames, .inl rfl, fun b hb => ⟨?_, fun x c e => (hfp b hb).2.2.2.2.1 x c (hcl x c e)⟩,
      I.bs, Nat.le_trans I.ok.bsz I.sz, fun b o e hb => ?_, fun b hb hz => ?_, I.stack, I.stkFree⟩,
    rfl, I.bare, Un.kept hk, ⟨_, hns, fun i x v e1 e2 e3 => ?_⟩, fun x c e => ?_, I.hok.fresh (Nat.le_refl _), fun x c e => I.freeC x c (hcl x c e), fun p hp => absurd (show p ∈ ([] : List (Addr × Obj)) from hp) (by simp), I.hok.kept hk, ?_⟩
  · show (relabel scope X.env).kind = _
    exact S.kind
  · have hx' : scope.names.lookup x = some .free := by
      rcases hx with hx | hx
      · rcases relabel_lookup hx with q | ⟨_, q⟩
        · exact absurd rfl (S.nocell _ (PySem.mem_of_lookup q))
        · exact q
      · rcases relabel_lookup hx with q | ⟨q, _⟩
        · exact q
        · cases q
    exact Option.isSome_iff_exists.mp (hcl2 _ (PySem.mem_of_lookup hx') rfl)
  · exact Nat.ne_of_lt (hft b hb)
  · rcases (hfp b hb).2.2.2.1 with z | z
    · exact I.ok.noex b o e z
    · exact absurd (Nat.lt_of_lt_of_le (Heap.lt_size e) (Nat.le_trans I.ok.bsz z)) (Nat.lt_irrefl _)
  · rcases List.mem_cons.mp (I.stkSub b hz) with q | q
    · exact (hfp b hb).2.1 q
    · exact (hfp b hb).2.2.1 q
  · -- a name's value
    have e1 : (own ++ fr.filterMap (fun j => X.N[j]?))[i]? = some x := by rw [← S.names]; exact e1
    unfold capσ at e2
    by_cases hi : i < own.length
    · rw [List.getElem?_append_left (by simpa using hi), List.getElem?_replicate, if_pos hi] at e2
      cases e2
    · rw [List.getElem?_append_right (by simpa using hi), List.length_replicate] at e2
      rw [List.getElem?_append_right (by simpa using hi)] at e1
      obtain ⟨j, ej, ex⟩ := filterMap_at frlen e1
      rw [List.getElem?_map, ej] at e2
      have e2 : (σ[j]?).join = some v := by simpa using e2
      have e2' : σ[j]? = some (some v) := by
        cases q : σ[j]? with
        | none => rw [q] at e2; cases e2
        | some w => rw [q] at e2; simp at e2; rw [e2]
      have hf := S.cap x (List.mem_of_getElem? e1)
      have hm := PySem.mem_of_lookup hf
      obtain ⟨m, _, hl⟩ := I.loc
      have vis : Vis X.env.scope x := by
        rcases S.free _ hm rfl with q | q
        · exact .inr (.inl q)
        · exact .inr (.inr q)
      obtain ⟨u, r, l⟩ := hl j x v ex e2' vis
      refine ⟨u, r, .inr ⟨?_, ?_⟩⟩
      · exact lookup_relabel_free hf
      · rcases l with ⟨k, _⟩ | ⟨_, c, ec, z⟩
        · rcases S.free _ hm rfl with q | q
          · rw [k] at q; cases q
          · rw [k] at q; cases q
        · obtain ⟨c', ec'⟩ := Option.isSome_iff_exists.mp (hcl2 _ hm rfl)
          have := hcl _ _ ec'
          rw [ec] at this
          cases this
          exact ⟨c, ec', z.keeps hk⟩
  · obtain ⟨v, z⟩ := I.cell x c (hcl x c e)
    exact ⟨v, z.keeps hk⟩
  · show (capσ own.length fr σ).length = N'.length
    unfold capσ
    rw [List.length_append, List.length_replicate, List.length_map, S.len]
end
def PTs (X : Cx) (cs : List Expr) (t : TT) : Prop :=
  ∀ (pins : List (Addr × Obj)) (s : Shared) (σ : St) (H : Hp) (Q : Bool → Hp → Prop), Inv X pins σ H s → t σ H Q →
    wpAny (model X.prog X.w) X.A (forIn cs true fun c r => if r = true then do let ok ← isTrue c X.env (eval c X.env); pure (ForInStep.yield ok) else pure (ForInStep.yield r)) (TP X pins σ Q) X.xe s
def tYes : TT := fun _ H Q => Q true H
theorem pts_nil {X : Cx} : PTs X [] tYes := fun pins s σ H Q I h => wpAny_tests_nil ⟨H, I, h⟩
theorem pts_one {X : Cx} {c : Expr} {t : TT} (h : PT X c t) : PTs X [c] t := fun pins s σ H Q I q => wpAny_tests_one (h pins s σ H Q I q)
section
variable {prog : Program} {w : World} {A : Around} {R : Result → Shared → Prop} {s : Shared}
theorem comp_loop {elt target iter : Expr} {ifs : List Expr} {scope : Scope} {pos : Pos} {it acc : Value} {env : Env} (I : Nat → Shared → Prop)
    (turn : ∀ n s, I n s → wpAny (model prog w) A (pyNext it) (fun r s₁ => match r with
      | none => R (.ok .next) s₁
      | some v => wpAny (model prog w) A (letOwnedTupleGo target it v) (fun _ s₀ => wpAny (model prog w) A (assign target env v) (fun _ s₂ =>
          wpAny (model prog w) A (forIn ifs true fun c r => if r = true then do let ok ← isTrue c env (eval c env); pure (ForInStep.yield ok) else pure (ForInStep.yield r)) (fun ok s₃ => if ok = true then wpAny (model prog w) A (eval elt env) (fun x s₄ =>
            wpAny (model prog w) A (call (.builtin "list.append") [acc, x]) (fun _ s₅ => ∃ m, m < n ∧ I m s₅) (fun _ _ => False) s₄) (fun _ _ => False) s₃
            else ∃ m, m < n ∧ I m s₃) (fun _ _ => False) s₂)
          (fun _ _ => False) s₀) (fun _ _ => False) s₁) (fun _ _ => False) s)
    (n : Nat) (h : I n s) : codeAny (model prog w) A (.compLoop (.ListComp elt [⟨target, iter, ifs, 0⟩] scope pos) 0 it acc env) R s := by
  refine codeAny_loop rfl I (fun n s hI => ?_) n h
  show wpAny _ A ((compTurn (.ListComp elt [⟨target, iter, ifs, 0⟩] scope pos) 0 it acc env).onRaise (fun x => do noteFrame x env; theTreesLotGoes x)) _ _ s
  refine wpAny_noted ?_
  rw [compTurn_list]
  refine wpAny_bind (wpAny_standAt (wpAny_bind (wpAny_mono (turn n s hI) (fun r s₁ h₁ => ?_) fun _ _ h' => h'.elim)))
  cases r with
  | none => exact wpAny_pure h₁
  | some v =>
    refine wpAny_bind (wpAny_mono h₁ (fun _ s₀ h₀' => ?_) fun _ _ h' => h'.elim)
    refine wpAny_bind (wpAny_mono h₀' (fun _ s₂ h₂ => ?_) fun _ _ h' => h'.elim)
    refine wpAny_bind (wpAny_mono h₂ (fun okb s₃ h₃ => ?_) fun _ _ h' => h'.elim)
    cases okb with
    | false => exact wpAny_pure ⟨rfl, h₃⟩
    | true => exact wpAny_bind (wpAny_bind (wpAny_mono h₃ (fun x s₄ h₄ => wpAny_bind (wpAny_mono h₄ (fun _ s₅ h₅ => wpAny_pure (wpAny_pure ⟨rfl, h₅⟩)) fun _ _ h' => h'.elim)) fun _ _ h' => h'.elim))
end
end L2
namespace L2
open PySem PySem.Spec PyProof.Rows
def Wk (σ0 σ2 : St) : Prop := σ2.length = σ0.length ∧ ∀ (i : Nat) v, σ0[i]? = some (some v) → σ2[i]? = some (some v)
def CapG (own : Nat) (g : TG) : Prop := ∀ (c : St) (v : V) (H : Hp) (Q : St → Hp → Prop), g v (List.replicate own none ++ c) H Q → g v (List.replicate own none ++ c) H fun σ2 H2 => Wk (List.replicate own none ++ c) σ2 ∧ Q σ2 H2
theorem capg_name : CapG 1 (gName 0) := by
  intro c v H Q h
  refine ⟨⟨by simp, fun i u e => ?_⟩, h⟩
  cases i with
  | zero => simp at e
  | succ i => simpa using e
theorem capg_two {K : PySem.W.Frag} : CapG 2 (gTup K 2 (gCons (gName 0) (gCons (gName 1) gNil))) := by
  rintro c v H Q ⟨a, xs, e, hs, hl, x, r, rfl, y, r', rfl, rfl, h⟩
  refine ⟨a, _, e, hs, hl, x, _, rfl, y, _, rfl, rfl, ⟨by simp, fun i u e => ?_⟩, h⟩
  match i with
  | 0 => simp at e
  | 1 => simp at e
  | i + 2 => simpa using e
def compW (J : It) (own : Nat) (fr : List Nat) (g : TG) (tc : TT) (te : TE) (σ : St) (p : Addr) (H1 : Hp) (Q : VK) : Prop :=
  ∃ W : Nat → Nat → List V → Hp → Prop, (∃ m, W 0 m [] (upd H1 p (.lst []))) ∧ ∀ i m ys H', W i m ys H' → H' p = some (.lst ys) ∧
    ((J.stop i H' ∧ Q (.ref p) H') ∨ (J.go i H' ∧ ys.length < sizeLine ∧ ∀ x H2, J.yld i H' x H2 → g x (capσ own fr σ) H2 fun σ2 H3 => tc σ2 H3 fun b H4 =>
      if b = true then te σ2 H4 fun y H5 => ∃ zs, H5 p = some (.lst zs) ∧ zs.length < sizeLine ∧ ∃ m', m' < m ∧ W (i + 1) m' (zs ++ [y]) (upd H5 p (.lst (zs ++ [y]))) else ∃ zs m', m' < m ∧ W (i + 1) m' zs H4))
def tComp (wi : TI) (own : Nat) (fr : List Nat) (g : TG) (tc : TT) (te : TE) : TE := fun σ H Q => wi σ H fun J H1 => ∀ p, H1 p = none → compW J own fr g tc te σ p H1 Q
section
variable {X : Cx} {pins : List (Addr × Obj)} {σ : St} {H : Hp} {s s3 : Shared}
theorem comp_back {N' : List Str} {scope : Scope} {cl : List (Str × Addr)} {fp : List Addr} {pins' : List (Addr × Obj)} {σ' : St} {H' : Hp} {s' : Shared} (I3 : Inv X pins σ H s3) (hfp : ∀ b ∈ fp, FpOk X pins H b)
    (Ic : Inv (compCx X N' scope cl fp s3 H) pins' σ' H' s') : Inv X pins σ H' s' :=
  I3.call' (ch := fp) Ic.os Ic.base Ic.hok Ic.bare fun b hb => ⟨(hfp b hb).2.2.2.1, (hfp b hb).2.1, (hfp b hb).2.2.2.2.1, (hfp b hb).2.2.2.2.2⟩
theorem comp_drop {C : Addr} {σ' : St} {H' : Hp} {s' : Shared} {h' : Heap} (I3 : Inv X pins σ H s3) (hC : C = s3.heap.objs.size) (J : Inv X pins σ' H' s') (hn : H' C = none) (hs : Heap.SameBut C s'.heap h') : Inv X pins σ' H' { s' with heap := h' } := by
  subst hC
  refine J.turned (t' := s'.toks) (it := s3.heap.objs.size) (fun b o hb e => hs.extBut b o hb e) hn (Nat.ne_of_gt I3.lt) (.inr I3.sz) (fun x c e z => ?_) fun p hp z => ?_
  · obtain ⟨v, q⟩ := I3.cell x c e
    exact absurd q.lt (by rw [z]; exact Nat.lt_irrefl _)
  · exact absurd (Heap.lt_size (I3.pin p hp).1) (by rw [z]; exact Nat.lt_irrefl _)
theorem comp_block {tg iter elt : Expr} {ifs : List Expr} {pos : Pos} {own N' : List Str} {fr : List Nat} {scope : Scope} {cl : List (Str × Addr)} {fp : List Addr} {it : Addr} {tn : Nat → Heap → Prop} {J : It} {g : TG} {tc : TT} {te : TE} {Q : VK}
    {E : Value → Shared → Prop} {RR : Value → Addr → Result → Shared → Prop}
    (hcalm : X.calm = true) (S : CScope X own fr N' scope) (hg : ∀ s3 H3, PG (compCx X N' scope cl fp s3 H3) tg g) (hw : CapG own.length g) (hc : ∀ s3 H3, PTs (compCx X N' scope cl fp s3 H3) ifs tc) (he : ∀ s3 H3, PE (compCx X N' scope cl fp s3 H3) elt te)
    (hcl : ∀ x c, cl.lookup x = some c → X.env.cells.lookup x = some c) (hcl2 : ∀ y ∈ scope.names, y.2 = .free → (cl.lookup y.1).isSome = true)
    (I : Inv X pins σ H s) (T : Turn X.prog X.w X.K tg J fp it tn) (st : tn 0 s.heap) (hfp : ∀ b ∈ fp, FpOk X pins H b) (h : ∀ p, H p = none → compW J own.length fr g tc te σ p H Q)
    (fin : ∀ (s3 : Shared) (H3 : Hp), Inv X pins σ H3 s3 → (∀ b ∈ fp, FpOk X pins H3 b) → ∀ (D : Addr) (σ' : St) (H' : Hp) (s' : Shared) (t : Nat), D < s3.heap.objs.size → Inv (compCx X N' scope cl fp s3 H3) [] σ' H' s' → Q (.ref D) H' → RR (.ref D) s3.heap.objs.size (.ok .next) s') :
    wpAny (model X.prog X.w) X.A (newList []) (fun acc s₃ => wpAny (model X.prog X.w) X.A (newFunctionEnv scope X.env.globals cl [] X.env.qual none .none (some X.env)) (fun cenv s₄ =>
      codeAny (model X.prog X.w) X.A (.compStart (.ListComp elt [⟨tg, iter, ifs, 0⟩] scope pos) 0 (.ref it) acc { cenv with scope := relabel scope X.env }) (RR acc cenv.locals) s₄) E s₃) E s := by
  refine wpAny_newObj_type ?_
  have hf : H s.heap.objs.size = none := I.hok.fresh (Nat.le_refl _)
  obtain ⟨W, ⟨m0, w0⟩, turn⟩ := h _ hf
  generalize e3 : ({ s with heap := s.heap.push { cls := .type "list", dict := none, data := .seq ([] : List Value).toArray } } : Shared) = s3
  have sz3 : s3.heap.objs.size = s.heap.objs.size + 1 := by rw [← e3]; exact Heap.size_push ..
  have up3 : ∀ b o, s.heap.get? b = some o → s3.heap.get? b = some o := fun b o e => by rw [← e3]; exact Heap.get?_push_of_some _ e
  have I3 : Inv X pins σ (upd H s.heap.objs.size (.lst [])) s3 := by
    rw [← e3]
    exact I.laid (t' := s.toks) (fun b u e => Heap.get?_push_of_some _ e) (Nat.le_refl _) ⟨Nat.zero_le _, [], 0, .nil, Heap.get?_push_size _ rfl⟩
  have ftn : ∀ b ∈ fp, b < s.heap.objs.size := fun b hb => by
    obtain ⟨o, e, _⟩ := T.obj 0 _ st b hb
    exact Heap.lt_size e
  have hfp3 : ∀ b ∈ fp, FpOk X pins (upd H s.heap.objs.size (.lst [])) b := fun b hb => ⟨by rw [upd_ne (Nat.ne_of_lt (ftn b hb))]; exact (hfp b hb).1, (hfp b hb).2⟩
  refine wpAny_newFunctionEnv S.nocell (by intro y hy; simp at hy) (fun h₁ hns₁ hsb₁ => ?_) S.kind
  have old : ∀ b o, s3.heap.get? b = some o → h₁.get? b = some o := fun b o e => hsb₁.extBut b o (Nat.ne_of_lt (Heap.lt_size e)) (Heap.get?_push_of_some _ e)
  have Ic := inv_comp (t := s3.toks + ([] : List (Str × Value)).length) S I3 hcl hcl2 hfp3 (fun b hb => by rw [sz3]; exact Nat.lt_succ_of_lt (ftn b hb)) hns₁ old
  have st1 : tn 0 h₁ := T.keep 0 _ _ st fun b hb o e => old b o (up3 b o e)
  have stat : ∀ {H' : Hp}, (∀ b ∈ fp, H' b = none) → ∀ b ∈ fp, FpOk (compCx X N' scope cl fp s3 (upd H s.heap.objs.size (.lst []))) [] H' b := fun hn b hb => by
    refine ⟨hn b hb, ?_, ?_, .inl hb, fun x c e => (hfp b hb).2.2.2.2.1 x c (hcl x c e), fun p hp => absurd (show p ∈ ([] : List (Addr × Obj)) from hp) (by simp)⟩
    · show b ≠ s3.heap.objs.size
      rw [sz3]; exact Nat.ne_of_lt (Nat.lt_succ_of_lt (ftn b hb))
    · exact Ic.ok.exfs b hb
  have loop : codeAny (model X.prog X.w) X.A (.compLoop (.ListComp elt [⟨tg, iter, ifs, 0⟩] scope pos) 0 (.ref it) (.ref s.heap.objs.size) (compEnvC scope cl s3.heap.objs.size X.env)) (RR (.ref s.heap.objs.size) s3.heap.objs.size) { s3 with heap := h₁, toks := s3.toks + ([] : List (Str × Value)).length } := by
    refine comp_loop (fun n s' => ∃ i ys H', Inv (compCx X N' scope cl fp s3 (upd H s.heap.objs.size (.lst []))) [] (capσ own.length fr σ) H' s' ∧ tn i s'.heap ∧ (∀ b ∈ fp, H' b = none) ∧ W i n ys H') ?_ m0
      ⟨0, [], _, Ic, st1, fun b hb => (hfp3 b hb).1, w0⟩
    rintro n s4 ⟨i, ys, H4, I4, st4, fr4, w4⟩
    obtain ⟨hacc, alt⟩ := turn i n ys H4 w4
    rcases alt with ⟨stop, q⟩ | ⟨go, hsz, step⟩
    · refine thn (T.done (compCx X N' scope cl fp s3 (upd H s.heap.objs.size (.lst []))) rfl rfl rfl hcalm i [] s4 _ H4 (fun _ _ => False) I4 (stat fr4) st4 stop) fun r s5 ⟨hr, I5⟩ => ?_
      subst hr
      exact fin s3 _ I3 hfp3 _ _ H4 s5 s5.toks (by rw [sz3]; exact Nat.lt_succ_self _) I5 q
    · refine thn (T.item (compCx X N' scope cl fp s3 (upd H s.heap.objs.size (.lst []))) rfl rfl rfl hcalm i [] s4 _ H4 (fun _ _ => False) I4 (stat fr4) st4 go) fun r s5 ⟨u, hr, h5⟩ => ?_
      subst hr
      refine thn h5 fun _ s6 ⟨x, H6, I6, r6, y6, st6, fr6⟩ => ?_
      have I6' := I6.pinned (stat fr6) (T.obj _ _ st6)
      have stp := hw _ x H6 _ (step x H6 y6)
      refine thn (hg s3 _ _ s6 _ H6 x u _ I6' r6 stp) fun _ s7 ⟨σ7, H7, I7, wk, q7⟩ => ?_
      have again : ∀ {H9 : Hp} {s9 : Shared} {ys' : List V}, Inv (compCx X N' scope cl fp s3 (upd H s.heap.objs.size (.lst []))) ([] ++ pinsAt fp s6.heap) σ7 H9 s9 → (∃ m', m' < n ∧ W (i + 1) m' ys' H9) →
          ∃ m, m < n ∧ ∃ i ys H', Inv (compCx X N' scope cl fp s3 (upd H s.heap.objs.size (.lst []))) [] (capσ own.length fr σ) H' s9 ∧ tn i s9.heap ∧ (∀ b ∈ fp, H' b = none) ∧ W i m ys H' := fun {H9 s9 ys'} I9 ⟨m', hm, w9⟩ => by
        refine ⟨m', hm, i + 1, ys', H9, (I9.unpinned).weak ?_ wk.2, T.keep _ _ _ st6 fun b hb o e => (I9.pin (b, o) (List.mem_append_right _ (List.mem_append_right _ (mem_pinsAt hb e)))).1, fun b hb => ?_, w9⟩
        · exact wk.1.symm
        · obtain ⟨o, e, d⟩ := T.obj _ _ st6 b hb
          exact (I9.pin (b, o) (List.mem_append_right _ (List.mem_append_right _ (mem_pinsAt hb e)))).2.1
      refine thn (hc s3 _ _ s7 σ7 H7 _ I7 q7) fun ok s8 ⟨H8, I8, q8⟩ => ?_
      cases ok with
      | false =>
        simp only [Bool.false_eq_true, if_false] at q8 ⊢
        obtain ⟨zs, q8⟩ := q8
        exact again I8 q8
      | true =>
        simp only [if_true] at q8 ⊢
        refine thn (he s3 _ _ s8 σ7 H8 _ I8 q8) fun y s9 ⟨yv, H9, I9, ry, zs, hp9, hz9, q9⟩ => ?_
        refine thn (mt_append _ s9 σ7 H9 (.ref s.heap.objs.size) [yv] (.ref s.heap.objs.size) [y] (fun v H' => H' = upd H9 s.heap.objs.size (.lst (zs ++ [yv]))) I9 rfl (.cons ry .nil) ⟨_, zs, yv, rfl, rfl, hp9, hz9, rfl⟩) fun v s10 ⟨_, H10, I10, _, e10⟩ => ?_
        subst e10
        exact again I10 q9
  exact codeAny_compStart_list loop (T.self _ 0 _ _ _ st1 loop)
end
section
variable {X : Cx}
theorem Cx.Ok.cellsOf {own N' : List Str} {fr : List Nat} {scope : Scope} (ok : X.Ok) (S : CScope X own fr N' scope) : ∀ y ∈ scope.names, y.2 = .free → ∃ c, X.env.cells.lookup y.1 = some c := fun y hy hf => ok.has y.1 (S.free y hy hf)
theorem pe_comp {tg iter elt : Expr} {ifs : List Expr} {pos : Pos} {own N' : List Str} {fr : List Nat} {scope : Scope} {wi : TI} {g : TG} {tc : TT} {te : TE} (hcalm : X.calm = true) (S : CScope X own fr N' scope) (hi : PI X tg iter wi)
    (hg : ∀ cl fp s3 H3, PG (compCx X N' scope cl fp s3 H3) tg g) (hw : CapG own.length g) (hc : ∀ cl fp s3 H3, PTs (compCx X N' scope cl fp s3 H3) ifs tc) (he : ∀ cl fp s3 H3, PE (compCx X N' scope cl fp s3 H3) elt te)
    (hs : ∀ x, foldedSetIterable iter X.env x = pure x := by intro _; rfl) : PE X (.ListComp elt [⟨tg, iter, ifs, 0⟩] scope pos) (tComp wi own.length fr g tc te) := by
  intro pins s σ H Q I h
  obtain ⟨cl, hclos, hcl, hcl2⟩ := closure_of (I.ok.cellsOf S)
  rw [eval_ListComp]
  refine wpAny_comprehension_free (use := none) rfl hs hclos S.kind S.loc (thn (hi pins s σ H _ I h) fun v s1 h1 => thn h1 fun itv s2 h2 => ?_)
  obtain ⟨it, fp, tn, J, H2, e, I2, T, st2, f2, h2⟩ := h2
  subst e
  refine comp_block (RR := fun acc C => compPost (model X.prog X.w) X.A X.xe none (EP X pins σ Q) acc C) hcalm S (hg cl fp) hw (hc cl fp) (he cl fp) hcl hcl2 I2 T st2 f2 h2 ?_
  intro s3 H3 I3 f3 D σ' H' s' t hD Ic q
  obtain ⟨m, hn, _⟩ := Ic.loc
  refine ⟨m, hn, fun h' hsb => ⟨.ref D, H', ?_, rfl, q⟩⟩
  exact comp_drop I3 rfl (comp_back I3 f3 Ic) Ic.free hsb
theorem ps_setComp {i : Nat} {x : Str} {tg iter elt : Expr} {ifs : List Expr} {pos spos pos' : Pos} {own N' : List Str} {fr : List Nat} {scope : Scope} {wi : TI} {g : TG} {tc : TT} {te : TE} (hcalm : X.calm = true) (hN : X.N.Nodup) (hx : X.N[i]? = some x) (hl : Loc X.env.scope x) (S : CScope X own fr N' scope) (hi : PI X tg iter wi)
    (hg : ∀ cl fp s3 H3, PG (compCx X N' scope cl fp s3 H3) tg g) (hw : CapG own.length g) (hc : ∀ cl fp s3 H3, PTs (compCx X N' scope cl fp s3 H3) ifs tc) (he : ∀ cl fp s3 H3, PE (compCx X N' scope cl fp s3 H3) elt te)
    (hsw : swapsWith (.ListComp elt [⟨tg, iter, ifs, 0⟩] scope pos) (some (.Name x pos')) spos.line X.env = pure true)
    (hs : ∀ x, foldedSetIterable iter X.env x = pure x := by intro _; rfl) (hf : X.fn x = true ∨ X.env.scope.names.lookup x = some .local := by first | exact .inl rfl | exact .inr rfl | assumption) : PS X (.Assign [.Name x pos'] (.ListComp elt [⟨tg, iter, ifs, 0⟩] scope pos) spos) (tAsg (tComp wi own.length fr g tc te) (gName i)) := by
  intro pins s σ H D I h
  obtain ⟨cl, hclos, hcl, hcl2⟩ := closure_of (I.ok.cellsOf S)
  rw [exec_Assign_Name_used _ _ _ _ hsw]
  refine wpAny_bind (wpAny_standAt (wpAny_bind ?_))
  show wpAny _ X.A (do let _ ← comprehension (.ListComp elt [⟨tg, iter, ifs, 0⟩] scope pos) scope X.env _ (newList []) false (eval iter X.env) (some (assign (.Name x pos') X.env))) _ _ s
  refine wpAny_bind (thn (wpAny_comprehension_free (use := some (assign (.Name x pos') X.env)) (Q := fun _ s' => SP X pins D .next s') rfl hs hclos S.kind S.loc
    (thn (hi pins s σ H _ I h) fun v s1 h1 => thn h1 fun itv s2 h2 => ?_)) fun _ s' hq => wpAny_pure (wpAny_pure hq))
  obtain ⟨it, fp, tn, J, H2, e, I2, T, st2, f2, h2⟩ := h2
  subst e
  refine comp_block (RR := fun acc C => compPost (model X.prog X.w) X.A X.xe (some (assign (.Name x pos') X.env)) (fun _ s' => SP X pins D .next s') acc C) hcalm S (hg cl fp) hw (hc cl fp) (he cl fp) hcl hcl2 I2 T st2 f2 h2 ?_
  intro s3 H3 I3 f3 Da σ' H' s' t hD Ic q
  obtain ⟨m, hn, _⟩ := Ic.loc
  have I5 := comp_back I3 f3 Ic
  show wpAny _ X.A (assign (.Name x pos') X.env (.ref Da)) _ _ s'
  refine wpAny_assign_Name (store_ok2 I5 hN hx hl (show RelV (.ref Da) (.ref Da) from rfl) (fun s6 I6 hsb => ?_) hf)
  obtain ⟨a, sb, ha⟩ := hsb
  have hne : s3.heap.objs.size ≠ a := by
    rcases ha with rfl | ha
    · exact Nat.ne_of_gt I3.lt
    · obtain ⟨v, z⟩ := I3.cell x a ha
      exact Nat.ne_of_gt z.lt
  refine ⟨m, hn.sameBut sb hne, fun h' hsb' => ⟨_, H', comp_drop I3 rfl I6 Ic.free hsb', q⟩⟩
end
end L2
namespace L2
open PySem PySem.Spec PyProof.Rows
theorem Un.sqT {K : PySem.W.Frag} {H H' : Hp} (h : ∀ b xs, Rd H b (.tup xs) → Rd H' b (.tup xs)) {a : Addr} {xs : List V} (q : SqT K H a xs) : SqT K H' a xs := by
  rcases q with q | q
  · exact .inl (h _ _ q)
  · exact .inr q
end L2
namespace L2
open PySem PySem.Spec PyProof.Rows
section
variable {X : Cx}
theorem intsAre_vals : ∀ {ns : List Int} {us : List Value}, Vals (ns.map V.int) us → IntsAre us ns
  | [], _, h => by cases h; exact .nil
  | n :: r, _, h => by
    cases h with
    | cons h1 h2 =>
      obtain ⟨t, rfl⟩ := h1
      exact .cons n t (intsAre_vals h2)
theorem ints_at : ∀ {ks : List Int} {vs : List Value}, vs.length = ks.length → (∀ (j : Nat) (v : Value) , vs[j]? = some v → ∃ (k : Int) (t : Tok), ks[j]? = some k ∧ v = .int k t) → IntsAre vs ks
  | [], [], _, _ => .nil
  | [], _ :: _, h, _ => by simp at h
  | _ :: _, [], h, _ => by simp at h
  | k :: ks, v :: vs, h, hv => by
    obtain ⟨k', t, e1, e2⟩ := hv 0 v rfl
    simp at e1
    subst e1 e2
    exact .cons k t (ints_at (by simpa using h) fun j u e => by simpa using hv (j + 1) u (by simpa using e))
def rSortedK : List V → Hp → VK → Prop := fun xs H Q => ∃ (d : Addr) (kvs : List (Key × V)) (ks : List Int), xs = [.ref d] ∧ H d = some (.dK kvs) ∧ kvs.map (·.1) = ks.map Sum.inl ∧ ks.length ≤ sizeLine ∧ ∀ (p : Addr) (ns : List Int), H p = none → ns.Perm ks → ns.Pairwise (· ≤ ·) → Q (.ref p) (upd H p (.lst (ns.map V.int)))
theorem call_sortedK (hc : X.calm = true) : CallR X (.builtin "sorted") rSortedK := by
  intro pins s σ H xs us Q I r h
  obtain ⟨d, kvs, ks, rfl, hd, hk, h64, q⟩ := h
  obtain ⟨u, rfl, ru⟩ := vals1 r
  cases ru
  have hh : X.A.in1.handled = none := I.ok.hd hc
  obtain ⟨hz, lo, vs, rel, dd⟩ := dk_of I.hok hd
  obtain ⟨ep, hat⟩ := dd.dictAt
  have hlen : vs.length = ks.length := by
    have e1 := congrArg List.length hk
    rw [List.length_map, List.length_map] at e1
    rw [← rel.length, e1]
  refine Calls.call_function_entry kind_sorted plain_sorted entry_sorted (args_sorted1 _) ?_
  unfold Builtin.«sorted»
  refine wpAny_bind (m := checkCount "sorted" 1 1 _) (wpAny_pure ?_)
  refine wpAny_bind (PySem.W.kdu_collect (A := X.A.in1) (PySem.W.kdl_dict (knd := mixKind X.prog X.w) (kvs := vs) (ep := ep) lo) hh hat (by rw [← rel.length]; exact hz) fun h' tk acc hkp hacc => ?_)
  have hl : acc.toList.length = ks.length := by rw [Array.length_toList, hacc.1, hlen]
  have hI : IntsAre acc.toList ks := ints_at hl fun j v e => by
    obtain ⟨k, x, hx, hki⟩ := hacc.2 j v (by rw [← Array.getElem?_toList]; exact e)
    have hkj : (kvs.map (·.1))[j]? = some k := by
      have : (vs.map (·.1))[j]? = some k := by rw [List.getElem?_map, hx]; rfl
      rw [← rel.keys] at this
      exact this
    rw [hk, List.getElem?_map] at hkj
    cases e2 : ks[j]? with
    | none => rw [e2] at hkj; cases hkj
    | some n =>
      rw [e2] at hkj
      cases hkj
      have hki' : keyIs (Sum.inl n) v = true := hki
      rcases keyIs_shape hki' with ⟨i, t, e3, e4⟩ | ⟨x, t, e3, e4⟩
      · cases e3; exact ⟨n, t, rfl, e4⟩
      · cases e3
  refine wpAny_bind (wpAny_newList ?_ (by rw [hl]; exact h64))
  have ho : (h'.push (seqObj "list" acc.toList.toArray 0)).get? h'.objs.size = some (seqObj "list" acc.toList.toArray 0) := Heap.get?_push_size _ rfl
  refine wpAny_bind (wpAny_holding (wpAny_call_entry slot_list_sort ⟨_, ho, rfl⟩ entry_list_sort (TS.sort_ints (s := { s with heap := h'.push (seqObj "list" acc.toList.toArray 0), toks := tk }) ho hI (by rw [hl]; exact h64) fun out ns' a1 a2 a3 => ⟨_, rfl, ?_⟩) (args_list_sort _)))
  obtain ⟨ee, hat'⟩ := sortedHeap_at (out := out) ho
  have I' : Inv X pins σ H { s with heap := h', toks := tk } := I.kept (t' := tk) hkp
  refine wpAny_pure ⟨_, rfl, .ref h'.objs.size, _, I'.laid (t' := tk) (o := .lst (ns'.map V.int)) (fun b o hb => ?_) (Nat.le_refl _) ?_, rfl, q _ ns' (I'.hok.fresh (Nat.le_refl _)) a2 a3⟩
  · have hlt : b < h'.objs.size := Heap.lt_size hb
    rw [sortedHeap_old (Nat.ne_of_lt hlt) (by rw [Heap.size_push]; exact Nat.lt_succ_of_lt hlt)]
    exact Heap.get?_push_of_some _ hb
  · refine ⟨?_, out.toList, ee, vals_ints a1, by simpa using hat'⟩
    rw [List.length_map, a2.length_eq]
    exact h64
end
end L2
namespace L2
open PySem PySem.Spec PyProof.Rows
theorem CScope.of {X : Cx} {sc scope : Scope} {N own N' : List Str} {fr : List Nat} (hsc : X.env.scope = sc) (hN : X.N = N) (kind : scope.kind = .function) (names : N' = own ++ fr.filterMap (fun j => N[j]?)) (len : N'.length = own.length + fr.length) (nd : N'.Nodup)
    (nocell : ∀ y ∈ scope.names, y.2 ≠ .cell) (loc : ∀ y ∈ scope.names, y.2 = .local → scope.names.lookup y.1 = some .local) (cap : ∀ x ∈ fr.filterMap (fun j => N[j]?), scope.names.lookup x = some .free)
    (free : ∀ y ∈ scope.names, y.2 = .free → sc.names.lookup y.1 = some .cell ∨ sc.names.lookup y.1 = some .free) : CScope X own fr N' scope := by
  subst hN hsc
  exact ⟨kind, names, len, nd, nocell, loc, cap, free⟩
structure Fnc (K : PySem.W.Frag) (mg : Str → Option Value) (x : Str) (ps : List Str) (st : Stmt) (f : Addr) (fd : FuncData) : Prop where
  at_ : mg x = some (.ref f)
  fn : Fun K x x st f fd
  bd : Binds K fd ps []
section
variable {X : Cx} {k : Nat} {f : Addr} {fd : FuncData} {ps : List Str} {sp : Sp} {x : Str} {st : Stmt} {p pos : Pos} {e : Expr} {es : List Expr} {t : TA}
theorem pe_callF (C : Fnc X.K X.mg x ps st f fd) (F : FnOk X.prog X.w X.K X.mg X.base CX0 k f fd ps sp) (hr : Room k X.A) (hg : Gl X x)
    (ha : PA X (e :: es) t) (hdb : (x == ("__debug__" : Str)) = false := by decide) (he : starEach (e :: es) X.env = (false, eval e X.env) :: starEach es X.env := by rfl) (hpl : (backTo pos (starEach es X.env)).any (·.1) = false := by rfl) :
    PE X (.Call (.Name x p) (e :: es) [] pos) (tCall sp [] E0 t) := pe_call F hr hg C.at_ C.fn.kp C.bd .nil pass0 ha hdb he hpl
end
theorem same_upd {H : Hp} {p : Addr} {o : HO} (h : H p = none) : Same H (upd H p o) := fun b u e => by
  rw [upd_ne (ne_of_none e h)]; exact e
def TSame (H H' : Hp) : Prop := ∀ b xs, Rd H b (.tup xs) → Rd H' b (.tup xs)
theorem TSame.refl (H : Hp) : TSame H H := fun _ _ h => h
theorem TSame.trans {H H1 H2 : Hp} (a : TSame H H1) (b : TSame H1 H2) : TSame H H2 := fun c o h => b c o (a c o h)
theorem Same.ts {H H' : Hp} (a : Same H H') : TSame H H' := fun b xs h => by
  rcases h with h | ⟨o, h⟩
  · exact .inl (a _ _ h)
  · exact .inr ⟨o, a _ _ h⟩
end L2
namespace L2
open PySem PySem.Spec PyProof.Rows
inductive TyX (K : PySem.W.Frag) (H : Hp) : V → Value → Prop where
  | of {x : V} {t : Value} (h : TyOf K H x t) : TyX K H x t
  | tup {a : Addr} {xs : List V} (h : SqT K H a xs) : TyX K H (.ref a) (.type "tuple")
  | lst {a : Addr} {xs : List V} (h : SqL K H a xs) : TyX K H (.ref a) (.type "list")
section
variable {X : Cx}
def rIsX (K : PySem.W.Frag) : List V → Hp → VK → Prop := fun xs H Q => ∃ x T t b, xs = [x, .ty T] ∧ TyX K H x t ∧ PySem.W.kitOne K t (.type T) = some b ∧ Q (.bl b) H
theorem call_isX : CallR X (.builtin "isinstance") (rIsX X.K) := by
  intro pins s σ H xs us Q I r h
  obtain ⟨x, T, t, b, rfl, ty, e, q⟩ := h
  obtain ⟨u, w', rfl, ru, rw'⟩ := vals2 r
  cases rw'
  cases ty with
  | of ty => exact isinst_ok I ru ty e fun tk => ⟨.bl b, H, I.tok tk, rfl, q⟩
  | tup hs =>
    cases ru
    obtain ⟨its, rv, ⟨o, h1, h2, _⟩, _⟩ := I.tuple hs
    exact PySem.W.kia_one PySem.W.kitx_tuple I.kIn ⟨o, h1, h2⟩ e (fun z => nomatch z) fun tk => ⟨.bl b, H, I.tok tk, rfl, q⟩
  | lst hs =>
    cases ru
    obtain ⟨its, rv, ht, _⟩ := I.list hs
    obtain ⟨o, h1, h2, _⟩ := ht.isList
    exact PySem.W.kia_one PySem.W.kitx_list I.kIn ⟨o, h1, h2⟩ e (fun z => nomatch z) fun tk => ⟨.bl b, H, I.tok tk, rfl, q⟩
end
end L2
namespace L2
open PySem PyProof.Rows PyProof.V PySem.Calls PySem.Spec
def ExcAt (a C : Addr) (h : Heap) : Prop := ∃ o, h.get? a = some o ∧ o.cls = .ref C
end L2
namespace WL
open PySem L2
inductive W where
  | v (x : V) | tup (l : List W)
inductive MO where
  | lst (l : List W) | dK (kvs : List (Key × W)) | ins (C dx : Addr) (fs : List (Str × W)) | exc (C : Addr) | fz (o : Obj) (ks : List (Key × V)) (kvs : List (Key × W))
abbrev Mp := Addr → Option MO
abbrev WSt := List (Option W)
abbrev WK := W → Mp → Prop
abbrev WE := WSt → Mp → WK → Prop
abbrev WT := WSt → Mp → (Bool → Mp → Prop) → Prop
abbrev WA := WSt → Mp → (List W → Mp → Prop) → Prop
abbrev WG := W → WSt → Mp → (WSt → Mp → Prop) → Prop
abbrev WGs := List W → WSt → Mp → (WSt → Mp → Prop) → Prop
abbrev WR2 := W → W → Mp → WK → Prop
abbrev WCl := List W → Mp → WK → Prop
abbrev WI := WSt → Mp → (List W → (Mp → Prop) → Mp → Prop) → Prop
structure WEnds where
  nx : WSt → Mp → Prop
  rt : WK
  bk : WSt → Mp → Prop := fun _ _ => False
  ct : WSt → Mp → Prop := fun _ _ => False
abbrev WS := WEnds → WSt → Mp → Prop
@[reducible] def wi (i : Int) : W := .v (.int i)
@[reducible] def wb (b : Bool) : W := .v (.bl b)
@[reducible] def wr (a : Addr) : W := .v (.ref a)
@[reducible] def ws (x : Str) : W := .v (.str x)
@[reducible] def wn : W := .v .non
def um (M : Mp) (a : Addr) (o : MO) : Mp := fun b => if b = a then some o else M b
theorem um_same {M : Mp} {a : Addr} {o : MO} : um M a o a = some o := by unfold um; rw [if_pos rfl]
theorem um_ne {M : Mp} {a b : Addr} {o : MO} (h : b ≠ a) : um M a o b = M b := by unfold um; rw [if_neg h]
theorem um_um {M : Mp} {a : Addr} {o u : MO} : um (um M a o) a u = um M a u := by
  funext b; unfold um; split <;> rfl
theorem m_ne {M : Mp} {a b : Addr} {o : MO} (h : M a = some o) (h' : M b = none) : a ≠ b := by
  intro e; subst e; rw [h] at h'; cases h'
def Sm (M M' : Mp) : Prop := ∀ b o, M b = some o → M' b = some o
theorem Sm.refl (M : Mp) : Sm M M := fun _ _ h => h
theorem Sm.trans {M M1 M2 : Mp} (a : Sm M M1) (b : Sm M1 M2) : Sm M M2 := fun c o h => b c o (a c o h)
theorem Sm.free {M M' : Mp} {p : Addr} (a : Sm M M') (h : M' p = none) : M p = none := by
  cases e : M p with
  | none => rfl
  | some o => rw [a p o e] at h; cases h
theorem sm_um {M : Mp} {p : Addr} {o : MO} (h : M p = none) : Sm M (um M p o) := fun b u e => by
  rw [um_ne (m_ne e h)]; exact e
theorem Sm.um {M M' : Mp} {p : Addr} {o : MO} (a : Sm M M') (h : M p = none) : Sm M (um M' p o) := fun b u e => by
  rw [um_ne (m_ne e h)]; exact a b u e
mutual
def WR (K : PySem.W.Frag) (H : Hp) : W → V → Prop
  | .v x, v => v = x
  | .tup l, v => ∃ a vs, v = .ref a ∧ SqT K H a vs ∧ WRs K H l vs
def WRs (K : PySem.W.Frag) (H : Hp) : List W → List V → Prop
  | [], vs => vs = []
  | x :: r, vs => ∃ v t, vs = v :: t ∧ WR K H x v ∧ WRs K H r t
end
mutual
theorem WR.ts {K : PySem.W.Frag} {H H' : Hp} (a : TSame H H') : ∀ (x : W) (v : V), WR K H x v → WR K H' x v
  | .v x, v, h => by simp only [WR] at h ⊢; exact h
  | .tup l, v, h => by
    simp only [WR] at h ⊢
    obtain ⟨p, vs, e, hs, hr⟩ := h
    exact ⟨p, vs, e, Un.sqT a hs, WRs.ts a l vs hr⟩
theorem WRs.ts {K : PySem.W.Frag} {H H' : Hp} (a : TSame H H') : ∀ (l : List W) (vs : List V), WRs K H l vs → WRs K H' l vs
  | [], vs, h => by simp only [WRs] at h ⊢; exact h
  | x :: r, vs, h => by
    simp only [WRs] at h ⊢
    obtain ⟨v, t, e, h1, h2⟩ := h
    exact ⟨v, t, e, WR.ts a x v h1, WRs.ts a r t h2⟩
end
theorem WRs.length {K : PySem.W.Frag} {H : Hp} : ∀ {l : List W} {vs : List V}, WRs K H l vs → vs.length = l.length
  | [], _, h => by simp only [WRs] at h; subst h; rfl
  | d :: r, vs, h => by
    simp only [WRs] at h
    obtain ⟨v, t, rfl, _, h⟩ := h
    simp [WRs.length h]
theorem WRs.at {K : PySem.W.Frag} {H : Hp} : ∀ {l : List W} {vs : List V} {j : Nat} {d : W}, WRs K H l vs → l[j]? = some d → ∃ v, vs[j]? = some v ∧ WR K H d v
  | [], _, _, _, _, e => by simp at e
  | d :: r, vs, j, d', h, e => by
    simp only [WRs] at h
    obtain ⟨v, t, rfl, h1, h⟩ := h
    cases j with
    | zero => simp at e; subst e; exact ⟨v, rfl, h1⟩
    | succ j => simpa using WRs.at (j := j) h (by simpa using e)
theorem WRs.mk {K : PySem.W.Frag} {H : Hp} : ∀ {l : List W} {vs : List V}, vs.length = l.length → (∀ (j : Nat) d v, l[j]? = some d → vs[j]? = some v → WR K H d v) → WRs K H l vs
  | [], vs, h, _ => by simp only [WRs]; exact List.length_eq_zero_iff.mp h
  | d :: r, [], h, _ => by simp at h
  | d :: r, v :: vs, h, k => by
    simp only [WRs]
    exact ⟨v, vs, rfl, k 0 d v rfl rfl, WRs.mk (by simpa using h) fun j x u e1 e2 => k (j + 1) x u (by simpa using e1) (by simpa using e2)⟩
theorem WRs.back {K : PySem.W.Frag} {H : Hp} {l : List W} {vs : List V} {j : Nat} {v : V} (h : WRs K H l vs) (e : vs[j]? = some v) : ∃ d, l[j]? = some d ∧ WR K H d v := by
  have hl := h.length
  have hj : j < l.length := by have := (List.getElem?_eq_some_iff.mp e).1; omega
  obtain ⟨u, hu, r⟩ := h.at (j := j) (d := l[j]) (List.getElem?_eq_getElem hj)
  rw [e] at hu; cases hu
  exact ⟨_, List.getElem?_eq_getElem hj, r⟩
theorem WRs.snoc {K : PySem.W.Frag} {H : Hp} {l : List W} {vs : List V} {d : W} {v : V} (h : WRs K H l vs) (hr : WR K H d v) : WRs K H (l ++ [d]) (vs ++ [v]) := by
  have hl := h.length
  refine WRs.mk (by simp [hl]) fun j x u e1 e2 => ?_
  by_cases hj : j < l.length
  · rw [List.getElem?_append_left hj] at e1
    rw [List.getElem?_append_left (by omega)] at e2
    obtain ⟨w, hw, r⟩ := h.at e1
    rw [e2] at hw; cases hw; exact r
  · rw [List.getElem?_append_right (by omega)] at e1
    rw [List.getElem?_append_right (by omega), hl] at e2
    cases hk : j - l.length with
    | zero => rw [hk] at e1 e2; simp at e1 e2; subst e1 e2; exact hr
    | succ k => rw [hk] at e1; simp at e1
theorem WRs.append {K : PySem.W.Frag} {H : Hp} {l m : List W} {vs us : List V} (h : WRs K H l vs) (h' : WRs K H m us) : WRs K H (l ++ m) (vs ++ us) := by
  have hl := h.length
  have hl' := h'.length
  refine WRs.mk (by simp [hl, hl']) fun j x u e1 e2 => ?_
  by_cases hj : j < l.length
  · rw [List.getElem?_append_left hj] at e1
    rw [List.getElem?_append_left (by omega)] at e2
    obtain ⟨w, hw, r⟩ := h.at e1
    rw [e2] at hw; cases hw; exact r
  · rw [List.getElem?_append_right (by omega)] at e1
    rw [List.getElem?_append_right (by omega), hl] at e2
    obtain ⟨w, hw, r⟩ := h'.at e1
    rw [e2] at hw; cases hw; exact r
theorem WRs.set {K : PySem.W.Frag} {H : Hp} {l : List W} {vs : List V} (n : Nat) {d : W} {v : V} (h : WRs K H l vs) (hr : WR K H d v) : WRs K H (l.set n d) (vs.set n v) := by
  have hl := h.length
  refine WRs.mk (by simp [h.length]) fun j x u e1 e2 => ?_
  rw [List.getElem?_set] at e1 e2
  split at e1
  · rename_i hj
    rw [if_pos hj] at e2
    split at e1
    · split at e2
      · cases e1; cases e2; exact hr
      · cases e2
    · cases e1
  · rename_i hj
    rw [if_neg hj] at e2
    obtain ⟨w, hw, r⟩ := h.at e1
    rw [e2] at hw; cases hw; exact r
theorem WRs.nil {K : PySem.W.Frag} {H : Hp} : WRs K H [] [] := by simp only [WRs]
theorem WRs.cons {K : PySem.W.Frag} {H : Hp} {x : W} {v : V} {l : List W} {vs : List V} (h : WR K H x v) (r : WRs K H l vs) : WRs K H (x :: l) (v :: vs) := by
  simp only [WRs]; exact ⟨v, vs, rfl, h, r⟩
theorem WR.v {K : PySem.W.Frag} {H : Hp} {x : V} : WR K H (.v x) x := by simp only [WR]
theorem WR.eq {K : PySem.W.Frag} {H : Hp} {x v : V} (h : WR K H (.v x) v) : v = x := by simpa only [WR] using h
theorem WR.tup {K : PySem.W.Frag} {H : Hp} {l : List W} {v : V} (h : WR K H (.tup l) v) : ∃ a vs, v = .ref a ∧ SqT K H a vs ∧ WRs K H l vs := by simpa only [WR] using h
theorem WR.mkT {K : PySem.W.Frag} {H : Hp} {l : List W} {a : Addr} {vs : List V} (h : SqT K H a vs) (r : WRs K H l vs) : WR K H (.tup l) (.ref a) := by simp only [WR]; exact ⟨a, vs, rfl, h, r⟩
def KR (K : PySem.W.Frag) (H : Hp) {κ : Type} : List (κ × W) → List (κ × V) → Prop := Paired fun p q => p.1 = q.1 ∧ WR K H p.2 q.2
theorem KR.ts {K : PySem.W.Frag} {H H' : Hp} {κ : Type} (a : TSame H H') : ∀ {l : List (κ × W)} {vs : List (κ × V)}, KR K H l vs → KR K H' l vs
  | _, _, .nil => .nil
  | _, _, .cons ⟨e, r⟩ t => .cons ⟨e, r.ts a⟩ (KR.ts a t)
def MR (K : PySem.W.Frag) (H : Hp) (a : Addr) : MO → Prop
  | .lst l => ∃ vs, H a = some (.lst vs) ∧ WRs K H l vs
  | .dK kvs => ∃ ks, H a = some (.dK ks) ∧ KR K H kvs ks
  | .ins C dx fs => ∃ ks, H a = some (.ins C dx ks) ∧ KR K H fs ks
  | .exc C => H a = some (.ext (ExcAt a C))
  | .fz o ks kvs => H a = some (.frz o (.dK ks)) ∧ KR K H kvs ks
theorem MR.some {K : PySem.W.Frag} {H : Hp} {a : Addr} {o : MO} (h : MR K H a o) : ∃ u, H a = some u := by
  cases o with
  | lst l => obtain ⟨_, e, _⟩ := h; exact ⟨_, e⟩
  | dK l => obtain ⟨_, e, _⟩ := h; exact ⟨_, e⟩
  | ins C d l => obtain ⟨_, e, _⟩ := h; exact ⟨_, e⟩
  | exc C => exact ⟨_, h⟩
  | fz o l l2 => exact ⟨_, h.1⟩
theorem MR.mv {K : PySem.W.Frag} {H H' : Hp} {a : Addr} {o : MO} (t : TSame H H') (e : H' a = H a) (h : MR K H a o) : MR K H' a o := by
  cases o with
  | lst l => obtain ⟨vs, e1, r⟩ := h; exact ⟨vs, e.trans e1, r.ts t⟩
  | dK l => obtain ⟨vs, e1, r⟩ := h; exact ⟨vs, e.trans e1, r.ts t⟩
  | ins C d l => obtain ⟨vs, e1, r⟩ := h; exact ⟨vs, e.trans e1, r.ts t⟩
  | exc C => exact e.trans h
  | fz o l l2 => exact ⟨e.trans h.1, h.2.ts t⟩
def MOk (K : PySem.W.Frag) (M : Mp) (H : Hp) : Prop := ∀ a o, M a = some o → MR K H a o
theorem MOk.fresh {K : PySem.W.Frag} {M : Mp} {H : Hp} (h : MOk K M H) {p : Addr} (hp : H p = none) : M p = none := by
  cases e : M p with
  | none => rfl
  | some o => obtain ⟨u, hu⟩ := (h p o e).some; rw [hp] at hu; cases hu
theorem MOk.new {K : PySem.W.Frag} {M : Mp} {H : Hp} (h : MOk K M H) {p : Addr} {u : HO} (hp : H p = none) : MOk K M (upd H p u) := fun a o e => by
  have := h a o e
  obtain ⟨w, hw⟩ := this.some
  exact this.mv (L2.Same.ts (same_upd hp)) (upd_ne (ne_of_none hw hp))
theorem ts_wr {H : Hp} {a : Addr} {o u : HO} (h : H a = some o) (hn : ∀ xs, o ≠ .tup xs) (hf : ∀ b xs, o ≠ .frz b (.tup xs)) : TSame H (upd H a u) := fun b xs r => by
  have nb : b ≠ a := fun e => by
    subst e
    rcases r with r | ⟨w, r⟩
    · rw [h] at r; cases r; exact hn _ rfl
    · rw [h] at r; cases r; exact hf _ _ rfl
  unfold Rd
  rw [upd_ne nb]
  exact r
theorem MOk.put {K : PySem.W.Frag} {M : Mp} {H : Hp} (h : MOk K M H) {a : Addr} {o : MO} {u : HO} (t : TSame H (upd H a u)) (new : MR K (upd H a u) a o) : MOk K (um M a o) (upd H a u) := fun b x e => by
  by_cases hb : b = a
  · subst hb; rw [um_same] at e; cases e; exact new
  · rw [um_ne hb] at e
    exact (h b x e).mv t (upd_ne hb)
theorem MOk.newL {K : PySem.W.Frag} {M : Mp} {H : Hp} (h : MOk K M H) {p : Addr} {l : List W} {vs : List V} (hp : H p = none) (r : WRs K H l vs) : MOk K (um M p (.lst l)) (upd H p (.lst vs)) :=
  h.put (L2.Same.ts (same_upd hp)) ⟨vs, upd_same, r.ts (L2.Same.ts (same_upd hp))⟩
theorem ts_lst {H : Hp} {a : Addr} {xs : List V} {u : HO} (h : H a = some (.lst xs)) : TSame H (upd H a u) := ts_wr h (fun _ z => nomatch z) fun _ _ z => nomatch z
theorem ts_dK {H : Hp} {a : Addr} {xs : List (Key × V)} {u : HO} (h : H a = some (.dK xs)) : TSame H (upd H a u) := ts_wr h (fun _ z => nomatch z) fun _ _ z => nomatch z
theorem MOk.putL {K : PySem.W.Frag} {M : Mp} {H : Hp} (h : MOk K M H) {a : Addr} {xs : List V} {l : List W} {vs : List V} (e : H a = some (.lst xs)) (r : WRs K H l vs) : MOk K (um M a (.lst l)) (upd H a (.lst vs)) :=
  h.put (ts_lst e) ⟨vs, upd_same, r.ts (ts_lst e)⟩
theorem MOk.putD {K : PySem.W.Frag} {M : Mp} {H : Hp} (h : MOk K M H) {a : Addr} {xs : List (Key × V)} {l : List (Key × W)} {vs : List (Key × V)} (e : H a = some (.dK xs)) (r : KR K H l vs) : MOk K (um M a (.dK l)) (upd H a (.dK vs)) :=
  h.put (ts_dK e) ⟨vs, upd_same, KR.ts (ts_dK e) r⟩
def WSR (K : PySem.W.Frag) (H : Hp) (ρ : WSt) (σ : St) : Prop := ρ.length = σ.length ∧ ∀ (i : Nat) x, ρ[i]? = some (some x) → ∃ v, σ[i]? = some (some v) ∧ WR K H x v
theorem WSR.ts {K : PySem.W.Frag} {H H' : Hp} {ρ : WSt} {σ : St} (t : TSame H H') (h : WSR K H ρ σ) : WSR K H' ρ σ := ⟨h.1, fun i x e => let ⟨v, a, r⟩ := h.2 i x e; ⟨v, a, r.ts t⟩⟩
structure Ok (K : PySem.W.Frag) (ρ : WSt) (M : Mp) (σ : St) (H : Hp) : Prop where
  env : WSR K H ρ σ
  hp : MOk K M H
theorem Ok.mv {K : PySem.W.Frag} {ρ : WSt} {M M' : Mp} {σ : St} {H H' : Hp} (o : Ok K ρ M σ H) (t : TSame H H') (m : MOk K M' H') : Ok K ρ M' σ H' := ⟨o.env.ts t, m⟩
theorem WSR.set {K : PySem.W.Frag} {H : Hp} {ρ : WSt} {σ : St} (h : WSR K H ρ σ) (i : Nat) {x : W} {v : V} (r : WR K H x v) : WSR K H (ρ.set i (some x)) (σ.set i (some v)) := by
  refine ⟨by simp [h.1], fun j y e => ?_⟩
  rw [List.getElem?_set] at e ⊢
  split at e
  · rename_i hj
    rw [if_pos hj]
    split at e
    · rename_i hlt
      rw [if_pos (by rw [← h.1]; exact hlt)]
      cases e
      exact ⟨v, rfl, r⟩
    · cases e
  · rename_i hj
    rw [if_neg hj]
    exact h.2 j y e
section
variable (K : PySem.W.Frag)
class IE (t : TE) (w : outParam WE) : Prop where
  imp : ∀ (ρ : WSt) (M : Mp) (σ : St) (H : Hp) (q : WK) (Q : VK), Ok K ρ M σ H → w ρ M q → (∀ x M' v H', q x M' → TSame H H' → MOk K M' H' → WR K H' x v → Q v H') → t σ H Q
class IT (t : TT) (w : outParam WT) : Prop where
  imp : ∀ (ρ : WSt) (M : Mp) (σ : St) (H : Hp) (q : Bool → Mp → Prop) (Q : Bool → Hp → Prop), Ok K ρ M σ H → w ρ M q → (∀ b M' H', q b M' → TSame H H' → MOk K M' H' → Q b H') → t σ H Q
class IA (t : TA) (w : outParam WA) : Prop where
  imp : ∀ (ρ : WSt) (M : Mp) (σ : St) (H : Hp) (q : List W → Mp → Prop) (Q : List V → Hp → Prop), Ok K ρ M σ H → w ρ M q → (∀ x M' v H', q x M' → TSame H H' → MOk K M' H' → WRs K H' x v → Q v H') → t σ H Q
class IG (t : TG) (w : outParam WG) : Prop where
  imp : ∀ (x : W) (v : V) (ρ : WSt) (M : Mp) (σ : St) (H : Hp) (q : WSt → Mp → Prop) (Q : St → Hp → Prop), Ok K ρ M σ H → WR K H x v → w x ρ M q → (∀ ρ' M' σ' H', q ρ' M' → TSame H H' → Ok K ρ' M' σ' H' → Q σ' H') → t v σ H Q
class IGs (t : TGs) (w : outParam WGs) : Prop where
  imp : ∀ (x : List W) (v : List V) (ρ : WSt) (M : Mp) (σ : St) (H : Hp) (q : WSt → Mp → Prop) (Q : St → Hp → Prop), Ok K ρ M σ H → WRs K H x v → w x ρ M q → (∀ ρ' M' σ' H', q ρ' M' → TSame H H' → Ok K ρ' M' σ' H' → Q σ' H') → t v σ H Q
structure EndsOk (H : Hp) (D' : WEnds) (D : Ends) : Prop where
  nx : ∀ ρ' M' σ' H', D'.nx ρ' M' → TSame H H' → Ok K ρ' M' σ' H' → D.nx σ' H'
  rt : ∀ x M' v H', D'.rt x M' → TSame H H' → MOk K M' H' → WR K H' x v → D.rt v H'
  bk : ∀ ρ' M' σ' H', D'.bk ρ' M' → TSame H H' → Ok K ρ' M' σ' H' → D.bk σ' H'
  ct : ∀ ρ' M' σ' H', D'.ct ρ' M' → TSame H H' → Ok K ρ' M' σ' H' → D.ct σ' H'
class IS (t : TS) (w : outParam WS) : Prop where
  imp : ∀ (ρ : WSt) (M : Mp) (σ : St) (H : Hp) (D' : WEnds) (D : Ends), Ok K ρ M σ H → w D' ρ M → EndsOk K H D' D → t D σ H
class IR (r : R2) (w : outParam WR2) : Prop where
  imp : ∀ (x y : W) (v u : V) (M : Mp) (H : Hp) (q : WK) (Q : VK), MOk K M H → WR K H x v → WR K H y u → w x y M q → (∀ x M' v H', q x M' → TSame H H' → MOk K M' H' → WR K H' x v → Q v H') → r v u H Q
class IU (r : V → Hp → VK → Prop) (w : outParam (W → Mp → WK → Prop)) : Prop where
  imp : ∀ (x : W) (v : V) (M : Mp) (H : Hp) (q : WK) (Q : VK), MOk K M H → WR K H x v → w x M q → (∀ x M' v H', q x M' → TSame H H' → MOk K M' H' → WR K H' x v → Q v H') → r v H Q
class IC (r : List V → Hp → VK → Prop) (w : outParam WCl) : Prop where
  imp : ∀ (x : List W) (v : List V) (M : Mp) (H : Hp) (q : WK) (Q : VK), MOk K M H → WRs K H x v → w x M q → (∀ x M' v H', q x M' → TSame H H' → MOk K M' H' → WR K H' x v → Q v H') → r v H Q
end
theorem EndsOk.mv {K : PySem.W.Frag} {H H' : Hp} {D' : WEnds} {D : Ends} (e : EndsOk K H D' D) (t : TSame H H') : EndsOk K H' D' D :=
  ⟨fun a b c d h s => e.nx a b c d h (t.trans s), fun a b c d h s => e.rt a b c d h (t.trans s), fun a b c d h s => e.bk a b c d h (t.trans s), fun a b c d h s => e.ct a b c d h (t.trans s)⟩
end WL
namespace WL
open PySem L2
section
variable {K : PySem.W.Frag}
def wVar (i : Nat) : WE := fun ρ M q => ∃ x, ρ[i]? = some (some x) ∧ q x M
instance {i : Nat} : IE K (tVar i) (wVar i) where
  imp := fun ρ M σ H q Q o ⟨x, e, h⟩ k => let ⟨v, e', r⟩ := o.env.2 i x e; ⟨v, e', k x M v H h (TSame.refl H) o.hp r⟩
def wC (x : W) : WE := fun _ M q => q x M
instance {v : V} : IE K (tC v) (wC (.v v)) where
  imp := fun ρ M σ H q Q o h k => k (.v v) M v H h (TSame.refl H) o.hp WR.v
def wOp (r : WR2) (a b : WE) : WE := fun ρ M q => a ρ M fun x M1 => b ρ M1 fun y M2 => r x y M2 q
instance {r : R2} {w : WR2} {ta tb : TE} {a b : WE} [ir : IR K r w] [ia : IE K ta a] [ib : IE K tb b] : IE K (tOp r ta tb) (wOp w a b) where
  imp := fun ρ M σ H q Q o h k => ia.imp ρ M σ H _ _ o h fun x M1 v H1 h1 t1 m1 r1 => ib.imp ρ M1 σ H1 _ _ (o.mv t1 m1) h1 fun y M2 u H2 h2 t2 m2 r2 =>
    ir.imp x y v u M2 H2 _ _ m2 (r1.ts t2) r2 h2 fun z M3 v3 H3 h3 t3 m3 r3 => k z M3 v3 H3 h3 ((t1.trans t2).trans t3) m3 r3
def wUn (r : W → Mp → WK → Prop) (a : WE) : WE := fun ρ M q => a ρ M fun x M1 => r x M1 q
instance {r : V → Hp → VK → Prop} {w : W → Mp → WK → Prop} {ta : TE} {a : WE} [ir : IU K r w] [ia : IE K ta a] : IE K (tUn r ta) (wUn w a) where
  imp := fun ρ M σ H q Q o h k => ia.imp ρ M σ H _ _ o h fun x M1 v H1 h1 t1 m1 r1 =>
    ir.imp x v M1 H1 _ _ m1 r1 h1 fun z M3 v3 H3 h3 t3 m3 r3 => k z M3 v3 H3 h3 (t1.trans t3) m3 r3
def wI (C : Int → Int → Prop) (g : Int → Int → V) : WR2 := fun x y M q => ∃ i j, x = wi i ∧ y = wi j ∧ C i j ∧ q (.v (g i j)) M
def wI0 (g : Int → Int → V) : WR2 := fun x y M q => ∃ i j, x = wi i ∧ y = wi j ∧ q (.v (g i j)) M
def wU (g : Int → V) : W → Mp → WK → Prop := fun x M q => ∃ i, x = wi i ∧ q (.v (g i)) M
instance {C : Int → Int → Prop} {g : Int → Int → V} : IR K (rI C g) (wI C g) where
  imp := by
    rintro x y v u M H q Q m r1 r2 ⟨i, j, rfl, rfl, c, h⟩ k
    exact ⟨i, j, r1.eq, r2.eq, c, k _ M _ H h (TSame.refl H) m WR.v⟩
instance {g : Int → Int → V} : IR K (rI0 g) (wI0 g) where
  imp := by
    rintro x y v u M H q Q m r1 r2 ⟨i, j, rfl, rfl, h⟩ k
    exact ⟨i, j, r1.eq, r2.eq, k _ M _ H h (TSame.refl H) m WR.v⟩
instance {g : Int → V} : IU K (rU g) (wU g) where
  imp := by
    rintro x v M H q Q m r1 ⟨i, rfl, h⟩ k
    exact ⟨i, r1.eq, k _ M _ H h (TSame.refl H) m WR.v⟩
def wEq : WR2 := fun x y M q => ∃ a b, x = .v a ∧ y = .v b ∧ scal a b = true ∧ q (wb (decide (a = b))) M
def wNe : WR2 := fun x y M q => ∃ a b, x = .v a ∧ y = .v b ∧ scal a b = true ∧ q (wb (!decide (a = b))) M
instance : IR K rEq wEq where
  imp := by
    rintro x y v u M H q Q m r1 r2 ⟨i, j, rfl, rfl, c, h⟩ k
    cases r1.eq; cases r2.eq
    exact ⟨c, k _ M _ H h (TSame.refl H) m WR.v⟩
instance : IR K rNe wNe where
  imp := by
    rintro x y v u M H q Q m r1 r2 ⟨i, j, rfl, rfl, c, h⟩ k
    cases r1.eq; cases r2.eq
    exact ⟨c, k _ M _ H h (TSame.refl H) m WR.v⟩
def wTest (a : WE) : WT := fun ρ M q => a ρ M fun x M1 => ∃ k, x = wb k ∧ q k M1
instance {t : TE} {a : WE} [ia : IE K t a] : IT K (tTest t) (wTest a) where
  imp := fun ρ M σ H q Q o h k => ia.imp ρ M σ H _ _ o h fun x M1 v H1 ⟨b, e, h1⟩ t1 m1 r1 => by subst e; exact ⟨b, r1.eq, k b M1 H1 h1 t1 m1⟩
instance {t : TE} {a : WE} [ia : IE K t a] : IT K (tB t) (wTest a) where
  imp := fun ρ M σ H q Q o h k => ia.imp ρ M σ H _ _ o h fun x M1 v H1 ⟨b, e, h1⟩ t1 m1 r1 => by subst e; exact ⟨b, r1.eq, k b M1 H1 h1 t1 m1⟩
def wAnd (a b : WT) : WT := fun ρ M q => a ρ M fun c M1 => if c = true then b ρ M1 q else q false M1
def wOr (a b : WT) : WT := fun ρ M q => a ρ M fun c M1 => if c = true then q true M1 else b ρ M1 q
def wNot (a : WT) : WT := fun ρ M q => a ρ M fun c M1 => q (!c) M1
instance {t u : TT} {a b : WT} [ia : IT K t a] [ib : IT K u b] : IT K (tAnd t u) (wAnd a b) where
  imp := fun ρ M σ H q Q o h k => ia.imp ρ M σ H _ _ o h fun c M1 H1 h1 t1 m1 => by
    cases c with
    | true => simp only [if_true] at h1 ⊢; exact ib.imp ρ M1 σ H1 _ _ (o.mv t1 m1) h1 fun b M2 H2 h2 t2 m2 => k b M2 H2 h2 (t1.trans t2) m2
    | false => simp only [Bool.false_eq_true, if_false] at h1 ⊢; exact k _ M1 H1 h1 t1 m1
instance {t u : TT} {a b : WT} [ia : IT K t a] [ib : IT K u b] : IT K (tOr t u) (wOr a b) where
  imp := fun ρ M σ H q Q o h k => ia.imp ρ M σ H _ _ o h fun c M1 H1 h1 t1 m1 => by
    cases c with
    | false => simp only [Bool.false_eq_true, if_false] at h1 ⊢; exact ib.imp ρ M1 σ H1 _ _ (o.mv t1 m1) h1 fun b M2 H2 h2 t2 m2 => k b M2 H2 h2 (t1.trans t2) m2
    | true => simp only [if_true] at h1 ⊢; exact k _ M1 H1 h1 t1 m1
instance {t : TT} {a : WT} [ia : IT K t a] : IT K (tNot t) (wNot a) where
  imp := fun ρ M σ H q Q o h k => ia.imp ρ M σ H _ _ o h fun c M1 H1 h1 t1 m1 => k _ M1 H1 h1 t1 m1
def wAndV (a b : WE) : WE := fun ρ M q => a ρ M fun x M1 => ∃ c, x = wb c ∧ if c = true then b ρ M1 q else q (wb false) M1
def wOrV (a b : WE) : WE := fun ρ M q => a ρ M fun x M1 => ∃ c, x = wb c ∧ if c = true then q (wb true) M1 else b ρ M1 q
def wNotV (a : WE) : WE := fun ρ M q => a ρ M fun x M1 => ∃ c, x = wb c ∧ q (wb (!c)) M1
instance {t u : TE} {a b : WE} [ia : IE K t a] [ib : IE K u b] : IE K (tAndV t u) (wAndV a b) where
  imp := fun ρ M σ H q Q o h k => ia.imp ρ M σ H _ _ o h fun x M1 v H1 ⟨c, e, h1⟩ t1 m1 r1 => by
    subst e
    refine ⟨c, r1.eq, ?_⟩
    cases c with
    | true => simp only [if_true] at h1 ⊢; exact ib.imp ρ M1 σ H1 _ _ (o.mv t1 m1) h1 fun b M2 v H2 h2 t2 m2 r2 => k b M2 v H2 h2 (t1.trans t2) m2 r2
    | false => simp only [Bool.false_eq_true, if_false] at h1 ⊢; exact k _ M1 _ H1 h1 t1 m1 WR.v
instance {t u : TE} {a b : WE} [ia : IE K t a] [ib : IE K u b] : IE K (tOrV t u) (wOrV a b) where
  imp := fun ρ M σ H q Q o h k => ia.imp ρ M σ H _ _ o h fun x M1 v H1 ⟨c, e, h1⟩ t1 m1 r1 => by
    subst e
    refine ⟨c, r1.eq, ?_⟩
    cases c with
    | false => simp only [Bool.false_eq_true, if_false] at h1 ⊢; exact ib.imp ρ M1 σ H1 _ _ (o.mv t1 m1) h1 fun b M2 v H2 h2 t2 m2 r2 => k b M2 v H2 h2 (t1.trans t2) m2 r2
    | true => simp only [if_true] at h1 ⊢; exact k _ M1 _ H1 h1 t1 m1 WR.v
instance {t : TE} {a : WE} [ia : IE K t a] : IE K (tNotV t) (wNotV a) where
  imp := fun ρ M σ H q Q o h k => ia.imp ρ M σ H _ _ o h fun x M1 v H1 ⟨c, e, h1⟩ t1 m1 r1 => by
    subst e
    exact ⟨c, r1.eq, k _ M1 _ H1 h1 t1 m1 WR.v⟩
def wIf (c : WT) (a b : WE) : WE := fun ρ M q => c ρ M fun c M1 => if c = true then a ρ M1 q else b ρ M1 q
def wChain (r r' : WR2) (a b c : WE) : WE := fun ρ M q => a ρ M fun x M1 => b ρ M1 fun y M2 => r x y M2 fun z M3 => ∃ k, z = wb k ∧ if k = true then c ρ M3 fun y' M4 => r' y y' M4 fun z' M5 => q z' M5 else q (wb false) M3
def wNil : WA := fun _ M q => q [] M
def wCons (a : WE) (r : WA) : WA := fun ρ M q => a ρ M fun x M1 => r ρ M1 fun xs M2 => q (x :: xs) M2
instance : IA K tNil wNil where
  imp := fun ρ M σ H q Q o h k => k [] M [] H h (TSame.refl H) o.hp WRs.nil
instance {t : TE} {u : TA} {a : WE} {b : WA} [ia : IE K t a] [ib : IA K u b] : IA K (tCons t u) (wCons a b) where
  imp := fun ρ M σ H q Q o h k => ia.imp ρ M σ H _ _ o h fun x M1 v H1 h1 t1 m1 r1 => ib.imp ρ M1 σ H1 _ _ (o.mv t1 m1) h1 fun y M2 u H2 h2 t2 m2 r2 =>
    k _ M2 _ H2 h2 (t1.trans t2) m2 (WRs.cons (r1.ts t2) r2)
def wTup (a : WA) : WE := fun ρ M q => a ρ M fun xs M1 => xs.length ≤ sizeLine ∧ q (.tup xs) M1
def wLst (a : WA) : WE := fun ρ M q => a ρ M fun xs M1 => xs.length ≤ sizeLine ∧ ∀ p, M1 p = none → q (wr p) (um M1 p (.lst xs))
instance {t : TA} {a : WA} [ia : IA K t a] : IE K (tTup t) (wTup a) where
  imp := fun ρ M σ H q Q o h k => ia.imp ρ M σ H _ _ o h fun x M1 v H1 ⟨hl, h1⟩ t1 m1 r1 => ⟨by rw [r1.length]; exact hl, fun p hp =>
    k _ M1 _ _ h1 (t1.trans (L2.Same.ts (same_upd hp))) (m1.new hp) (WR.mkT (SqT.of upd_same) (r1.ts (L2.Same.ts (same_upd hp))))⟩
instance {t : TA} {a : WA} [ia : IA K t a] : IE K (tLst t) (wLst a) where
  imp := fun ρ M σ H q Q o h k => ia.imp ρ M σ H _ _ o h fun x M1 v H1 ⟨hl, h1⟩ t1 m1 r1 => ⟨by rw [r1.length]; exact hl, fun p hp =>
    k _ _ _ _ (h1 p (m1.fresh hp)) (t1.trans (L2.Same.ts (same_upd hp))) (m1.newL hp r1) WR.v⟩
def wIxL : WR2 := fun x y M q => ∃ a l i u, x = wr a ∧ y = wi i ∧ M a = some (.lst l) ∧ atI l i = some u ∧ q u M
def wIxT : WR2 := fun x y M q => ∃ l i u, x = .tup l ∧ y = wi i ∧ atI l i = some u ∧ q u M
theorem WRs.atI {H : Hp} {l : List W} {vs : List V} {i : Int} {u : W} (r : WRs K H l vs) (e : atI l i = some u) : ∃ v, L2.atI vs i = some v ∧ WR K H u v := by
  unfold L2.atI at e ⊢
  rw [r.length]
  cases h : ixN l.length i with
  | none => rw [h] at e; cases e
  | some j => rw [h] at e; exact r.at e
instance : IR K (rIxL K) wIxL where
  imp := by
    rintro x y v u M H q Q m r1 r2 ⟨a, l, i, z, rfl, rfl, hl, e, h⟩ k
    obtain ⟨vs, hv, r⟩ := m a _ hl
    obtain ⟨v', e', r'⟩ := r.atI e
    exact ⟨a, vs, i, v', r1.eq, r2.eq, SqL.of hv, e', k _ M _ H h (TSame.refl H) m r'⟩
instance : IR K (rIxT K) wIxT where
  imp := by
    rintro x y v u M H q Q m r1 r2 ⟨l, i, z, rfl, rfl, e, h⟩ k
    obtain ⟨a, vs, rfl, hv, r⟩ := r1.tup
    obtain ⟨v', e', r'⟩ := r.atI e
    exact ⟨a, vs, i, v', rfl, r2.eq, hv, e', k _ M _ H h (TSame.refl H) m r'⟩
end
end WL
namespace WL
open PySem L2
abbrev WO := WSt → Mp → (Option Int → Mp → Prop) → Prop
abbrev WSl := W → Option Int → Option Int → Mp → WK → Prop
section
variable {K : PySem.W.Frag}
def wNoPart : WO := fun _ M q => q none M
def wPart (a : WE) : WO := fun ρ M q => a ρ M fun x M1 => ∃ i, x = wi i ∧ q (some i) M1
def wSl (r : WSl) (a : WE) (lo hi : WO) : WE := fun ρ M q => a ρ M fun x M1 => lo ρ M1 fun l M2 => hi ρ M2 fun u M3 => r x l u M3 q
def wCB (r : WCl) (a : WA) : WE := fun ρ M q => a ρ M fun xs M1 => r xs M1 q
instance {r : List V → Hp → VK → Prop} {w : WCl} {t : TA} {a : WA} [ir : IC K r w] [ia : IA K t a] : IE K (tCB r t) (wCB w a) where
  imp := fun ρ M σ H q Q o h k => ia.imp ρ M σ H _ _ o h fun x M1 v H1 h1 t1 m1 r1 => ir.imp x v M1 H1 _ _ m1 r1 h1 fun y M4 v4 H4 h4 t4 m4 r4 => k y M4 v4 H4 h4 (t1.trans t4) m4 r4
abbrev WSp := List W → Mp → WK → Prop
def spW (K : PySem.W.Frag) (p : WSp) : Sp := fun vs H Q _ => ∃ (xs : List W) (M : Mp) (q : WK), WRs K H xs vs ∧ MOk K M H ∧ p xs M q ∧ ∀ x M' v H', q x M' → TSame H H' → MOk K M' H' → WR K H' x v → Q v H'
def wCall (p : WSp) (a : WA) : WE := fun ρ M q => a ρ M fun xs M1 => p xs M1 q
instance {p : WSp} {E : XK} {t : TA} {a : WA} [ia : IA K t a] : IE K (tCall (spW K p) [] E t) (wCall p a) where
  imp := fun ρ M σ H q Q o h k => ia.imp ρ M σ H _ _ o h fun x M1 v H1 h1 t1 m1 r1 => ⟨x, M1, q, by rw [List.append_nil]; exact r1, m1, h1, fun y M4 v4 H4 h4 t4 m4 r4 => k y M4 v4 H4 h4 (t1.trans t4) m4 r4⟩
theorem okW {P : Program} {w : World} {mg : Str → Option Value} {base : Heap} {x qual : Str} {st : Stmt} {f : Addr} {fd : FuncData} {N ps : List Str} {k : Nat} {p : WSp} (F : Fun K x qual st f fd) (S : FnScope N ps (defScope st)) (len : ∀ vs M q, p vs M q → vs.length = ps.length)
    (hbody : ∀ (cdv : Value) (A : Around) (outer : List Env) (s : Shared) (H : Hp) (E : XK), Room k (A.deeper (PyProof.Rows.envOfC qual (defScope st) s.heap.objs.size f cdv)) →
      ∃ t w', PSs (cxOf CX0 P w K mg base N qual (defScope st) f cdv A outer s H E).nox (defBody st) t ∧ IS K t w' ∧ ∀ vs M q, p vs M q → w' { nx := fun _ M' => q wn M', rt := q } (vs.map some ++ List.replicate (N.length - vs.length) none) M) :
    FnOk P w K mg base CX0 (k + 1) f fd ps (spW K p) := by
  refine Fun.ok F S (fun vs H Q E ⟨xs, M, q, r, m, h, _⟩ => by rw [r.length]; exact len xs M q h) fun cdv A outer s H vs Q E hr h => ?_
  obtain ⟨t, w', h1, h2, h3⟩ := hbody cdv A outer s H E hr
  obtain ⟨xs, M, q, r, m, h, k'⟩ := h
  refine ⟨t, h1, h2.imp _ M _ H _ _ ⟨⟨?_, fun i x e => ?_⟩, m⟩ (h3 xs M q h) ⟨fun ρ' M' σ' H' h ts o => k' _ M' _ H' h ts o.hp WR.v, fun x M' v H' h ts m' r' => k' x M' v H' h ts m' r', fun _ _ _ _ h => h.elim, fun _ _ _ _ h => h.elim⟩⟩
  · have := r.length
    simp [L2.start, this]
  · have hl := r.length
    unfold L2.start
    by_cases hi : i < xs.length
    · rw [List.getElem?_append_left (by simpa using hi), List.getElem?_map] at e
      cases ex : xs[i]? with
      | none => rw [ex] at e; cases e
      | some y =>
        rw [ex] at e; cases e
        obtain ⟨v, hv, rv⟩ := r.at ex
        refine ⟨v, ?_, rv⟩
        rw [List.getElem?_append_left (by simp; omega), List.getElem?_map, hv]; rfl
    · rw [List.getElem?_append_right (by simpa using hi), List.getElem?_replicate] at e
      split at e <;> cases e
def rLen (K : PySem.W.Frag) : List V → Hp → VK → Prop := fun xs H Q => ∃ p ys, xs = [.ref p] ∧ (SqL K H p ys ∨ SqT K H p ys) ∧ Q (.int ys.length) H
theorem call_lenW {X : Cx} : CallR X (.builtin "len") (rLen X.K) := call_len_seq
def wLen : WCl := fun xs M q => (∃ a l, xs = [wr a] ∧ M a = some (.lst l) ∧ q (wi l.length) M) ∨ ∃ l, xs = [.tup l] ∧ q (wi l.length) M
theorem WRs.one {H : Hp} {x : W} {vs : List V} (h : WRs K H [x] vs) : ∃ v, vs = [v] ∧ WR K H x v := by
  simp only [WRs] at h
  obtain ⟨v, t, rfl, h1, rfl⟩ := h
  exact ⟨v, rfl, h1⟩
theorem WRs.two {H : Hp} {x y : W} {vs : List V} (h : WRs K H [x, y] vs) : ∃ v u, vs = [v, u] ∧ WR K H x v ∧ WR K H y u := by
  simp only [WRs] at h
  obtain ⟨v, t, rfl, h1, u, t', rfl, h2, rfl⟩ := h
  exact ⟨v, u, rfl, h1, h2⟩
instance : IC K (rLen K) wLen where
  imp := by
    rintro xs v M H q Q m r1 h k
    rcases h with ⟨a, l, rfl, hl, h⟩ | ⟨l, rfl, h⟩
    · obtain ⟨v, rfl, r⟩ := r1.one
      cases r.eq
      obtain ⟨vs, hv, rr⟩ := m a _ hl
      refine ⟨a, vs, rfl, .inl (SqL.of hv), k _ M _ H h (TSame.refl H) m ?_⟩
      rw [rr.length]; exact WR.v
    · obtain ⟨v, rfl, r⟩ := r1.one
      obtain ⟨a, vs, rfl, hv, rr⟩ := r.tup
      refine ⟨a, vs, rfl, .inr hv, k _ M _ H h (TSame.refl H) m ?_⟩
      rw [rr.length]; exact WR.v
def rAbs : List V → Hp → VK → Prop := fun xs H Q => ∃ i, xs = [.int i] ∧ Q (.int (if i < 0 then -i else i)) H
theorem call_absW {X : Cx} : CallR X (.builtin "abs") rAbs := call_abs
def wAbs : WCl := fun xs M q => ∃ i, xs = [wi i] ∧ q (wi (if i < 0 then -i else i)) M
instance : IC K rAbs wAbs where
  imp := by
    rintro xs v M H q Q m r1 ⟨i, rfl, h⟩ k
    obtain ⟨v, rfl, r⟩ := r1.one
    cases r.eq
    exact ⟨i, rfl, k _ M _ H h (TSame.refl H) m WR.v⟩
def rMax2 : List V → Hp → VK → Prop := fun xs H Q => ∃ i j, xs = [.int i, .int j] ∧ Q (.int (if j > i then j else i)) H
theorem call_max2W {X : Cx} (hc : X.calm = true) : CallR X (.builtin "max") rMax2 := call_max2 hc
def wMax2 : WCl := fun xs M q => ∃ i j, xs = [wi i, wi j] ∧ q (wi (if j > i then j else i)) M
instance : IC K rMax2 wMax2 where
  imp := by
    rintro xs v M H q Q m r1 ⟨i, j, rfl, h⟩ k
    obtain ⟨v, u, rfl, r, r'⟩ := r1.two
    cases r.eq; cases r'.eq
    exact ⟨i, j, rfl, k _ M _ H h (TSame.refl H) m WR.v⟩
def rListOf (K : PySem.W.Frag) : List V → Hp → VK → Prop := fun xs H Q => ∃ p ys, xs = [.ref p] ∧ (SqL K H p ys ∨ SqT K H p ys) ∧ ∀ l, H l = none → Q (.ref l) (upd H l (.lst ys))
theorem call_listW {X : Cx} : CallR X (.type "list") (rListOf X.K) := call_list_of
def rTupleOf (K : PySem.W.Frag) : List V → Hp → VK → Prop := fun xs H Q => ∃ p ys, xs = [.ref p] ∧ ((SqL K H p ys ∧ ∀ l, H l = none → Q (.ref l) (upd H l (.tup ys))) ∨ (SqT K H p ys ∧ Q (.ref p) H))
theorem call_tupleW {X : Cx} : CallR X (.type "tuple") (rTupleOf X.K) := call_tuple_of
def wTupleOf : WCl := fun xs M q => ∃ l, ((∃ a, xs = [wr a] ∧ M a = some (.lst l)) ∨ xs = [.tup l]) ∧ q (.tup l) M
instance : IC K (rTupleOf K) wTupleOf where
  imp := by
    rintro xs v M H q Q m r1 ⟨l, hx, h⟩ k
    rcases hx with ⟨a, rfl, hl⟩ | rfl
    · obtain ⟨v, rfl, r⟩ := r1.one
      cases r.eq
      obtain ⟨vs, hv, rr⟩ := m a _ hl
      exact ⟨a, vs, rfl, .inl ⟨SqL.of hv, fun p hp => k _ M _ _ h (L2.Same.ts (same_upd hp)) (m.new hp) (WR.mkT (SqT.of upd_same) (rr.ts (L2.Same.ts (same_upd hp))))⟩⟩
    · obtain ⟨v, rfl, r⟩ := r1.one
      obtain ⟨a, vs, rfl, hv, rr⟩ := r.tup
      exact ⟨a, vs, rfl, .inr ⟨hv, k _ M _ H h (TSame.refl H) m (WR.mkT hv rr)⟩⟩
theorem WRs.ints {H : Hp} : ∀ {ns : List Int} {vs : List V}, WRs K H (ns.map wi) vs → vs = ns.map V.int
  | [], vs, h => by simpa only [List.map_nil, WRs] using h
  | n :: r, vs, h => by
    simp only [List.map_cons, WRs] at h
    obtain ⟨v, t, rfl, h1, h2⟩ := h
    rw [WRs.ints h2, h1.eq]; rfl
theorem WRs.ofInts {H : Hp} : ∀ (ns : List Int), WRs K H (ns.map wi) (ns.map V.int)
  | [] => WRs.nil
  | n :: r => WRs.cons WR.v (WRs.ofInts r)
def tyW (M : Mp) : W → Option Value
  | .v (.int _) => some (.type "int")
  | .v (.bl _) => some (.type "bool")
  | .v (.str _) => some (.type "str")
  | .v .non => some (.type "NoneType")
  | .tup _ => some (.type "tuple")
  | .v (.ref a) => match M a with
    | some (.lst _) => some (.type "list")
    | _ => none
  | _ => none
def wIsX (K : PySem.W.Frag) : WCl := fun xs M q => ∃ x T t b, xs = [x, .v (.ty T)] ∧ tyW M x = some t ∧ PySem.W.kitOne K t (.type T) = some b ∧ q (wb b) M
theorem tyX_of {H : Hp} {M : Mp} {x : W} {v : V} {t : Value} (m : MOk K M H) (r : WR K H x v) (e : tyW M x = some t) : TyX K H v t := by
  cases x with
  | tup l =>
    obtain ⟨a, vs, rfl, hv, rr⟩ := r.tup
    cases e
    exact .tup hv
  | v y =>
    cases r.eq
    cases v with
    | int i => cases e; exact .of (.int i)
    | bl i => cases e; exact .of (.bl i)
    | str i => cases e; exact .of (.str i)
    | non => cases e; exact .of .non
    | ref a =>
      simp only [tyW] at e
      cases ha : M a with
      | none => rw [ha] at e; cases e
      | some o =>
        rw [ha] at e
        cases o with
        | lst l => cases e; obtain ⟨vs, hv, _⟩ := m a _ ha; exact .lst (SqL.of hv)
        | dK l => cases e
        | ins C d l => cases e
        | exc C => cases e
        | fz o l l2 => cases e
    | byt _ => cases e
    | flt _ => cases e
    | ty _ => cases e
instance : IC K (rIsX K) (wIsX K) where
  imp := by
    rintro xs v M H q Q m r1 ⟨x, T, t, b, rfl, ht, e, h⟩ k
    obtain ⟨v, u, rfl, r, r'⟩ := r1.two
    cases r'.eq
    exact ⟨v, T, t, b, rfl, tyX_of m r ht, e, k _ M _ H h (TSame.refl H) m WR.v⟩
end
end WL
namespace WL
open PySem L2
section
variable {K : PySem.W.Frag}
abbrev WM := W → List W → Mp → WK → Prop
class IM (K : PySem.W.Frag) (r : V → List V → Hp → VK → Prop) (w : outParam WM) : Prop where
  imp : ∀ (x : W) (v : V) (ys : List W) (us : List V) (M : Mp) (H : Hp) (q : WK) (Q : VK), MOk K M H → WR K H x v → WRs K H ys us → w x ys M q → (∀ x M' v H', q x M' → TSame H H' → MOk K M' H' → WR K H' x v → Q v H') → r v us H Q
def IsL (M : Mp) (x : W) : Prop := ∃ a l, x = wr a ∧ M a = some (.lst l)
theorem IsL.ty {M : Mp} {H : Hp} {x : W} {v : V} (m : MOk K M H) (r : WR K H x v) (h : IsL M x) : tyV K "list" v H := by
  obtain ⟨a, l, rfl, hl⟩ := h
  cases r.eq
  obtain ⟨vs, hv, _⟩ := m a _ hl
  exact .inl ⟨rfl, vs, SqL.of hv⟩
def wBM (r : WM) (a : WE) (b : WA) : WE := fun ρ M q => a ρ M fun x M1 => IsL M1 x ∧ b ρ M1 fun xs M2 => r x xs M2 q
instance {r : V → List V → Hp → VK → Prop} {w : WM} {t : TE} {u : TA} {a : WE} {b : WA} [ir : IM K r w] [ia : IE K t a] [ib : IA K u b] : IE K (tBM K "list" r t u) (wBM w a b) where
  imp := fun ρ M σ H q Q o h k => ia.imp ρ M σ H _ _ o h fun x M1 v H1 ⟨hl, h1⟩ t1 m1 r1 => ⟨hl.ty m1 r1, ib.imp ρ M1 σ H1 _ _ (o.mv t1 m1) h1 fun y M2 u H2 h2 t2 m2 r2 =>
    ir.imp x v y u M2 H2 _ _ m2 (r1.ts t2) r2 h2 fun z M3 v3 H3 h3 t3 m3 r3 => k z M3 v3 H3 h3 ((t1.trans t2).trans t3) m3 r3⟩
def wAppend : WM := fun x ys M q => ∃ a l y, x = wr a ∧ ys = [y] ∧ M a = some (.lst l) ∧ l.length < sizeLine ∧ q wn (um M a (.lst (l ++ [y])))
instance : IM K rAppend wAppend where
  imp := by
    rintro x v ys us M H q Q m r1 r2 ⟨a, l, y, rfl, rfl, hl, hn, h⟩ k
    cases r1.eq
    obtain ⟨u, rfl, r⟩ := r2.one
    obtain ⟨vs, hv, rr⟩ := m a _ hl
    exact ⟨a, vs, u, rfl, rfl, hv, by rw [rr.length]; exact hn, k _ _ _ _ h (ts_lst hv) (m.putL hv (rr.snoc r)) WR.v⟩
def wExtend : WM := fun x ys M q => ∃ a b l l', x = wr a ∧ ys = [wr b] ∧ M a = some (.lst l) ∧ M b = some (.lst l') ∧ l.length + l'.length ≤ sizeLine ∧ q wn (um M a (.lst (l ++ l')))
instance : IM K rExtend wExtend where
  imp := by
    rintro x v ys us M H q Q m r1 r2 ⟨a, b, l, l', rfl, rfl, hl, hl', hn, h⟩ k
    cases r1.eq
    obtain ⟨u, rfl, r⟩ := r2.one
    cases r.eq
    obtain ⟨vs, hv, rr⟩ := m a _ hl
    obtain ⟨vs', hv', rr'⟩ := m b _ hl'
    exact ⟨a, b, vs, vs', rfl, rfl, hv, hv', by rw [rr.length, rr'.length]; exact hn, k _ _ _ _ h (ts_lst hv) (m.putL hv (rr.append rr')) WR.v⟩
def wTru (M : Mp) : W → Bool → Prop
  | .v .non, k => k = false
  | .v (.bl b), k => k = b
  | .v (.int i), k => k = (i != 0)
  | .v (.str y), k => y.length ≤ sizeLine ∧ k = ((y.length : Int) != 0)
  | .v (.ref a), k => (∃ l, M a = some (.lst l) ∧ k = !l.isEmpty) ∨ (∃ l, M a = some (.dK l) ∧ k = !l.isEmpty)
  | .tup l, k => k = !l.isEmpty
  | _, _ => False
def wTruth (a : WE) : WT := fun ρ M q => a ρ M fun x M1 => ∃ k, wTru M1 x k ∧ q k M1
def keyW : Key → W
  | .inl k => wi k
  | .inr x => ws x
def valW (kvs : List (Key × W)) (k : Key) : Option W := (kvs.find? fun kv => decide (kv.1 = k)).map (·.2)
def putW (kvs : List (Key × W)) (k : Key) (v : W) : List (Key × W) :=
  if (kvs.any fun kv => decide (kv.1 = k)) = true then kvs.map (fun kv => if kv.1 = k then (kv.1, v) else kv) else kvs ++ [(k, v)]
theorem KR.keys {H : Hp} : ∀ {l : List (Key × W)} {vs : List (Key × V)}, KR K H l vs → vs.map (·.1) = l.map (·.1)
  | _, _, .nil => rfl
  | _, _, .cons ⟨e, r⟩ t => by rw [List.map_cons, List.map_cons, KR.keys t, e]
theorem KR.length {H : Hp} {κ : Type} : ∀ {l : List (κ × W)} {vs : List (κ × V)}, KR K H l vs → vs.length = l.length
  | _, _, .nil => rfl
  | _, _, .cons _ t => by rw [List.length_cons, List.length_cons, KR.length t]
theorem KR.val {H : Hp} (k : Key) : ∀ {l : List (Key × W)} {vs : List (Key × V)}, KR K H l vs → (valW l k = none ∧ valV vs k = none) ∨ ∃ x v, valW l k = some x ∧ valV vs k = some v ∧ WR K H x v
  | _, _, .nil => .inl ⟨rfl, rfl⟩
  | (k1, x) :: l, (k2, v) :: vs, .cons ⟨e, r⟩ t => by
    have e : k1 = k2 := e
    subst e
    unfold valW valV
    rw [List.find?_cons, List.find?_cons]
    by_cases hk : k1 = k
    · simp only [hk, decide_true]
      exact .inr ⟨x, v, rfl, rfl, r⟩
    · simp only [hk, decide_false]
      exact KR.val k t
theorem KR.map {H : Hp} {k : Key} {x : W} {v : V} (rx : WR K H x v) : ∀ {l : List (Key × W)} {vs : List (Key × V)}, KR K H l vs → KR K H (l.map (fun kv => if kv.1 = k then (kv.1, x) else kv)) (vs.map (fun kv => if kv.1 = k then (kv.1, v) else kv))
  | _, _, .nil => .nil
  | (k1, y) :: l, (k2, u) :: vs, .cons ⟨e, r⟩ t => by
    have e : k1 = k2 := e
    subst e
    rw [List.map_cons, List.map_cons]
    refine .cons ?_ (KR.map rx t)
    by_cases hk : k1 = k
    · rw [if_pos hk, if_pos hk]; exact ⟨rfl, rx⟩
    · rw [if_neg hk, if_neg hk]; exact ⟨rfl, r⟩
theorem KR.append {H : Hp} {k : Key} {x : W} {v : V} (rx : WR K H x v) : ∀ {l : List (Key × W)} {vs : List (Key × V)}, KR K H l vs → KR K H (l ++ [(k, x)]) (vs ++ [(k, v)])
  | _, _, .nil => .cons ⟨rfl, rx⟩ .nil
  | _, _, .cons r t => .cons r (KR.append rx t)
theorem KR.put {H : Hp} {k : Key} {x : W} {v : V} (rx : WR K H x v) {l : List (Key × W)} {vs : List (Key × V)} (r : KR K H l vs) : KR K H (putW l k x) (putK vs k v) := by
  have ek : (l.any fun kv => decide (kv.1 = k)) = vs.any fun kv => decide (kv.1 = k) := by
    have := r.keys
    have e1 : (l.any fun kv => decide (kv.1 = k)) = (l.map (·.1)).any fun y => decide (y = k) := by rw [List.any_map]; rfl
    have e2 : (vs.any fun kv => decide (kv.1 = k)) = (vs.map (·.1)).any fun y => decide (y = k) := by rw [List.any_map]; rfl
    rw [e1, e2, this]
  unfold putW putK
  rw [ek]
  split
  · exact KR.map rx r
  · exact KR.append rx r
theorem keyW_eq {H : Hp} {k : Key} {v : V} (r : WR K H (keyW k) v) : v = kV k := by
  cases k <;> exact r.eq
def wDNew : WE := fun _ M q => ∀ p, M p = none → q (wr p) (um M p (.dK []))
instance : IE K tDNewK wDNew where
  imp := fun ρ M σ H q Q o h k => fun p hp => k _ _ _ _ (h p (o.hp.fresh hp)) (L2.Same.ts (same_upd hp)) (o.hp.put (L2.Same.ts (same_upd hp)) ⟨[], upd_same, .nil⟩) WR.v
def wDGet (a b : WE) : WE := fun ρ M q => a ρ M fun x M1 => b ρ M1 fun y M2 => ∃ p kvs k z, x = wr p ∧ M2 p = some (.dK kvs) ∧ y = keyW k ∧ valW kvs k = some z ∧ q z M2
instance {t u : TE} {a b : WE} [ia : IE K t a] [ib : IE K u b] : IE K (tDGet t u) (wDGet a b) where
  imp := fun ρ M σ H q Q o h k => ia.imp ρ M σ H _ _ o h fun x M1 v H1 h1 t1 m1 r1 => ib.imp ρ M1 σ H1 _ _ (o.mv t1 m1) h1 fun y M2 u H2 ⟨p, kvs, ky, z, e1, e2, e3, e4, h2⟩ t2 m2 r2 => by
    subst e1 e3
    obtain ⟨ks, hk, rr⟩ := m2 p _ e2
    rcases rr.val ky with ⟨n1, _⟩ | ⟨x', v', n1, n2, rx⟩
    · rw [n1] at e4; cases e4
    · rw [n1] at e4; cases e4
      refine ⟨p, v', r1.eq, ?_, k _ M2 _ H2 h2 (t1.trans t2) m2 rx⟩
      rw [keyW_eq r2, ← n2]
      exact DGet.k hk
def wDGet2 (a b c : WE) : WE := fun ρ M q => a ρ M fun x M1 => ∃ p, x = wr p ∧ (∃ kvs, M1 p = some (.dK kvs)) ∧ b ρ M1 fun y M2 => c ρ M2 fun z M3 => ∃ kvs k, M3 p = some (.dK kvs) ∧ y = keyW k ∧ q ((valW kvs k).getD z) M3
instance {t u s : TE} {a b c : WE} [ia : IE K t a] [ib : IE K u b] [ic : IE K s c] : IE K (tDGet2 t u s) (wDGet2 a b c) where
  imp := fun ρ M σ H q Q o h k => ia.imp ρ M σ H _ _ o h fun x M1 v H1 ⟨p, e, ⟨kvs, hp⟩, h1⟩ t1 m1 r1 => by
    subst e
    obtain ⟨ks, hk, rr⟩ := m1 p _ hp
    refine ⟨p, r1.eq, .inl ⟨ks, .inl hk⟩, ib.imp ρ M1 σ H1 _ _ (o.mv t1 m1) h1 fun y M2 u H2 h2 t2 m2 r2 => ic.imp ρ M2 σ H2 _ _ (o.mv (t1.trans t2) m2) h2 fun z M3 u3 H3 ⟨kvs, ky, e2, e3, h3⟩ t3 m3 r3 => ?_⟩
    subst e3
    obtain ⟨ks, hk, rr⟩ := m3 p _ e2
    refine ⟨valV ks ky, by rw [keyW_eq (r2.ts t3)]; exact DGet.k hk, k _ M3 _ H3 h3 ((t1.trans t2).trans t3) m3 ?_⟩
    rcases rr.val ky with ⟨n1, n2⟩ | ⟨x', v', n1, n2, rx⟩
    · rw [n1, n2]; exact r3
    · rw [n1, n2]; exact rx
end
end WL
namespace WL
open PySem L2
section
variable {K : PySem.W.Frag}
def vName (i : Nat) : WG := fun x ρ M q => q (ρ.set i (some x)) M
instance {i : Nat} : IG K (gName i) (vName i) where
  imp := fun x v ρ M σ H q Q o r h k => k _ M _ H h (TSame.refl H) ⟨o.env.set i r, o.hp⟩
def vNil : WGs := fun xs ρ M q => xs = [] ∧ q ρ M
def vCons (a : WG) (b : WGs) : WGs := fun xs ρ M q => ∃ x r, xs = x :: r ∧ a x ρ M fun ρ' M' => b r ρ' M' q
instance : IGs K gNil vNil where
  imp := fun x v ρ M σ H q Q o r h k => by
    obtain ⟨rfl, h⟩ := h
    exact ⟨by simpa only [WRs] using r, k _ M _ H h (TSame.refl H) o⟩
instance {t : TG} {u : TGs} {a : WG} {b : WGs} [ia : IG K t a] [ib : IGs K u b] : IGs K (gCons t u) (vCons a b) where
  imp := fun x v ρ M σ H q Q o r h k => by
    obtain ⟨y, rest, rfl, h⟩ := h
    simp only [WRs] at r
    obtain ⟨v1, t1, rfl, r1, r2⟩ := r
    exact ⟨v1, t1, rfl, ia.imp y v1 ρ M σ H _ _ o r1 h fun ρ' M' σ' H' h' ts o' => ib.imp rest t1 ρ' M' σ' H' _ _ o' (r2.ts ts) h' fun ρ2 M2 σ2 H2 h2 ts2 o2 => k ρ2 M2 σ2 H2 h2 (ts.trans ts2) o2⟩
def vTup (n : Nat) (a : WGs) : WG := fun x ρ M q => ∃ l, x = .tup l ∧ l.length = n ∧ a l ρ M q
instance {n : Nat} {t : TGs} {a : WGs} [ia : IGs K t a] : IG K (gTup K n t) (vTup n a) where
  imp := fun x v ρ M σ H q Q o r h k => by
    obtain ⟨l, rfl, hl, h⟩ := h
    obtain ⟨a', vs, rfl, hv, rr⟩ := r.tup
    exact ⟨a', vs, rfl, hv, by rw [rr.length]; exact hl, ia.imp l vs ρ M σ H _ _ o rr h k⟩
abbrev WSet := W → W → W → Mp → (Mp → Prop) → Prop
class ISet (K : PySem.W.Frag) (t : TSet) (w : outParam WSet) : Prop where
  imp : ∀ (x y z : W) (v u r : V) (M : Mp) (H : Hp) (q : Mp → Prop) (Q : Hp → Prop), MOk K M H → WR K H x v → WR K H y u → WR K H z r → w x y z M q → (∀ M' H', q M' → TSame H H' → MOk K M' H' → Q H') → t v u r H Q
def wSetL : WSet := fun x y z M q => ∃ a l k j, x = wr a ∧ y = wi k ∧ M a = some (.lst l) ∧ ixN l.length k = some j ∧ q (um M a (.lst (l.set j z)))
instance : ISet K rSetL wSetL where
  imp := by
    rintro x y z v u r M H q Q m r1 r2 r3 ⟨a, l, i, j, rfl, rfl, hl, e, h⟩ k
    obtain ⟨vs, hv, rr⟩ := m a _ hl
    exact ⟨a, vs, i, j, r1.eq, r2.eq, hv, by rw [rr.length]; exact e, k _ _ h (ts_lst hv) (m.putL hv (rr.set j r3))⟩
def vSub (a b : WE) (s : WSet) : WG := fun x ρ M q => a ρ M fun o M1 => b ρ M1 fun i M2 => s o i x M2 fun M3 => q ρ M3
instance {t u : TE} {s : TSet} {a b : WE} {w : WSet} [ia : IE K t a] [ib : IE K u b] [is : ISet K s w] : IG K (gSub t u s) (vSub a b w) where
  imp := fun x v ρ M σ H q Q o r h k => ia.imp ρ M σ H _ _ o h fun y M1 v1 H1 h1 t1 m1 r1 => ib.imp ρ M1 σ H1 _ _ (o.mv t1 m1) h1 fun z M2 v2 H2 h2 t2 m2 r2 =>
    is.imp y z x v1 v2 v M2 H2 _ _ m2 (r1.ts t2) r2 (r.ts (t1.trans t2)) h2 fun M3 H3 h3 t3 m3 => k ρ M3 σ H3 h3 ((t1.trans t2).trans t3) (o.mv ((t1.trans t2).trans t3) m3)
def sNext : WS := fun D ρ M => D.nx ρ M
instance : IS K tNext sNext where
  imp := fun ρ M σ H D' D o h e => e.nx ρ M σ H h (TSame.refl H) o
def sSeq (a b : WS) : WS := fun D ρ M => a { D with nx := b D } ρ M
instance {t u : TS} {a b : WS} [ia : IS K t a] [ib : IS K u b] : IS K (tSeq t u) (sSeq a b) where
  imp := fun ρ M σ H D' D o h e => ia.imp ρ M σ H _ _ o h ⟨fun ρ' M' σ' H' h' ts o' => ib.imp ρ' M' σ' H' D' D o' h' (e.mv ts), e.rt, e.bk, e.ct⟩
def sBreak : WS := fun D ρ M => D.bk ρ M
def sCont : WS := fun D ρ M => D.ct ρ M
def sDrop (a : WE) : WS := fun D ρ M => a ρ M fun _ M1 => D.nx ρ M1
instance {t : TE} {a : WE} [ia : IE K t a] : IS K (tDrop t) (sDrop a) where
  imp := fun ρ M σ H D' D o h e => ia.imp ρ M σ H _ _ o h fun x M1 v H1 h1 t1 m1 r1 => e.nx ρ M1 σ H1 h1 t1 (o.mv t1 m1)
def sRet (a : WE) : WS := fun D ρ M => a ρ M D.rt
instance {t : TE} {a : WE} [ia : IE K t a] : IS K (tRet t) (sRet a) where
  imp := fun ρ M σ H D' D o h e => ia.imp ρ M σ H _ _ o h fun x M1 v H1 h1 t1 m1 r1 => e.rt x M1 v H1 h1 t1 m1 r1
def sRetN : WS := fun D _ M => D.rt wn M
def sIf (c : WT) (a b : WS) : WS := fun D ρ M => c ρ M fun k M1 => if k = true then a D ρ M1 else b D ρ M1
instance {tc : TT} {t u : TS} {c : WT} {a b : WS} [ic : IT K tc c] [ia : IS K t a] [ib : IS K u b] : IS K (tIfS tc t u) (sIf c a b) where
  imp := fun ρ M σ H D' D o h e => ic.imp ρ M σ H _ _ o h fun k M1 H1 h1 t1 m1 => by
    cases k with
    | true => simp only [if_true] at h1 ⊢; exact ia.imp ρ M1 σ H1 D' D (o.mv t1 m1) h1 (e.mv t1)
    | false => simp only [Bool.false_eq_true, if_false] at h1 ⊢; exact ib.imp ρ M1 σ H1 D' D (o.mv t1 m1) h1 (e.mv t1)
def sAsg (a : WE) (g : WG) : WS := fun D ρ M => a ρ M fun x M1 => g x ρ M1 D.nx
instance {t : TE} {g : TG} {a : WE} {w : WG} [ia : IE K t a] [ig : IG K g w] : IS K (tAsg t g) (sAsg a w) where
  imp := fun ρ M σ H D' D o h e => ia.imp ρ M σ H _ _ o h fun x M1 v H1 h1 t1 m1 r1 => ig.imp x v ρ M1 σ H1 _ _ (o.mv t1 m1) r1 h1 fun ρ2 M2 σ2 H2 h2 t2 o2 => e.nx ρ2 M2 σ2 H2 h2 (t1.trans t2) o2
def sPar (i j : Nat) (a : WA) : WS := fun D ρ M => a ρ M fun xs M1 => ∃ x y, xs = [x, y] ∧ D.nx ((ρ.set i (some x)).set j (some y)) M1
def sAug (i : Nat) (a : WE) (r : WR2) : WS := fun D ρ M => ∃ x, ρ[i]? = some (some x) ∧ a ρ M fun y M1 => r x y M1 fun z M2 => D.nx (ρ.set i (some z)) M2
def sAugS (a b c : WE) (g : WR2) (r : WR2) (s : WSet) : WS := fun D ρ M => a ρ M fun o M1 => b ρ M1 fun i M2 => g o i M2 fun x M3 => c ρ M3 fun y M4 => r x y M4 fun z M5 => s o i z M5 fun M6 => D.nx ρ M6
def sDPutW (a b c : WE) : WS := fun D ρ M => c ρ M fun z M1 => a ρ M1 fun x M2 => b ρ M2 fun y M3 => ∃ p kvs k, x = wr p ∧ M3 p = some (.dK kvs) ∧ y = keyW k ∧ kvs.length < sizeLine ∧ D.nx ρ (um M3 p (.dK (putW kvs k z)))
instance {t u s : TE} {a b c : WE} [ia : IE K t a] [ib : IE K u b] [ic : IE K s c] : IS K (sDPut t u s) (sDPutW a b c) where
  imp := fun ρ M σ H D' D o h e => ic.imp ρ M σ H _ _ o h fun z M1 v1 H1 h1 t1 m1 r1 => ia.imp ρ M1 σ H1 _ _ (o.mv t1 m1) h1 fun x M2 v2 H2 h2 t2 m2 r2 =>
    ib.imp ρ M2 σ H2 _ _ (o.mv (t1.trans t2) m2) h2 fun y M3 v3 H3 ⟨p, kvs, k, e1, e2, e3, hl, h3⟩ t3 m3 r3 => by
      subst e1 e3
      obtain ⟨ks, hk, rr⟩ := m3 p _ e2
      have ts := ts_dK (u := .dK (putK ks k v1)) hk
      refine ⟨p, _, r2.eq, ?_, e.nx ρ _ σ (upd H3 p (.dK (putK ks k v1))) h3 (((t1.trans t2).trans t3).trans ts) (o.mv (((t1.trans t2).trans t3).trans ts) (m3.putD hk (KR.put (r1.ts (t2.trans t3)) rr)))⟩
      rw [keyW_eq r3]
      exact DPut.k hk (by rw [rr.length]; exact hl)
def ItOk (K : PySem.W.Frag) (H1 : Hp) (J : It) (xs : List W) (keep : Mp → Prop) : Prop :=
  ∀ i M H, TSame H1 H → MOk K M H → keep M → (xs.length = i → J.stop i H) ∧ (i < xs.length → J.go i H) ∧ ∀ v H', i < xs.length → J.yld i H v H' → TSame H H' ∧ MOk K M H' ∧ ∃ x, xs[i]? = some x ∧ WR K H' x v
class II (K : PySem.W.Frag) (t : TI) (w : outParam WI) : Prop where
  imp : ∀ (ρ : WSt) (M : Mp) (σ : St) (H : Hp) (q : List W → (Mp → Prop) → Mp → Prop) (R : It → Hp → Prop), Ok K ρ M σ H → w ρ M q → (∀ xs keep J M' H', q xs keep M' → TSame H H' → MOk K M' H' → ItOk K H' J xs keep → R J H') → t σ H R
def jList (a : WE) : WI := fun ρ M q => a ρ M fun x M1 => ∃ p l, x = wr p ∧ M1 p = some (.lst l) ∧ q l (fun M' => M' p = some (.lst l)) M1
def jTup (a : WE) : WI := fun ρ M q => a ρ M fun x M1 => ∃ l, x = .tup l ∧ q l (fun _ => True) M1
def rangeW (lo : Int) (n : Nat) : List W := (List.range n).map fun (k : Nat) => wi (lo + (k : Int))
def jRng1 (a : WA) : WI := fun ρ M q => a ρ M fun xs M1 => ∃ j : Int, xs = [wi j] ∧ -(2 ^ 62) ≤ j ∧ j < 2 ^ 62 ∧ q (rangeW 0 j.toNat) (fun _ => True) M1
def jRng2 (a : WA) : WI := fun ρ M q => a ρ M fun xs M1 => ∃ i j : Int, xs = [wi i, wi j] ∧ (-(2 ^ 62) ≤ i ∧ i < 2 ^ 62 ∧ -(2 ^ 62) ≤ j ∧ j < 2 ^ 62) ∧ q (rangeW i (j - i).toNat) (fun _ => True) M1
theorem itok_list {H1 : Hp} {p : Addr} {l : List W} : ItOk K H1 (Itl K p) l (fun M' => M' p = some (.lst l)) := by
  intro i M H ts m hk
  obtain ⟨vs, hv, rr⟩ := m p _ hk
  have hl := rr.length
  refine ⟨fun h => ⟨vs, SqL.of hv, by omega⟩, fun h => ⟨vs, vs[i]'(by omega), SqL.of hv, by simp⟩, fun v H' hi y => ?_⟩
  obtain ⟨rfl, y⟩ := y
  have := y vs (SqL.of hv)
  obtain ⟨d, hd, r⟩ := rr.back this
  exact ⟨TSame.refl _, m, d, hd, r⟩
theorem itok_tup {H1 : Hp} {p : Addr} {l : List W} {vs : List V} (hv : SqT K H1 p vs) (rr : WRs K H1 l vs) : ItOk K H1 (Itt K p) l (fun _ => True) := by
  intro i M H ts m _
  have hv' := Un.sqT ts hv
  have rr' := rr.ts ts
  have hl := rr'.length
  refine ⟨fun h => ⟨vs, hv', by omega⟩, fun h => ⟨vs, vs[i]'(by omega), hv', by simp⟩, fun v H' hi y => ?_⟩
  obtain ⟨rfl, y⟩ := y
  have := y vs hv'
  obtain ⟨d, hd, r⟩ := rr'.back this
  exact ⟨TSame.refl _, m, d, hd, r⟩
theorem itok_rng {H1 : Hp} {lo : Int} {n : Nat} : ItOk K H1 (Itr lo n) (rangeW lo n) (fun _ => True) := by
  intro i M H ts m _
  have hl : (rangeW lo n).length = n := by simp [rangeW]
  rw [hl]
  refine ⟨fun h => Nat.le_of_eq h, fun h => h, fun v H' hi y => ?_⟩
  obtain ⟨rfl, y⟩ := y
  refine ⟨TSame.refl _, m, wi (lo + i), ?_, by rw [y]; exact WR.v⟩
  simp [rangeW, hi]
instance {t : TE} {a : WE} [ia : IE K t a] : II K (iList K t) (jList a) where
  imp := fun ρ M σ H q R o h k => ia.imp ρ M σ H _ _ o h fun x M1 v H1 ⟨p, l, e, hp, h1⟩ t1 m1 r1 => by
    subst e
    obtain ⟨vs, hv, rr⟩ := m1 p _ hp
    exact ⟨p, r1.eq, ⟨vs, SqL.of hv⟩, k l _ _ M1 H1 h1 t1 m1 itok_list⟩
instance {t : TE} {a : WE} [ia : IE K t a] : II K (iTup K t) (jTup a) where
  imp := fun ρ M σ H q R o h k => ia.imp ρ M σ H _ _ o h fun x M1 v H1 ⟨l, e, h1⟩ t1 m1 r1 => by
    subst e
    obtain ⟨p, vs, rfl, hv, rr⟩ := r1.tup
    exact ⟨p, rfl, ⟨vs, hv⟩, k l _ _ M1 H1 h1 t1 m1 (itok_tup hv rr)⟩
instance {t : TA} {a : WA} [ia : IA K t a] : II K (iRng1 t) (jRng1 a) where
  imp := fun ρ M σ H q R o h k => ia.imp ρ M σ H _ _ o h fun xs M1 v H1 ⟨j, e, h0, h1, h2⟩ t1 m1 r1 => by
    subst e
    obtain ⟨v, rfl, r⟩ := r1.one
    cases r.eq
    exact ⟨j, rfl, h0, h1, k _ _ _ M1 H1 h2 t1 m1 itok_rng⟩
instance {t : TA} {a : WA} [ia : IA K t a] : II K (iRng2 t) (jRng2 a) where
  imp := fun ρ M σ H q R o h k => ia.imp ρ M σ H _ _ o h fun xs M1 v H1 ⟨i, j, e, h0, h2⟩ t1 m1 r1 => by
    subst e
    obtain ⟨v, u, rfl, r, r'⟩ := r1.two
    cases r.eq; cases r'.eq
    exact ⟨i, j, rfl, h0, k _ _ _ M1 H1 h2 t1 m1 itok_rng⟩
def sFor (it : WI) (g : WG) (b : WS) : WS := fun D ρ M => it ρ M fun xs keep M1 => ∃ I : Nat → WSt → Mp → Prop, I 0 ρ M1 ∧ (∀ i ρ M, i ≤ xs.length → I i ρ M → keep M) ∧
  (∀ i x ρ M, xs[i]? = some x → I i ρ M → g x ρ M fun ρ2 M2 => b { D with nx := I (i + 1), ct := I (i + 1), bk := D.nx } ρ2 M2) ∧ ∀ ρ M, I xs.length ρ M → D.nx ρ M
instance {ti : TI} {g : TG} {t : TS} {it : WI} {w : WG} {b : WS} [ii : II K ti it] [ig : IG K g w] [ib : IS K t b] : IS K (tFor ti g t) (sFor it w b) where
  imp := fun ρ M σ H D' D o h e => ii.imp ρ M σ H _ _ o h fun xs keep J M1 H1 h1 t1 m1 ok => by
    obtain ⟨I, h0, hk, hs, hd⟩ := h1
    refine ⟨fun i m σ' H' => m = xs.length - i ∧ i ≤ xs.length ∧ ∃ ρ' M', I i ρ' M' ∧ TSame H1 H' ∧ Ok K ρ' M' σ' H', ⟨_, rfl, Nat.zero_le _, ρ, M1, h0, TSame.refl _, o.mv t1 m1⟩, ?_⟩
    rintro i m σ' H' ⟨rfl, hi, ρ', M', hI, ts, o'⟩
    obtain ⟨k1, k2, k3⟩ := ok i M' H' ts o'.hp (hk i ρ' M' hi hI)
    by_cases hlt : i < xs.length
    · refine .inr ⟨k2 hlt, fun σ2 H2 => ∃ ρ2 M2, I (i + 1) ρ2 M2 ∧ TSame H1 H2 ∧ Ok K ρ2 M2 σ2 H2, fun σ2 H2 ⟨ρ2, M2, a, b, c⟩ => ⟨xs.length - (i + 1), by omega, rfl, hlt, ρ2, M2, a, b, c⟩, fun v H2 y => ?_⟩
      obtain ⟨ty, my, x, hx, r⟩ := k3 v H2 hlt y
      replace ts := ts.trans ty
      refine ig.imp x v ρ' M' σ' H2 _ _ (o'.mv ty my) r (hs i x ρ' M' hx hI) fun ρ3 M3 σ3 H3 h3 t3 o3 => ib.imp ρ3 M3 σ3 H3 _ _ o3 h3 ⟨fun a b c d h t o => ⟨a, b, h, (ts.trans t3).trans t, o⟩, fun a b c d h t => e.rt a b c d h (t1.trans ((ts.trans t3).trans t)), fun a b c d h t => e.nx a b c d h (t1.trans ((ts.trans t3).trans t)), fun a b c d h t o => ⟨a, b, h, (ts.trans t3).trans t, o⟩⟩
    · have e' : i = xs.length := by omega
      subst e'
      exact .inl ⟨k1 rfl, e.nx ρ' M' σ' H' (hd ρ' M' hI) (t1.trans ts) o'⟩
def sWhile (c : WT) (b : WS) : WS := fun D ρ M => ∃ I : Nat → WSt → Mp → Prop, (∃ m, I m ρ M) ∧ ∀ m ρ M, I m ρ M →
  c ρ M fun k M1 => if k = true then b { D with nx := fun ρ' M' => ∃ m', m' < m ∧ I m' ρ' M', ct := fun ρ' M' => ∃ m', m' < m ∧ I m' ρ' M', bk := D.nx } ρ M1 else D.nx ρ M1
def capρ (own : Nat) (fr : List Nat) (ρ : WSt) : WSt := List.replicate own none ++ fr.map fun j => (ρ[j]?).join
theorem WSR.cap {H : Hp} {ρ : WSt} {σ : St} (own : Nat) (fr : List Nat) (h : WSR K H ρ σ) : WSR K H (capρ own fr ρ) (capσ own fr σ) := by
  unfold capρ capσ
  refine ⟨by simp, fun i x e => ?_⟩
  by_cases hi : i < own
  · rw [List.getElem?_append_left (by simpa using hi), List.getElem?_replicate, if_pos hi] at e; cases e
  · rw [List.getElem?_append_right (by simpa using hi), List.length_replicate, List.getElem?_map] at e
    rw [List.getElem?_append_right (by simpa using hi), List.length_replicate, List.getElem?_map]
    cases ej : fr[i - own]? with
    | none => rw [ej] at e; cases e
    | some j =>
      rw [ej] at e
      simp only [Option.map_some, Option.some.injEq] at e ⊢
      cases er : ρ[j]? with
      | none => rw [er] at e; cases e
      | some z =>
        rw [er] at e
        simp only [Option.join_some] at e
        subst e
        obtain ⟨v, ev, r⟩ := h.2 j x er
        exact ⟨v, by rw [ev]; rfl, r⟩
def wComp (it : WI) (own : Nat) (fr : List Nat) (g : WG) (c : WT) (el : WE) : WE := fun ρ M q => it ρ M fun xs keep M1 => xs.length ≤ sizeLine ∧ ∀ p, M1 p = none → ∃ I : Nat → List W → Mp → Prop, I 0 [] (um M1 p (.lst [])) ∧
  (∀ i ys M, i ≤ xs.length → I i ys M → keep M ∧ M p = some (.lst ys) ∧ ys.length ≤ i) ∧
  (∀ i x ys M, xs[i]? = some x → I i ys M → g x (capρ own fr ρ) M fun ρ2 M2 => c ρ2 M2 fun b M3 => if b = true then el ρ2 M3 fun y M4 => M4 p = some (.lst ys) ∧ I (i + 1) (ys ++ [y]) (um M4 p (.lst (ys ++ [y]))) else I (i + 1) ys M3) ∧
  ∀ ys M, I xs.length ys M → q (wr p) M
instance {ti : TI} {own : Nat} {fr : List Nat} {g : TG} {tc : TT} {te : TE} {it : WI} {w : WG} {c : WT} {el : WE} [ii : II K ti it] [ig : IG K g w] [ic : IT K tc c] [ie : IE K te el] : IE K (tComp ti own fr g tc te) (wComp it own fr w c el) where
  imp := fun ρ M σ H q Q o h k => ii.imp ρ M σ H _ _ o h fun xs keep J M1 H1 h1 t1 m1 ok => by
    intro p hp
    obtain ⟨hz, h1⟩ := h1
    obtain ⟨I, h0, hk, hs, hd⟩ := h1 p (m1.fresh hp)
    have tp := L2.Same.ts (same_upd (o := .lst []) hp)
    refine ⟨fun i m vs H' => m = xs.length - i ∧ i ≤ xs.length ∧ ∃ ys M', I i ys M' ∧ TSame H1 H' ∧ MOk K M' H' ∧ WRs K H' ys vs ∧ H' p = some (.lst vs), ⟨_, rfl, Nat.zero_le _, [], _, h0, tp, m1.newL hp WRs.nil, WRs.nil, upd_same⟩, ?_⟩
    rintro i m vs H' ⟨rfl, hi, ys, M', hI, ts, m', rv, hv⟩
    refine ⟨hv, ?_⟩
    obtain ⟨kp, hMp, hyl⟩ := hk i ys M' hi hI
    obtain ⟨k1, k2, k3⟩ := ok i M' H' ts m' kp
    by_cases hlt : i < xs.length
    · refine .inr ⟨k2 hlt, by rw [rv.length]; omega, fun v H2 y => ?_⟩
      obtain ⟨ty, my, x, hx, r⟩ := k3 v H2 hlt y
      replace ts := ts.trans ty
      have oc : Ok K (capρ own fr ρ) M' (capσ own fr σ) H2 := ⟨(o.env.ts (t1.trans ts)).cap own fr, my⟩
      refine ig.imp x v _ M' _ H2 _ _ oc r (hs i x ys M' hx hI) fun ρ3 M3 σ3 H3 h3 t3 o3 => ic.imp ρ3 M3 σ3 H3 _ _ o3 h3 fun b M4 H4 h4 t4 m4 => ?_
      cases b with
      | true =>
        simp only [if_true] at h4 ⊢
        refine ie.imp ρ3 M4 σ3 H4 _ _ (o3.mv t4 m4) h4 fun z M5 u H5 ⟨h5, h6⟩ t5 m5 r5 => ?_
        obtain ⟨vs5, hv5, rr5⟩ := m5 p _ h5
        have t345 := (t3.trans t4).trans t5
        have t6 := ts_lst (u := .lst (vs5 ++ [u])) hv5
        exact ⟨vs5, hv5, by rw [rr5.length]; omega, _, by omega, rfl, hlt, _, _, h6, (ts.trans t345).trans t6, m5.putL hv5 (rr5.snoc r5), (rr5.snoc r5).ts t6, upd_same⟩
      | false =>
        simp only [Bool.false_eq_true, if_false] at h4 ⊢
        obtain ⟨vs5, hv5, rr5⟩ := m4 p _ (hk (i + 1) ys M4 hlt h4).2.1
        exact ⟨vs5, _, by omega, rfl, hlt, _, _, h4, ts.trans (t3.trans t4), m4, rr5, hv5⟩
    · have e' : i = xs.length := by omega
      subst e'
      exact .inl ⟨k1 rfl, k _ M' _ H' (hd ys M' hI) (t1.trans ts) m' WR.v⟩
def wYes : WT := fun _ M q => q true M
instance : IT K tYes wYes where
  imp := fun ρ M σ H q Q o h k => k _ M H h (TSame.refl H) o.hp
end
end WL
namespace WL
open PySem L2
section
variable {K : PySem.W.Frag}
theorem MOk.sub {M M' : Mp} {H : Hp} (s : Sm M M') (m : MOk K M' H) : MOk K M H := fun a o e => m a o (s a o e)
theorem okS {P : Program} {w : World} {mg : Str → Option Value} {base : Heap} {x qual : Str} {st : Stmt} {f : Addr} {fd : FuncData} {N ps : List Str} {k : Nat} {p : WSp} (F : Fun K x qual st f fd) (S : FnScope N ps (defScope st)) (len : ∀ vs M q, p vs M q → vs.length = ps.length)
    (hbody : ∀ (cdv : Value) (A : Around) (outer : List Env) (s : Shared) (H : Hp) (E : XK), Room k (A.deeper (PyProof.Rows.envOfC qual (defScope st) s.heap.objs.size f cdv)) →
      ∃ t, PSs (cxOf CX0 P w K mg base N qual (defScope st) f cdv A outer s H E).nox (defBody st) t ∧ ∃ w', IS K t w' ∧ ∀ vs M q, p vs M q → w' { nx := fun _ M' => ∃ M0, Sm M0 M' ∧ q wn M0, rt := fun x M' => ∃ M0, Sm M0 M' ∧ q x M0 } (vs.map some ++ List.replicate (N.length - vs.length) none) M) :
    FnOk P w K mg base CX0 (k + 1) f fd ps (spW K p) := by
  have h := okW (K := K) (P := P) (w := w) (mg := mg) (base := base) (k := k) (p := fun vs M q => ∃ q', p vs M q' ∧ q = fun x M' => ∃ M0, Sm M0 M' ∧ q' x M0) F S (fun vs M q ⟨q', h, _⟩ => len vs M q' h) fun cdv A outer s H E hr => by
    obtain ⟨t, h1, w', h2, h3⟩ := hbody cdv A outer s H E hr
    refine ⟨t, w', h1, h2, ?_⟩
    rintro vs M q ⟨q', h, rfl⟩
    exact h3 vs M q' h
  refine h.imp fun vs H Q E ⟨xs, M, q, r, m, hp, hk⟩ => ⟨xs, M, _, r, m, ⟨q, hp, rfl⟩, ?_⟩
  rintro x M' v H' ⟨M0, s, hq⟩ ts m' r'
  exact hk x M0 v H' hq ts (m'.sub s) r'
theorem comp_pure {xs : List W} {keep : Mp → Prop} {M1 : Mp} {own : Nat} {fr : List Nat} {ρ : WSt} {g : WG} {c : WT} {el : WE} {q : WK} (f : W → Option W) (hz : xs.length ≤ sizeLine) (hkeep : ∀ M, Sm M1 M → keep M)
    (hs : ∀ (i : Nat) x, xs[i]? = some x → ∀ (M : Mp) (N : Option W → Mp → Prop), Sm M1 M → N (f x) M → g x (capρ own fr ρ) M fun ρ2 M2 => c ρ2 M2 fun b M3 => if b = true then el ρ2 M3 fun y M4 => N (some y) M4 else N none M3)
    (hq : ∀ p, M1 p = none → q (wr p) (um M1 p (.lst (xs.filterMap f)))) :
    xs.length ≤ sizeLine ∧ ∀ p, M1 p = none → ∃ I : Nat → List W → Mp → Prop, I 0 [] (um M1 p (.lst [])) ∧
  (∀ i ys M, i ≤ xs.length → I i ys M → keep M ∧ M p = some (.lst ys) ∧ ys.length ≤ i) ∧
  (∀ i x ys M, xs[i]? = some x → I i ys M → g x (capρ own fr ρ) M fun ρ2 M2 => c ρ2 M2 fun b M3 => if b = true then el ρ2 M3 fun y M4 => M4 p = some (.lst ys) ∧ I (i + 1) (ys ++ [y]) (um M4 p (.lst (ys ++ [y]))) else I (i + 1) ys M3) ∧
  ∀ ys M, I xs.length ys M → q (wr p) M := by
  refine ⟨hz, fun p hp => ⟨fun i ys M => M = um M1 p (.lst ys) ∧ ys = (xs.take i).filterMap f, ⟨rfl, by simp⟩, ?_, ?_, ?_⟩⟩
  · rintro i ys M hi ⟨rfl, rfl⟩
    refine ⟨hkeep _ (sm_um hp), um_same, Nat.le_trans (List.length_filterMap_le _ _) ?_⟩
    rw [List.length_take]; omega
  · rintro i x ys M hx ⟨rfl, rfl⟩
    refine hs i x hx _ (fun o M4 => match o with
      | some y => M4 p = some (.lst ((xs.take i).filterMap f)) ∧ (um M4 p (.lst ((xs.take i).filterMap f ++ [y])) = um M1 p (.lst ((xs.take i).filterMap f ++ [y])) ∧ (xs.take i).filterMap f ++ [y] = (xs.take (i + 1)).filterMap f)
      | none => M4 = um M1 p (.lst ((xs.take i).filterMap f)) ∧ (xs.take i).filterMap f = (xs.take (i + 1)).filterMap f) (sm_um hp) ?_
    have e : xs.take (i + 1) = xs.take i ++ [x] := by rw [List.take_add_one, hx]; rfl
    cases hf : f x with
    | none => exact ⟨rfl, by rw [e, List.filterMap_append]; simp [hf]⟩
    | some y => exact ⟨um_same, um_um, by rw [e, List.filterMap_append]; simp [hf]⟩
  · rintro ys M ⟨rfl, rfl⟩
    rw [List.take_length]
    exact hq p hp
def wSortedK : WCl := fun xs M q => ∃ (d : Addr) (kvs : List (Key × W)) (ks : List Int), xs = [wr d] ∧ M d = some (.dK kvs) ∧ kvs.map (·.1) = ks.map Sum.inl ∧ ks.length ≤ sizeLine ∧ ∀ (p : Addr) (ns : List Int), M p = none → ns.Perm ks → ns.Pairwise (· ≤ ·) → q (wr p) (um M p (.lst (ns.map wi)))
instance : IC K rSortedK wSortedK where
  imp := by
    rintro xs v M H q Q m r1 ⟨d, kvs, ks, rfl, hd, hk, hl, h⟩ k
    obtain ⟨v, rfl, r⟩ := r1.one
    cases r.eq
    obtain ⟨vs, hv, rr⟩ := m d _ hd
    exact ⟨d, vs, ks, rfl, hv, by rw [rr.keys]; exact hk, hl, fun p ns hp h1 h2 => k _ _ _ _ (h p ns (m.fresh hp) h1 h2) (L2.Same.ts (same_upd hp)) (m.newL hp (WRs.ofInts ns)) WR.v⟩
def rInt1 : List V → Hp → VK → Prop := fun xs H Q => (∃ i, xs = [.int i] ∧ Q (.int i) H) ∨ ∃ k, xs = [.bl k] ∧ Q (.int (if k then 1 else 0)) H
theorem call_intW {X : Cx} : CallR X (.type "int") rInt1 := call_int1
def wInt1 : WCl := fun xs M q => (∃ i, xs = [wi i] ∧ q (wi i) M) ∨ ∃ k, xs = [wb k] ∧ q (wi (if k then 1 else 0)) M
instance : IC K rInt1 wInt1 where
  imp := by
    rintro xs v M H q Q m r1 h k
    rcases h with ⟨i, rfl, h⟩ | ⟨b, rfl, h⟩ <;> obtain ⟨v, rfl, r⟩ := r1.one <;> cases r.eq
    · exact .inl ⟨i, rfl, k _ M _ H h (TSame.refl H) m WR.v⟩
    · exact .inr ⟨b, rfl, k _ M _ H h (TSame.refl H) m WR.v⟩
end
end WL
namespace WL
open PySem L2
theorem atI_0 {α : Type} {a : α} {l : List α} : atI (a :: l) 0 = some a := atI_nat (j := 0) (by rfl)
theorem atI_1 {α : Type} {a b : α} {l : List α} : atI (a :: b :: l) 1 = some b := atI_nat (j := 1) (by rfl)
theorem atI_2 {α : Type} {a b c : α} {l : List α} : atI (a :: b :: c :: l) 2 = some c := atI_nat (j := 2) (by rfl)
theorem atI_3 {α : Type} {a b c d : α} {l : List α} : atI (a :: b :: c :: d :: l) 3 = some d := atI_nat (j := 3) (by rfl)
theorem ixN_1 {n : Nat} : ixN (n + 1 + 1) 1 = some 1 := by unfold ixN; rw [if_pos (by omega), if_pos (by omega)]; rfl
theorem ixN_2 {n : Nat} : ixN (n + 1 + 1 + 1) 2 = some 2 := by unfold ixN; rw [if_pos (by omega), if_pos (by omega)]; rfl
theorem ixN_3 {n : Nat} : ixN (n + 1 + 1 + 1 + 1) 3 = some 3 := by unfold ixN; rw [if_pos (by omega), if_pos (by omega)]; rfl
theorem atI_int {α : Type} {l : List α} {i : Int} {a : α} (h0 : 0 ≤ i) (h : l[i.toNat]? = some a) : atI l i = some a := by
  have e : ((i.toNat : Nat) : Int) = i := by omega
  rw [← e]; exact atI_nat h
theorem exM {M : Mp} {P : Mp → Prop} (h : P M) : ∃ M0, Sm M0 M ∧ P M0 := ⟨M, Sm.refl M, h⟩
def NB (d : Addr) (M M' : Mp) : Prop := ∀ b, b ≠ d → M' b = M b
theorem NB.trans {d : Addr} {M M1 M2 : Mp} (a : NB d M M1) (b : NB d M1 M2) : NB d M M2 := fun c n => (b c n).trans (a c n)
theorem NB.put {d : Addr} {M : Mp} {o : MO} : NB d M (um M d o) := fun b n => um_ne n
def Dr (M : Mp) (d l : Addr) : Prop := ∃ (ns : List Int) (i c s : Int), M d = some (.lst [wr l, wi i, wi c, wi s]) ∧ M l = some (.lst (ns.map wi)) ∧ 0 ≤ i ∧ d ≠ l
theorem Dr.put {M : Mp} {d l p : Addr} {o : MO} (h : Dr M d l) (hp : M p = none) : Dr (um M p o) d l := by
  obtain ⟨ns, i, c, s, h1, h2, h3, h4⟩ := h
  exact ⟨ns, i, c, s, by rw [um_ne (m_ne h1 hp)]; exact h1, by rw [um_ne (m_ne h2 hp)]; exact h2, h3, h4⟩
theorem Dr.put' {M : Mp} {d l p : Addr} {o : MO} (h : Dr M d l) (hd : p ≠ d) (hl : p ≠ l) : Dr (um M p o) d l := by
  obtain ⟨ns, i, c, s, h1, h2, h3, h4⟩ := h
  exact ⟨ns, i, c, s, by rw [um_ne hd.symm]; exact h1, by rw [um_ne hl.symm]; exact h2, h3, h4⟩
theorem Dr.ne {M : Mp} {d l p : Addr} (h : Dr M d l) (hp : M p = none) : p ≠ d ∧ p ≠ l := by
  obtain ⟨ns, i, c, s, h1, h2, h3, h4⟩ := h
  exact ⟨(m_ne h1 hp).symm, (m_ne h2 hp).symm⟩
theorem Dr.sm {M M' : Mp} {d l : Addr} (h : Dr M d l) (s : Sm M M') : Dr M' d l := by
  obtain ⟨ns, i, c, sd, h1, h2, h3, h4⟩ := h
  exact ⟨ns, i, c, sd, s _ _ h1, s _ _ h2, h3, h4⟩
def pairW (q : Int × Int) : W := .tup [wi q.1, wi q.2]
def patW (l : List (Int × Int)) : W := .tup (l.map pairW)
theorem pairs_at {l : List (Int × Int)} {i : Nat} {x : W} (h : (l.map pairW)[i]? = some x) : ∃ q, l[i]? = some q ∧ x = pairW q := by
  rw [List.getElem?_map] at h
  cases e : l[i]? with
  | none => rw [e] at h; cases h
  | some q => rw [e] at h; cases h; exact ⟨q, rfl, rfl⟩
theorem ints_at' {l : List Int} {i : Nat} {x : W} (h : (l.map wi)[i]? = some x) : ∃ n, l[i]? = some n ∧ x = wi n := by
  rw [List.getElem?_map] at h
  cases e : l[i]? with
  | none => rw [e] at h; cases h
  | some q => rw [e] at h; cases h; exact ⟨q, rfl, rfl⟩
theorem range_at {lo : Int} {n i : Nat} {x : W} (h : (rangeW lo n)[i]? = some x) : i < n ∧ x = wi (lo + i) := by
  unfold rangeW at h
  rw [List.getElem?_map] at h
  by_cases hi : i < n
  · rw [List.getElem?_range hi] at h
    cases h
    exact ⟨hi, rfl⟩
  · rw [List.getElem?_eq_none (by simpa using hi)] at h; cases h
theorem range_len {lo : Int} {n : Nat} : (rangeW lo n).length = n := by simp [rangeW]
end WL
namespace WL
open PySem L2
def lstK (o : Option MO) (k : List W → Prop) : Prop := ∃ l, o = some (.lst l) ∧ k l
def dicK (o : Option MO) (k : List (Key × W) → Prop) : Prop := ∃ l, o = some (.dK l) ∧ k l
def optK {α : Type} (o : Option α) (k : α → Prop) : Prop := ∃ a, o = some a ∧ k a
def andK (C Q : Prop) : Prop := C ∧ Q
def iteK (b : Bool) (A B : Prop) : Prop := if b = true then A else B
def newK (M : Mp) (k : Addr → Prop) : Prop := ∀ p, M p = none → k p
def callK (p : WSp) (xs : List W) (M : Mp) (q : WK) : Prop := p xs M q
def isB (x : W) (M : Mp) (q : Bool → Mp → Prop) : Prop := ∃ k, x = wb k ∧ q k M
def refK (x : W) (k : Addr → Prop) : Prop := ∃ a, x = wr a ∧ k a
def tupK (x : W) (k : List W → Prop) : Prop := ∃ l, x = .tup l ∧ k l
def truK (M : Mp) (x : W) (k : Bool → Prop) : Prop := ∃ b, wTru M x b ∧ k b
def keyK (x : W) (k : Key → Prop) : Prop := ∃ y, x = keyW y ∧ k y
def forK (xs : List W) (keep : Mp → Prop) (g : WG) (b : WS) (D : WEnds) (ρ : WSt) (M1 : Mp) : Prop := ∃ I : Nat → WSt → Mp → Prop, I 0 ρ M1 ∧ (∀ i ρ M, i ≤ xs.length → I i ρ M → keep M) ∧
  (∀ i x ρ M, xs[i]? = some x → I i ρ M → g x ρ M fun ρ2 M2 => b { D with nx := I (i + 1), ct := I (i + 1), bk := D.nx } ρ2 M2) ∧ ∀ ρ M, I xs.length ρ M → D.nx ρ M
def compK (xs : List W) (keep : Mp → Prop) (own : Nat) (fr : List Nat) (g : WG) (c : WT) (el : WE) (ρ : WSt) (M1 : Mp) (q : WK) : Prop := xs.length ≤ sizeLine ∧ ∀ p, M1 p = none → ∃ I : Nat → List W → Mp → Prop, I 0 [] (um M1 p (.lst [])) ∧
  (∀ i ys M, i ≤ xs.length → I i ys M → keep M ∧ M p = some (.lst ys) ∧ ys.length ≤ i) ∧
  (∀ i x ys M, xs[i]? = some x → I i ys M → g x (capρ own fr ρ) M fun ρ2 M2 => c ρ2 M2 fun b M3 => if b = true then el ρ2 M3 fun y M4 => M4 p = some (.lst ys) ∧ I (i + 1) (ys ++ [y]) (um M4 p (.lst (ys ++ [y]))) else I (i + 1) ys M3) ∧
  ∀ ys M, I xs.length ys M → q (wr p) M
def whileK (c : WT) (b : WS) (D : WEnds) (ρ : WSt) (M : Mp) : Prop := sWhile c b D ρ M
section
variable {M : Mp} {ρ : WSt} {q : WK} {a b c : WE} {D : WEnds}
theorem lstK_e {l : List W} {k : List W → Prop} : lstK (some (.lst l)) k = k l := by apply propext; constructor; (· rintro ⟨_, h, k⟩; cases h; exact k); (· intro h; exact ⟨_, rfl, h⟩)
theorem dicK_e {l : List (Key × W)} {k : List (Key × W) → Prop} : dicK (some (.dK l)) k = k l := by apply propext; constructor; (· rintro ⟨_, h, k⟩; cases h; exact k); (· intro h; exact ⟨_, rfl, h⟩)
theorem optK_e {α : Type} {x : α} {k : α → Prop} : optK (some x) k = k x := by apply propext; constructor; (· rintro ⟨_, h, k⟩; cases h; exact k); (· intro h; exact ⟨_, rfl, h⟩)
theorem andK_e {Q : Prop} : andK True Q = Q := by simp [andK]
theorem iteK_t {A B : Prop} : iteK true A B = A := by simp [iteK]
theorem iteK_f {A B : Prop} : iteK false A B = B := by simp [iteK]
theorem isB_e {k : Bool} {q : Bool → Mp → Prop} : isB (.v (.bl k)) M q = q k M := by apply propext; constructor; (· rintro ⟨_, h, k⟩; cases h; exact k); (· intro h; exact ⟨_, rfl, h⟩)
theorem refK_e {x : Addr} {k : Addr → Prop} : refK (.v (.ref x)) k = k x := by apply propext; constructor; (· rintro ⟨_, h, k⟩; cases h; exact k); (· intro h; exact ⟨_, rfl, h⟩)
theorem tupK_e {x : List W} {k : List W → Prop} : tupK (.tup x) k = k x := by apply propext; constructor; (· rintro ⟨_, h, k⟩; cases h; exact k); (· intro h; exact ⟨_, rfl, h⟩)
theorem keyK_i {i : Int} {k : Key → Prop} : keyK (.v (.int i)) k = k (.inl i) := by apply propext; constructor; (· rintro ⟨y, h, z⟩; cases y <;> cases h; exact z); (· intro h; exact ⟨.inl i, rfl, h⟩)
theorem wVar_0 {x : W} {r : WSt} : wVar 0 (some x :: r) M q = q x M := by apply propext; constructor; (· rintro ⟨_, h, k⟩; simp only [List.getElem?_cons_zero, List.getElem?_cons_succ, Option.some.injEq] at h; subst h; exact k); (· intro h; exact ⟨_, rfl, h⟩)
theorem wVar_1 {x0 : Option W} {x : W} {r : WSt} : wVar 1 (x0 :: some x :: r) M q = q x M := by apply propext; constructor; (· rintro ⟨_, h, k⟩; simp only [List.getElem?_cons_zero, List.getElem?_cons_succ, Option.some.injEq] at h; subst h; exact k); (· intro h; exact ⟨_, rfl, h⟩)
theorem wVar_2 {x0 x1 : Option W} {x : W} {r : WSt} : wVar 2 (x0 :: x1 :: some x :: r) M q = q x M := by apply propext; constructor; (· rintro ⟨_, h, k⟩; simp only [List.getElem?_cons_zero, List.getElem?_cons_succ, Option.some.injEq] at h; subst h; exact k); (· intro h; exact ⟨_, rfl, h⟩)
theorem wVar_3 {x0 x1 x2 : Option W} {x : W} {r : WSt} : wVar 3 (x0 :: x1 :: x2 :: some x :: r) M q = q x M := by apply propext; constructor; (· rintro ⟨_, h, k⟩; simp only [List.getElem?_cons_zero, List.getElem?_cons_succ, Option.some.injEq] at h; subst h; exact k); (· intro h; exact ⟨_, rfl, h⟩)
theorem wVar_4 {x0 x1 x2 x3 : Option W} {x : W} {r : WSt} : wVar 4 (x0 :: x1 :: x2 :: x3 :: some x :: r) M q = q x M := by apply propext; constructor; (· rintro ⟨_, h, k⟩; simp only [List.getElem?_cons_zero, List.getElem?_cons_succ, Option.some.injEq] at h; subst h; exact k); (· intro h; exact ⟨_, rfl, h⟩)
theorem wVar_5 {x0 x1 x2 x3 x4 : Option W} {x : W} {r : WSt} : wVar 5 (x0 :: x1 :: x2 :: x3 :: x4 :: some x :: r) M q = q x M := by apply propext; constructor; (· rintro ⟨_, h, k⟩; simp only [List.getElem?_cons_zero, List.getElem?_cons_succ, Option.some.injEq] at h; subst h; exact k); (· intro h; exact ⟨_, rfl, h⟩)
theorem wVar_6 {x0 x1 x2 x3 x4 x5 : Option W} {x : W} {r : WSt} : wVar 6 (x0 :: x1 :: x2 :: x3 :: x4 :: x5 :: some x :: r) M q = q x M := by apply propext; constructor; (· rintro ⟨_, h, k⟩; simp only [List.getElem?_cons_zero, List.getElem?_cons_succ, Option.some.injEq] at h; subst h; exact k); (· intro h; exact ⟨_, rfl, h⟩)
theorem wVar_7 {x0 x1 x2 x3 x4 x5 x6 : Option W} {x : W} {r : WSt} : wVar 7 (x0 :: x1 :: x2 :: x3 :: x4 :: x5 :: x6 :: some x :: r) M q = q x M := by apply propext; constructor; (· rintro ⟨_, h, k⟩; simp only [List.getElem?_cons_zero, List.getElem?_cons_succ, Option.some.injEq] at h; subst h; exact k); (· intro h; exact ⟨_, rfl, h⟩)
theorem wVar_8 {x0 x1 x2 x3 x4 x5 x6 x7 : Option W} {x : W} {r : WSt} : wVar 8 (x0 :: x1 :: x2 :: x3 :: x4 :: x5 :: x6 :: x7 :: some x :: r) M q = q x M := by apply propext; constructor; (· rintro ⟨_, h, k⟩; simp only [List.getElem?_cons_zero, List.getElem?_cons_succ, Option.some.injEq] at h; subst h; exact k); (· intro h; exact ⟨_, rfl, h⟩)
theorem wC_e {x : W} : wC x ρ M q = q x M := rfl
theorem wOp_e {r : WR2} : wOp r a b ρ M q = a ρ M fun x M1 => b ρ M1 fun y M2 => r x y M2 q := rfl
theorem wUn_e {r : W → Mp → WK → Prop} : wUn r a ρ M q = a ρ M fun x M1 => r x M1 q := rfl
theorem wI_e {C : Int → Int → Prop} {g : Int → Int → V} {i j : Int} : wI C g (.v (.int i)) (.v (.int j)) M q = andK (C i j) (q (.v (g i j)) M) := by apply propext; constructor; (· rintro ⟨_, _, h1, h2, k⟩; cases h1; cases h2; exact k); (· intro h; exact ⟨_, _, rfl, rfl, h⟩)
theorem wI0_e {g : Int → Int → V} {i j : Int} : wI0 g (.v (.int i)) (.v (.int j)) M q = q (.v (g i j)) M := by apply propext; constructor; (· rintro ⟨_, _, h1, h2, k⟩; cases h1; cases h2; exact k); (· intro h; exact ⟨_, _, rfl, rfl, h⟩)
theorem wU_e {g : Int → V} {i : Int} : wU g (.v (.int i)) M q = q (.v (g i)) M := by apply propext; constructor; (· rintro ⟨_, h, k⟩; cases h; exact k); (· intro h; exact ⟨_, rfl, h⟩)
theorem wEq_i {i j : Int} : wEq (.v (.int i)) (.v (.int j)) M q = q (wb (decide (i = j))) M := by apply propext; constructor; (· rintro ⟨_, _, h1, h2, _, k⟩; cases h1; cases h2; simpa using k); (· intro h; exact ⟨_, _, rfl, rfl, rfl, by simpa using h⟩)
theorem wNe_i {i j : Int} : wNe (.v (.int i)) (.v (.int j)) M q = q (wb (!decide (i = j))) M := by apply propext; constructor; (· rintro ⟨_, _, h1, h2, _, k⟩; cases h1; cases h2; simpa using k); (· intro h; exact ⟨_, _, rfl, rfl, rfl, by simpa using h⟩)
theorem wEq_b {i j : Bool} : wEq (.v (.bl i)) (.v (.bl j)) M q = q (wb (decide (i = j))) M := by apply propext; constructor; (· rintro ⟨_, _, h1, h2, _, k⟩; cases h1; cases h2; simpa using k); (· intro h; exact ⟨_, _, rfl, rfl, rfl, by simpa using h⟩)
theorem wTest_e {q : Bool → Mp → Prop} : wTest a ρ M q = a ρ M fun x M1 => isB x M1 q := rfl
theorem wAnd_e {a b : WT} {q : Bool → Mp → Prop} : wAnd a b ρ M q = a ρ M fun c M1 => iteK c (b ρ M1 q) (q false M1) := rfl
theorem wOr_e {a b : WT} {q : Bool → Mp → Prop} : wOr a b ρ M q = a ρ M fun c M1 => iteK c (q true M1) (b ρ M1 q) := rfl
theorem wNot_e {a : WT} {q : Bool → Mp → Prop} : wNot a ρ M q = a ρ M fun c M1 => q (!c) M1 := rfl
theorem wAndV_e : wAndV a b ρ M q = a ρ M fun x M1 => isB x M1 fun c M1 => iteK c (b ρ M1 q) (q (wb false) M1) := rfl
theorem wOrV_e : wOrV a b ρ M q = a ρ M fun x M1 => isB x M1 fun c M1 => iteK c (q (wb true) M1) (b ρ M1 q) := rfl
theorem wNotV_e : wNotV a ρ M q = a ρ M fun x M1 => isB x M1 fun c M1 => q (wb (!c)) M1 := rfl
theorem wIf_e {c : WT} : wIf c a b ρ M q = c ρ M fun c M1 => iteK c (a ρ M1 q) (b ρ M1 q) := rfl
theorem wChain_e {r r' : WR2} : wChain r r' a b c ρ M q = a ρ M fun x M1 => b ρ M1 fun y M2 => r x y M2 fun z M3 => isB z M3 fun k M3 => iteK k (c ρ M3 fun y' M4 => r' y y' M4 q) (q (wb false) M3) := rfl
theorem wNil_e {q : List W → Mp → Prop} : wNil ρ M q = q [] M := rfl
theorem wCons_e {r : WA} {q : List W → Mp → Prop} : wCons a r ρ M q = a ρ M fun x M1 => r ρ M1 fun xs M2 => q (x :: xs) M2 := rfl
theorem wTup_e {a : WA} : wTup a ρ M q = a ρ M fun xs M1 => andK (xs.length ≤ sizeLine) (q (.tup xs) M1) := rfl
theorem wLst_e {a : WA} : wLst a ρ M q = a ρ M fun xs M1 => andK (xs.length ≤ sizeLine) (newK M1 fun p => q (wr p) (um M1 p (.lst xs))) := rfl
theorem wIxL_e {x : Addr} {i : Int} : wIxL (.v (.ref x)) (.v (.int i)) M q = lstK (M x) fun l => optK (atI l i) fun u => q u M := by apply propext; constructor; (· rintro ⟨_, l, _, u, h1, h2, h3, h4, k⟩; cases h1; cases h2; exact ⟨l, h3, u, h4, k⟩); (· rintro ⟨l, h3, u, h4, k⟩; exact ⟨_, l, _, u, rfl, rfl, h3, h4, k⟩)
theorem wIxT_e {l : List W} {i : Int} : wIxT (.tup l) (.v (.int i)) M q = optK (atI l i) fun u => q u M := by apply propext; constructor; (· rintro ⟨_, _, u, h1, h2, h4, k⟩; cases h1; cases h2; exact ⟨u, h4, k⟩); (· rintro ⟨u, h4, k⟩; exact ⟨_, _, u, rfl, rfl, h4, k⟩)
theorem wNoPart_e {q : Option Int → Mp → Prop} : wNoPart ρ M q = q none M := rfl
def intK (x : W) (k : Int → Prop) : Prop := ∃ i, x = wi i ∧ k i
theorem intK_e {i : Int} {k : Int → Prop} : intK (.v (.int i)) k = k i := by apply propext; constructor; (· rintro ⟨_, h, k⟩; cases h; exact k); (· intro h; exact ⟨_, rfl, h⟩)
theorem wPart_e {q : Option Int → Mp → Prop} : wPart a ρ M q = a ρ M fun x M1 => intK x fun i => q (some i) M1 := rfl
theorem wSl_e {r : WSl} {lo hi : WO} : wSl r a lo hi ρ M q = a ρ M fun x M1 => lo ρ M1 fun l M2 => hi ρ M2 fun u M3 => r x l u M3 q := rfl
theorem wCB_e {r : WCl} {a : WA} : wCB r a ρ M q = a ρ M fun xs M1 => r xs M1 q := rfl
theorem wCall_e {p : WSp} {a : WA} : wCall p a ρ M q = a ρ M fun xs M1 => callK p xs M1 q := rfl
theorem wLen_l {x : Addr} : wLen [.v (.ref x)] M q = lstK (M x) fun l => q (wi l.length) M := by apply propext; constructor; (· rintro (⟨_, l, h1, h2, k⟩ | ⟨_, h1, _⟩); (· cases h1; exact ⟨l, h2, k⟩); cases h1); (· rintro ⟨l, h3, k⟩; exact .inl ⟨_, l, rfl, h3, k⟩)
theorem wAbs_e {i : Int} : wAbs [.v (.int i)] M q = q (wi (if i < 0 then -i else i)) M := by apply propext; constructor; (· rintro ⟨_, h, k⟩; cases h; exact k); (· intro h; exact ⟨_, rfl, h⟩)
theorem wMax2_e {i j : Int} : wMax2 [.v (.int i), .v (.int j)] M q = q (wi (if j > i then j else i)) M := by apply propext; constructor; (· rintro ⟨_, _, h, k⟩; cases h; exact k); (· intro h; exact ⟨_, _, rfl, h⟩)
theorem wTupleOf_l {x : Addr} : wTupleOf [.v (.ref x)] M q = lstK (M x) fun l => q (.tup l) M := by apply propext; constructor; (· rintro ⟨l, ⟨_, h1, h2⟩ | h1, k⟩; (· cases h1; exact ⟨l, h2, k⟩); cases h1); (· rintro ⟨l, h3, k⟩; exact ⟨l, .inl ⟨_, rfl, h3⟩, k⟩)
theorem wIsX_e {K : PySem.W.Frag} {x : W} {T : String} : wIsX K [x, .v (.ty T)] M q = optK (tyW M x) fun t => optK (PySem.W.kitOne K t (.type T)) fun b => q (wb b) M := by apply propext; constructor; (· rintro ⟨_, _, t, b, h1, h2, h3, k⟩; cases h1; exact ⟨t, h2, b, h3, k⟩); (· rintro ⟨t, h2, b, h3, k⟩; exact ⟨_, _, t, b, rfl, h2, h3, k⟩)
theorem kit_int_int {K : PySem.W.Frag} : PySem.W.kitOne K (.type "int") (.type "int") = some true := rfl
theorem kit_int_bool {K : PySem.W.Frag} : PySem.W.kitOne K (.type "int") (.type "bool") = some false := rfl
theorem kit_int_str {K : PySem.W.Frag} : PySem.W.kitOne K (.type "int") (.type "str") = some false := rfl
theorem kit_int_tuple {K : PySem.W.Frag} : PySem.W.kitOne K (.type "int") (.type "tuple") = some false := rfl
theorem kit_int_list {K : PySem.W.Frag} : PySem.W.kitOne K (.type "int") (.type "list") = some false := rfl
theorem kit_bool_int {K : PySem.W.Frag} : PySem.W.kitOne K (.type "bool") (.type "int") = some true := rfl
theorem kit_bool_bool {K : PySem.W.Frag} : PySem.W.kitOne K (.type "bool") (.type "bool") = some true := rfl
theorem kit_bool_str {K : PySem.W.Frag} : PySem.W.kitOne K (.type "bool") (.type "str") = some false := rfl
theorem kit_bool_tuple {K : PySem.W.Frag} : PySem.W.kitOne K (.type "bool") (.type "tuple") = some false := rfl
theorem kit_bool_list {K : PySem.W.Frag} : PySem.W.kitOne K (.type "bool") (.type "list") = some false := rfl
theorem kit_str_int {K : PySem.W.Frag} : PySem.W.kitOne K (.type "str") (.type "int") = some false := rfl
theorem kit_str_bool {K : PySem.W.Frag} : PySem.W.kitOne K (.type "str") (.type "bool") = some false := rfl
theorem kit_str_str {K : PySem.W.Frag} : PySem.W.kitOne K (.type "str") (.type "str") = some true := rfl
theorem kit_str_tuple {K : PySem.W.Frag} : PySem.W.kitOne K (.type "str") (.type "tuple") = some false := rfl
theorem kit_str_list {K : PySem.W.Frag} : PySem.W.kitOne K (.type "str") (.type "list") = some false := rfl
theorem kit_NoneType_int {K : PySem.W.Frag} : PySem.W.kitOne K (.type "NoneType") (.type "int") = some false := rfl
theorem kit_NoneType_bool {K : PySem.W.Frag} : PySem.W.kitOne K (.type "NoneType") (.type "bool") = some false := rfl
theorem kit_NoneType_str {K : PySem.W.Frag} : PySem.W.kitOne K (.type "NoneType") (.type "str") = some false := rfl
theorem kit_NoneType_tuple {K : PySem.W.Frag} : PySem.W.kitOne K (.type "NoneType") (.type "tuple") = some false := rfl
theorem kit_NoneType_list {K : PySem.W.Frag} : PySem.W.kitOne K (.type "NoneType") (.type "list") = some false := rfl
theorem kit_tuple_int {K : PySem.W.Frag} : PySem.W.kitOne K (.type "tuple") (.type "int") = some false := rfl
theorem kit_tuple_bool {K : PySem.W.Frag} : PySem.W.kitOne K (.type "tuple") (.type "bool") = some false := rfl
theorem kit_tuple_str {K : PySem.W.Frag} : PySem.W.kitOne K (.type "tuple") (.type "str") = some false := rfl
theorem kit_tuple_tuple {K : PySem.W.Frag} : PySem.W.kitOne K (.type "tuple") (.type "tuple") = some true := rfl
theorem kit_tuple_list {K : PySem.W.Frag} : PySem.W.kitOne K (.type "tuple") (.type "list") = some false := rfl
theorem kit_list_int {K : PySem.W.Frag} : PySem.W.kitOne K (.type "list") (.type "int") = some false := rfl
theorem kit_list_bool {K : PySem.W.Frag} : PySem.W.kitOne K (.type "list") (.type "bool") = some false := rfl
theorem kit_list_str {K : PySem.W.Frag} : PySem.W.kitOne K (.type "list") (.type "str") = some false := rfl
theorem kit_list_tuple {K : PySem.W.Frag} : PySem.W.kitOne K (.type "list") (.type "tuple") = some false := rfl
theorem kit_list_list {K : PySem.W.Frag} : PySem.W.kitOne K (.type "list") (.type "list") = some true := rfl
theorem wBM_e {r : WM} {b : WA} : wBM r a b ρ M q = a ρ M fun x M1 => refK x fun p => lstK (M1 p) fun _ => b ρ M1 fun xs M2 => r x xs M2 q := by unfold wBM IsL refK lstK; congr 1; funext x M1; apply propext; constructor; (· rintro ⟨⟨p, l, h1, h2⟩, k⟩; exact ⟨p, h1, l, h2, k⟩); (· rintro ⟨p, h1, l, h2, k⟩; exact ⟨⟨p, l, h1, h2⟩, k⟩)
theorem wAppend_e {x : Addr} {y : W} : wAppend (.v (.ref x)) [y] M q = lstK (M x) fun l => andK (l.length < sizeLine) (q wn (um M x (.lst (l ++ [y])))) := by apply propext; constructor; (· rintro ⟨_, l, _, h1, h2, h3, h4, k⟩; cases h1; cases h2; exact ⟨l, h3, h4, k⟩); (· rintro ⟨l, h3, h4, k⟩; exact ⟨_, l, _, rfl, rfl, h3, h4, k⟩)
theorem wTruth_e {q : Bool → Mp → Prop} : wTruth a ρ M q = a ρ M fun x M1 => truK M1 x fun k => q k M1 := rfl
theorem wDNew_e : wDNew ρ M q = newK M fun p => q (wr p) (um M p (.dK [])) := rfl
theorem wDGet_e : wDGet a b ρ M q = a ρ M fun x M1 => b ρ M1 fun y M2 => refK x fun p => keyK y fun k => dicK (M2 p) fun kvs => optK (valW kvs k) fun z => q z M2 := by unfold wDGet refK keyK dicK optK; congr 1; funext x M1; congr 1; funext y M2; apply propext; constructor; (· rintro ⟨p, kvs, k, z, h1, h2, h3, h4, h⟩; exact ⟨p, h1, k, h3, kvs, h2, z, h4, h⟩); (· rintro ⟨p, h1, k, h3, kvs, h2, z, h4, h⟩; exact ⟨p, kvs, k, z, h1, h2, h3, h4, h⟩)
theorem wDGet2_e : wDGet2 a b c ρ M q = a ρ M fun x M1 => refK x fun p => dicK (M1 p) fun _ => b ρ M1 fun y M2 => c ρ M2 fun z M3 => keyK y fun k => dicK (M3 p) fun kvs => q ((valW kvs k).getD z) M3 := by
  unfold wDGet2 refK keyK dicK; congr 1; funext x M1; apply propext; constructor
  · rintro ⟨p, h1, ⟨kvs, h2⟩, h⟩
    refine ⟨p, h1, kvs, h2, ?_⟩
    have e : (fun y M2 => c ρ M2 fun z M3 => ∃ kvs k, M3 p = some (.dK kvs) ∧ y = keyW k ∧ q ((valW kvs k).getD z) M3) = (fun y M2 => c ρ M2 fun z M3 => ∃ k, y = keyW k ∧ ∃ kvs, M3 p = some (.dK kvs) ∧ q ((valW kvs k).getD z) M3) := by
      funext y M2; congr 1; funext z M3; apply propext; constructor
      · rintro ⟨a, b, c, d, e⟩; exact ⟨b, d, a, c, e⟩
      · rintro ⟨b, d, a, c, e⟩; exact ⟨a, b, c, d, e⟩
    rw [← e]; exact h
  · rintro ⟨p, h1, kvs, h2, h⟩
    refine ⟨p, h1, ⟨kvs, h2⟩, ?_⟩
    have e : (fun y M2 => c ρ M2 fun z M3 => ∃ kvs k, M3 p = some (.dK kvs) ∧ y = keyW k ∧ q ((valW kvs k).getD z) M3) = (fun y M2 => c ρ M2 fun z M3 => ∃ k, y = keyW k ∧ ∃ kvs, M3 p = some (.dK kvs) ∧ q ((valW kvs k).getD z) M3) := by
      funext y M2; congr 1; funext z M3; apply propext; constructor
      · rintro ⟨a, b, c, d, e⟩; exact ⟨b, d, a, c, e⟩
      · rintro ⟨b, d, a, c, e⟩; exact ⟨a, b, c, d, e⟩
    rw [e]; exact h
theorem sSeq_e {a b : WS} : sSeq a b D ρ M = a { nx := b D, rt := D.rt, bk := D.bk, ct := D.ct } ρ M := rfl
theorem sNext_e : sNext D ρ M = D.nx ρ M := rfl
theorem sBreak_e : sBreak D ρ M = D.bk ρ M := rfl
theorem sCont_e : sCont D ρ M = D.ct ρ M := rfl
theorem sDrop_e : sDrop a D ρ M = a ρ M fun _ M1 => D.nx ρ M1 := rfl
theorem sRet_e : sRet a D ρ M = a ρ M D.rt := rfl
theorem sRetN_e : sRetN D ρ M = D.rt wn M := rfl
theorem sIf_e {c : WT} {a b : WS} : sIf c a b D ρ M = c ρ M fun k M1 => iteK k (a D ρ M1) (b D ρ M1) := rfl
theorem sAsg_e {g : WG} : sAsg a g D ρ M = a ρ M fun x M1 => g x ρ M1 D.nx := rfl
def twoK (xs : List W) (k : W → W → Prop) : Prop := ∃ x y, xs = [x, y] ∧ k x y
theorem twoK_e {x y : W} {k : W → W → Prop} : twoK [x, y] k = k x y := by apply propext; constructor; (· rintro ⟨_, _, h, z⟩; cases h; exact z); (· intro h; exact ⟨_, _, rfl, h⟩)
theorem sPar_e {i j : Nat} {a : WA} : sPar i j a D ρ M = a ρ M fun xs M1 => twoK xs fun x y => D.nx ((ρ.set i (some x)).set j (some y)) M1 := rfl
theorem sAug_e {i : Nat} {r : WR2} : sAug i a r D ρ M = wVar i ρ M fun x M => a ρ M fun y M1 => r x y M1 fun z M2 => D.nx (ρ.set i (some z)) M2 := rfl
theorem sAugS_e {g r : WR2} {s : WSet} : sAugS a b c g r s D ρ M = a ρ M fun o M1 => b ρ M1 fun i M2 => g o i M2 fun x M3 => c ρ M3 fun y M4 => r x y M4 fun z M5 => s o i z M5 fun M6 => D.nx ρ M6 := rfl
theorem sDPutW_e : sDPutW a b c D ρ M = c ρ M fun z M1 => a ρ M1 fun x M2 => b ρ M2 fun y M3 => refK x fun p => keyK y fun k => dicK (M3 p) fun kvs => andK (kvs.length < sizeLine) (D.nx ρ (um M3 p (.dK (putW kvs k z)))) := by unfold sDPutW refK keyK dicK andK; congr 1; funext z M1; congr 1; funext x M2; congr 1; funext y M3; apply propext; constructor; (· rintro ⟨p, kvs, k, h1, h2, h3, h4, h⟩; exact ⟨p, h1, k, h3, kvs, h2, h4, h⟩); (· rintro ⟨p, h1, k, h3, kvs, h2, h4, h⟩; exact ⟨p, kvs, k, h1, h2, h3, h4, h⟩)
theorem sFor_e {it : WI} {g : WG} {b : WS} : sFor it g b D ρ M = it ρ M fun xs keep M1 => forK xs keep g b D ρ M1 := rfl
theorem sWhile_e {c : WT} {b : WS} : sWhile c b D ρ M = whileK c b D ρ M := rfl
theorem vName_e {i : Nat} {x : W} {q : WSt → Mp → Prop} : vName i x ρ M q = q (ρ.set i (some x)) M := rfl
theorem vNil_e {q : WSt → Mp → Prop} : vNil [] ρ M q = q ρ M := by simp [vNil]
theorem vCons_e {a : WG} {b : WGs} {x : W} {r : List W} {q : WSt → Mp → Prop} : vCons a b (x :: r) ρ M q = a x ρ M fun ρ' M' => b r ρ' M' q := by apply propext; constructor; (· rintro ⟨_, _, h, k⟩; cases h; exact k); (· intro h; exact ⟨_, _, rfl, h⟩)
theorem vTup_e {n : Nat} {a : WGs} {l : List W} {q : WSt → Mp → Prop} : vTup n a (.tup l) ρ M q = andK (l.length = n) (a l ρ M q) := by apply propext; constructor; (· rintro ⟨_, h, k⟩; cases h; exact k); (· intro h; exact ⟨_, rfl, h⟩)
theorem vSub_e {s : WSet} {x : W} {q : WSt → Mp → Prop} : vSub a b s x ρ M q = a ρ M fun o M1 => b ρ M1 fun i M2 => s o i x M2 fun M3 => q ρ M3 := rfl
theorem wSetL_e {x : Addr} {i : Int} {z : W} {q : Mp → Prop} : wSetL (.v (.ref x)) (.v (.int i)) z M q = lstK (M x) fun l => optK (ixN l.length i) fun j => q (um M x (.lst (l.set j z))) := by apply propext; constructor; (· rintro ⟨_, l, _, j, h1, h2, h3, h4, k⟩; cases h1; cases h2; exact ⟨l, h3, j, h4, k⟩); (· rintro ⟨l, h3, j, h4, k⟩; exact ⟨_, l, _, j, rfl, rfl, h3, h4, k⟩)
theorem jList_e {q : List W → (Mp → Prop) → Mp → Prop} : jList a ρ M q = a ρ M fun x M1 => refK x fun p => lstK (M1 p) fun l => q l (fun M' => M' p = some (.lst l)) M1 := by unfold jList refK lstK; congr 1; funext x M1; apply propext; constructor; (· rintro ⟨p, l, h1, h2, h⟩; exact ⟨p, h1, l, h2, h⟩); (· rintro ⟨p, h1, l, h2, h⟩; exact ⟨p, l, h1, h2, h⟩)
theorem jTup_e {q : List W → (Mp → Prop) → Mp → Prop} : jTup a ρ M q = a ρ M fun x M1 => tupK x fun l => q l (fun _ => True) M1 := rfl
def oneK (xs : List W) (k : W → Prop) : Prop := ∃ x, xs = [x] ∧ k x
theorem oneK_e {x : W} {k : W → Prop} : oneK [x] k = k x := by apply propext; constructor; (· rintro ⟨_, h, k⟩; cases h; exact k); (· intro h; exact ⟨_, rfl, h⟩)
theorem jRng1_e {a : WA} {q : List W → (Mp → Prop) → Mp → Prop} : jRng1 a ρ M q = a ρ M fun xs M1 => oneK xs fun x => intK x fun j => andK (-(2 ^ 62) ≤ j ∧ j < 2 ^ 62) (q (rangeW 0 j.toNat) (fun _ => True) M1) := by unfold jRng1 oneK intK andK; congr 1; funext x M1; apply propext; constructor; (· rintro ⟨j, h1, h2, h3, h⟩; exact ⟨_, h1, j, rfl, ⟨h2, h3⟩, h⟩); (· rintro ⟨_, h1, j, rfl, ⟨h2, h3⟩, h⟩; exact ⟨j, h1, h2, h3, h⟩)
theorem jRng2_e {a : WA} {q : List W → (Mp → Prop) → Mp → Prop} : jRng2 a ρ M q = a ρ M fun xs M1 => twoK xs fun x y => intK x fun i => intK y fun j => andK (-(2 ^ 62) ≤ i ∧ i < 2 ^ 62 ∧ -(2 ^ 62) ≤ j ∧ j < 2 ^ 62) (q (rangeW i (j - i).toNat) (fun _ => True) M1) := by unfold jRng2 twoK intK andK; congr 1; funext x M1; apply propext; constructor; (· rintro ⟨i, j, h1, h2, h⟩; exact ⟨_, _, h1, i, rfl, j, rfl, h2, h⟩); (· rintro ⟨_, _, h1, i, rfl, j, rfl, h2, h⟩; exact ⟨i, j, h1, h2, h⟩)
theorem wComp_e {it : WI} {own : Nat} {fr : List Nat} {g : WG} {c : WT} {el : WE} : wComp it own fr g c el ρ M q = it ρ M fun xs keep M1 => compK xs keep own fr g c el ρ M1 q := rfl
theorem wYes_e {q : Bool → Mp → Prop} : wYes ρ M q = q true M := rfl
end
theorem sl1 : (1 ≤ sizeLine) = True := by rw [sizeLine_eq]; decide
theorem sl2 : (2 ≤ sizeLine) = True := by rw [sizeLine_eq]; decide
theorem sl4 : (4 ≤ sizeLine) = True := by rw [sizeLine_eq]; decide
theorem sl5 : (5 ≤ sizeLine) = True := by rw [sizeLine_eq]; decide
theorem sl0 : (0 ≤ sizeLine) = True := by simp
theorem iteK_d {c A B : Prop} [Decidable c] (h1 : c → A) (h2 : ¬ c → B) : iteK (decide c) A B := by
  unfold iteK
  by_cases h : c
  · rw [if_pos (decide_eq_true h)]; exact h1 h
  · rw [if_neg (by simpa using h)]; exact h2 h
theorem comp_pureK {xs : List W} {keep : Mp → Prop} {M1 : Mp} {own : Nat} {fr : List Nat} {ρ : WSt} {g : WG} {c : WT} {el : WE} {q : WK} (f : W → Option W) (hz : xs.length ≤ sizeLine) (hkeep : ∀ M, Sm M1 M → keep M)
    (hs : ∀ (i : Nat) x, xs[i]? = some x → ∀ (M : Mp) (N : Option W → Mp → Prop), Sm M1 M → N (f x) M → g x (capρ own fr ρ) M fun ρ2 M2 => c ρ2 M2 fun b M3 => iteK b (el ρ2 M3 fun y M4 => N (some y) M4) (N none M3))
    (hq : ∀ p, M1 p = none → q (wr p) (um M1 p (.lst (xs.filterMap f)))) : compK xs keep own fr g c el ρ M1 q := comp_pure f hz hkeep hs hq
end WL
namespace WL
def hold (f : WSt → Mp → Prop) (ρ : WSt) (M : Mp) : Prop := f ρ M
theorem hold_i {f : WSt → Mp → Prop} {ρ : WSt} {M : Mp} (h : f ρ M) : hold f ρ M := h
theorem sSeq_h {a b : WS} {D : WEnds} {ρ : WSt} {M : Mp} : sSeq a b D ρ M = a { nx := hold (b D), rt := D.rt, bk := D.bk, ct := D.ct } ρ M := rfl
end WL
namespace WL
theorem if_mid {c : WT} {a b R : WS} {D : WEnds} {ρ : WSt} {M : Mp} (Mid : WSt → Mp → Prop) (rest : ∀ ρ M, Mid ρ M → R D ρ M) (h : ∀ N : WSt → Mp → Prop, (∀ ρ M, Mid ρ M → N ρ M) → sIf c a b { nx := N, rt := D.rt, bk := D.bk, ct := D.ct } ρ M) : sSeq (sIf c a b) R D ρ M := h _ rest
end WL
namespace WL
theorem for_i {xs : List W} {keep : Mp → Prop} {g : WG} {b : WS} {D : WEnds} {ρ : WSt} {M1 : Mp} (I : Nat → WSt → Mp → Prop) (h0 : I 0 ρ M1) (hk : ∀ i ρ M, i ≤ xs.length → I i ρ M → keep M)
    (hs : ∀ i x ρ M, xs[i]? = some x → I i ρ M → ∀ N : WSt → Mp → Prop, (∀ ρ' M', I (i + 1) ρ' M' → N ρ' M') → g x ρ M fun ρ2 M2 => b { nx := N, rt := D.rt, bk := D.nx, ct := N } ρ2 M2)
    (hd : ∀ ρ M, I xs.length ρ M → D.nx ρ M) : forK xs keep g b D ρ M1 := ⟨I, h0, hk, fun i x ρ M hx hI => hs i x ρ M hx hI _ fun _ _ h => h, hd⟩
end WL
namespace WL
open PySem L2
def RR := And.intro @lstK_e (And.intro @dicK_e (And.intro @optK_e (And.intro @andK_e (And.intro @iteK_t (And.intro @iteK_f (And.intro @isB_e (And.intro @refK_e (And.intro @tupK_e (And.intro @keyK_i (And.intro @wVar_0 (And.intro @wVar_1 (And.intro @wVar_2 (And.intro @wVar_3 (And.intro @wVar_4 (And.intro @wVar_5 (And.intro @wVar_6 (And.intro @wVar_7 (And.intro @wVar_8 (And.intro @wC_e (And.intro @wOp_e (And.intro @wUn_e (And.intro @wI_e (And.intro @wI0_e (And.intro @wU_e (And.intro @wEq_i (And.intro @wNe_i (And.intro @wEq_b (And.intro @wTest_e (And.intro @wAnd_e (And.intro @wOr_e (And.intro @wNot_e (And.intro @wAndV_e (And.intro @wOrV_e (And.intro @wNotV_e (And.intro @wIf_e (And.intro @wChain_e (And.intro @wNil_e (And.intro @wCons_e (And.intro @wTup_e (And.intro @wLst_e (And.intro @wIxL_e (And.intro @wIxT_e (And.intro @wNoPart_e (And.intro @intK_e (And.intro @wPart_e (And.intro @wSl_e (And.intro @wCB_e (And.intro @wCall_e (And.intro @wLen_l (And.intro @wAbs_e (And.intro @wMax2_e (And.intro @wTupleOf_l (And.intro @wIsX_e (And.intro @wBM_e (And.intro @wAppend_e (And.intro @wTruth_e (And.intro @wDNew_e (And.intro @wDGet_e (And.intro @wDGet2_e (And.intro @sSeq_e (And.intro @sNext_e (And.intro @sBreak_e (And.intro @sCont_e (And.intro @sDrop_e (And.intro @sRet_e (And.intro @sRetN_e (And.intro @sIf_e (And.intro @sAsg_e (And.intro @twoK_e (And.intro @sPar_e (And.intro @sAug_e (And.intro @sAugS_e (And.intro @sDPutW_e (And.intro @sFor_e (And.intro @sWhile_e (And.intro @vName_e (And.intro @vNil_e (And.intro @vCons_e (And.intro @vTup_e (And.intro @vSub_e (And.intro @wSetL_e (And.intro @jList_e (And.intro @jTup_e (And.intro @oneK_e (And.intro @jRng1_e (And.intro @jRng2_e (And.intro @wComp_e (@wYes_e))))))))))))))))))))))))))))))))))))))))))))))))))))))))))))))))))))))))))))))))))))))))
def HH := And.intro @lstK_e (And.intro @dicK_e (And.intro @optK_e (And.intro @andK_e (And.intro @iteK_t (And.intro @iteK_f (And.intro @isB_e (And.intro @refK_e (And.intro @tupK_e (And.intro @keyK_i (And.intro @wVar_0 (And.intro @wVar_1 (And.intro @wVar_2 (And.intro @wVar_3 (And.intro @wVar_4 (And.intro @wVar_5 (And.intro @wVar_6 (And.intro @wVar_7 (And.intro @wVar_8 (And.intro @wC_e (And.intro @wOp_e (And.intro @wUn_e (And.intro @wI_e (And.intro @wI0_e (And.intro @wU_e (And.intro @wEq_i (And.intro @wNe_i (And.intro @wEq_b (And.intro @wTest_e (And.intro @wAnd_e (And.intro @wOr_e (And.intro @wNot_e (And.intro @wAndV_e (And.intro @wOrV_e (And.intro @wNotV_e (And.intro @wIf_e (And.intro @wChain_e (And.intro @wNil_e (And.intro @wCons_e (And.intro @wTup_e (And.intro @wLst_e (And.intro @wIxL_e (And.intro @wIxT_e (And.intro @wNoPart_e (And.intro @intK_e (And.intro @wPart_e (And.intro @wSl_e (And.intro @wCB_e (And.intro @wCall_e (And.intro @wLen_l (And.intro @wAbs_e (And.intro @wMax2_e (And.intro @wTupleOf_l (And.intro @wIsX_e (And.intro @wBM_e (And.intro @wAppend_e (And.intro @wTruth_e (And.intro @wDNew_e (And.intro @wDGet_e (And.intro @wDGet2_e (And.intro @sSeq_h (And.intro @sNext_e (And.intro @sBreak_e (And.intro @sCont_e (And.intro @sDrop_e (And.intro @sRet_e (And.intro @sRetN_e (And.intro @sIf_e (And.intro @sAsg_e (And.intro @twoK_e (And.intro @sPar_e (And.intro @sAug_e (And.intro @sAugS_e (And.intro @sDPutW_e (And.intro @sFor_e (And.intro @sWhile_e (And.intro @vName_e (And.intro @vNil_e (And.intro @vCons_e (And.intro @vTup_e (And.intro @vSub_e (And.intro @wSetL_e (And.intro @jList_e (And.intro @jTup_e (And.intro @oneK_e (And.intro @jRng1_e (And.intro @jRng2_e (And.intro @wComp_e (@wYes_e))))))))))))))))))))))))))))))))))))))))))))))))))))))))))))))))))))))))))))))))))))))))
def GG := And.intro @kit_int_int (And.intro @kit_int_bool (And.intro @kit_int_str (And.intro @kit_int_tuple (And.intro @kit_int_list (And.intro @kit_bool_int (And.intro @kit_bool_bool (And.intro @kit_bool_str (And.intro @kit_bool_tuple (And.intro @kit_bool_list (And.intro @kit_str_int (And.intro @kit_str_bool (And.intro @kit_str_str (And.intro @kit_str_tuple (And.intro @kit_str_list (And.intro @kit_NoneType_int (And.intro @kit_NoneType_bool (And.intro @kit_NoneType_str (And.intro @kit_NoneType_tuple (And.intro @kit_NoneType_list (And.intro @kit_tuple_int (And.intro @kit_tuple_bool (And.intro @kit_tuple_str (And.intro @kit_tuple_tuple (And.intro @kit_tuple_list (And.intro @kit_list_int (And.intro @kit_list_bool (And.intro @kit_list_str (And.intro @kit_list_tuple (And.intro @kit_list_list (And.intro @sl1 (And.intro @sl2 (And.intro @sl4 (And.intro @sl5 (And.intro @sl0 (And.intro @List.map_cons.{0, 0} (And.intro @List.map_nil.{0, 0} (And.intro @List.length_cons.{0} (And.intro @List.length_nil.{0} (And.intro @Nat.zero_add (And.intro @List.cons_append.{0} (And.intro @List.nil_append.{0} (And.intro @List.set_cons_zero.{0} (And.intro @List.set_cons_succ.{0} (And.intro @um_same (And.intro @um_um (And.intro @atI_0 (And.intro @atI_1 (And.intro @atI_2 (And.intro @atI_3 (And.intro @ixN_1 (And.intro @ixN_2 (And.intro @ixN_3 (And.intro @Bool.not_true (And.intro @Bool.not_false (And.intro @List.getElem?_cons_zero.{0} (And.intro @List.getElem?_cons_succ.{0} (And.intro @Option.join_some.{0} (And.intro @and_self (And.intro @and_true (And.intro @true_and (And.intro @Option.getD_some.{0} (@Option.getD_none.{0}))))))))))))))))))))))))))))))))))))))))))))))))))))))))))))))
end WL
namespace WP
open PySem L2 WL
abbrev Pt := List (Int × Int)
def look : Pt → Int → Int
  | [], _ => 0
  | q :: r, x => if q.1 = x then q.2 else look r x
def IsPat (p : Int) (l : Pt) : Prop := (∀ q ∈ l, 0 < q.2 ∧ q.2 < p) ∧ l.Pairwise (fun a b => a.1 < b.1)
def tot : Pt → Int → Int
  | [], _ => 0
  | q :: r, x => (if q.1 = x then q.2 else 0) + tot r x
theorem tot_append (a b : Pt) (x : Int) : tot (a ++ b) x = tot a x + tot b x := by
  induction a with
  | nil => simp [tot]
  | cons q r ih => rw [List.cons_append, tot, tot, ih]; omega
theorem tot_snoc (a : Pt) (q : Int × Int) (x : Int) : tot (a ++ [q]) x = tot a x + if q.1 = x then q.2 else 0 := by
  rw [tot_append]; simp [tot]
theorem look_not {l : Pt} {x : Int} (h : ∀ q ∈ l, q.1 ≠ x) : look l x = 0 := by
  induction l with
  | nil => rfl
  | cons q r ih => rw [look, if_neg (h q (by simp)), ih fun z hz => h z (by simp [hz])]
theorem tot_not {l : Pt} {x : Int} (h : ∀ q ∈ l, q.1 ≠ x) : tot l x = 0 := by
  induction l with
  | nil => rfl
  | cons q r ih => rw [tot, if_neg (h q (by simp)), ih fun z hz => h z (by simp [hz])]; rfl
theorem IsPat.tail {p : Int} {q : Int × Int} {r : Pt} (h : IsPat p (q :: r)) : IsPat p r := ⟨fun z hz => h.1 z (by simp [hz]), (List.pairwise_cons.mp h.2).2⟩
theorem IsPat.nil {p : Int} : IsPat p [] := ⟨fun _ h => absurd h (by simp), List.Pairwise.nil⟩
theorem pat_ext {p p' : Int} : ∀ {a b : Pt}, IsPat p a → IsPat p' b → (∀ x, look a x = look b x) → a = b
  | [], [], _, _, _ => rfl
  | [], q :: r, _, hb, h => by
    have := h q.1
    rw [look, look, if_pos rfl] at this
    have := hb.1 q (by simp); omega
  | q :: r, [], ha, _, h => by
    have := h q.1
    rw [look, look, if_pos rfl] at this
    have := ha.1 q (by simp); omega
  | q :: r, q' :: r', ha, hb, h => by
    have pa := ha.1 q (by simp)
    have pb := hb.1 q' (by simp)
    have sa := (List.pairwise_cons.mp ha.2).1
    have sb := (List.pairwise_cons.mp hb.2).1
    have e1 : q.1 = q'.1 := by
      rcases Int.lt_trichotomy q.1 q'.1 with l | l | l
      · have e := h q.1
        rw [look, if_pos rfl, look, if_neg (by omega), look_not (fun z hz => by have := sb z hz; omega)] at e
        omega
      · exact l
      · have e := h q'.1
        rw [look, if_neg (by omega), look_not (fun z hz => by have := sa z hz; omega), look, if_pos rfl] at e
        omega
    have e2 : q.2 = q'.2 := by
      have e := h q.1
      rw [look, if_pos rfl, look, if_pos e1.symm] at e
      exact e
    have e : r = r' := pat_ext ha.tail hb.tail fun x => by
      by_cases hx : q.1 = x
      · rw [look_not (fun z hz => by have := sa z hz; omega), look_not (fun z hz => by have := sb z hz; omega)]
      · have e := h x
        rwa [look, if_neg hx, look, if_neg (by omega)] at e
    rw [e, Prod.ext e1 e2]
def addAt (p : Int) : Pt → Int → Int → Pt
  | [], x, s => if s % p = 0 then [] else [(x, s % p)]
  | q :: r, x, s => if x < q.1 then (if s % p = 0 then q :: r else (x, s % p) :: q :: r) else if x = q.1 then (if (q.2 + s) % p = 0 then r else (x, (q.2 + s) % p) :: r) else q :: addAt p r x s
def nrm (p : Int) (ps : Pt) : Pt := ps.foldl (fun a q => addAt p a q.1 q.2) []
theorem addAt_mem {p : Int} {l : Pt} {x s : Int} {z : Int × Int} (h : z ∈ addAt p l x s) : z.1 = x ∨ z ∈ l := by
  induction l with
  | nil =>
    rw [addAt] at h
    split at h
    · cases h
    · left; rw [List.mem_singleton.mp h]
  | cons q r ih =>
    rw [addAt] at h
    split at h
    · split at h
      · exact .inr h
      · rcases List.mem_cons.mp h with h | h
        · left; rw [h]
        · exact .inr h
    · split at h
      · split at h
        · exact .inr (by simp [h])
        · rcases List.mem_cons.mp h with h | h
          · left; rw [h]
          · exact .inr (by simp [h])
      · rcases List.mem_cons.mp h with h | h
        · exact .inr (by simp [h])
        · rcases ih h with h | h
          · exact .inl h
          · exact .inr (by simp [h])
theorem mod_in {p s : Int} (hp : 0 < p) (h : ¬ s % p = 0) : 0 < s % p ∧ s % p < p := by
  have := Int.emod_nonneg s (show p ≠ 0 by omega)
  have := Int.emod_lt_of_pos s hp
  omega
theorem addAt_pat {p : Int} (hp : 0 < p) {l : Pt} {x s : Int} (h : IsPat p l) : IsPat p (addAt p l x s) := by
  induction l with
  | nil =>
    rw [addAt]
    split
    · exact IsPat.nil
    · rename_i hs
      exact ⟨fun q hq => by rw [List.mem_singleton.mp hq]; exact mod_in hp hs, by simp⟩
  | cons q r ih =>
    have sa := (List.pairwise_cons.mp h.2).1
    rw [addAt]
    split
    · rename_i hx
      split
      · exact h
      · rename_i hs
        refine ⟨fun z hz => ?_, List.pairwise_cons.mpr ⟨fun z hz => ?_, h.2⟩⟩
        · rcases List.mem_cons.mp hz with rfl | hz
          · exact mod_in hp hs
          · exact h.1 z hz
        · rcases List.mem_cons.mp hz with rfl | hz
          · exact hx
          · have := sa z hz; show x < z.1; omega
    · split
      · rename_i hx
        split
        · exact h.tail
        · rename_i hs
          refine ⟨fun z hz => ?_, List.pairwise_cons.mpr ⟨fun z hz => ?_, h.tail.2⟩⟩
          · rcases List.mem_cons.mp hz with rfl | hz
            · exact mod_in hp hs
            · exact h.1 z (by simp [hz])
          · have := sa z hz; show x < z.1; omega
      · rename_i h1 h2
        have ih' := ih h.tail
        refine ⟨fun z hz => ?_, List.pairwise_cons.mpr ⟨fun z hz => ?_, ih'.2⟩⟩
        · rcases List.mem_cons.mp hz with rfl | hz
          · exact h.1 z (by simp)
          · exact ih'.1 z hz
        · rcases addAt_mem hz with e | hz
          · omega
          · exact sa z hz
theorem look_addAt {p : Int} (hp : 0 < p) {l : Pt} {x s : Int} (h : IsPat p l) (y : Int) : look (addAt p l x s) y = if y = x then (look l x + s) % p else look l y := by
  induction l with
  | nil =>
    rw [addAt]
    by_cases hs : s % p = 0
    · rw [if_pos hs]; simp [look, hs]
    · rw [if_neg hs]
      by_cases e : y = x
      · subst e; simp [look]
      · rw [if_neg e]; simp [look, Ne.symm e]
  | cons q r ih =>
    have sa := (List.pairwise_cons.mp h.2).1
    have qr := h.1 q (by simp)
    rw [addAt]
    split
    · rename_i hx
      have hn : look (q :: r) x = 0 := look_not (fun z hz => by
        rcases List.mem_cons.mp hz with rfl | hz
        · omega
        · have := sa z hz; omega)
      rw [hn, Int.zero_add]
      split
      · rename_i hs
        by_cases e : y = x
        · rw [if_pos e, e, hn, hs]
        · rw [if_neg e]
      · by_cases e : y = x
        · rw [if_pos e, look, if_pos e.symm]
        · rw [if_neg e, look, if_neg (Ne.symm e)]
    · split
      · rename_i hx
        have hq : look (q :: r) x = q.2 := by rw [look, if_pos hx.symm]
        rw [hq]
        split
        · rename_i hs
          by_cases e : y = x
          · rw [if_pos e, hs, look_not (fun z hz => by have := sa z hz; omega)]
          · rw [if_neg e, look, if_neg (by omega)]
        · by_cases e : y = x
          · rw [if_pos e, look, if_pos e.symm]
          · rw [if_neg e, look, if_neg (Ne.symm e), look, if_neg (by omega)]
      · rename_i h1 h2
        rw [look, ih h.tail]
        by_cases e : y = x
        · rw [if_pos e, if_pos e, if_neg (by omega)]
          conv => rhs; rw [look, if_neg (by omega)]
        · rw [if_neg e, if_neg e, look]
theorem nrm_snoc (p : Int) (ps : Pt) (q : Int × Int) : nrm p (ps ++ [q]) = addAt p (nrm p ps) q.1 q.2 := by
  unfold nrm; rw [List.foldl_append]; rfl
theorem list_snoc {α : Type} {P : List α → Prop} (h0 : P []) (h1 : ∀ l a, P l → P (l ++ [a])) (l : List α) : P l := by
  have key : ∀ n : Nat, ∀ l : List α, l.length = n → P l := by
    intro n
    induction n with
    | zero => intro l hl; rw [List.length_eq_zero_iff.mp hl]; exact h0
    | succ n ih =>
      intro l hl
      have hne : l ≠ [] := by intro e; rw [e] at hl; cases hl
      rw [← List.dropLast_concat_getLast hne]
      exact h1 _ _ (ih _ (by rw [List.length_dropLast]; omega))
  exact key _ l rfl
theorem nrm_pat {p : Int} (hp : 0 < p) (ps : Pt) : IsPat p (nrm p ps) := by
  induction ps using list_snoc with
  | h0 => exact IsPat.nil
  | h1 l a ih => rw [nrm_snoc]; exact addAt_pat hp ih
theorem look_nrm {p : Int} (hp : 0 < p) (ps : Pt) (x : Int) : look (nrm p ps) x = tot ps x % p := by
  induction ps using list_snoc with
  | h0 => simp [nrm, look, tot]
  | h1 l a ih =>
    rw [nrm_snoc, look_addAt hp (nrm_pat hp l), tot_snoc]
    by_cases e : x = a.1
    · subst e
      rw [if_pos rfl, if_pos rfl, ih, Int.emod_add_emod]
    · rw [if_neg e, if_neg (Ne.symm e), ih, Int.add_zero]
theorem addAt_len {p : Int} {l : Pt} {x s : Int} : (addAt p l x s).length ≤ l.length + 1 := by
  induction l with
  | nil => rw [addAt]; split <;> simp
  | cons q r ih =>
    rw [addAt]
    split
    · split <;> simp
    · split
      · split <;> simp <;> omega
      · simp; exact ih
theorem nrm_len (p : Int) (ps : Pt) : (nrm p ps).length ≤ ps.length := by
  induction ps using list_snoc with
  | h0 => simp [nrm]
  | h1 l a ih => rw [nrm_snoc, List.length_append]; exact Nat.le_trans addAt_len (by simp; exact ih)
theorem nrm_in {p : Int} {ps : Pt} {z : Int × Int} (h : z ∈ nrm p ps) : ∃ q ∈ ps, q.1 = z.1 := by
  induction ps using list_snoc generalizing z with
  | h0 => simp [nrm] at h
  | h1 l a ih =>
    rw [nrm_snoc] at h
    rcases addAt_mem h with e | h
    · exact ⟨a, by simp, e.symm⟩
    · obtain ⟨q, h1, h2⟩ := ih h
      exact ⟨q, by simp [h1], h2⟩
def kvW (m : Pt) : List (Key × W) := m.map fun q => ((Sum.inl q.1 : Key), wi q.2)
def putI (m : Pt) (x v : Int) : Pt := if (m.any fun q => decide (q.1 = x)) = true then m.map (fun q => if q.1 = x then (q.1, v) else q) else m ++ [(x, v)]
theorem any_key {m : Pt} {x : Int} : (m.any fun q => decide (q.1 = x)) = true ↔ x ∈ m.map (·.1) := by
  rw [List.any_eq_true, List.mem_map]
  constructor
  · rintro ⟨q, hq, e⟩; exact ⟨q, hq, by simpa using e⟩
  · rintro ⟨q, hq, e⟩; exact ⟨q, hq, by simpa using e⟩
theorem inl_dec (a b : Int) : decide ((Sum.inl a : Key) = Sum.inl b) = decide (a = b) := by simp
theorem putW_kv (m : Pt) (x v : Int) : putW (kvW m) (.inl x) (wi v) = kvW (putI m x v) := by
  unfold putW putI
  have e : ((kvW m).any fun kv => decide (kv.1 = (Sum.inl x : Key))) = m.any fun q => decide (q.1 = x) := by
    unfold kvW; rw [List.any_map]; congr 1; funext q; exact inl_dec _ _
  rw [e]
  split
  · unfold kvW
    rw [List.map_map, List.map_map]
    apply List.map_congr_left
    intro q _
    show (if (Sum.inl q.1 : Key) = Sum.inl x then ((Sum.inl q.1 : Key), wi v) else (Sum.inl q.1, wi q.2)) = ((Sum.inl (if q.1 = x then (q.1, v) else q).1 : Key), wi (if q.1 = x then (q.1, v) else q).2)
    by_cases hq : q.1 = x
    · rw [if_pos (by rw [hq]), if_pos hq]
    · rw [if_neg (fun z => hq (Sum.inl.inj z)), if_neg hq]
  · unfold kvW; rw [List.map_append]; rfl
theorem valW_kv (m : Pt) (x : Int) : valW (kvW m) (.inl x) = (m.find? fun q => decide (q.1 = x)).map fun q => wi q.2 := by
  unfold valW kvW
  rw [List.find?_map, Option.map_map]
  have e : ((fun kv : Key × W => decide (kv.1 = (Sum.inl x : Key))) ∘ fun q : Int × Int => ((Sum.inl q.1 : Key), wi q.2)) = fun q => decide (q.1 = x) := by
    funext q; exact inl_dec _ _
  rw [e]; rfl
theorem find_look {m : Pt} {x : Int} : (m.find? fun q => decide (q.1 = x)) = none ∧ look m x = 0 ∧ x ∉ m.map (·.1) ∨ ∃ q, (m.find? fun q => decide (q.1 = x)) = some q ∧ look m x = q.2 := by
  induction m with
  | nil => exact .inl ⟨rfl, rfl, by simp⟩
  | cons q r ih =>
    rw [List.find?_cons, look]
    by_cases e : q.1 = x
    · simp only [e, decide_true]; exact .inr ⟨q, rfl, by simp⟩
    · simp only [e, decide_false, if_false]
      rcases ih with ⟨h1, h2, h3⟩ | h
      · exact .inl ⟨h1, h2, by rw [List.map_cons, List.mem_cons, not_or]; exact ⟨Ne.symm e, h3⟩⟩
      · exact .inr h
theorem getD_kv (m : Pt) (x : Int) : (valW (kvW m) (.inl x)).getD (wi 0) = wi (look m x) := by
  rw [valW_kv]
  rcases find_look (m := m) (x := x) with ⟨h1, h2, _⟩ | ⟨q, h1, h2⟩ <;> rw [h1, h2] <;> rfl
theorem val_kv {m : Pt} {x : Int} (h : x ∈ m.map (·.1)) : valW (kvW m) (.inl x) = some (wi (look m x)) := by
  rw [valW_kv]
  rcases find_look (m := m) (x := x) with ⟨_, _, h3⟩ | ⟨q, h1, h2⟩
  · exact absurd h h3
  · rw [h1, h2]; rfl
theorem kvW_keys (m : Pt) : (kvW m).map (·.1) = (m.map (·.1)).map Sum.inl := by
  unfold kvW; rw [List.map_map, List.map_map]; rfl
theorem keys_putI {m : Pt} {x v : Int} : (putI m x v).map (·.1) = if x ∈ m.map (·.1) then m.map (·.1) else m.map (·.1) ++ [x] := by
  unfold putI
  by_cases h : x ∈ m.map (·.1)
  · rw [if_pos (any_key.mpr h), if_pos h, List.map_map]
    apply List.map_congr_left
    intro q _
    show (if q.1 = x then (q.1, v) else q).1 = q.1
    split <;> rfl
  · rw [if_neg (fun e => h (any_key.mp e)), if_neg h, List.map_append]; rfl
theorem nd_putI {m : Pt} {x v : Int} (h : (m.map (·.1)).Nodup) : ((putI m x v).map (·.1)).Nodup := by
  rw [keys_putI]
  by_cases e : x ∈ m.map (·.1)
  · rw [if_pos e]; exact h
  · rw [if_neg e]; exact nd_snoc h e
theorem len_putI {m : Pt} {x v : Int} : (putI m x v).length ≤ m.length + 1 := by
  unfold putI; split
  · rw [List.length_map]; omega
  · simp
theorem look_putI {m : Pt} {x v y : Int} : look (putI m x v) y = if y = x then v else look m y := by
  unfold putI
  by_cases h : x ∈ m.map (·.1)
  · rw [if_pos (any_key.mpr h)]
    have key : ∀ m : Pt, look (m.map (fun q => if q.1 = x then (q.1, v) else q)) y = if y = x ∧ x ∈ m.map (·.1) then v else look m y := by
      intro m
      induction m with
      | nil => simp [look]
      | cons q r ih =>
        rw [List.map_cons, look, look, ih]
        by_cases hq : q.1 = x
        · by_cases hy : y = x
          · subst hy; simp [hq]
          · simp [hq, hy, Ne.symm hy]
        · by_cases hy : y = x
          · subst hy
            have : (y ∈ (q :: r).map (·.1)) = (y ∈ r.map (·.1)) := by rw [List.map_cons, List.mem_cons]; simp [Ne.symm hq]
            simp only [this, hq, if_false]
          · simp [hq, hy]
    rw [key]; simp [h]
  · rw [if_neg (fun e => h (any_key.mp e))]
    have key : ∀ m : Pt, x ∉ m.map (·.1) → look (m ++ [(x, v)]) y = if y = x then v else look m y := by
      intro m
      induction m with
      | nil =>
        intro _
        by_cases e : y = x
        · simp [look, e]
        · simp [look, e, Ne.symm e]
      | cons q r ih =>
        intro hn
        rw [List.map_cons, List.mem_cons, not_or] at hn
        rw [List.cons_append, look, look, ih hn.2]
        by_cases e : y = x
        · subst e; simp [Ne.symm hn.1]
        · simp [e]
    exact key m h
def sel (m : Pt) (ns : List Int) : Pt := ns.filterMap fun x => if look m x = 0 then none else some (x, look m x)
theorem look_sel {m : Pt} {x : Int} : ∀ {ns : List Int}, ns.Nodup → look (sel m ns) x = if x ∈ ns then look m x else 0
  | [], _ => rfl
  | n :: r, h => by
    rw [List.nodup_cons] at h
    have ih := look_sel (m := m) (x := x) h.2
    unfold sel at ih ⊢
    rw [List.filterMap_cons]
    by_cases e : look m n = 0
    · rw [if_pos e]
      show look (r.filterMap _) x = _
      rw [ih]
      by_cases hx : x = n
      · subst hx; rw [if_neg h.1, if_pos (by simp), e]
      · simp [hx]
    · rw [if_neg e]
      show look ((n, look m n) :: r.filterMap _) x = _
      rw [look, ih]
      by_cases hx : x = n
      · subst hx; rw [if_pos rfl, if_pos (by simp)]
      · rw [if_neg (Ne.symm hx)]; simp [hx]
theorem strict_of {ns : List Int} (h1 : ns.Pairwise (· ≤ ·)) (h2 : ns.Nodup) : ns.Pairwise (· < ·) := by
  refine (List.Pairwise.and h1 h2).imp ?_
  rintro a b ⟨h, n⟩
  omega
theorem sel_nrm {p : Int} (hp : 0 < p) {ps m : Pt} {ns : List Int} (hn : (m.map (·.1)).Nodup) (ht : ∀ x, look m x = tot ps x % p) (hperm : ns.Perm (m.map (·.1))) (hs : ns.Pairwise (· ≤ ·)) : sel m ns = nrm p ps := by
  have nd := hperm.nodup_iff.mpr hn
  have st := strict_of hs nd
  refine pat_ext (p := p) ⟨?_, ?_⟩ (nrm_pat hp ps) fun x => ?_
  · intro q hq
    obtain ⟨x, hx, e⟩ := List.mem_filterMap.mp hq
    split at e
    · cases e
    · rename_i h0
      cases e
      have := ht x
      have := Int.emod_nonneg (tot ps x) (show p ≠ 0 by omega)
      have := Int.emod_lt_of_pos (tot ps x) hp
      show 0 < look m x ∧ look m x < p
      omega
  · unfold sel
    refine List.Pairwise.filterMap _ ?_ st
    intro a b hab c hc d hd
    split at hc <;> cases hc
    split at hd <;> cases hd
    exact hab
  · rw [look_sel nd, look_nrm hp]
    split
    · exact ht x
    · rename_i hx
      rw [← ht x, look_not]
      intro q hq e
      exact hx (hperm.mem_iff.mpr (by rw [← e]; exact List.mem_map_of_mem hq))
def Few (_ : Pt) : Prop := True
theorem few {ps : Pt} : Few ps := trivial
theorem few_len {ps : Pt} (h : ps.length < 64) : Few ps := trivial
theorem mem_putI {m : Pt} {x v k : Int} (h : k ∈ (putI m x v).map (·.1)) : k = x ∨ k ∈ m.map (·.1) := by
  rw [keys_putI] at h
  split at h
  · exact .inr h
  · rcases List.mem_append.mp h with h | h
    · exact .inr h
    · exact .inl (List.mem_singleton.mp h)
end WP
namespace WQ
open PySem L2 WL WP
def pTake : WSp := fun xs M q => ∃ (d l : Addr) (n : Int), xs = [wr d, wi n] ∧ Dr M d l ∧ 0 < n ∧ n < 1073741824 ∧ ∀ (r : Int) (M' : Mp), 0 ≤ r → r < n → Dr M' d l → NB d M M' → q (wi r) M'
def pWide : WSp := fun xs M q => ∃ (d l : Addr), xs = [wr d] ∧ Dr M d l ∧ ∀ (r : Int) (M' : Mp), -(10 ^ 23) < r → r < 10 ^ 23 → Dr M' d l → NB d M M' → q (wi r) M'
def pP : WSp := fun xs M q => ∃ (d l : Addr), xs = [wr d] ∧ Dr M d l ∧ ∀ (p : Int) (M' : Mp), (p = 2 ∨ p = 3 ∨ p = 5 ∨ p = 7) → Dr M' d l → NB d M M' → q (wi p) M'
def pTidy : WSp := fun xs M q => ∃ (a : Addr) (p : Int) (ps : Pt), xs = [wi p, wr a] ∧ M a = some (.lst (ps.map pairW)) ∧ 0 < p ∧ Few ps ∧ ps.length ≤ 100000 ∧ q (patW (nrm p ps)) M
def pPattern : WSp := fun xs M q => ∃ (d l : Addr) (p most far : Int), xs = [wr d, wi p, wi most, wi far] ∧ Dr M d l ∧ 2 ≤ p ∧ p < 1000 ∧ 0 ≤ most ∧ most < 63 ∧ 0 ≤ far ∧ far < 100000000 ∧
  ∀ (ps : Pt) (M' : Mp), (ps.length : Int) ≤ most → (∀ z ∈ ps, -far ≤ z.1 ∧ z.1 ≤ far ∧ 0 < z.2 ∧ z.2 < p) → Dr M' d l → NB d M M' → q (patW (nrm p ps)) M'
def mv (by_ : Int) (l : Pt) : Pt := l.map fun z => (z.1 + by_, z.2)
def pInt : WSp := fun xs M q => ∃ i : Int, xs = [wi i] ∧ q (wb true) M
def tm (n : Int) (l : Pt) : Pt := l.map fun z => (z.1, z.2 * n)
theorem big {n : Nat} (h : n ≤ 100000) : n ≤ sizeLine := Nat.le_trans h (by rw [sizeLine_eq]; decide)
theorem bigL {n : Nat} (h : n ≤ 100000) : n < sizeLine := Nat.lt_of_le_of_lt h (by rw [sizeLine_eq]; decide)
def spBegin (K : PySem.W.Frag) : Sp := fun vs H Q _ => ∃ (a : Addr) (ns : List Int), vs = [.ref a] ∧ SqL K H a (ns.map V.int) ∧ ∀ (d l : Addr) (ms : List Int) (H' : Hp), d ≠ l → H' d = some (.lst [.ref l, .int 0, .int 0, .int 11]) → H' l = some (.lst (ms.map V.int)) → Q (.ref d) H'
def spLaw (K : PySem.W.Frag) : Sp := fun vs H Q _ => ∃ (a : Addr) (ns : List Int), vs = [.ref a] ∧ SqL K H a (ns.map V.int) ∧ ∀ H', Q (.bl true) H'
theorem okLaw {P : Program} {w : World} {K : PySem.W.Frag} {mg : Str → Option Value} {base : Heap} {x qual z : Str} {st : Stmt} {f : Addr} {fd : FuncData} {N : List Str} {k : Nat} (F : Fun K x qual st f fd) (S : FnScope N [z] (defScope st)) (hN : 2 ≤ N.length)
    (hbody : ∀ (cdv : Value) (A : Around) (outer : List Env) (s : Shared) (H : Hp) (E : XK), Room k (A.deeper (PyProof.Rows.envOfC qual (defScope st) s.heap.objs.size f cdv)) →
      ∃ R, PSs (cxOf CX0 P w K mg base N qual (defScope st) f cdv A outer s H E).nox (defBody st) (tSeq (tAsg (tCall (spBegin K) [] E0 (tCons (tVar 0) tNil)) (gName 1)) R) ∧
        ∃ w', IS K R w' ∧ ∀ d l M, Dr M d l → w' { nx := fun _ _ => False, rt := fun x _ => x = wb true } (none :: some (wr d) :: List.replicate (N.length - 2) none) M) :
    FnOk P w K mg base CX0 (k + 1) f fd [z] (spLaw K) := by
  refine Fun.ok F S (fun vs H Q E ⟨a, ns, h, _⟩ => by rw [h]; rfl) fun cdv A outer s H vs Q E hr h => ?_
  obtain ⟨R, h1, w', h2, h3⟩ := hbody cdv A outer s H E hr
  obtain ⟨a, ns, rfl, hs, hq⟩ := h
  refine ⟨_, h1, ?_⟩
  obtain ⟨n, hn⟩ : ∃ n, N.length = n + 2 := ⟨N.length - 2, by omega⟩
  have e0 : L2.start N [V.ref a] = some (V.ref a) :: none :: List.replicate n none := by
    unfold L2.start
    rw [hn]
    rfl
  rw [e0]
  refine ⟨_, rfl, a, ns, rfl, hs, fun d l ms H' hne hd hl => ?_⟩
  show R _ _ H'
  refine h2.imp (none :: some (wr d) :: List.replicate (N.length - 2) none) (um (um (fun _ => none) l (.lst (ms.map wi))) d (.lst [wr l, wi 0, wi 0, wi 11])) _ H' _ _ ⟨⟨?_, fun i y e => ?_⟩, fun b o e => ?_⟩ (h3 d l _ ⟨ms, 0, 0, 11, um_same, by rw [um_ne (Ne.symm hne), um_same], by decide, hne⟩) ⟨fun _ _ _ _ h => h.elim, fun y M' v H2 e _ _ r => ?_, fun _ _ _ _ h => h.elim, fun _ _ _ _ h => h.elim⟩
  · simp [hn]
  · match i with
    | 0 => simp at e
    | 1 =>
      simp at e
      subst e
      exact ⟨.ref d, rfl, WR.v⟩
    | i + 2 =>
      simp [List.getElem?_replicate] at e
  · by_cases hb : b = d
    · subst hb
      rw [um_same] at e; cases e
      exact ⟨_, hd, WRs.cons WR.v (WRs.cons WR.v (WRs.cons WR.v (WRs.cons WR.v WRs.nil)))⟩
    · rw [um_ne hb] at e
      by_cases hb' : b = l
      · subst hb'
        rw [um_same] at e; cases e
        exact ⟨_, hl, WRs.ofInts ms⟩
      · rw [um_ne hb'] at e; cases e
  · subst e
    rw [r.eq]
    exact hq H2
end WQ
namespace WQ
open PySem L2 WL WP
abbrev Rd := Int × Pt
def jn (p : Int) (a b : Rd) : Rd := (a.1 + b.1, nrm p (a.2 ++ mv a.1 b.2))
def bk (p : Int) (a : Rd) : Rd := (-a.1, nrm p (tm (-1) (mv (-a.1) a.2)))
end WQ
namespace WL
open PySem PySem.Spec PyProof.Rows L2
theorem argBest_le (bt : Nat → Nat → Bool) : ∀ k, PySem.argBest bt k ≤ k
  | 0 => Nat.le_refl _
  | k + 1 => by
    unfold PySem.argBest
    split
    · exact Nat.le_refl _
    · exact Nat.le_succ_of_le (argBest_le bt k)
theorem argBest_max (val : Nat → Int) : ∀ k j, j ≤ k → val j ≤ val (PySem.argBest (fun i j => decide (val i > val j)) k)
  | 0, j, h => by have : j = 0 := by omega
                  subst this; exact Int.le_refl _
  | k + 1, j, h => by
    have ih := argBest_max val k
    unfold PySem.argBest
    by_cases hb : val (k + 1) > val (PySem.argBest (fun i j => decide (val i > val j)) k)
    · rw [if_pos (decide_eq_true hb)]
      rcases Nat.lt_or_ge j (k + 1) with h' | h'
      · have := ih j (by omega); omega
      · have : j = k + 1 := by omega
        subst this; exact Int.le_refl _
    · rw [if_neg (by simpa using hb)]
      rcases Nat.lt_or_ge j (k + 1) with h' | h'
      · exact ih j (by omega)
      · have : j = k + 1 := by omega
        subst this; omega
theorem argBest_min (val : Nat → Int) : ∀ k j, j ≤ k → val (PySem.argBest (fun i j => decide (val i < val j)) k) ≤ val j
  | 0, j, h => by have : j = 0 := by omega
                  subst this; exact Int.le_refl _
  | k + 1, j, h => by
    have ih := argBest_min val k
    unfold PySem.argBest
    by_cases hb : val (k + 1) < val (PySem.argBest (fun i j => decide (val i < val j)) k)
    · rw [if_pos (decide_eq_true hb)]
      rcases Nat.lt_or_ge j (k + 1) with h' | h'
      · have := ih j (by omega); omega
      · have : j = k + 1 := by omega
        subst this; exact Int.le_refl _
    · rw [if_neg (by simpa using hb)]
      rcases Nat.lt_or_ge j (k + 1) with h' | h'
      · exact ih j (by omega)
      · have : j = k + 1 := by omega
        subst this; omega
def IsMax (ns : List Int) (m : Int) : Prop := m ∈ ns ∧ ∀ x ∈ ns, x ≤ m
def IsMin (ns : List Int) (m : Int) : Prop := m ∈ ns ∧ ∀ x ∈ ns, m ≤ x
def rMaxL (K : PySem.W.Frag) : List V → Hp → VK → Prop := fun xs H Q => ∃ (l : Addr) (ns : List Int), xs = [.ref l] ∧ SqL K H l (ns.map V.int) ∧ ns ≠ [] ∧ ∀ m, IsMax ns m → Q (.int m) H
def rMinL (K : PySem.W.Frag) : List V → Hp → VK → Prop := fun xs H Q => ∃ (l : Addr) (ns : List Int), xs = [.ref l] ∧ SqL K H l (ns.map V.int) ∧ ns ≠ [] ∧ ∀ m, IsMin ns m → Q (.int m) H
section
variable {X : Cx}
theorem its_int {its : List Value} {ns : List Int} (rv : Vals (ns.map V.int) its) {i : Nat} {v : Value} (e : its.toArray[i]? = some v) : ∃ t, v = .int (ns.getD i 0) t ∧ i < ns.length := by
  have e' : its[i]? = some v := by simpa using e
  have hlen := rv.length
  have hi : i < ns.length := by
    have := (List.getElem?_eq_some_iff.mp e').1
    rw [List.length_map] at hlen
    omega
  obtain ⟨w', hw, rw'⟩ := rv.get (i := i) (x := .int ns[i]) (by rw [List.getElem?_map, List.getElem?_eq_getElem hi]; rfl)
  rw [e'] at hw
  cases hw
  obtain ⟨t, rfl⟩ := rw'
  exact ⟨t, by simp [List.getD, hi], hi⟩
theorem gd_at {ns : List Int} {i : Nat} (h : i < ns.length) : ns.getD i 0 = ns[i] := by simp [List.getD, h]
theorem best_max {ns : List Int} (hn : ns ≠ []) : IsMax ns (ns.getD (PySem.argBest (fun i j => decide (ns.getD i 0 > ns.getD j 0)) (ns.length - 1)) 0) := by
  have hl : 0 < ns.length := List.length_pos_iff.mpr hn
  have hb := argBest_le (fun i j => decide (ns.getD i 0 > ns.getD j 0)) (ns.length - 1)
  have hi : PySem.argBest (fun i j => decide (ns.getD i 0 > ns.getD j 0)) (ns.length - 1) < ns.length := by omega
  refine ⟨?_, fun x hx => ?_⟩
  · rw [gd_at hi]; exact List.getElem_mem hi
  · obtain ⟨j, hj, rfl⟩ := List.mem_iff_getElem.mp hx
    have := argBest_max (fun i => ns.getD i 0) (ns.length - 1) j (by omega)
    have e : ns.getD j 0 = ns[j] := by simp [List.getD, hj]
    simp only [e] at this
    exact this
theorem best_min {ns : List Int} (hn : ns ≠ []) : IsMin ns (ns.getD (PySem.argBest (fun i j => decide (ns.getD i 0 < ns.getD j 0)) (ns.length - 1)) 0) := by
  have hl : 0 < ns.length := List.length_pos_iff.mpr hn
  have hb := argBest_le (fun i j => decide (ns.getD i 0 < ns.getD j 0)) (ns.length - 1)
  have hi : PySem.argBest (fun i j => decide (ns.getD i 0 < ns.getD j 0)) (ns.length - 1) < ns.length := by omega
  refine ⟨?_, fun x hx => ?_⟩
  · rw [gd_at hi]; exact List.getElem_mem hi
  · obtain ⟨j, hj, rfl⟩ := List.mem_iff_getElem.mp hx
    have := argBest_min (fun i => ns.getD i 0) (ns.length - 1) j (by omega)
    have e : ns.getD j 0 = ns[j] := by simp [List.getD, hj]
    simp only [e] at this
    exact this
theorem call_maxL (hc : X.calm = true) : CallR X (.builtin "max") (rMaxL X.K) := by
  intro pins s σ H xs us Q I r h
  obtain ⟨l, ns, rfl, hs, hn, q⟩ := h
  obtain ⟨u, rfl, ru⟩ := vals1 r
  cases ru
  obtain ⟨its, rv, ht, hz⟩ := I.list hs
  have hh : X.A.in1.handled = none := I.ok.hd hc
  have hlen : its.toArray.size = ns.length := by have := rv.length; rw [List.length_map] at this; simpa using this.symm
  have hlt : l < s.heap.objs.size := by obtain ⟨_, e, _⟩ := ht.isList; exact Heap.lt_size e
  refine PySem.call_max_walkS ?_
  refine wpAny_pyIter_list ht.isList ?_
  refine ⟨s.heap.objs.size, _, _, _, its.toArray.size, _, _, fun i j => decide (ns.getD i 0 > ns.getD j 0), rfl, (Walks.list hh s.heap.objs.size l (Nat.ne_of_lt hlt) its.toArray).toS, ⟨⟨_, Heap.get?_push_size _ rfl, rfl, rfl⟩, ht.isList.push _⟩, fun b hb => ?_, ?_, PySem.CmpOf.ints_gt (fun i => ns.getD i 0) (fun i v e => let ⟨t, h, _⟩ := its_int rv e; ⟨t, h⟩), fun v s' e hm => ?_⟩
  · show b < (s.heap.push _).objs.size
    rw [Heap.size_push]
    rcases List.mem_cons.mp hb with rfl | hb
    · exact Nat.lt_succ_self _
    · rw [List.mem_singleton.mp hb]; exact Nat.lt_succ_of_lt hlt
  · rw [hlen]; exact List.length_pos_iff.mpr hn
  · have hk : ∀ b o, s.heap.get? b = some o → s'.heap.get? b = some o := fun b o e =>
      hm.heap b o (fun hI => absurd (Heap.lt_size e) (by rw [List.mem_singleton.mp hI]; exact Nat.lt_irrefl _)) (Heap.get?_push_of_some _ e)
    rw [Moved.eq_with hm]
    obtain ⟨t, rfl, _⟩ := its_int rv e
    rw [hlen]
    exact ⟨.int _, H, I.kept (t' := s'.toks) hk, ⟨t, rfl⟩, q _ (best_max hn)⟩
theorem call_minL (hc : X.calm = true) : CallR X (.builtin "min") (rMinL X.K) := by
  intro pins s σ H xs us Q I r h
  obtain ⟨l, ns, rfl, hs, hn, q⟩ := h
  obtain ⟨u, rfl, ru⟩ := vals1 r
  cases ru
  obtain ⟨its, rv, ht, hz⟩ := I.list hs
  have hh : X.A.in1.handled = none := I.ok.hd hc
  have hlen : its.toArray.size = ns.length := by have := rv.length; rw [List.length_map] at this; simpa using this.symm
  have hlt : l < s.heap.objs.size := by obtain ⟨_, e, _⟩ := ht.isList; exact Heap.lt_size e
  refine PySem.call_min_walkS ?_
  refine wpAny_pyIter_list ht.isList ?_
  refine ⟨s.heap.objs.size, _, _, _, its.toArray.size, _, _, fun i j => decide (ns.getD i 0 < ns.getD j 0), rfl, (Walks.list hh s.heap.objs.size l (Nat.ne_of_lt hlt) its.toArray).toS, ⟨⟨_, Heap.get?_push_size _ rfl, rfl, rfl⟩, ht.isList.push _⟩, fun b hb => ?_, ?_, PySem.CmpOf.ints_lt (fun i => ns.getD i 0) (fun i v e => let ⟨t, h, _⟩ := its_int rv e; ⟨t, h⟩), fun v s' e hm => ?_⟩
  · show b < (s.heap.push _).objs.size
    rw [Heap.size_push]
    rcases List.mem_cons.mp hb with rfl | hb
    · exact Nat.lt_succ_self _
    · rw [List.mem_singleton.mp hb]; exact Nat.lt_succ_of_lt hlt
  · rw [hlen]; exact List.length_pos_iff.mpr hn
  · have hk : ∀ b o, s.heap.get? b = some o → s'.heap.get? b = some o := fun b o e =>
      hm.heap b o (fun hI => absurd (Heap.lt_size e) (by rw [List.mem_singleton.mp hI]; exact Nat.lt_irrefl _)) (Heap.get?_push_of_some _ e)
    rw [Moved.eq_with hm]
    obtain ⟨t, rfl, _⟩ := its_int rv e
    rw [hlen]
    exact ⟨.int _, H, I.kept (t' := s'.toks) hk, ⟨t, rfl⟩, q _ (best_min hn)⟩
variable {K : PySem.W.Frag}
def wMinL : WCl := fun xs M q => ∃ (a : Addr) (ns : List Int), xs = [wr a] ∧ M a = some (.lst (ns.map wi)) ∧ ns ≠ [] ∧ ∀ m, IsMin ns m → q (wi m) M
instance : IC K (rMinL K) wMinL where
  imp := by
    rintro xs v M H q Q m r1 ⟨a, ns, rfl, hl, hn, h⟩ k
    obtain ⟨v, rfl, r⟩ := r1.one
    cases r.eq
    obtain ⟨vs, hv, rr⟩ := m a _ hl
    cases rr.ints
    exact ⟨a, ns, rfl, SqL.of hv, hn, fun x hx => k _ M _ H (h x hx) (TSame.refl H) m WR.v⟩
end
end WL
namespace WQ
open PySem L2 WL WP
def prc (p s : Int) : Int := if p - s < s then p - s else s
def spots (a : Rd) : List Int := 0 :: a.1 :: a.2.map (·.1)
def absI (i : Int) : Int := if i < 0 then -i else i
def fwv (p : Int) (a : Rd) (lo hi : Int) : Int := 2 * (hi - lo) - absI a.1 + (a.2.map fun z => prc p z.2).sum
theorem IsMin.uniq {ns : List Int} {a b : Int} (h : IsMin ns a) (h' : IsMin ns b) : a = b := by
  have := h.2 b h'.1
  have := h'.2 a h.1
  omega
theorem IsMax.uniq {ns : List Int} {a b : Int} (h : IsMax ns a) (h' : IsMax ns b) : a = b := by
  have := h.2 b h'.1
  have := h'.2 a h.1
  omega
end WQ
namespace WL
open PySem PySem.Spec PyProof.Rows L2
section
variable {X : Cx}
def rAny (K : PySem.W.Frag) : List V → Hp → VK → Prop := fun xs H Q => ∃ (l : Addr) (bs : List Bool), xs = [.ref l] ∧ SqL K H l (bs.map V.bl) ∧ Q (.bl (bs.any id)) H
theorem its_bl {its : List Value} {bs : List Bool} (rv : Vals (bs.map V.bl) its) {i : Nat} {v : Value} (e : its.toArray[i]? = some v) : v = .bool (bs.getD i false) ∧ i < bs.length := by
  have e' : its[i]? = some v := by simpa using e
  have hlen := rv.length
  have hi : i < bs.length := by
    have := (List.getElem?_eq_some_iff.mp e').1
    rw [List.length_map] at hlen
    omega
  obtain ⟨w', hw, rw'⟩ := rv.get (i := i) (x := .bl bs[i]) (by rw [List.getElem?_map, List.getElem?_eq_getElem hi]; rfl)
  rw [e'] at hw
  cases hw
  cases rw'
  exact ⟨by simp [List.getD, hi], hi⟩
theorem range_any (bs : List Bool) : (List.range bs.length).any (fun i => bs.getD i false) = bs.any id := by
  apply Bool.eq_iff_iff.mpr
  rw [List.any_eq_true, List.any_eq_true]
  constructor
  · rintro ⟨i, hi, h⟩
    rw [List.mem_range] at hi
    exact ⟨bs[i], List.getElem_mem hi, by simpa [List.getD, hi] using h⟩
  · rintro ⟨x, hx, h⟩
    obtain ⟨i, hi, rfl⟩ := List.mem_iff_getElem.mp hx
    exact ⟨i, List.mem_range.mpr hi, by simpa [List.getD, hi] using h⟩
theorem call_anyW (hc : X.calm = true) : CallR X (.builtin "any") (rAny X.K) := by
  intro pins s σ H xs us Q I r h
  obtain ⟨l, bs, rfl, hs, q⟩ := h
  obtain ⟨u, rfl, ru⟩ := vals1 r
  cases ru
  obtain ⟨its, rv, ht, hz⟩ := I.list hs
  have hh : X.A.in1.handled = none := I.ok.hd hc
  have hlen : its.toArray.size = bs.length := by have := rv.length; rw [List.length_map] at this; simpa using this.symm
  have hlt : l < s.heap.objs.size := by obtain ⟨_, e, _⟩ := ht.isList; exact Heap.lt_size e
  refine PySem.call_any_walkS (wpAny_pyIter_list ht.isList ?_)
  refine ⟨s.heap.objs.size, _, _, _, its.toArray.size, _, _, fun i => bs.getD i false, rfl, (Walks.list hh s.heap.objs.size l (Nat.ne_of_lt hlt) its.toArray).toS, ⟨⟨_, Heap.get?_push_size _ rfl, rfl, rfl⟩, ht.isList.push _⟩, fun i v s' Q' E' e hq => ?_, fun s' hm => ?_⟩
  · obtain ⟨rfl, _⟩ := its_bl rv e
    exact wpAny_truthy_bool hq
  · have hk : ∀ b o, s.heap.get? b = some o → s'.heap.get? b = some o := fun b o e =>
      hm.heap b o (fun hI => absurd (Heap.lt_size e) (by rw [List.mem_singleton.mp hI]; exact Nat.lt_irrefl _)) (Heap.get?_push_of_some _ e)
    rw [Moved.eq_with hm, hlen, range_any]
    exact ⟨.bl _, H, I.kept (t' := s'.toks) hk, rfl, q⟩
variable {K : PySem.W.Frag}
theorem WRs.bools {H : Hp} : ∀ {bs : List Bool} {vs : List V}, WRs K H (bs.map wb) vs → vs = bs.map V.bl
  | [], vs, h => by simpa only [List.map_nil, WRs] using h
  | n :: r, vs, h => by
    simp only [List.map_cons, WRs] at h
    obtain ⟨v, t, rfl, h1, h2⟩ := h
    rw [WRs.bools h2, h1.eq]; rfl
def wAny : WCl := fun xs M q => ∃ (a : Addr) (bs : List Bool), xs = [wr a] ∧ M a = some (.lst (bs.map wb)) ∧ q (wb (bs.any id)) M
instance : IC K (rAny K) wAny where
  imp := by
    rintro xs v M H q Q m r1 ⟨a, ns, rfl, hl, h⟩ k
    obtain ⟨v, rfl, r⟩ := r1.one
    cases r.eq
    obtain ⟨vs, hv, rr⟩ := m a _ hl
    cases rr.bools
    exact ⟨a, ns, rfl, SqL.of hv, k _ M _ H h (TSame.refl H) m WR.v⟩
end
end WL
namespace WL
open PySem L2
theorem comp_i {xs : List W} {keep : Mp → Prop} {M1 : Mp} {own : Nat} {fr : List Nat} {ρ : WSt} {g : WG} {c : WT} {el : WE} {q : WK} (hz : xs.length ≤ sizeLine)
    (h : ∀ p, M1 p = none → ∃ I : Nat → List W → Mp → Prop, I 0 [] (um M1 p (.lst [])) ∧ (∀ i ys M, i ≤ xs.length → I i ys M → keep M ∧ M p = some (.lst ys) ∧ ys.length ≤ i) ∧
      (∀ i x ys M, xs[i]? = some x → I i ys M → ∀ N : List W → Mp → Prop, (∀ ys M, I (i + 1) ys M → N ys M) → g x (capρ own fr ρ) M fun ρ2 M2 => c ρ2 M2 fun b M3 => iteK b (el ρ2 M3 fun y M4 => M4 p = some (.lst ys) ∧ N (ys ++ [y]) (um M4 p (.lst (ys ++ [y])))) (N ys M3)) ∧
      ∀ ys M, I xs.length ys M → q (wr p) M) : compK xs keep own fr g c el ρ M1 q := by
  refine ⟨hz, fun p hp => ?_⟩
  obtain ⟨I, h0, h1, h2, h3⟩ := h p hp
  exact ⟨I, h0, h1, fun i x ys M hx hI => h2 i x ys M hx hI _ fun _ _ z => z, h3⟩
end WL
namespace WQ
open PySem L2 WL WP
def IsSum (p : Int) (l : List Int) : Prop := (∀ x ∈ l, 0 ≤ x ∧ x < p) ∧ ∀ x, l.getLast? = some x → x ≠ 0
def addAtL (row : List Int) (k : Nat) (x : Int) : List Int := row.set k (row.getD k 0 + x)
def putK (row : List Int) (o : Nat) (l : List Int) (n : Nat) : List Int := (List.range n).foldl (fun r i => addAtL r (o + i) (l.getD i 0)) row
def pw (p s : Int) : Nat → Int
  | 0 => 1
  | n + 1 => pw p s n * s % p
end WQ
namespace WL
open PySem L2 PySem.Spec PyProof.Rows
abbrev WX := Addr → Mp → Prop
section
variable {K : PySem.W.Frag}
def up (e : WX) : WX := fun C M' => ∃ M0, Sm M0 M' ∧ e C M0
end
end WL
namespace WL
open PySem L2 PySem.Spec PyProof.Rows
section
variable {K : PySem.W.Frag}
def wJ0 (out : Str) : WE := fun _ M q => out.length ≤ sizeLine ∧ q (ws out) M
end
end WL
namespace WL
open PySem L2
section
variable {K : PySem.W.Frag}
def in2K (xs2 : List W) (keep2 : Mp → Prop) (g2 : WG) (c2 : WT) (el : WE) (ρ2 : WSt) (p : Addr) (ys : List W) (M4 : Mp) (N : List W → Mp → Prop) : Prop :=
  ∃ I2 : Nat → List W → Mp → Prop, I2 0 ys M4 ∧ (∀ j zs M, j ≤ xs2.length → I2 j zs M → keep2 M ∧ M p = some (.lst zs) ∧ zs.length < sizeLine) ∧
    (∀ j y zs M, xs2[j]? = some y → I2 j zs M → g2 y ρ2 M fun ρ3 M5 => c2 ρ3 M5 fun b M6 => if b = true then el ρ3 M6 fun z M7 => M7 p = some (.lst zs) ∧ I2 (j + 1) (zs ++ [z]) (um M7 p (.lst (zs ++ [z]))) else I2 (j + 1) zs M6) ∧
    ∀ zs M, I2 xs2.length zs M → N zs M
def comp2K (xs : List W) (keep : Mp → Prop) (own : Nat) (fr : List Nat) (g : WG) (c : WT) (it2 : WI) (g2 : WG) (c2 : WT) (el : WE) (ρ : WSt) (M1 : Mp) (q : WK) : Prop := ∀ p, M1 p = none → ∃ I : Nat → List W → Mp → Prop, I 0 [] (um M1 p (.lst [])) ∧
  (∀ i ys M, i ≤ xs.length → I i ys M → keep M ∧ M p = some (.lst ys)) ∧
  (∀ i x ys M, xs[i]? = some x → I i ys M → g x (capρ own fr ρ) M fun ρ2 M2 => c ρ2 M2 fun b M3 => if b = true then it2 ρ2 M3 fun xs2 keep2 M4 => in2K xs2 keep2 g2 c2 el ρ2 p ys M4 (I (i + 1)) else I (i + 1) ys M3) ∧
  ∀ ys M, I xs.length ys M → q (wr p) M
def wComp2 (it : WI) (own : Nat) (fr : List Nat) (g : WG) (c : WT) (it2 : WI) (g2 : WG) (c2 : WT) (el : WE) : WE := fun ρ M q => it ρ M fun xs keep M1 => comp2K xs keep own fr g c it2 g2 c2 el ρ M1 q
theorem wComp2_e {it : WI} {own : Nat} {fr : List Nat} {g : WG} {c : WT} {it2 : WI} {g2 : WG} {c2 : WT} {el : WE} {ρ : WSt} {M : Mp} {q : WK} : wComp2 it own fr g c it2 g2 c2 el ρ M q = it ρ M fun xs keep M1 => comp2K xs keep own fr g c it2 g2 c2 el ρ M1 q := rfl
theorem map_at {α : Type} {f : α → W} {l : List α} {i : Nat} {x : W} (h : (l.map f)[i]? = some x) : ∃ a, l[i]? = some a ∧ x = f a := by
  rw [List.getElem?_map] at h
  cases e : l[i]? with
  | none => rw [e] at h; cases h
  | some a => rw [e] at h; cases h; exact ⟨a, rfl, rfl⟩
theorem comp2_map {α β : Type} {l : List α} {fW : α → W} (inner : α → List β) (gW : β → W) (eW : α → β → W) {keep : Mp → Prop} {M1 : Mp} {own : Nat} {fr : List Nat} {ρ : WSt} {g : WG} {c : WT} {it2 : WI} {g2 : WG} {c2 : WT} {el : WE} {q : WK}
    (hz : (l.map fun a => (inner a).length).sum < sizeLine) (hkeep : ∀ M, Sm M1 M → keep M)
    (hs : ∀ a ∈ l, ∀ M, Sm M1 M → ∀ (B : WSt → List W → (Mp → Prop) → Mp → Prop) (N0 : Mp → Prop),
      (∀ ρ2 keep2, (∀ M', Sm M1 M' → keep2 M') → (∀ b ∈ inner a, ∀ M', Sm M1 M' → ∀ N : Option W → Mp → Prop, N (some (eW a b)) M' → g2 (gW b) ρ2 M' fun ρ3 M5 => c2 ρ3 M5 fun b M6 => iteK b (el ρ3 M6 fun z M7 => N (some z) M7) (N none M6)) → B ρ2 ((inner a).map gW) keep2 M) →
      g (fW a) (capρ own fr ρ) M fun ρ2 M2 => c ρ2 M2 fun b M3 => iteK b (it2 ρ2 M3 fun xs2 keep2 M4 => B ρ2 xs2 keep2 M4) (N0 M3))
    (hq : ∀ p, M1 p = none → q (wr p) (um M1 p (.lst (l.map fun a => (inner a).map (eW a)).flatten))) :
    comp2K (l.map fW) keep own fr g c it2 g2 c2 el ρ M1 q := by
  intro p hp
  have hlen : ∀ k : List α, (k.map fun a => (inner a).map (eW a)).flatten.length = (k.map fun a => (inner a).length).sum := fun k => by
    rw [List.length_flatten, List.map_map]
    congr 1
    apply List.map_congr_left
    intro a _
    simp
  have htake : ∀ i : Nat, ((l.take i).map fun a => (inner a).length).sum ≤ (l.map fun a => (inner a).length).sum := fun i => by
    have e : (l.map fun a => (inner a).length) = ((l.take i).map fun a => (inner a).length) ++ ((l.drop i).map fun a => (inner a).length) := by rw [← List.map_append, List.take_append_drop]
    rw [e, List.sum_append]
    omega
  refine ⟨fun i ys M => M = um M1 p (.lst ys) ∧ ys = ((l.take i).map fun a => (inner a).map (eW a)).flatten, ⟨rfl, by simp⟩, ?_, ?_, ?_⟩
  · rintro i ys M hi ⟨rfl, rfl⟩
    exact ⟨hkeep _ (sm_um hp), um_same⟩
  · rintro i x ys M hx ⟨rfl, rfl⟩
    obtain ⟨a, ha, rfl⟩ := map_at hx
    have e : l.take (i + 1) = l.take i ++ [a] := by rw [List.take_add_one, ha]; rfl
    have eF : ((l.take (i + 1)).map fun a => (inner a).map (eW a)).flatten = ((l.take i).map fun a => (inner a).map (eW a)).flatten ++ (inner a).map (eW a) := by rw [e, List.map_append, List.flatten_append]; simp
    have eS : ((l.take (i + 1)).map fun a => (inner a).length).sum = ((l.take i).map fun a => (inner a).length).sum + (inner a).length := by rw [e, List.map_append, List.sum_append]; simp
    refine hs a (List.mem_of_getElem? ha) _ (sm_um hp) (fun ρ2 xs2 keep2 M4 => in2K xs2 keep2 g2 c2 el ρ2 p ((l.take i).map fun a => (inner a).map (eW a)).flatten M4 fun ys M => M = um M1 p (.lst ys) ∧ ys = ((l.take (i + 1)).map fun a => (inner a).map (eW a)).flatten) (fun M => M = um M1 p (.lst ((l.take i).map fun a => (inner a).map (eW a)).flatten) ∧ ((l.take i).map fun a => (inner a).map (eW a)).flatten = ((l.take (i + 1)).map fun a => (inner a).map (eW a)).flatten) ?_
    intro ρ2 keep2 hk2 hs2
    refine ⟨fun j zs M => M = um M1 p (.lst zs) ∧ zs = ((l.take i).map fun a => (inner a).map (eW a)).flatten ++ ((inner a).take j).map (eW a), ⟨rfl, by simp⟩, ?_, ?_, ?_⟩
    · rintro j zs M hj ⟨rfl, rfl⟩
      refine ⟨hk2 _ (sm_um hp), um_same, ?_⟩
      rw [List.length_append, hlen, List.length_map, List.length_take]
      have b3 := htake (i + 1)
      rw [eS] at b3
      omega
    · rintro j y zs M hy ⟨rfl, rfl⟩
      obtain ⟨b, hb, rfl⟩ := map_at hy
      have e2 : (inner a).take (j + 1) = (inner a).take j ++ [b] := by rw [List.take_add_one, hb]; rfl
      refine hs2 b (List.mem_of_getElem? hb) _ (sm_um hp) (fun o M4 => match o with
        | some z => M4 p = some (.lst (((l.take i).map fun a => (inner a).map (eW a)).flatten ++ ((inner a).take j).map (eW a))) ∧ (um M4 p (.lst (((l.take i).map fun a => (inner a).map (eW a)).flatten ++ ((inner a).take j).map (eW a) ++ [z])) = um M1 p (.lst (((l.take i).map fun a => (inner a).map (eW a)).flatten ++ ((inner a).take j).map (eW a) ++ [z])) ∧ ((l.take i).map fun a => (inner a).map (eW a)).flatten ++ ((inner a).take j).map (eW a) ++ [z] = ((l.take i).map fun a => (inner a).map (eW a)).flatten ++ ((inner a).take (j + 1)).map (eW a))
        | none => M4 = um M1 p (.lst (((l.take i).map fun a => (inner a).map (eW a)).flatten ++ ((inner a).take j).map (eW a))) ∧ ((l.take i).map fun a => (inner a).map (eW a)).flatten ++ ((inner a).take j).map (eW a) = ((l.take i).map fun a => (inner a).map (eW a)).flatten ++ ((inner a).take (j + 1)).map (eW a)) ?_
      exact ⟨um_same, um_um, by rw [e2, List.map_append]; simp⟩
    · rintro zs M ⟨rfl, rfl⟩
      exact ⟨rfl, by rw [eF, List.length_map, List.take_length]⟩
  · rintro ys M ⟨rfl, rfl⟩
    rw [List.length_map, List.take_length]
    exact hq p hp
theorem comp_map {α : Type} {l : List α} {fW : α → W} (pr : α → Bool) (eW : α → W) {keep : Mp → Prop} {M1 : Mp} {own : Nat} {fr : List Nat} {ρ : WSt} {g : WG} {c : WT} {el : WE} {q : WK} (hz : l.length ≤ sizeLine) (hkeep : ∀ M, Sm M1 M → keep M)
    (hs : ∀ a ∈ l, ∀ (M : Mp) (N : Option W → Mp → Prop), Sm M1 M → N (if pr a = true then some (eW a) else none) M → g (fW a) (capρ own fr ρ) M fun ρ2 M2 => c ρ2 M2 fun b M3 => iteK b (el ρ2 M3 fun y M4 => N (some y) M4) (N none M3))
    (hq : ∀ p, M1 p = none → q (wr p) (um M1 p (.lst ((l.filter pr).map eW)))) : compK (l.map fW) keep own fr g c el ρ M1 q := by
  refine ⟨by rw [List.length_map]; exact hz, fun p hp => ⟨fun i ys M => M = um M1 p (.lst ys) ∧ ys = ((l.take i).filter pr).map eW, ⟨rfl, by simp⟩, ?_, ?_, ?_⟩⟩
  · rintro i ys M hi ⟨rfl, rfl⟩
    refine ⟨hkeep _ (sm_um hp), um_same, ?_⟩
    rw [List.length_map]
    refine Nat.le_trans (List.length_filter_le _ _) ?_
    rw [List.length_take]; omega
  · rintro i x ys M hx ⟨rfl, rfl⟩
    obtain ⟨a, ha, rfl⟩ := map_at hx
    have e : l.take (i + 1) = l.take i ++ [a] := by rw [List.take_add_one, ha]; rfl
    refine hs a (List.mem_of_getElem? ha) _ (fun o M4 => match o with
      | some y => M4 p = some (.lst (((l.take i).filter pr).map eW)) ∧ (um M4 p (.lst (((l.take i).filter pr).map eW ++ [y])) = um M1 p (.lst (((l.take i).filter pr).map eW ++ [y])) ∧ ((l.take i).filter pr).map eW ++ [y] = ((l.take (i + 1)).filter pr).map eW)
      | none => M4 = um M1 p (.lst (((l.take i).filter pr).map eW)) ∧ ((l.take i).filter pr).map eW = ((l.take (i + 1)).filter pr).map eW) (sm_um hp) ?_
    cases hf : pr a with
    | false =>
      rw [if_neg (by simp)]
      exact ⟨rfl, by rw [e, List.filter_append]; simp [hf]⟩
    | true =>
      rw [if_pos rfl]
      exact ⟨um_same, um_um, by rw [e, List.filter_append]; simp [hf]⟩
  · rintro ys M ⟨rfl, rfl⟩
    rw [List.length_map, List.take_length]
    exact hq p hp
theorem comp_all {α : Type} {l : List α} {fW : α → W} (eW : α → W) {keep : Mp → Prop} {M1 : Mp} {own : Nat} {fr : List Nat} {ρ : WSt} {g : WG} {c : WT} {el : WE} {q : WK} (hz : l.length ≤ sizeLine) (hkeep : ∀ M, Sm M1 M → keep M)
    (hs : ∀ a ∈ l, ∀ (M : Mp) (N : Option W → Mp → Prop), Sm M1 M → N (some (eW a)) M → g (fW a) (capρ own fr ρ) M fun ρ2 M2 => c ρ2 M2 fun b M3 => iteK b (el ρ2 M3 fun y M4 => N (some y) M4) (N none M3))
    (hq : ∀ p, M1 p = none → q (wr p) (um M1 p (.lst (l.map eW)))) : compK (l.map fW) keep own fr g c el ρ M1 q := by
  refine comp_map (fun _ => true) eW hz hkeep (fun a ha M N s h => hs a ha M N s (by simpa using h)) fun p hp => ?_
  have e : l.filter (fun _ => true) = l := List.filter_eq_self.mpr fun _ _ => rfl
  rw [e]
  exact hq p hp
end
end WL
namespace L2
open PySem PySem.Spec PyProof.Rows
def rgN (a b c : Int) : Nat := (Builtin.Range.rangeSize a b c).toNat
def RgOk (a b c : Int) : Prop := c ≠ 0 ∧ c.natAbs < 1000000 ∧ a.natAbs < 1000000000 ∧ b.natAbs < 1000000000
end L2
namespace WL
open PySem L2
def stepW (lo c : Int) (n : Nat) : List W := (List.range n).map fun (k : Nat) => wi (lo + (k : Int) * c)
section
variable {K : PySem.W.Frag}
def jRng3 (a : WA) : WI := fun ρ M q => a ρ M fun xs M1 => ∃ i j c : Int, xs = [wi i, wi j, wi c] ∧ RgOk i j c ∧ q (stepW i c (rgN i j c)) (fun _ => True) M1
theorem jRng3_e {a : WA} {ρ : WSt} {M : Mp} {q : List W → (Mp → Prop) → Mp → Prop} : jRng3 a ρ M q = a ρ M fun xs M1 => ∃ i j c : Int, xs = [wi i, wi j, wi c] ∧ RgOk i j c ∧ q (stepW i c (rgN i j c)) (fun _ => True) M1 := rfl
end
end WL
namespace WL
open PySem L2
section
variable {K : PySem.W.Frag}
def seqK (x : W) (M : Mp) (q : List W → (Mp → Prop) → Mp → Prop) : Prop := (∃ p l, x = wr p ∧ M p = some (.lst l) ∧ q l (fun M' => M' p = some (.lst l)) M) ∨ ∃ l, x = .tup l ∧ q l (fun _ => True) M
def jSeq (a : WE) : WI := fun ρ M q => a ρ M fun x M1 => seqK x M1 q
theorem jSeq_e {a : WE} {ρ : WSt} {M : Mp} {q : List W → (Mp → Prop) → Mp → Prop} : jSeq a ρ M q = a ρ M fun x M1 => seqK x M1 q := rfl
end
end WL
namespace WQ
open PySem L2 WL WP
def cv (a b : List Int) : Nat → Nat → Int
  | 0, _ => 0
  | k + 1, n => cv a b k n + if k ≤ n then a.getD k 0 * b.getD (n - k) 0 else 0
structure IsPart (p : Int) (one other q r : List Int) : Prop where
  qs : IsSum p q
  rs : IsSum p r
  len : r.length < other.length
  ql : q.length ≤ one.length
  eq : ∀ n, one.getD n 0 % p = (cv q other q.length n + r.getD n 0) % p
end WQ
namespace WL
open PySem L2
section
variable {K : PySem.W.Frag}
theorem wJ0_e {out : Str} {ρ : WSt} {M : Mp} {q : WK} : wJ0 out ρ M q = andK (out.length ≤ sizeLine) (q (ws out) M) := rfl
end
end WL
namespace WQ
open PySem L2 WL WP
def cs (n r : Int) (l : Pt) : Int := ((l.filter fun z => decide (z.1 % n = r)).map (·.2)).sum
end WQ
namespace WQ
open PySem L2 WL WP
theorem ixT_all {M : Mp} {q : WK} {xs : List W} {y : Int} (P : W → Prop) (h0 : 0 ≤ y) (h1 : y < xs.length) (hP : ∀ x ∈ xs, P x) (k : ∀ x, P x → q x M) : wIxT (.tup xs) (wi y) M q := by
  have hy : y.toNat < xs.length := by omega
  exact ⟨xs, y, xs[y.toNat], rfl, rfl, atI_int h0 (List.getElem?_eq_getElem hy), k _ (hP _ (List.getElem_mem hy))⟩
end WQ
namespace WQ
open PySem L2 WL WP
abbrev Cf := Nat → Int
def act : Nat → Cf → Cf → Int
  | 0, f, g => f 0 * g 0
  | n + 1, f, g => f 0 * g (n + 1) + act n (fun i => f (i + 1)) g
def co (l : List Int) : Cf := fun i => l.getD i 0
def Mult (p : Int) (a g : Cf) : Prop := ∃ (E : Cf) (N : Nat), (∀ i, N ≤ i → E i % p = 0) ∧ ∀ n, a n % p = act n E g % p
def Two (p : Int) (a g h : Cf) : Prop := ∃ (A B : Cf) (N : Nat), (∀ i, N ≤ i → A i % p = 0 ∧ B i % p = 0) ∧ ∀ n, a n % p = (act n A g + act n B h) % p
end WQ
namespace WL
open PySem L2
variable {K : PySem.W.Frag}
def sPar3 (i j k : Nat) (a : WA) : WS := fun D ρ M => a ρ M fun xs M1 => ∃ x y z, xs = [x, y, z] ∧ D.nx (((ρ.set i (some x)).set j (some y)).set k (some z)) M1
def threeK (xs : List W) (k : W → W → W → Prop) : Prop := ∃ x y z, xs = [x, y, z] ∧ k x y z
theorem sPar3_e {i j k : Nat} {a : WA} {D : WEnds} {ρ : WSt} {M : Mp} : sPar3 i j k a D ρ M = a ρ M fun xs M1 => threeK xs fun x y z => D.nx (((ρ.set i (some x)).set j (some y)).set k (some z)) M1 := rfl
end WL
namespace L2
open PySem PySem.Spec PyProof.Rows
def lookS (kvs : List (Str × V)) (k : Str) : Option V := (kvs.find? fun kv => decide (kv.1 = k)).map (·.2)
end L2
namespace WL
open PySem L2
variable {K : PySem.W.Frag}
class KT (K : PySem.W.Frag) (kvs : List (Str × V)) (tb : outParam (List (Str × W))) : Prop where
  rel : ∀ k : Str, ((tb.find? fun kv => decide (kv.1 = k)).map (·.2) = none ∧ lookS kvs k = none) ∨ ∃ x v, (tb.find? fun kv => decide (kv.1 = k)).map (·.2) = some x ∧ lookS kvs k = some v ∧ ∀ H, WR K H x v
end WL
namespace WQ
open PySem L2 WL WP
def FV (p : Int) (a : Rd) (v : Int) : Prop := ∃ lo hi, IsMin (spots a) lo ∧ IsMax (spots a) hi ∧ v = fwv p a lo hi
open Classical in
noncomputable def fv (p : Int) (a : Rd) : Int := if h : ∃ v, FV p a v then h.choose else 0
def names : List Str := ["on", "back", "up", "down"]
def stp (p : Int) (s : Str) : Rd := if s = "on" then (1, []) else if s = "back" then (-1, []) else if s = "up" then (0, [(0, 1)]) else (0, [(0, p - 1)])
noncomputable def far (p : Int) (a : Rd) (s : Str) : Bool := decide (fv p (jn p a (stp p s)) > fv p a)
end WQ
namespace WQ
open PySem L2 WL WP
def H2 := And.intro @wComp2_e (And.intro @jRng3_e (And.intro @wJ0_e (And.intro @jSeq_e (@sPar3_e))))
end WQ
namespace WQ
open PySem L2 WL WP
def pairsOf (p : Int) (z : Int × Int) : Pt := if z.2 ≤ p - z.2 then List.replicate z.2.toNat (z.1, 1) else List.replicate (p - z.2).toNat (z.1, -1)
end WQ
namespace WQ
open PySem L2 WL WP
def ways : Int → Pt → Int
  | _, [] => 0
  | here, z :: r => absI (here - z.1) + ways z.1 r
end WQ
namespace WQ
open PySem L2 WL WP
structure Inv (n : Nat) (s : Int × Pt) (lo hi : Int) : Prop where
  l0 : lo ≤ 0
  h0 : 0 ≤ hi
  l1 : lo ≤ s.1
  h1 : s.1 ≤ hi
  pl : ∀ z ∈ s.2, lo ≤ z.1 ∧ z.1 ≤ hi
  on : ∀ z ∈ s.2, z.2 = 1 ∨ z.2 = -1
  le : 2 * (hi - lo) - absI s.1 + s.2.length ≤ n
end WQ
namespace WQ
open PySem L2 WL WP
def csum (n : Int) : Pt → Int → Int
  | [], _ => 0
  | z :: r, k => (if z.1 % n = k then z.2 else 0) + csum n r k
end WQ
namespace WQ
open PySem L2 WL WP
def fl (p : Int) (m : Nat) (f : Pt) : List Int := (List.range m).map fun (k : Nat) => csum m f k % p
end WQ
namespace L2
open PySem PySem.Spec PyProof.Rows
section
variable {X : Cx}
def rngV (i : Int) (n : Nat) : List V := (List.range n).map fun (k : Nat) => .int (i + (k : Int))
def tLRng2 (ta : TA) : TE := fun σ H Q => ta σ H fun vs H1 => ∃ i j : Int, vs = [.int i, .int j] ∧ (-(2 ^ 62) ≤ i ∧ i < 2 ^ 62 ∧ -(2 ^ 62) ≤ j ∧ j < 2 ^ 62) ∧ (j - i).toNat ≤ 100000 ∧ ∀ l, H1 l = none → Q (.ref l) (upd H1 l (.lst (rngV i (j - i).toNat)))
theorem vals_of {i : Int} {n : Nat} {acc : Array Value} (h : ItemsOf (fun j v => ∃ t, v = Value.int (i + (j : Int) * 1) t) acc n) : Vals (rngV i n) acc.toList := by
  obtain ⟨hl, hv⟩ := h
  have hl2 : acc.toList.length = n := by simpa using hl
  have key : ∀ (k : Nat) (l : List Value) (m : Nat), l.length = m → (∀ j v, l[j]? = some v → ∃ t, v = Value.int (i + ((k + j : Nat) : Int)) t) → Vals ((List.range' k m).map fun (k : Nat) => V.int (i + (k : Int))) l := by
    intro k l
    induction l generalizing k with
    | nil =>
      intro m hm _
      subst hm
      exact .nil
    | cons v r ih =>
      intro m hm hj
      subst hm
      rw [List.length_cons, List.range'_succ, List.map_cons]
      refine .cons ?_ (ih (k + 1) r.length rfl fun j v' e => ?_)
      · obtain ⟨t, e⟩ := hj 0 v rfl
        exact ⟨t, by simpa using e⟩
      · obtain ⟨t, e'⟩ := hj (j + 1) v' (by rw [List.getElem?_cons_succ]; exact e)
        exact ⟨t, by rw [e']; congr 2 <;> omega⟩
  have := key 0 acc.toList n hl2 fun j v e => by
    obtain ⟨t, e'⟩ := hv j v (by rw [← Array.getElem?_toList]; exact e)
    exact ⟨t, by rw [e']; congr 2 <;> omega⟩
  unfold rngV
  rw [List.range_eq_range']
  exact this
theorem pe_lrange2 {a b : Expr} {ta : TA} {p1 p2 pos1 pos2 : Pos} (hgl : Gl X "list") (hml : X.mg "list" = none) (hg : Gl X "range") (hm : X.mg "range" = none) (hc : X.calm = true) (ha : PA X [a, b] ta)
    (hs : starEach [a, b] X.env = [(false, eval a X.env), (false, eval b X.env)] := by rfl) (hs2 : starEach [b] X.env = [(false, eval b X.env)] := by rfl)
    (ht : starEach [.Call (.Name "range" p2) [a, b] [] pos2] X.env = [(false, eval (.Call (.Name "range" p2) [a, b] [] pos2) X.env)] := by rfl) :
    PE X (.Call (.Name "list" p1) [.Call (.Name "range" p2) [a, b] [] pos2] [] pos1) (tLRng2 ta) := by
  intro pins s σ H Q I h
  refine Call_ (ld_blt I hgl hml boot_list (PyProof.Rows.callWith_type1 ?_ ht rfl))
  rw [ht]
  refine Calls.spliced_cons (Call_ (ld_blt I hg hm boot_range (PyProof.Rows.callWith_type1 (thn (ha pos2 pins s σ H _ I h) fun us s1 ⟨vs, H1, I1, r1, q1⟩ => ?_) (by rw [hs, hs2]) (by rw [hs2]; rfl))))
  obtain ⟨i, j, e, ⟨q1, q2, q3, q4⟩, hn, q⟩ := q1
  subst e
  cases r1 with
  | cons r rr =>
    cases rr with
    | cons r' rr =>
      cases rr
      obtain ⟨t, rfl⟩ := r
      obtain ⟨t', rfl⟩ := r'
      refine call_range_2 (Calls.spliced_nil ?_)
      have I2 : Inv X pins σ H1 { s1 with heap := s1.heap.push { cls := .type "range", data := .fields #[.int i t, .int j t', .int 1 s1.toks] }, toks := s1.toks + 1 } := I1.kept fun b o e => Heap.get?_push_of_some _ e
      refine call_list_range (n := (j - i).toNat) (I1.ok.hd hc) (IsRange.new ..) (small_one q1 q2 q3 q4) (by rw [rangeSize_one]; split <;> omega) (by omega) fun h' tk acc' c' kp hg' items => ?_
      have hv := vals_of items
      refine ⟨.ref _, _, I2.laid (t' := tk) kp (Nat.le_refl _) (show ObjOk X.prog X.w _ h' _ (.lst (rngV i (j - i).toNat)) from ⟨?_, acc'.toList, c', hv, by simpa using hg'⟩), rfl, q _ (I2.hok.fresh (Nat.le_refl _))⟩
      unfold rngV
      rw [List.length_map, List.length_range]
      exact Nat.le_trans hn (by rw [sizeLine_eq]; decide)
end
end L2
namespace WL
open PySem L2
variable {K : PySem.W.Frag}
def wLRng2 (a : WA) : WE := fun ρ M q => a ρ M fun xs M1 => ∃ i j : Int, xs = [wi i, wi j] ∧ (-(2 ^ 62) ≤ i ∧ i < 2 ^ 62 ∧ -(2 ^ 62) ≤ j ∧ j < 2 ^ 62) ∧ (j - i).toNat ≤ 100000 ∧ ∀ l, M1 l = none → q (wr l) (um M1 l (.lst (rangeW i (j - i).toNat)))
theorem rng_wr {H : Hp} (i : Int) : ∀ (l : List Nat), WRs K H (l.map fun (k : Nat) => wi (i + (k : Int))) (l.map fun (k : Nat) => V.int (i + (k : Int)))
  | [] => by simp only [List.map_nil, WRs]
  | k :: r => by simp only [List.map_cons, WRs]; exact ⟨_, _, rfl, WR.v, rng_wr i r⟩
instance {t : TA} {a : WA} [ia : IA K t a] : IE K (tLRng2 t) (wLRng2 a) where
  imp := fun ρ M σ H q Q o h k => ia.imp ρ M σ H _ _ o h fun xs M1 vs H1 ⟨i, j, ex, h1, h2, h3⟩ t1 m1 r1 => by
    subst ex
    obtain ⟨v, u, rfl, r, r'⟩ := r1.two
    cases r.eq; cases r'.eq
    exact ⟨i, j, rfl, h1, h2, fun p hp => k _ _ _ _ (h3 p (m1.fresh hp)) (t1.trans (L2.Same.ts (same_upd hp))) (m1.newL hp (rng_wr i _)) WR.v⟩
theorem wLRng2_e {a : WA} {ρ : WSt} {M : Mp} {q : WK} : wLRng2 a ρ M q = a ρ M fun xs M1 => ∃ i j : Int, xs = [wi i, wi j] ∧ (-(2 ^ 62) ≤ i ∧ i < 2 ^ 62 ∧ -(2 ^ 62) ≤ j ∧ j < 2 ^ 62) ∧ (j - i).toNat ≤ 100000 ∧ newK M1 fun l => q (wr l) (um M1 l (.lst (rangeW i (j - i).toNat))) := rfl
end WL
namespace WQ
open PySem L2 WL WP
structure Wk (a : Rd) (sp : Int) (wk : List Int) (st sg t : Int) (N : Nat) : Prop where
  s1 : sg = 1 ∨ sg = -1
  t0 : 0 < t
  sp : sp = sg * t
  wk : wk = (List.range N).map fun (k : Nat) => st + sg * (k : Int)
  all : ∀ z ∈ a.2, ∃ j : Nat, j < N ∧ z.1 = st + sg * (j : Int)
end WQ
namespace WQ
open PySem L2 WL WP
inductive Ln where
  | rest | mem (k : Int) | join (a b : Nat) | times (a : Nat) (n : Int)
deriving DecidableEq
def sev (r : Pt) (n : Int) : Pt := if n < 0 then (List.replicate (-n).toNat (r.reverse.map fun z => (z.1, -z.2))).flatten else (List.replicate n.toNat r).flatten
def rowLn (acc : List Pt) : Ln → Pt
  | .rest => []
  | .mem k => [(k, 1)]
  | .join a b => acc.getD a [] ++ acc.getD b []
  | .times a n => sev (acc.getD a []) n
def rowsL (ls : List Ln) : List Pt := ls.foldl (fun acc l => acc ++ [rowLn acc l]) []
theorem list_snoc {α : Type} (l : List α) (h : l ≠ []) : ∃ r x, l = r ++ [x] := ⟨l.dropLast, l.getLast h, (List.dropLast_concat_getLast h).symm⟩
def rw_ (ls : List Ln) (i : Nat) : Pt := (rowsL ls).getD i []
def nmd : Ln → List Nat
  | .join a b => [a, b]
  | .times a _ => [a]
  | _ => []
end WQ
namespace WQ
open PySem L2 WL WP
structure WI (ls : List Ln) (last i : Nat) (l : List Nat) : Prop where
  nd : l.Nodup
  la : last ∈ l
  bd : ∀ j ∈ l, j ≤ last ∧ (rw_ ls j).length ≤ (rw_ ls last).length
  cl : ∀ j ∈ l, last < j + i → rw_ ls j ≠ [] → ∀ ln, ls[j]? = some ln → ∀ b ∈ nmd ln, b ∈ l
end WQ
namespace L2
open PySem PySem.Spec PyProof.Rows
section
variable {prog : Program} {w : World} {A : Around} {R : Result → Shared → Prop} {I : Addr} {fp wr : List Addr} {n : Nat} {P : Nat → Value → Prop} {St : Nat → Heap → Prop} {kw : List (Str × Value)}
theorem least_on (W : Walks prog w A.in1 I fp wr n P St) (bt : Nat → Nat → Bool) (hcmp : CmpOf prog w A.in1 .Lt P bt) (Z : Addr) (hZ : Z ∉ fp) :
    ∀ (k j : Nat) (s : Shared) (x : Value) (c : Nat), n - (j + 1) = k → j + 1 ≤ n → St (j + 1) s.heap → P (argBest bt j) x → s.heap.get? Z = some { cls := .type "list", dict := none, data := .seq #[x, x] c, slots := #[] } →
    (∀ v h' tk, P (argBest bt (n - 1)) v → (∀ b o, b ∉ wr → b ≠ Z → s.heap.get? b = some o → h'.get? b = some o) → R (.ok (.ret v)) { s with heap := h', toks := tk }) → codeAny (model prog w) A (.builtin "min.loop" ⟨[.ref I, .none, .ref Z], kw⟩) R s := by
  have hw : Z ∉ wr := fun h => hZ (W.sub _ h)
  have nm : (toString "min" ++ toString ".loop" : String) = "min.loop" := by decide
  intro k
  induction k with
  | zero =>
    intro j s x c hk hj hst hP hS hR
    have e0 : j + 1 = n := by omega
    refine codeAny_builtin F.entry_min_loop ?_; rw [Around.under_plainId F.plain_min_loop _]
    show wpAny _ A.in1 (seqItems? (.ref Z) >>= _) _ _ s
    refine wpAny_bind (wpAny_seqItems hS rfl ?_); show wpAny _ A.in1 (tryCatch (pyNext (.ref I)) _ >>= _) _ _ s
    refine wpAny_bind (wpAny_tryCatch (W.done s _ _ (e0 ▸ hst) fun h1 tk hk1 => ?_))
    have hS1 := hk1 Z _ hw hS
    show wpAny _ A.in1 (updateSeq Z (fun _ => #[]) >>= _) _ _ _
    refine wpAny_bind ?_; refine wpAny_updateSeq hS1 rfl (wpAny_bind (wpAny_letGo (wpAny_pure ?_)))
    exact hR x _ tk (by rw [← e0]; exact hP) fun b o n1 n2 e => (Heap.get?_update_other _ _ (Ne.symm n2)).trans (hk1 b o n1 e)
  | succ k ih =>
    intro j s x c hk hj hst hP hS hR
    have hlt : j + 1 < n := by omega
    refine codeAny_builtin F.entry_min_loop ?_; rw [Around.under_plainId F.plain_min_loop _]
    show wpAny _ A.in1 (seqItems? (.ref Z) >>= _) _ _ s
    refine wpAny_bind (wpAny_seqItems hS rfl ?_); show wpAny _ A.in1 (tryCatch (pyNext (.ref I)) _ >>= _) _ _ s
    refine wpAny_bind (wpAny_tryCatch (W.item (j + 1) s _ _ hlt hst fun v h1 tk hP1 hst1 hk1 => ?_))
    have hS1 := hk1 Z _ hw hS
    show wpAny _ A.in1 (tryCatch (holding [v, v] (richCompare .Lt v x >>= _)) _ >>= _) _ _ _
    refine wpAny_bind (wpAny_tryCatch (wpAny_holding (wpAny_bind (hcmp (j + 1) (argBest bt j) v x _ _ _ hP1 hP ?_))))
    refine wpAny_bind (wpAny_holding (wpAny_truthy_bool ?_)); refine wpAny_bind (wpAny_letGo (wpAny_pure ?_))
    cases hb : bt (j + 1) (argBest bt j) with
    | true =>
      simp only [if_true]; refine wpAny_bind ?_
      refine wpAny_updateSeq hS1 rfl (wpAny_bind (wpAny_letGo ?_)); rw [nm]
      refine wpAny_pure ⟨plainId_quiet F.plain_min_loop _, ih (j + 1) _ v _ (by omega) hlt (W.frame _ _ _ hst1 fun b hbf o e => ?_) (by simp only [argBest, hb, if_true]; exact hP1) (Heap.get?_update_self _ hS1 rfl) fun v2 h2 tk2 hP2 hk2 => ?_⟩
      · exact (Heap.get?_update_other _ _ (fun h : Z = b => hZ (by rw [h]; exact hbf))).trans e
      · exact hR v2 h2 tk2 hP2 fun b o n1 n2 e => hk2 b o n1 n2 ((Heap.get?_update_other _ _ (Ne.symm n2)).trans (hk1 b o n1 e))
    | false =>
      simp only [Bool.false_eq_true, if_false]; refine wpAny_bind (wpAny_letGo ?_); rw [nm]
      refine wpAny_pure ⟨plainId_quiet F.plain_min_loop _, ih (j + 1) _ x c (by omega) hlt hst1 (by simp only [argBest, hb, Bool.false_eq_true, if_false]; exact hP) hS1 fun v2 h2 tk2 hP2 hk2 => ?_⟩
      exact hR v2 h2 tk2 hP2 fun b o n1 n2 e => hk2 b o n1 n2 (hk1 b o n1 e)
theorem least_first (W : Walks prog w A.in1 I fp wr n P St) (bt : Nat → Nat → Bool) (hcmp : CmpOf prog w A.in1 .Lt P bt) (Z : Addr) (hZ : Z ∉ fp) {s : Shared} {c : Nat} {d : Value} {nd : Str} (hst : St 0 s.heap)
    (hS : s.heap.get? Z = some { cls := .type "list", dict := none, data := .seq #[] c, slots := #[] })
    (h0 : n = 0 → ∀ h' tk, (∀ b o, b ∉ wr → b ≠ Z → s.heap.get? b = some o → h'.get? b = some o) → R (.ok (.ret d)) { s with heap := h', toks := tk })
    (hR : 0 < n → ∀ v h' tk, P (argBest bt (n - 1)) v → (∀ b o, b ∉ wr → b ≠ Z → s.heap.get? b = some o → h'.get? b = some o) → R (.ok (.ret v)) { s with heap := h', toks := tk }) : codeAny (model prog w) A (.builtin "min.loop" ⟨[.ref I, .none, .ref Z], [(nd, d)]⟩) R s := by
  have hw : Z ∉ wr := fun h => hZ (W.sub _ h)
  have nm : (toString "min" ++ toString ".loop" : String) = "min.loop" := by decide
  refine codeAny_builtin F.entry_min_loop ?_; rw [Around.under_plainId F.plain_min_loop _]
  show wpAny _ A.in1 (seqItems? (.ref Z) >>= _) _ _ s
  refine wpAny_bind (wpAny_seqItems hS rfl ?_); show wpAny _ A.in1 (tryCatch (pyNext (.ref I)) _ >>= _) _ _ s
  rcases Nat.eq_zero_or_pos n with hn | hn
  · subst hn
    refine wpAny_bind (wpAny_tryCatch (W.done s _ _ hst fun h1 tk hk1 => ?_))
    refine wpAny_bind (wpAny_rule ?_)
    exact wpAny_pure (h0 rfl _ tk fun b o n1 n2 e => hk1 b o n1 e)
  · refine wpAny_bind (wpAny_tryCatch (W.item 0 s _ _ hn hst fun v h1 tk hP hst1 hk1 => ?_))
    have hS1 := hk1 Z _ hw hS
    show wpAny _ A.in1 (updateSeq Z (fun _ => #[v, v]) >>= _) _ _ _
    refine wpAny_bind ?_; refine wpAny_updateSeq hS1 rfl ?_; rw [nm]
    refine wpAny_pure ⟨plainId_quiet F.plain_min_loop _, least_on W bt hcmp Z hZ _ 0 _ v _ rfl hn (W.frame _ _ _ hst1 fun b hbf o e => ?_) hP (Heap.get?_update_self _ hS1 rfl) fun v2 h2 tk2 hP2 hk2 => ?_⟩
    · exact (Heap.get?_update_other _ _ (fun h : Z = b => hZ (by rw [h]; exact hbf))).trans e
    · exact hR hn v2 h2 tk2 hP2 fun b o n1 n2 e => hk2 b o n1 n2 ((Heap.get?_update_other _ _ (Ne.symm n2)).trans (hk1 b o n1 e))
theorem args_minD (a d : Value) : argsOk "min" ⟨[a], [("default", d)]⟩ := by unfold argsOk; kernel_rfl
variable {E : Value → Shared → Prop} {s : Shared}
theorem call_minD {x d : Value} {Q : Value → Shared → Prop}
    (h : wpAny (model prog w) A.in1 (pyIter x) (fun it t => ∃ I fp wr n P St bt, it = .ref I ∧ Walks prog w A.in1 I fp wr n P St ∧ St 0 t.heap ∧ (∀ b ∈ fp, b < t.heap.objs.size) ∧ CmpOf prog w A.in1 .Lt P bt ∧
      (n = 0 → ∀ h' tk, (∀ b o, b ∉ wr → t.heap.get? b = some o → h'.get? b = some o) → Q d { t with heap := h', toks := tk }) ∧
      (0 < n → ∀ v h' tk, P (argBest bt (n - 1)) v → (∀ b o, b ∉ wr → t.heap.get? b = some o → h'.get? b = some o) → Q v { t with heap := h', toks := tk })) E s) :
    wpAny (model prog w) A (call (.builtin "min") [x] [("default", d)]) Q E s := by
  have nm : (toString "min" ++ toString ".loop" : String) = "min.loop" := by decide
  refine wpAny_call (codeAny_call_builtin F.plain_min F.entry_min ?_)
  simp only [checkBuiltinCall, F.kind_min]
  have ha := args_minD x d
  cases hsig : Manifest.signature? "min" with
  | none => exact absurd (show (Manifest.signature? "min").isSome = true by kernel_rfl) (by rw [hsig]; decide)
  | some sig =>
    have ha' : Bind.checkArgs "min" sig ⟨[x], [("default", d)]⟩ = pure () := by simpa only [argsOk, hsig] using ha
    simp only [ha']
    refine wpAny_pure ?_
    show wpAny _ A.in1 (Builtin.Builtins.bindParams "min" ["key", "default"] 0 ⟨[], [("default", d)]⟩ >>= _) _ _ s
    refine wpAny_bind (wpAny_of_eq (show Builtin.Builtins.bindParams "min" ["key", "default"] 0 ⟨[], [("default", d)]⟩ = pure [none, some d] from rfl) ?_)
    refine wpAny_bind (wpAny_pure ?_)
    refine wpAny_bind (wpAny_mono h (fun it t h₂ => ?_) fun _ _ e => e)
    obtain ⟨I, fp, wr, n, P, St, bt, rfl, W, hst, hfp, hcmp, hQ0, hQ⟩ := h₂
    refine wpAny_bind (wpAny_newObj_type ?_)
    have hZ : t.heap.objs.size ∉ fp := fun hm => Nat.lt_irrefl _ (hfp _ hm)
    rw [nm]
    refine wpAny_pure ⟨plainId_quiet F.plain_min_loop _, least_first W bt hcmp t.heap.objs.size hZ (W.frame _ _ _ hst fun b _ o e => Heap.get?_push_of_some _ e) (Heap.get?_push_size _ rfl) (fun hn h' tk hk => ?_) fun hn v h' tk hP hk => ?_⟩
    · exact hQ0 hn h' tk fun b o n1 e => hk b o n1 (Nat.ne_of_lt (Heap.lt_size e)) (Heap.get?_push_of_some _ e)
    · exact hQ hn v h' tk hP fun b o n1 e => hk b o n1 (Nat.ne_of_lt (Heap.lt_size e)) (Heap.get?_push_of_some _ e)
end
end L2
namespace WL
open PySem PySem.Spec PyProof.Rows L2
section
variable {X : Cx}
def tMinD (K : PySem.W.Frag) (te td : TE) : TE := fun σ H Q => te σ H fun x H1 => td σ H1 fun d H2 => ∃ (l : Addr) (ns : List Int), x = .ref l ∧ SqL K H2 l (ns.map V.int) ∧ (ns = [] → Q d H2) ∧ ∀ m, IsMin ns m → Q (.int m) H2
theorem pe_minD {e ed : Expr} {te td : TE} {p pos kpos : Pos} (hg : Gl X "min") (hm : X.mg "min" = none) (hc : X.calm = true) (ha : PE X e te) (hd : PE X ed td)
    (he : starEach [e] X.env = [(false, eval e X.env)] := by rfl) : PE X (.Call (.Name "min" p) [e] [⟨some "default", ed, kpos⟩] pos) (tMinD X.K te td) := by
  intro pins s σ H Q I h
  refine wpAny_Call_Name_kw (ld_blt I hg hm Boot.«min» ?_ (by decide) (by decide))
  refine PyProof.Rows.callWith_kw ?_ (by rw [he]; rfl) (by rw [he]; rfl) rfl rfl
  rw [he]
  refine Calls.spliced_cons (thn (ha pins s σ H _ I h) fun u s1 ⟨x, H1, I1, r1, q1⟩ => Calls.spliced_nil ?_)
  refine kws_cons (thn (hd pins s1 σ H1 _ I1 q1) fun u2 s2 ⟨d, H2, I2, r2, q2⟩ => kws_nil ?_)
  obtain ⟨l, ns, rfl, hs, q0, q⟩ := q2
  cases r1
  show wpAny _ _ (call (.builtin "min") [.ref l] [("default", u2)]) _ _ s2
  obtain ⟨its, rv, ht, hz⟩ := I2.list hs
  have hh : X.A.in1.handled = none := I2.ok.hd hc
  have hlen : its.toArray.size = ns.length := by have := rv.length; rw [List.length_map] at this; simpa using this.symm
  have hlt : l < s2.heap.objs.size := by obtain ⟨_, e, _⟩ := ht.isList; exact Heap.lt_size e
  refine call_minD (wpAny_pyIter_list ht.isList ?_)
  have hk : ∀ h' : Heap, (∀ b o, b ∉ [s2.heap.objs.size] → (s2.heap.push { cls := .type "list_iterator", data := .fields #[.ref l, .int 0 s2.toks] }).get? b = some o → h'.get? b = some o) → ∀ b o, s2.heap.get? b = some o → h'.get? b = some o := fun h' hk b o e =>
    hk b o (fun hI => absurd (Heap.lt_size e) (by rw [List.mem_singleton.mp hI]; exact Nat.lt_irrefl _)) (Heap.get?_push_of_some _ e)
  refine ⟨s2.heap.objs.size, _, _, its.toArray.size, _, _, fun i j => decide (ns.getD i 0 < ns.getD j 0), rfl, Walks.list hh s2.heap.objs.size l (Nat.ne_of_lt hlt) its.toArray, ⟨⟨_, Heap.get?_push_size _ rfl, rfl, rfl⟩, ht.isList.push _⟩, fun b hb => ?_, PySem.CmpOf.ints_lt (fun i => ns.getD i 0) (fun i v e => let ⟨t, h, _⟩ := its_int rv e; ⟨t, h⟩), fun hn h' tk hm => ?_, fun hn v h' tk e hm => ?_⟩
  · show b < (s2.heap.push _).objs.size
    rw [Heap.size_push]
    rcases List.mem_cons.mp hb with rfl | hb
    · exact Nat.lt_succ_self _
    · rw [List.mem_singleton.mp hb]; exact Nat.lt_succ_of_lt hlt
  · exact ⟨d, H2, I2.kept (t' := tk) fun b o e => hm b o (fun hI => absurd (Heap.lt_size e) (by rw [List.mem_singleton.mp hI]; exact Nat.lt_irrefl _)) (Heap.get?_push_of_some _ e), r2, q0 (List.length_eq_zero_iff.mp (by omega))⟩
  · obtain ⟨t, rfl, _⟩ := its_int rv e
    rw [hlen]
    exact ⟨.int _, H2, I2.kept (t' := tk) fun b o e => hm b o (fun hI => absurd (Heap.lt_size e) (by rw [List.mem_singleton.mp hI]; exact Nat.lt_irrefl _)) (Heap.get?_push_of_some _ e), ⟨t, rfl⟩, q _ (best_min (List.length_pos_iff.mp (by omega)))⟩
def rSortL (K : PySem.W.Frag) : List V → Hp → VK → Prop := fun xs H Q => ∃ (a : Addr) (ks : List Int), xs = [.ref a] ∧ SqL K H a (ks.map V.int) ∧ ∀ (p : Addr) (ns : List Int), H p = none → ns.Perm ks → ns.Pairwise (· ≤ ·) → Q (.ref p) (upd H p (.lst (ns.map V.int)))
theorem call_sortL : CallR X (.builtin "sorted") (rSortL X.K) := by
  intro pins s σ H xs us Q I r h
  obtain ⟨a, ks, rfl, hs, q⟩ := h
  obtain ⟨u, rfl, ru⟩ := vals1 r
  cases ru
  obtain ⟨its, rv, ht, hz⟩ := I.list hs
  have hI : IntsAre its ks := intsAre_vals rv
  have hl : its.length = ks.length := by have := rv.length; rw [List.length_map] at this; exact this.symm
  rw [List.length_map] at hz
  refine Calls.call_function_entry kind_sorted plain_sorted entry_sorted (args_sorted1 _) ?_
  unfold Builtin.«sorted»
  refine wpAny_bind (m := checkCount "sorted" 1 1 _) (wpAny_pure ?_)
  obtain ⟨o, ho, hc, n, hd⟩ := ht.isList
  refine wpAny_bind (wpAny_collect_seq a (.inl rfl) ho hc hd (fun h' hkp => ?_) (by simp only [List.size_toArray]; omega))
  simp only [List.toList_toArray]
  refine wpAny_bind (wpAny_newList ?_ (by rw [hl]; exact hz))
  have ho : (h'.push (seqObj "list" its.toArray 0)).get? h'.objs.size = some (seqObj "list" its.toArray 0) := Heap.get?_push_size _ rfl
  refine wpAny_bind (wpAny_holding (wpAny_call_entry slot_list_sort ⟨_, ho, rfl⟩ entry_list_sort (TS.sort_ints (s := { s with heap := h'.push (seqObj "list" its.toArray 0) }) ho hI (by rw [hl]; exact hz) fun out ns' a1 a2 a3 => ⟨_, rfl, ?_⟩) (args_list_sort _)))
  obtain ⟨ee, hat'⟩ := sortedHeap_at (out := out) ho
  have I' : Inv X pins σ H { s with heap := h' } := I.kept (t' := s.toks) hkp
  refine wpAny_pure ⟨_, rfl, .ref h'.objs.size, _, I'.laid (t' := s.toks) (o := .lst (ns'.map V.int)) (fun b o hb => ?_) (Nat.le_refl _) ?_, rfl, q _ ns' (I'.hok.fresh (Nat.le_refl _)) a2 a3⟩
  · have hlt : b < h'.objs.size := Heap.lt_size hb
    rw [sortedHeap_old (Nat.ne_of_lt hlt) (by rw [Heap.size_push]; exact Nat.lt_succ_of_lt hlt)]
    exact Heap.get?_push_of_some _ hb
  · refine ⟨?_, out.toList, ee, vals_ints a1, by simpa using hat'⟩
    rw [List.length_map, a2.length_eq]
    exact hz
def tLRng1 (ta : TA) : TE := fun σ H Q => ta σ H fun vs H1 => ∃ j : Int, vs = [.int j] ∧ (-(2 ^ 62) ≤ j ∧ j < 2 ^ 62) ∧ j.toNat ≤ 100000 ∧ ∀ l, H1 l = none → Q (.ref l) (upd H1 l (.lst (rngV 0 j.toNat)))
theorem pe_lrange1 {a : Expr} {ta : TA} {p1 p2 pos1 pos2 : Pos} (hgl : Gl X "list") (hml : X.mg "list" = none) (hg : Gl X "range") (hm : X.mg "range" = none) (hc : X.calm = true) (ha : PA X [a] ta)
    (hs : starEach [a] X.env = [(false, eval a X.env)] := by rfl)
    (ht : starEach [.Call (.Name "range" p2) [a] [] pos2] X.env = [(false, eval (.Call (.Name "range" p2) [a] [] pos2) X.env)] := by rfl) :
    PE X (.Call (.Name "list" p1) [.Call (.Name "range" p2) [a] [] pos2] [] pos1) (tLRng1 ta) := by
  intro pins s σ H Q I h
  refine Call_ (ld_blt I hgl hml boot_list (PyProof.Rows.callWith_type1 ?_ ht rfl))
  rw [ht]
  refine Calls.spliced_cons (Call_ (ld_blt I hg hm boot_range (PyProof.Rows.callWith_type1 (thn (ha pos2 pins s σ H _ I h) fun us s1 ⟨vs, H1, I1, r1, q1⟩ => ?_) hs rfl)))
  obtain ⟨j, e, ⟨q3, q4⟩, hn, q⟩ := q1
  subst e
  cases r1 with
  | cons r rr =>
    cases rr
    obtain ⟨t, rfl⟩ := r
    refine call_range_1 (Calls.spliced_nil ?_)
    have I2 : Inv X pins σ H1 { s1 with heap := s1.heap.push { cls := .type "range", data := .fields #[.int 0 s1.toks, .int j t, .int 1 (s1.toks + 1)] }, toks := s1.toks + 1 + 1 } := I1.kept fun b o e => Heap.get?_push_of_some _ e
    refine call_list_range (n := (j - 0).toNat) (I1.ok.hd hc) (IsRange.new ..) (small_one (by omega) (by omega) q3 q4) (by rw [rangeSize_one]; split <;> omega) (by omega) fun h' tk acc' c' kp hg' items => ?_
    have hv := vals_of items
    rw [show (j - 0).toNat = j.toNat by rw [Int.sub_zero]] at hv
    refine ⟨.ref _, _, I2.laid (t' := tk) kp (Nat.le_refl _) (show ObjOk X.prog X.w _ h' _ (.lst (rngV 0 j.toNat)) from ⟨?_, acc'.toList, c', hv, by simpa using hg'⟩), rfl, q _ (I2.hok.fresh (Nat.le_refl _))⟩
    unfold rngV
    rw [List.length_map, List.length_range]
    exact Nat.le_trans hn (by rw [sizeLine_eq]; decide)
end
variable {K : PySem.W.Frag}
def wMinD (a d : WE) : WE := fun ρ M q => a ρ M fun x M1 => d ρ M1 fun y M2 => ∃ (l : Addr) (ns : List Int), x = wr l ∧ M2 l = some (.lst (ns.map wi)) ∧ (ns = [] → q y M2) ∧ ∀ m, IsMin ns m → q (wi m) M2
instance {t td : TE} {a d : WE} [ia : IE K t a] [id : IE K td d] : IE K (tMinD K t td) (wMinD a d) where
  imp := fun ρ M σ H q Q o h k => ia.imp ρ M σ H _ _ o h fun x M1 v H1 h1 t1 m1 r1 => id.imp ρ M1 σ H1 _ _ (o.mv t1 m1) h1 fun y M2 u H2 ⟨l, ns, e, hl, q0, q1⟩ t2 m2 r2 => by
    subst e
    cases (r1.ts t2).eq
    obtain ⟨vs, hv, rr⟩ := m2 l _ hl
    cases rr.ints
    exact ⟨l, ns, rfl, SqL.of hv, fun e => k _ _ _ _ (q0 e) (t1.trans t2) m2 r2, fun m hm => k _ _ _ _ (q1 m hm) (t1.trans t2) m2 WR.v⟩
def wSortL : WCl := fun xs M q => ∃ (a : Addr) (ks : List Int), xs = [wr a] ∧ M a = some (.lst (ks.map wi)) ∧ ∀ (p : Addr) (ns : List Int), M p = none → ns.Perm ks → ns.Pairwise (· ≤ ·) → q (wr p) (um M p (.lst (ns.map wi)))
instance : IC K (rSortL K) wSortL where
  imp := by
    rintro xs v M H q Q m r1 ⟨a, ks, rfl, hl, h⟩ k
    obtain ⟨v, rfl, r⟩ := r1.one
    cases r.eq
    obtain ⟨vs, hv, rr⟩ := m a _ hl
    cases rr.ints
    exact ⟨a, ks, rfl, SqL.of hv, fun p ns hp h1 h2 => k _ _ _ _ (h p ns (m.fresh hp) h1 h2) (L2.Same.ts (same_upd hp)) (m.newL hp (WRs.ofInts ns)) WR.v⟩
def wLRng1 (a : WA) : WE := fun ρ M q => a ρ M fun xs M1 => ∃ j : Int, xs = [wi j] ∧ (-(2 ^ 62) ≤ j ∧ j < 2 ^ 62) ∧ j.toNat ≤ 100000 ∧ ∀ l, M1 l = none → q (wr l) (um M1 l (.lst (rangeW 0 j.toNat)))
instance {t : TA} {a : WA} [ia : IA K t a] : IE K (tLRng1 t) (wLRng1 a) where
  imp := fun ρ M σ H q Q o h k => ia.imp ρ M σ H _ _ o h fun xs M1 vs H1 ⟨j, ex, h1, h2, h3⟩ t1 m1 r1 => by
    subst ex
    obtain ⟨v, rfl, r⟩ := r1.one
    cases r.eq
    exact ⟨j, rfl, h1, h2, fun p hp => k _ _ _ _ (h3 p (m1.fresh hp)) (t1.trans (L2.Same.ts (same_upd hp))) (m1.newL hp (rng_wr 0 _)) WR.v⟩
theorem wLRng1_e {a : WA} {ρ : WSt} {M : Mp} {q : WK} : wLRng1 a ρ M q = a ρ M fun xs M1 => ∃ j : Int, xs = [wi j] ∧ (-(2 ^ 62) ≤ j ∧ j < 2 ^ 62) ∧ j.toNat ≤ 100000 ∧ newK M1 fun l => q (wr l) (um M1 l (.lst (rangeW 0 j.toNat))) := rfl
end WL
namespace WQ
open PySem L2 WL WP
def colI (s x : Int) : Int := if s = 0 then x else x % s
def hI (s x : Int) : Int := if s = 0 then 0 else x / s
def leastI : List Int → Int
  | [] => 0
  | a :: r => r.foldl (fun m x => if x < m then x else m) a
def mostI : List Int → Int
  | [] => 0
  | a :: r => r.foldl (fun m x => if m < x then x else m) a
theorem foldl_min (r : List Int) : ∀ a, (r.foldl (fun m x => if x < m then x else m) a = a ∨ r.foldl (fun m x => if x < m then x else m) a ∈ r) ∧ r.foldl (fun m x => if x < m then x else m) a ≤ a ∧ ∀ x ∈ r, r.foldl (fun m x => if x < m then x else m) a ≤ x := by
  induction r with
  | nil => intro a; simp
  | cons b r ih =>
    intro a
    obtain ⟨h1, h2, h3⟩ := ih (if b < a then b else a)
    rw [List.foldl_cons]
    generalize List.foldl (fun m x => if x < m then x else m) (if b < a then b else a) r = z at h1 h2 h3
    refine ⟨?_, by split at h2 <;> omega, fun x hx => ?_⟩
    · rcases h1 with h1 | h1
      · split at h1
        · rw [h1]; exact .inr List.mem_cons_self
        · exact .inl h1
      · exact .inr (List.mem_cons_of_mem _ h1)
    · rcases List.mem_cons.mp hx with rfl | hx
      · split at h2 <;> omega
      · exact h3 x hx
theorem foldl_max (r : List Int) : ∀ a, (r.foldl (fun m x => if m < x then x else m) a = a ∨ r.foldl (fun m x => if m < x then x else m) a ∈ r) ∧ a ≤ r.foldl (fun m x => if m < x then x else m) a ∧ ∀ x ∈ r, x ≤ r.foldl (fun m x => if m < x then x else m) a := by
  induction r with
  | nil => intro a; simp
  | cons b r ih =>
    intro a
    obtain ⟨h1, h2, h3⟩ := ih (if a < b then b else a)
    rw [List.foldl_cons]
    generalize List.foldl (fun m x => if m < x then x else m) (if a < b then b else a) r = z at h1 h2 h3
    refine ⟨?_, by split at h2 <;> omega, fun x hx => ?_⟩
    · rcases h1 with h1 | h1
      · split at h1
        · rw [h1]; exact .inr List.mem_cons_self
        · exact .inl h1
      · exact .inr (List.mem_cons_of_mem _ h1)
    · rcases List.mem_cons.mp hx with rfl | hx
      · split at h2 <;> omega
      · exact h3 x hx
theorem least_is {l : List Int} (h : l ≠ []) : IsMin l (leastI l) := by
  cases l with
  | nil => exact absurd rfl h
  | cons a r =>
    obtain ⟨h1, h2, h3⟩ := foldl_min r a
    refine ⟨?_, fun x hx => ?_⟩
    · rcases h1 with h1 | h1
      · show List.foldl _ a r ∈ a :: r
        rw [h1]; exact List.mem_cons_self
      · exact List.mem_cons_of_mem _ h1
    · rcases List.mem_cons.mp hx with rfl | hx
      · exact h2
      · exact h3 x hx
theorem most_is {l : List Int} (h : l ≠ []) : IsMax l (mostI l) := by
  cases l with
  | nil => exact absurd rfl h
  | cons a r =>
    obtain ⟨h1, h2, h3⟩ := foldl_max r a
    refine ⟨?_, fun x hx => ?_⟩
    · rcases h1 with h1 | h1
      · show List.foldl _ a r ∈ a :: r
        rw [h1]; exact List.mem_cons_self
      · exact List.mem_cons_of_mem _ h1
    · rcases List.mem_cons.mp hx with rfl | hx
      · exact h2
      · exact h3 x hx
def hts (s f : Int) (ns : List Int) : List Int := (ns.filter fun x => decide (colI s x = f)).map (hI s)
def plc (l : Pt) : List Int := l.map (·.1)
def fcol (s : Int) (st : Pt) : Int := leastI ((plc st).map (colI s))
def slen (s : Int) (st : Pt) : Int := mostI (hts s (fcol s st) (plc st))
def lowB (s : Int) (sts : List Pt) (pat : Pt) : Bool := sts.all fun st => (hts s (fcol s st) (plc pat)).all fun x => decide (0 ≤ x ∧ x < slen s st)
theorem sm_two {M : Mp} {t p : Addr} {o1 o2 : MO} (ht : M t = none) (hp : um M t o1 p = none) : Sm (um M p o2) (um (um M t o1) p o2) := fun b o e => by
  by_cases hb : b = p
  · subst hb; rw [um_same] at e ⊢; exact e
  · rw [um_ne hb] at e ⊢
    have : b ≠ t := m_ne e ht
    rw [um_ne this]; exact e
def pCol : WSp := fun xs M q => ∃ (x s : Int), xs = [wi x, wi s] ∧ 0 ≤ s ∧ s < 2 ^ 30 ∧ q (wi (colI s x)) M
def pFirst : WSp := fun xs M q => ∃ (a : Addr) (ns : List Int) (s : Int), xs = [wr a, wi s] ∧ M a = some (.lst (ns.map wi)) ∧ ns.length ≤ 100000 ∧ 0 ≤ s ∧ s < 2 ^ 30 ∧ (ns = [] → q wn M) ∧ (ns ≠ [] → q (wi (leastI (ns.map (colI s)))) M)
def pHts : WSp := fun xs M q => ∃ (a : Addr) (ns : List Int) (s f : Int), xs = [wr a, wi s, wi f] ∧ M a = some (.lst (ns.map wi)) ∧ ns.length ≤ 100000 ∧ 0 ≤ s ∧ s < 2 ^ 30 ∧ ∀ (p : Addr) (ms : List Int), M p = none → ms.Perm (hts s f ns) → ms.Pairwise (· ≤ ·) → q (wr p) (um M p (.lst (ms.map wi)))
def pMeas : WSp := fun xs M q => ∃ (st : Pt) (s : Int), xs = [wi s, patW st] ∧ st ≠ [] ∧ st.length ≤ 100000 ∧ 0 ≤ s ∧ s < 2 ^ 30 ∧ q (.tup [wi (fcol s st), wi (slen s st)]) M
def pLow : WSp := fun xs M q => ∃ (sts : List Pt) (pat : Pt) (s : Int), xs = [wi s, .tup (sts.map patW), patW pat] ∧ (∀ st ∈ sts, st ≠ [] ∧ st.length ≤ 100000) ∧ pat.length ≤ 100000 ∧ 0 ≤ s ∧ s < 2 ^ 30 ∧ q (wb (lowB s sts pat)) M
def pLFirst : WSp := fun xs M q => ∃ (st : Pt) (s : Int), xs = [wi s, patW st] ∧ st ≠ [] ∧ st.length ≤ 100000 ∧ 0 ≤ s ∧ s < 2 ^ 30 ∧ q (wi (fcol s st)) M
def cspots (s : Int) (pat : Pt) (c : Int) : List Int := (plc pat).filter fun x => decide (colI s x = c)
def pSpots : WSp := fun xs M q => ∃ (st : Pt) (s c : Int), xs = [wi s, patW st, wi c] ∧ st.length ≤ 100000 ∧ 0 ≤ s ∧ s < 2 ^ 30 ∧ ∀ p, M p = none → q (wr p) (um M p (.lst ((cspots s st c).map wi)))
def lsize (s : Int) (st : Pt) : Int := ((cspots s st (fcol s st)).getLastD 0 - (cspots s st (fcol s st)).headD 0) / (if s > 1 then s else 1)
def pSize : WSp := fun xs M q => ∃ (st : Pt) (s : Int), xs = [wi s, patW st] ∧ st ≠ [] ∧ st.length ≤ 100000 ∧ 0 ≤ s ∧ s < 2 ^ 30 ∧ q (wi (lsize s st)) M
def lLow (s : Int) (sts : List Pt) (pat : Pt) : Bool := sts.all fun st => (cspots s pat (fcol s st)).all fun x => decide (fcol s st ≤ x ∧ x < fcol s st + lsize s st * (if s > 1 then s else 1))
def pLies : WSp := fun xs M q => ∃ (sts : List Pt) (pat : Pt) (s : Int), xs = [wi s, .tup (sts.map patW), patW pat] ∧ (∀ st ∈ sts, st ≠ [] ∧ st.length ≤ 100000) ∧ pat.length ≤ 100000 ∧ 0 ≤ s ∧ s < 2 ^ 30 ∧ q (wb (lLow s sts pat)) M
theorem atI_lastW {ms : List Int} (h : ms ≠ []) : atI (ms.map wi) (-1) = some (wi (ms.getLastD 0)) := by
  have hl : 0 < ms.length := List.length_pos_iff.mpr h
  have e : ixN (ms.map wi).length (-1) = some (ms.length - 1) := by
    rw [List.length_map]
    unfold ixN
    simp
    omega
  unfold atI
  rw [e]
  show (ms.map wi)[ms.length - 1]? = _
  rw [List.getElem?_map]
  have : ms[ms.length - 1]? = some (ms.getLastD 0) := by
    rw [← List.getLast?_eq_getElem?]
    cases ms with
    | nil => exact absurd rfl h
    | cons a r => simp [List.getLast?_cons]
  rw [this]; rfl
structure StOk (s : Int) (st : Pt) (c : Int) : Prop where
  at_ : c ∈ plc st
  own : colI s c = c
  ge : ∀ x ∈ plc st, c ≤ colI s x
  up : ∀ x ∈ plc st, colI s x = c → c ≤ x
  len : st.length ≤ 100
  ris : (plc st).Pairwise (· < ·)
theorem StOk.ne {s : Int} {st : Pt} {c : Int} (h : StOk s st c) : st ≠ [] := by
  rintro rfl; exact absurd h.at_ (by simp [plc])
theorem StOk.col {s : Int} {st : Pt} {c : Int} (h : StOk s st c) : fcol s st = c := by
  have hne : (plc st).map (colI s) ≠ [] := by
    intro e; have := List.mem_map_of_mem (f := colI s) h.at_; rw [e] at this; cases this
  refine IsMin.uniq (least_is hne) ⟨List.mem_map.mpr ⟨c, h.at_, h.own⟩, fun x hx => ?_⟩
  obtain ⟨y, hy, rfl⟩ := List.mem_map.mp hx
  exact h.ge y hy
theorem StOk.head {s : Int} {st : Pt} {c : Int} (h : StOk s st c) : (cspots s st c).headD 0 = c := by
  have hm : c ∈ cspots s st c := List.mem_filter.mpr ⟨h.at_, by simpa using h.own⟩
  have hs : (cspots s st c).Pairwise (· < ·) := h.ris.sublist (List.filter_sublist)
  cases e : cspots s st c with
  | nil => rw [e] at hm; cases hm
  | cons a r =>
    rw [e] at hm hs
    have ha : a ∈ cspots s st c := by rw [e]; exact List.mem_cons_self
    have ha' := List.mem_filter.mp ha
    have := h.up a ha'.1 (by simpa using ha'.2)
    rcases List.mem_cons.mp hm with h1 | h1
    · exact h1.symm
    · have := (List.pairwise_cons.mp hs).1 c h1
      show a = c
      omega
theorem last_is {l : List Int} (h : l.Pairwise (· ≤ ·)) (hn : l ≠ []) : IsMax l (l.getLastD 0) := by
  induction l using WP.list_snoc with
  | h0 => exact absurd rfl hn
  | h1 l a _ =>
    have e : (l ++ [a]).getLastD 0 = a := by simp
    rw [e]
    refine ⟨by simp, fun x hx => ?_⟩
    rcases List.mem_append.mp hx with hx | hx
    · exact (List.pairwise_append.mp h).2.2 x hx a (by simp)
    · rw [List.mem_singleton.mp hx]; exact Int.le_refl _
theorem col_split {s x : Int} (hs : 0 < s) : x = colI s x + s * hI s x := by
  unfold colI hI
  rw [if_neg (by omega), if_neg (by omega)]
  have := Int.emod_add_mul_ediv x s
  omega
theorem StOk.size {s : Int} {st : Pt} {c : Int} (hs : 0 ≤ s) (h : StOk s st c) : lsize s st = slen s st := by
  have hc := h.col
  have hh := h.head
  have hm : c ∈ cspots s st c := List.mem_filter.mpr ⟨h.at_, by simpa using h.own⟩
  have hsp : (cspots s st c).Pairwise (· ≤ ·) := (h.ris.sublist (List.filter_sublist)).imp fun a => by omega
  have hne : cspots s st c ≠ [] := fun e => by rw [e] at hm; cases hm
  have hl := last_is hsp hne
  unfold lsize slen
  rw [hc, hh]
  have e1 : hts s c (plc st) = (cspots s st c).map (hI s) := rfl
  have hne2 : hts s c (plc st) ≠ [] := by rw [e1]; simpa using hne
  refine IsMax.uniq ?_ (most_is hne2)
  generalize (cspots s st c).getLastD 0 = z at hl
  have hz := List.mem_filter.mp hl.1
  have hzc : colI s z = c := by simpa using hz.2
  rw [e1]
  rcases Int.lt_or_eq_of_le hs with h0 | h0
  · have key : ∀ x ∈ cspots s st c, hI s x = (x - c) / (if s > 1 then s else 1) := fun x hx => by
      have hx' := List.mem_filter.mp hx
      have hxc : colI s x = c := by simpa using hx'.2
      have e := col_split (x := x) h0
      rw [hxc] at e
      have e2 : (if s > 1 then s else 1) = s := by split <;> omega
      rw [e2, show x - c = s * hI s x by omega, Int.mul_ediv_cancel_left _ (by omega)]
    refine ⟨List.mem_map.mpr ⟨z, hl.1, key z hl.1⟩, fun y hy => ?_⟩
    obtain ⟨x, hx, rfl⟩ := List.mem_map.mp hy
    rw [key x hx]
    exact Int.ediv_le_ediv (by split <;> omega) (by have := hl.2 x hx; omega)
  · subst h0
    have e3 : ∀ x : Int, hI 0 x = 0 := fun x => rfl
    have e4 : z = c := hzc
    subst e4
    refine ⟨List.mem_map.mpr ⟨z, hl.1, by simp [hI]⟩, fun y hy => ?_⟩
    obtain ⟨x, hx, rfl⟩ := List.mem_map.mp hy
    simp [hI]
theorem low_same {s : Int} {sts : List Pt} {pat : Pt} (hs : 0 ≤ s) (h : ∀ st ∈ sts, ∃ c, StOk s st c) : lowB s sts pat = lLow s sts pat := by
  unfold lowB lLow
  rw [Bool.eq_iff_iff, List.all_eq_true, List.all_eq_true]
  have one : ∀ st ∈ sts, ((hts s (fcol s st) (plc pat)).all fun x => decide (0 ≤ x ∧ x < slen s st)) = ((cspots s pat (fcol s st)).all fun x => decide (fcol s st ≤ x ∧ x < fcol s st + lsize s st * (if s > 1 then s else 1))) := fun st hst => by
    obtain ⟨c, hc⟩ := h st hst
    rw [hc.size hs, hc.col]
    have e1 : hts s c (plc pat) = (cspots s pat c).map (hI s) := rfl
    rw [e1, List.all_map]
    rw [Bool.eq_iff_iff, List.all_eq_true, List.all_eq_true]
    have each : ∀ x ∈ cspots s pat c, (0 ≤ hI s x ∧ hI s x < slen s st) ↔ (c ≤ x ∧ x < c + slen s st * (if s > 1 then s else 1)) := fun x hx => by
      have hx' := List.mem_filter.mp hx
      have hxc : colI s x = c := by simpa using hx'.2
      rcases Int.lt_or_eq_of_le hs with h0 | h0
      · have e := col_split (x := x) h0
        rw [hxc] at e
        have e2 : (if s > 1 then s else 1) = s := by split <;> omega
        rw [e2]
        generalize hI s x = y at e ⊢
        generalize slen s st = z
        rw [e]
        constructor
        · rintro ⟨a, b⟩
          refine ⟨by have := Int.mul_nonneg hs a; omega, ?_⟩
          have := Int.mul_lt_mul_of_pos_right b h0
          rw [Int.mul_comm s y]; omega
        · rintro ⟨a, b⟩
          refine ⟨?_, ?_⟩
          · exact Int.nonneg_of_mul_nonneg_right (a := s) (by omega) h0
          · rw [Int.mul_comm z s] at b
            exact Int.lt_of_mul_lt_mul_left (a := s) (by omega) hs
      · subst h0
        have : x = c := hxc
        subst this
        simp [hI]
        omega
    constructor
    · intro hh x hx
      have := hh x hx
      simp only [Function.comp, decide_eq_true_eq] at this ⊢
      exact (each x hx).mp this
    · intro hh x hx
      have := hh x hx
      simp only [Function.comp, decide_eq_true_eq] at this ⊢
      exact (each x hx).mpr this
  constructor
  · intro hh st hst; rw [← one st hst]; exact hh st hst
  · intro hh st hst; rw [one st hst]; exact hh st hst
def SmB (d : Addr) (M M' : Mp) : Prop := ∀ b o, b ≠ d → M b = some o → M' b = some o
theorem SmB.trans {d : Addr} {M M1 M2 : Mp} (a : SmB d M M1) (b : SmB d M1 M2) : SmB d M M2 := fun c o n h => b c o n (a c o n h)
theorem SmB.nb {d : Addr} {M M' : Mp} (h : NB d M M') : SmB d M M' := fun b o n e => (h b n).trans e
theorem SmB.sm {d : Addr} {M M' : Mp} (h : Sm M M') : SmB d M M' := fun b o _ e => h b o e
theorem SmB.um {d p : Addr} {M M' : Mp} {o : MO} (h : SmB d M M') (hp : M p = none) : SmB d M (um M' p o) := fun b u n e => by
  rw [um_ne (m_ne e hp)]; exact h b u n e
structure Pre (s c p : Int) (ps : Pt) : Prop where
  each : ∀ z ∈ ps, (∃ k : Int, 0 ≤ k ∧ z.1 = c + k * s) ∨ c < colI s z.1
  lit : tot ps c % p ≠ 0
def ColOk (s c : Int) : Prop := s = 0 ∨ (0 ≤ c ∧ c < s)
theorem ColOk.own {s c : Int} (h : ColOk s c) : colI s c = c := by
  unfold colI
  rcases h with h | ⟨h1, h2⟩
  · rw [if_pos h]
  · rw [if_neg (by omega)]; exact Int.emod_eq_of_lt h1 h2
theorem ColOk.on {s c : Int} (h : ColOk s c) (k : Int) : colI s (c + k * s) = c := by
  have := h.own
  unfold colI at this ⊢
  split
  · rename_i e; subst e; simp
  · rename_i e; rw [if_neg e] at this; rw [Int.add_mul_emod_self_right]; exact this
theorem Pre.st {s c p : Int} {ps : Pt} (p0 : 0 < p) (hc : ColOk s c) (h : Pre s c p ps) (hl : ps.length ≤ 100) : StOk s (nrm p ps) c := by
  have hP := nrm_pat p0 ps
  have inn : ∀ x ∈ plc (nrm p ps), ∃ q ∈ ps, q.1 = x := fun x hx => by
    obtain ⟨z, hz, rfl⟩ := List.mem_map.mp hx
    exact nrm_in hz
  refine ⟨?_, hc.own, fun x hx => ?_, fun x hx e => ?_, Nat.le_trans (nrm_len p ps) hl, ?_⟩
  · by_cases hm : c ∈ plc (nrm p ps)
    · exact hm
    · refine absurd ?_ h.lit
      rw [← look_nrm p0]
      exact look_not fun q hq e => hm (List.mem_map.mpr ⟨q, hq, e⟩)
  · obtain ⟨q, hq, rfl⟩ := inn x hx
    rcases h.each q hq with ⟨k, k0, e⟩ | e
    · rw [e, hc.on]; exact Int.le_refl _
    · omega
  · obtain ⟨q, hq, rfl⟩ := inn x hx
    rcases h.each q hq with ⟨k, k0, e1⟩ | e1
    · rw [e1]
      rcases hc with h0 | h0
      · subst h0; simp
      · have := Int.mul_nonneg k0 (show 0 ≤ s by omega); omega
    · omega
  · unfold plc
    exact List.pairwise_map.mpr hP.2
theorem Pre.one {s c p : Int} (hp : 1 < p) : Pre s c p [(c, 1)] := by
  refine ⟨fun z hz => .inl ⟨0, Int.le_refl _, by rw [List.mem_singleton.mp hz]; simp⟩, ?_⟩
  have : tot [(c, 1)] c = 1 := by simp [tot]
  rw [this, Int.emod_eq_of_lt (by omega) hp]; decide
theorem Pre.two {s c p r m : Int} {mids : Pt} (r0 : 0 ≤ r) (r1 : 1 + r < p) (hs : 0 < s) (hm : 0 < m) (hmid : ∀ z ∈ mids, ∃ k : Int, 1 ≤ k ∧ z.1 = c + k * s) : Pre s c p ([(c, 1 + r), (c + m * s, 1)] ++ mids) := by
  have pos : ∀ k : Int, 1 ≤ k → 0 < k * s := fun k hk => Int.mul_pos (by omega) hs
  refine ⟨fun z hz => .inl ?_, ?_⟩
  · rcases List.mem_append.mp hz with hz | hz
    · rcases List.mem_cons.mp hz with rfl | hz
      · exact ⟨0, Int.le_refl _, by simp⟩
      · rw [List.mem_singleton.mp hz]; exact ⟨m, by omega, rfl⟩
    · obtain ⟨k, k1, e⟩ := hmid z hz
      exact ⟨k, by omega, e⟩
  · have e1 : tot mids c = 0 := tot_not fun q hq e => by
      obtain ⟨k, k1, e2⟩ := hmid q hq
      have := pos k k1; omega
    have e2 : tot [(c, 1 + r), (c + m * s, 1)] c = 1 + r := by
      have := pos m (by omega)
      have ne : ¬ c + m * s = c := by omega
      simp [tot, ne]
    rw [tot_append, e1, e2, Int.add_zero, Int.emod_eq_of_lt (by omega) r1]; omega
theorem Pre.snoc {s c p : Int} {ps : Pt} {z : Int × Int} (hc : ColOk s c) (h : Pre s c p ps) (hz : c < colI s z.1) : Pre s c p (ps ++ [z]) := by
  refine ⟨fun q hq => ?_, ?_⟩
  · rcases List.mem_append.mp hq with hq | hq
    · exact h.each q hq
    · rw [List.mem_singleton.mp hq]; exact .inr hz
  · rw [tot_snoc, if_neg (fun e => by rw [e, hc.own] at hz; omega), Int.add_zero]; exact h.lit
def pDSt : WSp := fun xs M q => ∃ (d l : Addr) (p s c : Int), xs = [wr d, wi p, wi s, wi c] ∧ Dr M d l ∧ 2 ≤ p ∧ p ≤ 7 ∧ 0 ≤ s ∧ s ≤ 8 ∧ ColOk s c ∧ -100 ≤ c ∧ c ≤ 100 ∧ ∀ (st : Pt) (M' : Mp), StOk s st c → IsPat p st → Dr M' d l → SmB d M M' → q (patW st) M'
def pDSs : WSp := fun xs M q => ∃ (d l : Addr) (p s : Int), xs = [wr d, wi p, wi s] ∧ Dr M d l ∧ 2 ≤ p ∧ p ≤ 7 ∧ 0 ≤ s ∧ s ≤ 8 ∧ ∀ (sts : List Pt) (M' : Mp), (∀ st ∈ sts, IsPat p st ∧ ∃ c, StOk s st c) → sts.length ≤ 13 → Dr M' d l → SmB d M M' → q (.tup (sts.map patW)) M'
def pClose : WSp := fun xs M q => ∃ (d l : Addr) (p s : Int) (sts : List Pt), xs = [wr d, wi p, wi s, .tup (sts.map patW)] ∧ Dr M d l ∧ 2 ≤ p ∧ p ≤ 7 ∧ 0 ≤ s ∧ s ≤ 8 ∧ sts.length ≤ 13 ∧ (∀ st ∈ sts, ∃ c, StOk s st c) ∧ ∀ (ps : Pt) (M' : Mp), ps.length ≤ 13 → Dr M' d l → q (patW (nrm p ps)) M'
end WQ
set_option maxHeartbeats 4000000
set_option synthInstance.maxSize 100000
set_option synthInstance.maxHeartbeats 0
namespace K18
open PySem L2 WL WP WQ PyProof.Rows
def top (i : Nat) : Stmt := PySem.Challenge.pw_duskround_k18_columns_and_lying_low.main.body.getD i (.Pass ⟨0, 0, 0, 0⟩)
abbrev s_column : Stmt := top 1
abbrev s_first_column : Stmt := top 2
abbrev s_heights : Stmt := top 3
abbrev s_measured : Stmt := top 4
abbrev s_low : Stmt := top 5
abbrev s_l_begin : Stmt := top 7
abbrev s_l_take : Stmt := top 8
abbrev s_l_wide : Stmt := top 9
abbrev s_l_p : Stmt := top 10
abbrev s_l_tidy : Stmt := top 11
abbrev s_l_pattern : Stmt := top 12
abbrev s_l_column : Stmt := top 13
abbrev s_l_draw_stair : Stmt := top 14
abbrev s_l_draw_stairs : Stmt := top 15
abbrev s_l_first : Stmt := top 16
abbrev s_l_spots : Stmt := top 17
abbrev s_l_size : Stmt := top 18
abbrev s_l_lies_low : Stmt := top 19
abbrev s_l_int : Stmt := top 20
abbrev s_l_close : Stmt := top 21
abbrev s_law : Stmt := top 22
structure Adr where
  f_column : Addr
  d_column : FuncData
  f_first_column : Addr
  d_first_column : FuncData
  f_heights : Addr
  d_heights : FuncData
  f_measured : Addr
  d_measured : FuncData
  f_low : Addr
  d_low : FuncData
  f_l_begin : Addr
  d_l_begin : FuncData
  f_l_take : Addr
  d_l_take : FuncData
  f_l_wide : Addr
  d_l_wide : FuncData
  f_l_p : Addr
  d_l_p : FuncData
  f_l_tidy : Addr
  d_l_tidy : FuncData
  f_l_pattern : Addr
  d_l_pattern : FuncData
  f_l_column : Addr
  d_l_column : FuncData
  f_l_draw_stair : Addr
  d_l_draw_stair : FuncData
  f_l_draw_stairs : Addr
  d_l_draw_stairs : FuncData
  f_l_first : Addr
  d_l_first : FuncData
  f_l_spots : Addr
  d_l_spots : FuncData
  f_l_size : Addr
  d_l_size : FuncData
  f_l_lies_low : Addr
  d_l_lies_low : FuncData
  f_l_int : Addr
  d_l_int : FuncData
  f_l_close : Addr
  d_l_close : FuncData
  f_law : Addr
  d_law : FuncData
structure Txt (K : PySem.W.Frag) (mg : Str → Option Value) (A : Adr) : Prop where
  b_abs : mg "abs" = none
  b_any : mg "any" = none
  b_bool : mg "bool" = none
  b_int : mg "int" = none
  b_isinstance : mg "isinstance" = none
  b_len : mg "len" = none
  b_list : mg "list" = none
  b_max : mg "max" = none
  b_min : mg "min" = none
  b_range : mg "range" = none
  b_sorted : mg "sorted" = none
  b_tuple : mg "tuple" = none
  column : Fnc K mg "column" ["place", "stride"] s_column A.f_column A.d_column
  first_column : Fnc K mg "first_column" ["places", "stride"] s_first_column A.f_first_column A.d_first_column
  heights : Fnc K mg "heights" ["places", "stride", "first"] s_heights A.f_heights A.d_heights
  measured : Fnc K mg "measured" ["stride", "stair"] s_measured A.f_measured A.d_measured
  low : Fnc K mg "low" ["stride", "stairs", "pattern"] s_low A.f_low A.d_low
  l_begin : Fnc K mg "_law_begin" ["_law_script"] s_l_begin A.f_l_begin A.d_l_begin
  l_take : Fnc K mg "_law_take" ["_law_draw", "_law_many"] s_l_take A.f_l_take A.d_l_take
  l_wide : Fnc K mg "_law_wide" ["_law_draw"] s_l_wide A.f_l_wide A.d_l_wide
  l_p : Fnc K mg "_law_p" ["_law_draw"] s_l_p A.f_l_p A.d_l_p
  l_tidy : Fnc K mg "_law_tidy" ["_law_p_here", "_law_pairs"] s_l_tidy A.f_l_tidy A.d_l_tidy
  l_pattern : Fnc K mg "_law_pattern" ["_law_draw", "_law_p_here", "_law_most", "_law_far"] s_l_pattern A.f_l_pattern A.d_l_pattern
  l_column : Fnc K mg "_law_column" ["_law_place", "_law_stride"] s_l_column A.f_l_column A.d_l_column
  l_draw_stair : Fnc K mg "_law_draw_stair" ["_law_draw", "_law_p_here", "_law_stride", "_law_at"] s_l_draw_stair A.f_l_draw_stair A.d_l_draw_stair
  l_draw_stairs : Fnc K mg "_law_draw_stairs" ["_law_draw", "_law_p_here", "_law_stride"] s_l_draw_stairs A.f_l_draw_stairs A.d_l_draw_stairs
  l_first : Fnc K mg "_law_first" ["_law_stride", "_law_pattern_here"] s_l_first A.f_l_first A.d_l_first
  l_spots : Fnc K mg "_law_spots" ["_law_stride", "_law_pattern_here", "_law_at"] s_l_spots A.f_l_spots A.d_l_spots
  l_size : Fnc K mg "_law_size" ["_law_stride", "_law_stair"] s_l_size A.f_l_size A.d_l_size
  l_lies_low : Fnc K mg "_law_lies_low" ["_law_stride", "_law_stairs", "_law_pattern_here"] s_l_lies_low A.f_l_lies_low A.d_l_lies_low
  l_int : Fnc K mg "_law_int" ["_law_thing"] s_l_int A.f_l_int A.d_l_int
  l_close : Fnc K mg "_law_close" ["_law_draw", "_law_p_here", "_law_stride", "_law_stairs"] s_l_close A.f_l_close A.d_l_close
  law : Fnc K mg "law" ["_law_script"] s_law A.f_law A.d_law
theorem sc_column : FnScope ["place", "stride"] ["place", "stride"] (defScope s_column) := ⟨rfl, rfl, rfl, by decide +kernel, rfl, by decide +kernel, by decide +kernel⟩
theorem sc_first_column : FnScope ["places", "stride"] ["places", "stride"] (defScope s_first_column) := ⟨rfl, rfl, rfl, by decide +kernel, rfl, by decide +kernel, by decide +kernel⟩
theorem sc_heights : FnScope ["places", "stride", "first"] ["places", "stride", "first"] (defScope s_heights) := ⟨rfl, rfl, rfl, by decide +kernel, rfl, by decide +kernel, by decide +kernel⟩
theorem sc_measured : FnScope ["stride", "stair", "places", "first"] ["stride", "stair"] (defScope s_measured) := ⟨rfl, rfl, rfl, by decide +kernel, rfl, by decide +kernel, by decide +kernel⟩
theorem sc_low : FnScope ["stride", "stairs", "pattern", "lit", "stair", "first", "length"] ["stride", "stairs", "pattern"] (defScope s_low) := ⟨rfl, rfl, rfl, by decide +kernel, rfl, by decide +kernel, by decide +kernel⟩
theorem sc_l_begin : FnScope ["_law_script"] ["_law_script"] (defScope s_l_begin) := ⟨rfl, rfl, rfl, by decide +kernel, rfl, by decide +kernel, by decide +kernel⟩
theorem sc_l_take : FnScope ["_law_draw", "_law_many", "_law_number", "_law_got"] ["_law_draw", "_law_many"] (defScope s_l_take) := ⟨rfl, rfl, rfl, by decide +kernel, rfl, by decide +kernel, by decide +kernel⟩
theorem sc_l_wide : FnScope ["_law_draw", "_law_number", "_law_size_here"] ["_law_draw"] (defScope s_l_wide) := ⟨rfl, rfl, rfl, by decide +kernel, rfl, by decide +kernel, by decide +kernel⟩
theorem sc_l_p : FnScope ["_law_draw"] ["_law_draw"] (defScope s_l_p) := ⟨rfl, rfl, rfl, by decide +kernel, rfl, by decide +kernel, by decide +kernel⟩
theorem sc_l_tidy : FnScope ["_law_p_here", "_law_pairs", "_law_sums", "_law_place", "_law_setting"] ["_law_p_here", "_law_pairs"] (defScope s_l_tidy) := ⟨rfl, rfl, rfl, by decide +kernel, rfl, by decide +kernel, by decide +kernel⟩
theorem sc_l_pattern : FnScope ["_law_draw", "_law_p_here", "_law_most", "_law_far", "_law_pairs", "_law_k", "_law_place"] ["_law_draw", "_law_p_here", "_law_most", "_law_far"] (defScope s_l_pattern) := ⟨rfl, rfl, rfl, by decide +kernel, rfl, by decide +kernel, by decide +kernel⟩
theorem sc_l_column : FnScope ["_law_place", "_law_stride"] ["_law_place", "_law_stride"] (defScope s_l_column) := ⟨rfl, rfl, rfl, by decide +kernel, rfl, by decide +kernel, by decide +kernel⟩
theorem sc_l_draw_stair : FnScope ["_law_draw", "_law_p_here", "_law_stride", "_law_at", "_law_pairs", "_law_many", "_law_k", "_law_place"] ["_law_draw", "_law_p_here", "_law_stride", "_law_at"] (defScope s_l_draw_stair) := ⟨rfl, rfl, rfl, by decide +kernel, rfl, by decide +kernel, by decide +kernel⟩
theorem sc_l_draw_stairs : FnScope ["_law_draw", "_law_p_here", "_law_stride", "_law_columns", "_law_kept"] ["_law_draw", "_law_p_here", "_law_stride"] (defScope s_l_draw_stairs) := ⟨rfl, rfl, rfl, by decide +kernel, rfl, by decide +kernel, by decide +kernel⟩
theorem sc_l_first : FnScope ["_law_stride", "_law_pattern_here"] ["_law_stride", "_law_pattern_here"] (defScope s_l_first) := ⟨rfl, rfl, rfl, by decide +kernel, rfl, by decide +kernel, by decide +kernel⟩
theorem sc_l_spots : FnScope ["_law_stride", "_law_pattern_here", "_law_at"] ["_law_stride", "_law_pattern_here", "_law_at"] (defScope s_l_spots) := ⟨rfl, rfl, rfl, by decide +kernel, rfl, by decide +kernel, by decide +kernel⟩
theorem sc_l_size : FnScope ["_law_stride", "_law_stair", "_law_spots_here"] ["_law_stride", "_law_stair"] (defScope s_l_size) := ⟨rfl, rfl, rfl, by decide +kernel, rfl, by decide +kernel, by decide +kernel⟩
theorem sc_l_lies_low : FnScope ["_law_stride", "_law_stairs", "_law_pattern_here", "_law_stair", "_law_at", "_law_size_here", "_law_place"] ["_law_stride", "_law_stairs", "_law_pattern_here"] (defScope s_l_lies_low) := ⟨rfl, rfl, rfl, by decide +kernel, rfl, by decide +kernel, by decide +kernel⟩
theorem sc_l_int : FnScope ["_law_thing"] ["_law_thing"] (defScope s_l_int) := ⟨rfl, rfl, rfl, by decide +kernel, rfl, by decide +kernel, by decide +kernel⟩
theorem sc_l_close : FnScope ["_law_draw", "_law_p_here", "_law_stride", "_law_stairs", "_law_pairs", "_law_stair", "_law_at", "_law_top", "_law_spot"] ["_law_draw", "_law_p_here", "_law_stride", "_law_stairs"] (defScope s_l_close) := ⟨rfl, rfl, rfl, by decide +kernel, rfl, by decide +kernel, by decide +kernel⟩
theorem sc_law : FnScope ["_law_script", "_law_draw", "_law_p_here", "_law_stride", "_law_place", "_law_found", "_law_stairs", "_law_pattern_here", "_law_told"] ["_law_script"] (defScope s_law) := ⟨rfl, rfl, rfl, by decide +kernel, rfl, by decide +kernel, by decide +kernel⟩
section
variable {P : Program} {w : World} {K : PySem.W.Frag} {mg : Str → Option Value} {base : Heap} {A : Adr}
theorem ok_l_begin (T : Txt K mg A) : FnOk P w K mg base CX0 1 A.f_l_begin A.d_l_begin ["_law_script"] (spBegin K) := by
  refine T.l_begin.fn.ok sc_l_begin (fun vs H Q E h => ?_) (fun cdv A' outer s H vs Q E hr h => ?_)
  · obtain ⟨a, ns, rfl, _⟩ := h
    rfl
  · obtain ⟨a, ns, rfl, hs, k⟩ := h
    have nd := sc_l_begin.nd
    refine ⟨_, (@pss_one _ _ _ (@ps_ret _ _ _ _ (@pe_lst _ _ _ _ (@pa_cons _ _ _ _ _ (@pe_callTy _ _ _ _ _ _ _ _ _ (@call_listW _) (by rfl) T.b_list Boot.«list» (@pa_cons _ _ _ _ _ (@pe_slice _ _ _ _ _ _ _ _ _ _ (@sl_list _) (@pv _ 0 _ _ (by rfl) (by first | exact Or.inl rfl | exact Or.inr (Or.inl rfl) | exact Or.inr (Or.inr rfl)) (by decide) (by decide)) (@po_none _) (@po_some _ _ _ (@pe_int _ _ _ _))) (@pa_nil _) (by rfl)) (by decide) (by decide) (by rfl) (by rfl)) (@pa_cons _ _ _ _ _ (@pe_int _ _ _ _) (@pa_cons _ _ _ _ _ (@pe_int _ _ _ _) (@pa_cons _ _ _ _ _ (@pe_int _ _ _ _) (@pa_nil _) (by rfl)) (by rfl)) (by rfl)) (by rfl))))), ?_⟩
    have ec : ∃ ms : List Int, cutV (ns.map V.int) none (some 63) = ms.map V.int := by
      refine ⟨(ns.drop (HT.sIx (ns.map V.int).length 0 none)).take (HT.sIx (ns.map V.int).length (ns.map V.int).length (some 63) - HT.sIx (ns.map V.int).length 0 none), ?_⟩
      unfold cutV
      rw [List.map_take, List.map_drop]
    obtain ⟨ms, em⟩ := ec
    refine ⟨_, rfl, _, rfl, _, _, rfl, hs, fun p hp => ⟨_, _, rfl, .inl (SqL.of upd_same), fun l hl => ⟨by show 4 ≤ sizeLine; decide, fun d hd => ?_⟩⟩⟩
    have hld : l ≠ d := fun e => by rw [e, upd_same] at hd; cases hd
    refine k d l ms _ hld.symm upd_same ?_
    rw [upd_ne hld, upd_same, em]
theorem ok_l_take (T : Txt K mg A) : FnOk P w K mg base CX0 1 A.f_l_take A.d_l_take ["_law_draw", "_law_many"] (spW K pTake) := by
  refine okS T.l_take.fn sc_l_take (by rintro vs M q ⟨d, l, n, rfl, _⟩; rfl) fun cdv A' outer s H E hr => ?_
  have nd := sc_l_take.nd
  refine ⟨_, (@pss_cons _ _ _ _ _ (@ps_if _ _ _ _ _ _ _ _ (@pw_and _ _ _ _ _ _ _ (@pt_cmpR _ _ _ _ _ _ _ _ (@op_lt _) (@pe_ix _ _ _ _ _ _ _ (@ix_list _) (@pv _ 0 _ _ (by rfl) (by first | exact Or.inl rfl | exact Or.inr (Or.inl rfl) | exact Or.inr (Or.inr rfl)) (by decide) (by decide)) (@pe_int _ _ _ _) (fun _ _ => (@rfl _ _))) (@pv _ 1 _ _ (by rfl) (by first | exact Or.inl rfl | exact Or.inr (Or.inl rfl) | exact Or.inr (Or.inr rfl)) (by decide) (by decide)) (@nomark _ _ (by decide) (by decide))) (@pw_and1 _ _ _ _ (@pt_cmpR _ _ _ _ _ _ _ _ (@op_lt _) (@pe_ix _ _ _ _ _ _ _ (@ix_list _) (@pv _ 0 _ _ (by rfl) (by first | exact Or.inl rfl | exact Or.inr (Or.inl rfl) | exact Or.inr (Or.inr rfl)) (by decide) (by decide)) (@pe_int _ _ _ _) (fun _ _ => (@rfl _ _))) (@pe_callB _ _ _ _ _ _ _ _ _ (@call_lenW _) (by rfl) T.b_len Boot.«len» (@pa_cons _ _ _ _ _ (@pe_ix _ _ _ _ _ _ _ (@ix_list _) (@pv _ 0 _ _ (by rfl) (by first | exact Or.inl rfl | exact Or.inr (Or.inl rfl) | exact Or.inr (Or.inr rfl)) (by decide) (by decide)) (@pe_int _ _ _ _) (fun _ _ => (@rfl _ _))) (@pa_nil _) (by rfl)) (by decide) (by decide) (by rfl) (by rfl)) (@nomark _ _ (by decide) (by decide))))).pt (@pss_cons _ _ _ _ _ (@ps_set _ _ (2) _ _ _ _ nd rfl (by first | exact Or.inl rfl | exact Or.inr rfl) (@pe_ix _ _ _ _ _ _ _ (@ix_list _) (@pe_ix _ _ _ _ _ _ _ (@ix_list _) (@pv _ 0 _ _ (by rfl) (by first | exact Or.inl rfl | exact Or.inr (Or.inl rfl) | exact Or.inr (Or.inr rfl)) (by decide) (by decide)) (@pe_int _ _ _ _) (fun _ _ => (@rfl _ _))) (@pe_ix _ _ _ _ _ _ _ (@ix_list _) (@pv _ 0 _ _ (by rfl) (by first | exact Or.inl rfl | exact Or.inr (Or.inl rfl) | exact Or.inr (Or.inr rfl)) (by decide) (by decide)) (@pe_int _ _ _ _) (fun _ _ => (@rfl _ _))) (fun _ _ => (@rfl _ _))) (by rfl) (by first | exact .inl rfl | exact .inr rfl | assumption)) (@pss_cons _ _ _ _ _ (@ps_asg _ _ _ _ _ _ (@pe_op _ _ _ _ _ _ _ _ (@op_add _) (@pe_ix _ _ _ _ _ _ _ (@ix_list _) (@pv _ 0 _ _ (by rfl) (by first | exact Or.inl rfl | exact Or.inr (Or.inl rfl) | exact Or.inr (Or.inr rfl)) (by decide) (by decide)) (@pe_int _ _ _ _) (fun _ _ => (@rfl _ _))) (@pe_int _ _ _ _)) (@pg_sub _ _ _ _ _ _ _ (@pv _ 0 _ _ (by rfl) (by first | exact Or.inl rfl | exact Or.inr (Or.inl rfl) | exact Or.inr (Or.inr rfl)) (by decide) (by decide)) (@pe_int _ _ _ _) (@set_list _) (by intro _; rfl)) (by rfl) (by rfl) (by rfl)) (@pss_cons _ _ _ _ _ (@ps_asg _ _ _ _ _ _ (@pe_int _ _ _ _) (@pg_sub _ _ _ _ _ _ _ (@pv _ 0 _ _ (by rfl) (by first | exact Or.inl rfl | exact Or.inr (Or.inl rfl) | exact Or.inr (Or.inr rfl)) (by decide) (by decide)) (@pe_int _ _ _ _) (@set_list _) (by intro _; rfl)) (by rfl) (by rfl) (by rfl)) (@pss_one _ _ _ (@ps_if _ _ _ _ _ _ _ _ (@pt_cmpR _ _ _ _ _ _ _ _ (@op_ge _) (@pe_callB _ _ _ _ _ _ _ _ _ (@call_absW _) (by rfl) T.b_abs Boot.«abs» (@pa_cons _ _ _ _ _ (@pv _ 2 _ _ (by rfl) (by first | exact Or.inl rfl | exact Or.inr (Or.inl rfl) | exact Or.inr (Or.inr rfl)) (by decide) (by decide)) (@pa_nil _) (by rfl)) (by decide) (by decide) (by rfl) (by rfl)) (@pe_op _ _ _ _ _ _ _ _ (@op_pow _) (@pe_int _ _ _ _) (@pe_int _ _ _ _)) (@nomark _ _ (by decide) (by decide))) (@pss_one _ _ _ (@ps_asg _ _ _ _ _ _ (@pe_callB _ _ _ _ _ _ _ _ _ (@call_absW _) (by rfl) T.b_abs Boot.«abs» (@pa_cons _ _ _ _ _ (@pv _ 2 _ _ (by rfl) (by first | exact Or.inl rfl | exact Or.inr (Or.inl rfl) | exact Or.inr (Or.inr rfl)) (by decide) (by decide)) (@pa_nil _) (by rfl)) (by decide) (by decide) (by rfl) (by rfl)) (@pg_sub _ _ _ _ _ _ _ (@pv _ 0 _ _ (by rfl) (by first | exact Or.inl rfl | exact Or.inr (Or.inl rfl) | exact Or.inr (Or.inr rfl)) (by decide) (by decide)) (@pe_int _ _ _ _) (@set_list _) (by intro _; rfl)) (by rfl) (by rfl) (by rfl))) (@pss_one _ _ _ (@ps_asg _ _ _ _ _ _ (@pe_op _ _ _ _ _ _ _ _ (@op_mod _) (@pe_op _ _ _ _ _ _ _ _ (@op_add _) (@pe_op _ _ _ _ _ _ _ _ (@op_add _) (@pe_op _ _ _ _ _ _ _ _ (@op_mul _) (@pe_ix _ _ _ _ _ _ _ (@ix_list _) (@pv _ 0 _ _ (by rfl) (by first | exact Or.inl rfl | exact Or.inr (Or.inl rfl) | exact Or.inr (Or.inr rfl)) (by decide) (by decide)) (@pe_int _ _ _ _) (fun _ _ => (@rfl _ _))) (@pe_int _ _ _ _)) (@pe_op _ _ _ _ _ _ _ _ (@op_mul _) (@pe_op _ _ _ _ _ _ _ _ (@op_mod _) (@pv _ 2 _ _ (by rfl) (by first | exact Or.inl rfl | exact Or.inr (Or.inl rfl) | exact Or.inr (Or.inr rfl)) (by decide) (by decide)) (@pe_int _ _ _ _)) (@pe_int _ _ _ _))) (@pe_int _ _ _ _)) (@pe_int _ _ _ _)) (@pg_sub _ _ _ _ _ _ _ (@pv _ 0 _ _ (by rfl) (by first | exact Or.inl rfl | exact Or.inr (Or.inl rfl) | exact Or.inr (Or.inr rfl)) (by decide) (by decide)) (@pe_int _ _ _ _) (@set_list _) (by intro _; rfl)) (by rfl) (by rfl) (by rfl)))))))) (@pss_nil _)) (@pss_cons _ _ _ _ _ (@ps_if _ _ _ _ _ _ _ _ (@pt_cmpR _ _ _ _ _ _ _ _ (@op_ge _) (@pe_ix _ _ _ _ _ _ _ (@ix_list _) (@pv _ 0 _ _ (by rfl) (by first | exact Or.inl rfl | exact Or.inr (Or.inl rfl) | exact Or.inr (Or.inr rfl)) (by decide) (by decide)) (@pe_int _ _ _ _) (fun _ _ => (@rfl _ _))) (@pv _ 1 _ _ (by rfl) (by first | exact Or.inl rfl | exact Or.inr (Or.inl rfl) | exact Or.inr (Or.inr rfl)) (by decide) (by decide)) (@nomark _ _ (by decide) (by decide))) (@pss_cons _ _ _ _ _ (@ps_set _ _ (3) _ _ _ _ nd rfl (by first | exact Or.inl rfl | exact Or.inr rfl) (@pe_op _ _ _ _ _ _ _ _ (@op_mod _) (@pe_ix _ _ _ _ _ _ _ (@ix_list _) (@pv _ 0 _ _ (by rfl) (by first | exact Or.inl rfl | exact Or.inr (Or.inl rfl) | exact Or.inr (Or.inr rfl)) (by decide) (by decide)) (@pe_int _ _ _ _) (fun _ _ => (@rfl _ _))) (@pv _ 1 _ _ (by rfl) (by first | exact Or.inl rfl | exact Or.inr (Or.inl rfl) | exact Or.inr (Or.inr rfl)) (by decide) (by decide))) (by rfl) (by first | exact .inl rfl | exact .inr rfl | assumption)) (@pss_cons _ _ _ _ _ (@ps_asg _ _ _ _ _ _ (@pe_op _ _ _ _ _ _ _ _ (@op_fdiv _) (@pe_ix _ _ _ _ _ _ _ (@ix_list _) (@pv _ 0 _ _ (by rfl) (by first | exact Or.inl rfl | exact Or.inr (Or.inl rfl) | exact Or.inr (Or.inr rfl)) (by decide) (by decide)) (@pe_int _ _ _ _) (fun _ _ => (@rfl _ _))) (@pv _ 1 _ _ (by rfl) (by first | exact Or.inl rfl | exact Or.inr (Or.inl rfl) | exact Or.inr (Or.inr rfl)) (by decide) (by decide))) (@pg_sub _ _ _ _ _ _ _ (@pv _ 0 _ _ (by rfl) (by first | exact Or.inl rfl | exact Or.inr (Or.inl rfl) | exact Or.inr (Or.inr rfl)) (by decide) (by decide)) (@pe_int _ _ _ _) (@set_list _) (by intro _; rfl)) (by rfl) (by rfl) (by rfl)) (@pss_one _ _ _ (@ps_ret _ _ _ _ (@pv _ 3 _ _ (by rfl) (by first | exact Or.inl rfl | exact Or.inr (Or.inl rfl) | exact Or.inr (Or.inr rfl)) (by decide) (by decide)))))) (@pss_nil _)) (@pss_cons _ _ _ _ _ (@ps_asg _ _ _ _ _ _ (@pe_op _ _ _ _ _ _ _ _ (@op_mod _) (@pe_op _ _ _ _ _ _ _ _ (@op_add _) (@pe_op _ _ _ _ _ _ _ _ (@op_mul _) (@pe_ix _ _ _ _ _ _ _ (@ix_list _) (@pv _ 0 _ _ (by rfl) (by first | exact Or.inl rfl | exact Or.inr (Or.inl rfl) | exact Or.inr (Or.inr rfl)) (by decide) (by decide)) (@pe_int _ _ _ _) (fun _ _ => (@rfl _ _))) (@pe_int _ _ _ _)) (@pe_int _ _ _ _)) (@pe_int _ _ _ _)) (@pg_sub _ _ _ _ _ _ _ (@pv _ 0 _ _ (by rfl) (by first | exact Or.inl rfl | exact Or.inr (Or.inl rfl) | exact Or.inr (Or.inr rfl)) (by decide) (by decide)) (@pe_int _ _ _ _) (@set_list _) (by intro _; rfl)) (by rfl) (by rfl) (by rfl)) (@pss_one _ _ _ (@ps_ret _ _ _ _ (@pe_op _ _ _ _ _ _ _ _ (@op_mod _) (@pe_op _ _ _ _ _ _ _ _ (@op_fdiv _) (@pe_ix _ _ _ _ _ _ _ (@ix_list _) (@pv _ 0 _ _ (by rfl) (by first | exact Or.inl rfl | exact Or.inr (Or.inl rfl) | exact Or.inr (Or.inr rfl)) (by decide) (by decide)) (@pe_int _ _ _ _) (fun _ _ => (@rfl _ _))) (@pe_int _ _ _ _)) (@pv _ 1 _ _ (by rfl) (by first | exact Or.inl rfl | exact Or.inr (Or.inl rfl) | exact Or.inr (Or.inr rfl)) (by decide) (by decide)))))))), ?_⟩
  try dsimp only [cxOf]
  refine ⟨_, inferInstance, ?_⟩
  rintro vs M q ⟨d, l, n, rfl, ⟨ns, i, c, sd, hd, hl, hi, hne⟩, n0, n1, k⟩
  have fin : ∀ (r i' c' s' : Int), 0 ≤ r → r < n → 0 ≤ i' → ∃ M0, Sm M0 (um M d (.lst [wr l, wi i', wi c', wi s'])) ∧ q (wi r) M0 := fun r i' c' s' h0 h1 h2 =>
    exM (k r _ h0 h1 ⟨ns, i', c', s', um_same, by rw [um_ne (Ne.symm hne)]; exact hl, h2, hne⟩ NB.put)
  have e0 : ∀ x : Int, 0 ≤ x % n := fun x => Int.emod_nonneg _ (by omega)
  have e1 : ∀ x : Int, x % n < n := fun x => Int.emod_lt_of_pos _ n0
  have cp : CPow 10 18 = True := by simp [CPow]
  have cm : ∀ x, CMul x 48271 = True := fun x => by simp [CMul]
  have cm2 : ∀ x, CMul x 69621 = True := fun x => by simp [CMul]
  have cm3 : ∀ x, CMul x 16807 = True := fun x => by simp [CMul]
  have cd1 : ∀ x, CDiv x n = True := fun x => by simp [CDiv, n0, n1]
  have cd2 : ∀ x, CDiv x 64 = True := fun x => by simp [CDiv]
  have z1 : ((0 : Int) < 2147483629) = True := by decide
  have z2 : ((0 : Int) < 2147483647) = True := by decide
  by_cases hlt : i < ns.length
  · have hx : atI (ns.map wi) i = some (wi (ns[i.toNat]'(by omega))) := atI_int hi (by rw [List.getElem?_map, List.getElem?_eq_getElem (by omega)]; rfl)
    try simp only [↓RR, ↓H2, GG, Nat.reduceAdd, Nat.reduceSub, List.reduceReplicate, tyW, capρ, hd, hl, hx, n0, List.length_map, cp, cm, cm2, cm3, cd1, cd2, z1, z2]
    simp only [iteK]
    repeat' split
    all_goals first | (refine fin _ _ _ _ (e0 _) (e1 _) ?_; omega)
  · try simp only [↓RR, ↓H2, GG, Nat.reduceAdd, Nat.reduceSub, List.reduceReplicate, tyW, capρ, hd, hl, hlt, n0, List.length_map, cp, cm, cm2, cm3, cd1, cd2, z1, z2, decide_false]
    simp only [iteK]
    repeat' split
    all_goals first | (refine fin _ _ _ _ (e0 _) (e1 _) ?_; omega)
theorem ok_l_wide (T : Txt K mg A) : FnOk P w K mg base CX0 2 A.f_l_wide A.d_l_wide ["_law_draw"] (spW K pWide) := by
  have G_l_take := ok_l_take (P := P) (w := w) (base := base) T
  refine okS T.l_wide.fn sc_l_wide (by rintro vs M q ⟨d, l, rfl, _⟩; rfl) fun cdv A' outer s H E hr => ?_
  have nd := sc_l_wide.nd
  refine ⟨_, (@pss_cons _ _ _ _ _ (@ps_set _ _ (1) _ _ _ _ nd rfl (by first | exact Or.inl rfl | exact Or.inr rfl) (@pe_callF _ _ _ _ _ _ _ _ _ _ _ _ _ T.l_take G_l_take (hr.mono (by decide)) (by rfl) (@pa_cons _ _ _ _ _ (@pv _ 0 _ _ (by rfl) (by first | exact Or.inl rfl | exact Or.inr (Or.inl rfl) | exact Or.inr (Or.inr rfl)) (by decide) (by decide)) (@pa_cons _ _ _ _ _ (@pe_int _ _ _ _) (@pa_nil _) (by rfl)) (by rfl)) (by decide) (by rfl) (by rfl)) (by rfl) (by first | exact .inl rfl | exact .inr rfl | assumption)) (@pss_cons _ _ _ _ _ (@ps_set _ _ (2) _ _ _ _ nd rfl (by first | exact Or.inl rfl | exact Or.inr rfl) (@pe_callF _ _ _ _ _ _ _ _ _ _ _ _ _ T.l_take G_l_take (hr.mono (by decide)) (by rfl) (@pa_cons _ _ _ _ _ (@pv _ 0 _ _ (by rfl) (by first | exact Or.inl rfl | exact Or.inr (Or.inl rfl) | exact Or.inr (Or.inr rfl)) (by decide) (by decide)) (@pa_cons _ _ _ _ _ (@pe_int _ _ _ _) (@pa_nil _) (by rfl)) (by rfl)) (by decide) (by rfl) (by rfl)) (by rfl) (by first | exact .inl rfl | exact .inr rfl | assumption)) (@pss_cons _ _ _ _ _ (@ps_if _ _ _ _ _ _ _ _ (@pt_cmpR _ _ _ _ _ _ _ _ (@op_gt _) (@pv _ 2 _ _ (by rfl) (by first | exact Or.inl rfl | exact Or.inr (Or.inl rfl) | exact Or.inr (Or.inr rfl)) (by decide) (by decide)) (@pe_int _ _ _ _) (@nomark _ _ (by decide) (by decide))) (@pss_one _ _ _ (@ps_set _ _ (1) _ _ _ _ nd rfl (by first | exact Or.inl rfl | exact Or.inr rfl) (@pe_op _ _ _ _ _ _ _ _ (@op_add _) (@pe_op _ _ _ _ _ _ _ _ (@op_mul _) (@pv _ 1 _ _ (by rfl) (by first | exact Or.inl rfl | exact Or.inr (Or.inl rfl) | exact Or.inr (Or.inr rfl)) (by decide) (by decide)) (@pe_int _ _ _ _)) (@pe_callF _ _ _ _ _ _ _ _ _ _ _ _ _ T.l_take G_l_take (hr.mono (by decide)) (by rfl) (@pa_cons _ _ _ _ _ (@pv _ 0 _ _ (by rfl) (by first | exact Or.inl rfl | exact Or.inr (Or.inl rfl) | exact Or.inr (Or.inr rfl)) (by decide) (by decide)) (@pa_cons _ _ _ _ _ (@pe_int _ _ _ _) (@pa_nil _) (by rfl)) (by rfl)) (by decide) (by rfl) (by rfl))) (by rfl) (by first | exact .inl rfl | exact .inr rfl | assumption))) (@pss_nil _)) (@pss_cons _ _ _ _ _ (@ps_if _ _ _ _ _ _ _ _ (@pt_cmpR _ _ _ _ _ _ _ _ (@op_gt _) (@pv _ 2 _ _ (by rfl) (by first | exact Or.inl rfl | exact Or.inr (Or.inl rfl) | exact Or.inr (Or.inr rfl)) (by decide) (by decide)) (@pe_int _ _ _ _) (@nomark _ _ (by decide) (by decide))) (@pss_cons _ _ _ _ _ (@ps_set _ _ (1) _ _ _ _ nd rfl (by first | exact Or.inl rfl | exact Or.inr rfl) (@pe_op _ _ _ _ _ _ _ _ (@op_add _) (@pe_op _ _ _ _ _ _ _ _ (@op_add _) (@pe_op _ _ _ _ _ _ _ _ (@op_mul _) (@pv _ 1 _ _ (by rfl) (by first | exact Or.inl rfl | exact Or.inr (Or.inl rfl) | exact Or.inr (Or.inr rfl)) (by decide) (by decide)) (@pe_op _ _ _ _ _ _ _ _ (@op_pow _) (@pe_int _ _ _ _) (@pe_int _ _ _ _))) (@pe_op _ _ _ _ _ _ _ _ (@op_mul _) (@pe_callF _ _ _ _ _ _ _ _ _ _ _ _ _ T.l_take G_l_take (hr.mono (by decide)) (by rfl) (@pa_cons _ _ _ _ _ (@pv _ 0 _ _ (by rfl) (by first | exact Or.inl rfl | exact Or.inr (Or.inl rfl) | exact Or.inr (Or.inr rfl)) (by decide) (by decide)) (@pa_cons _ _ _ _ _ (@pe_op _ _ _ _ _ _ _ _ (@op_pow _) (@pe_int _ _ _ _) (@pe_int _ _ _ _)) (@pa_nil _) (by rfl)) (by rfl)) (by decide) (by rfl) (by rfl)) (@pe_op _ _ _ _ _ _ _ _ (@op_pow _) (@pe_int _ _ _ _) (@pe_int _ _ _ _)))) (@pe_op _ _ _ _ _ _ _ _ (@op_mul _) (@pe_callF _ _ _ _ _ _ _ _ _ _ _ _ _ T.l_take G_l_take (hr.mono (by decide)) (by rfl) (@pa_cons _ _ _ _ _ (@pv _ 0 _ _ (by rfl) (by first | exact Or.inl rfl | exact Or.inr (Or.inl rfl) | exact Or.inr (Or.inr rfl)) (by decide) (by decide)) (@pa_cons _ _ _ _ _ (@pe_op _ _ _ _ _ _ _ _ (@op_pow _) (@pe_int _ _ _ _) (@pe_int _ _ _ _)) (@pa_nil _) (by rfl)) (by rfl)) (by decide) (by rfl) (by rfl)) (@pe_op _ _ _ _ _ _ _ _ (@op_pow _) (@pe_int _ _ _ _) (@pe_int _ _ _ _)))) (by rfl) (by first | exact .inl rfl | exact .inr rfl | assumption)) (@pss_one _ _ _ (@ps_set _ _ (1) _ _ _ _ nd rfl (by first | exact Or.inl rfl | exact Or.inr rfl) (@pe_op _ _ _ _ _ _ _ _ (@op_add _) (@pv _ 1 _ _ (by rfl) (by first | exact Or.inl rfl | exact Or.inr (Or.inl rfl) | exact Or.inr (Or.inr rfl)) (by decide) (by decide)) (@pe_callF _ _ _ _ _ _ _ _ _ _ _ _ _ T.l_take G_l_take (hr.mono (by decide)) (by rfl) (@pa_cons _ _ _ _ _ (@pv _ 0 _ _ (by rfl) (by first | exact Or.inl rfl | exact Or.inr (Or.inl rfl) | exact Or.inr (Or.inr rfl)) (by decide) (by decide)) (@pa_cons _ _ _ _ _ (@pe_op _ _ _ _ _ _ _ _ (@op_pow _) (@pe_int _ _ _ _) (@pe_int _ _ _ _)) (@pa_nil _) (by rfl)) (by rfl)) (by decide) (by rfl) (by rfl))) (by rfl) (by first | exact .inl rfl | exact .inr rfl | assumption)))) (@pss_nil _)) (@pss_one _ _ _ (@ps_ret _ _ _ _ (@pe_op _ _ _ _ _ _ _ _ (@op_mul _) (@pv _ 1 _ _ (by rfl) (by first | exact Or.inl rfl | exact Or.inr (Or.inl rfl) | exact Or.inr (Or.inr rfl)) (by decide) (by decide)) (@pe_op _ _ _ _ _ _ _ _ (@op_sub _) (@pe_int _ _ _ _) (@pe_op _ _ _ _ _ _ _ _ (@op_mul _) (@pe_int _ _ _ _) (@pe_callF _ _ _ _ _ _ _ _ _ _ _ _ _ T.l_take G_l_take (hr.mono (by decide)) (by rfl) (@pa_cons _ _ _ _ _ (@pv _ 0 _ _ (by rfl) (by first | exact Or.inl rfl | exact Or.inr (Or.inl rfl) | exact Or.inr (Or.inr rfl)) (by decide) (by decide)) (@pa_cons _ _ _ _ _ (@pe_int _ _ _ _) (@pa_nil _) (by rfl)) (by rfl)) (by decide) (by rfl) (by rfl))))))))))), ?_⟩
  try dsimp only [cxOf]
  refine ⟨_, inferInstance, ?_⟩
  rintro vs M q ⟨d, l, rfl, hD, k⟩
  have cp1 : CPow 10 18 = True := by simp [CPow]
  have cp2 : CPow 10 6 = True := by simp [CPow]
  have cp3 : CPow 10 12 = True := by simp [CPow]
  have cm : ∀ x, CMul x 1000 = True := fun x => by simp [CMul]
  have cm2 : ∀ x, CMul x (10 ^ Int.toNat 18) = True := fun x => by simp [CMul]
  have cm3 : ∀ x, CMul x (10 ^ Int.toNat 12) = True := fun x => by simp [CMul]
  have cm4 : ∀ x, CMul x (10 ^ Int.toNat 6) = True := fun x => by simp [CMul]
  have cm5 : ∀ x, CMul 2 x = True := fun x => by simp [CMul]
  try simp only [↓HH, ↓H2, GG, Nat.reduceAdd, Nat.reduceSub, List.reduceReplicate, tyW, capρ]
  refine ⟨d, l, 9, rfl, hD, by decide, by decide, fun n0 M1 a0 a1 D1 b1 => ?_⟩
  try simp only [↓HH, ↓H2, GG, Nat.reduceAdd, Nat.reduceSub, List.reduceReplicate, tyW, capρ]
  refine hold_i ?_
  try simp only [↓HH, ↓H2, GG, Nat.reduceAdd, Nat.reduceSub, List.reduceReplicate, tyW, capρ]
  refine ⟨d, l, 4, rfl, D1, by decide, by decide, fun z M2 _ _ D2 b2 => ?_⟩
  replace b2 := NB.trans b1 b2
  try simp only [↓HH, ↓H2, GG, Nat.reduceAdd, Nat.reduceSub, List.reduceReplicate, tyW, capρ]
  refine hold_i (if_mid (fun ρ M' => ∃ n : Int, ρ = [some (wr d), some (wi n), some (wi z)] ∧ Dr M' d l ∧ NB d M M' ∧ 0 ≤ n ∧ n < 10000) ?_ fun N hN => ?_)
  · rintro ρ M' ⟨n, rfl, D3, b3, h0, h1⟩
    refine if_mid (fun ρ M' => ∃ n : Int, ρ = [some (wr d), some (wi n), some (wi z)] ∧ Dr M' d l ∧ NB d M M' ∧ 0 ≤ n ∧ n < 10 ^ 23) ?_ fun N hN => ?_
    · rintro ρ M' ⟨n, rfl, D3, b3, h0, h1⟩
      try simp only [↓RR, ↓H2, GG, Nat.reduceAdd, Nat.reduceSub, List.reduceReplicate, tyW, capρ]
      refine ⟨d, l, 2, rfl, D3, by decide, by decide, fun r M4 r0 r1 D4 b4 => ?_⟩
      try simp only [↓RR, ↓H2, GG, Nat.reduceAdd, Nat.reduceSub, List.reduceReplicate, tyW, capρ, cm5]
      refine ⟨.inr ⟨by omega, by omega⟩, exM (k _ _ ?_ ?_ D4 (NB.trans b3 b4))⟩
      · have : r = 0 ∨ r = 1 := by omega
        rcases this with rfl | rfl <;> omega
      · have : r = 0 ∨ r = 1 := by omega
        rcases this with rfl | rfl <;> omega
    · try simp only [↓HH, ↓H2, GG, Nat.reduceAdd, Nat.reduceSub, List.reduceReplicate, tyW, capρ, cp1, cp2, cp3, cm2, cm3, cm4]
      refine iteK_d (fun h => ?_) fun h => hN _ _ ⟨n, rfl, D3, b3, h0, by omega⟩
      refine ⟨d, l, _, rfl, D3, by decide, by decide, fun r M4 r0 r1 D4 b4 => ?_⟩
      try simp only [↓HH, ↓H2, GG, Nat.reduceAdd, Nat.reduceSub, List.reduceReplicate, tyW, capρ, cp1, cp2, cp3, cm2, cm3, cm4]
      refine ⟨d, l, _, rfl, D4, by decide, by decide, fun r' M5 r0' r1' D5 b5 => ?_⟩
      try simp only [↓HH, ↓H2, GG, Nat.reduceAdd, Nat.reduceSub, List.reduceReplicate, tyW, capρ, cp1, cp2, cp3, cm2, cm3, cm4]
      refine hold_i ?_
      try simp only [↓HH, ↓H2, GG, Nat.reduceAdd, Nat.reduceSub, List.reduceReplicate, tyW, capρ, cp1, cp2, cp3, cm2, cm3, cm4]
      refine ⟨d, l, _, rfl, D5, by decide, by decide, fun r2 M6 r02 r12 D6 b6 => ?_⟩
      try simp only [↓HH, ↓H2, GG, Nat.reduceAdd, Nat.reduceSub, List.reduceReplicate, tyW, capρ]
      refine hN _ _ ⟨_, rfl, D6, NB.trans (NB.trans (NB.trans b3 b4) b5) b6, ?_, ?_⟩
      · simp only [Int.reduceToNat, Int.reducePow] at *; omega
      · simp only [Int.reduceToNat, Int.reducePow] at *; omega
  · try simp only [↓HH, ↓H2, GG, Nat.reduceAdd, Nat.reduceSub, List.reduceReplicate, tyW, capρ, cm]
    refine iteK_d (fun h => ?_) fun h => hN _ _ ⟨n0, rfl, D2, b2, a0, by omega⟩
    refine ⟨d, l, _, rfl, D2, by decide, by decide, fun r M4 r0 r1 D4 b4 => ?_⟩
    try simp only [↓HH, ↓H2, GG, Nat.reduceAdd, Nat.reduceSub, List.reduceReplicate, tyW, capρ]
    exact hN _ _ ⟨_, rfl, D4, NB.trans b2 b4, by omega, by omega⟩
theorem ok_l_p (T : Txt K mg A) : FnOk P w K mg base CX0 2 A.f_l_p A.d_l_p ["_law_draw"] (spW K pP) := by
  have G_l_take := ok_l_take (P := P) (w := w) (base := base) T
  refine okS T.l_p.fn sc_l_p (by rintro vs M q ⟨d, l, rfl, _⟩; rfl) fun cdv A' outer s H E hr => ?_
  have nd := sc_l_p.nd
  refine ⟨_, (@pss_one _ _ _ (@ps_ret _ _ _ _ (@pe_ix _ _ _ _ _ _ _ (@ix_tup _) (@pe_tup _ _ _ _ _ (@pa_cons _ _ _ _ _ (@pe_int _ _ _ _) (@pa_cons _ _ _ _ _ (@pe_int _ _ _ _) (@pa_cons _ _ _ _ _ (@pe_int _ _ _ _) (@pa_cons _ _ _ _ _ (@pe_int _ _ _ _) (@pa_nil _) (by rfl)) (by rfl)) (by rfl)) (by rfl))) (@pe_callF _ _ _ _ _ _ _ _ _ _ _ _ _ T.l_take G_l_take (hr.mono (by decide)) (by rfl) (@pa_cons _ _ _ _ _ (@pv _ 0 _ _ (by rfl) (by first | exact Or.inl rfl | exact Or.inr (Or.inl rfl) | exact Or.inr (Or.inr rfl)) (by decide) (by decide)) (@pa_cons _ _ _ _ _ (@pe_int _ _ _ _) (@pa_nil _) (by rfl)) (by rfl)) (by decide) (by rfl) (by rfl)) (fun _ _ => (@rfl _ _))))), ?_⟩
  try dsimp only [cxOf]
  refine ⟨_, inferInstance, ?_⟩
  rintro vs M q ⟨d, l, rfl, hD, k⟩
  try simp only [↓RR, ↓H2, GG, Nat.reduceAdd, Nat.reduceSub, List.reduceReplicate, tyW, capρ]
  refine ⟨d, l, 4, rfl, hD, by decide, by decide, fun r M1 r0 r1 D1 b1 => ?_⟩
  have hr4 : r = 0 ∨ r = 1 ∨ r = 2 ∨ r = 3 := by omega
  rcases hr4 with rfl | rfl | rfl | rfl <;> try simp only [↓RR, ↓H2, GG, Nat.reduceAdd, Nat.reduceSub, List.reduceReplicate, tyW, capρ]
  · exact exM (k 2 _ (by decide) D1 b1)
  · exact exM (k 3 _ (by decide) D1 b1)
  · exact exM (k 5 _ (by decide) D1 b1)
  · exact exM (k 7 _ (by decide) D1 b1)
theorem ok_l_int (T : Txt K mg A) : FnOk P w K mg base CX0 1 A.f_l_int A.d_l_int ["_law_thing"] (spW K pInt) := by
  refine okS T.l_int.fn sc_l_int (by rintro vs M q ⟨i, rfl, _⟩; rfl) fun cdv A' outer s H E hr => ?_
  have nd := sc_l_int.nd
  refine ⟨_, (@pss_one _ _ _ (@ps_ret _ _ _ _ (@pe_and _ _ _ _ _ _ _ (@pe_callB _ _ _ _ _ _ _ _ _ (@call_isX _) (by rfl) T.b_isinstance Boot.«isinstance» (@pa_cons _ _ _ _ _ (@pv _ 0 _ _ (by rfl) (by first | exact Or.inl rfl | exact Or.inr (Or.inl rfl) | exact Or.inr (Or.inr rfl)) (by decide) (by decide)) (@pa_cons _ _ _ _ _ (@pe_bltn _ _ _ _ _ (by rfl) T.b_int Boot.«int» (show RelV (.ty "int") _ from rfl) (by decide) (by decide)) (@pa_nil _) (by rfl)) (by rfl)) (by decide) (by decide) (by rfl) (by rfl)) (@pe_one _ _ _ _ _ (@pe_not _ _ _ _ (@pe_callB _ _ _ _ _ _ _ _ _ (@call_isX _) (by rfl) T.b_isinstance Boot.«isinstance» (@pa_cons _ _ _ _ _ (@pv _ 0 _ _ (by rfl) (by first | exact Or.inl rfl | exact Or.inr (Or.inl rfl) | exact Or.inr (Or.inr rfl)) (by decide) (by decide)) (@pa_cons _ _ _ _ _ (@pe_bltn _ _ _ _ _ (by rfl) T.b_bool Boot.«bool» (show RelV (.ty "bool") _ from rfl) (by decide) (by decide)) (@pa_nil _) (by rfl)) (by rfl)) (by decide) (by decide) (by rfl) (by rfl))))))), ?_⟩
  try dsimp only [cxOf]
  refine ⟨_, inferInstance, ?_⟩
  rintro vs M q ⟨i, rfl, k⟩
  try simp only [↓RR, ↓H2, GG, Nat.reduceAdd, Nat.reduceSub, List.reduceReplicate, tyW, capρ]
  exact exM k
theorem ok_l_tidy (T : Txt K mg A) : FnOk P w K mg base CX0 1 A.f_l_tidy A.d_l_tidy ["_law_p_here", "_law_pairs"] (spW K pTidy) := by
  refine okS T.l_tidy.fn sc_l_tidy (by rintro vs M q ⟨a, p, ps, rfl, _⟩; rfl) fun cdv A' outer s H E hr => ?_
  have nd := sc_l_tidy.nd
  refine ⟨_, (@pss_cons _ _ _ _ _ (@ps_set _ _ (2) _ _ _ _ nd rfl (by first | exact Or.inl rfl | exact Or.inr rfl) (@pe_dnewK _ _) (by rfl) (by first | exact .inl rfl | exact .inr rfl | assumption)) (@pss_cons _ _ _ _ _ (@ps_for _ _ _ _ _ _ _ _ PassesOwn.never rfl (@pi_list _ _ _ _ (@pv _ 1 _ _ (by rfl) (by first | exact Or.inl rfl | exact Or.inr (Or.inl rfl) | exact Or.inr (Or.inr rfl)) (by decide) (by decide))) (@pg_tup _ _ _ _ _ (2) rfl (@pgs_cons _ _ _ _ _ (@pg_name _ _ (3) _ nd rfl (by first | exact Or.inl rfl | exact Or.inr rfl) (by first | exact .inl rfl | exact .inr rfl | assumption)) (@pgs_cons _ _ _ _ _ (@pg_name _ _ (4) _ nd rfl (by first | exact Or.inl rfl | exact Or.inr rfl) (by first | exact .inl rfl | exact .inr rfl | assumption)) (@pgs_nil _) (by rfl)) (by rfl)) (by rfl) (by rfl)) (@pss_one _ _ _ (@ps_dput _ _ _ _ _ _ _ _ _ (@hu_of _ _ hr) (@pv _ 2 _ _ (by rfl) (by first | exact Or.inl rfl | exact Or.inr (Or.inl rfl) | exact Or.inr (Or.inr rfl)) (by decide) (by decide)) (@pv _ 3 _ _ (by rfl) (by first | exact Or.inl rfl | exact Or.inr (Or.inl rfl) | exact Or.inr (Or.inr rfl)) (by decide) (by decide)) (@pe_op _ _ _ _ _ _ _ _ (@op_mod _) (@pe_op _ _ _ _ _ _ _ _ (@op_add _) (@pe_dget2 _ _ _ _ _ _ _ _ _ (@hu_of _ _ hr) (@pv _ 2 _ _ (by rfl) (by first | exact Or.inl rfl | exact Or.inr (Or.inl rfl) | exact Or.inr (Or.inr rfl)) (by decide) (by decide)) (@pv _ 3 _ _ (by rfl) (by first | exact Or.inl rfl | exact Or.inr (Or.inl rfl) | exact Or.inr (Or.inr rfl)) (by decide) (by decide)) (@pe_int _ _ _ _) ⟨by rfl, by rfl, by rfl, by rfl⟩) (@pv _ 4 _ _ (by rfl) (by first | exact Or.inl rfl | exact Or.inr (Or.inl rfl) | exact Or.inr (Or.inr rfl)) (by decide) (by decide))) (@pv _ 0 _ _ (by rfl) (by first | exact Or.inl rfl | exact Or.inr (Or.inl rfl) | exact Or.inr (Or.inr rfl)) (by decide) (by decide))) rfl)) (by intro _; rfl)) (@pss_one _ _ _ (@ps_ret _ _ _ _ (@pe_callTy _ _ _ _ _ _ _ _ _ (@call_tupleW _) (by rfl) T.b_tuple Boot.«tuple» (@pa_cons _ _ _ _ _ (@pe_comp _ _ _ _ _ _ _ _ _ _ _ _ _ _ rfl (CScope.of (sc := defScope s_l_tidy) (N := ["_law_p_here", "_law_pairs", "_law_sums", "_law_place", "_law_setting"]) (own := ["_law_place"]) (fr := [2]) (N' := ["_law_place", "_law_sums"]) rfl rfl rfl (by decide +kernel) rfl (by decide +kernel) (by decide +kernel) (by decide +kernel) (by decide +kernel) (by decide +kernel)) (@pi_list _ _ _ _ (@pe_callB _ _ _ _ _ _ _ _ _ (@call_sortedK _ rfl) (by rfl) T.b_sorted Boot.«sorted» (@pa_cons _ _ _ _ _ (@pv _ 2 _ _ (by rfl) (by first | exact Or.inl rfl | exact Or.inr (Or.inl rfl) | exact Or.inr (Or.inr rfl)) (by decide) (by decide)) (@pa_nil _) (by rfl)) (by decide) (by decide) (by rfl) (by rfl))) (fun _ _ _ _ => (@pg_name _ _ (0) _ (by show (["_law_place", "_law_sums"] : List Str).Nodup ; decide +kernel) rfl (by first | exact Or.inl rfl | exact Or.inr rfl) (by first | exact .inl rfl | exact .inr rfl | assumption))) capg_name (fun _ _ _ _ => (@pts_one _ _ _ (@pt_cmpR _ _ _ _ _ _ _ _ (@op_gt _) (@pe_dget _ _ _ _ _ _ (@hu_of _ _ hr) (@pv _ 1 _ _ (by rfl) (by first | exact Or.inl rfl | exact Or.inr (Or.inl rfl) | exact Or.inr (Or.inr rfl)) (by decide) (by decide)) (@pv _ 0 _ _ (by rfl) (by first | exact Or.inl rfl | exact Or.inr (Or.inl rfl) | exact Or.inr (Or.inr rfl)) (by decide) (by decide)) (fun _ _ => (@rfl _ _))) (@pe_int _ _ _ _) (@nomark _ _ (by decide) (by decide))))) (fun _ _ _ _ => (@pe_tup _ _ _ _ _ (@pa_cons _ _ _ _ _ (@pv _ 0 _ _ (by rfl) (by first | exact Or.inl rfl | exact Or.inr (Or.inl rfl) | exact Or.inr (Or.inr rfl)) (by decide) (by decide)) (@pa_cons _ _ _ _ _ (@pe_dget _ _ _ _ _ _ (@hu_of _ _ hr) (@pv _ 1 _ _ (by rfl) (by first | exact Or.inl rfl | exact Or.inr (Or.inl rfl) | exact Or.inr (Or.inr rfl)) (by decide) (by decide)) (@pv _ 0 _ _ (by rfl) (by first | exact Or.inl rfl | exact Or.inr (Or.inl rfl) | exact Or.inr (Or.inr rfl)) (by decide) (by decide)) (fun _ _ => (@rfl _ _))) (@pa_nil _) (by rfl)) (by rfl)))) (by intro _; rfl)) (@pa_nil _) (by rfl)) (by decide) (by decide) (by rfl) (by rfl)))))), ?_⟩
  try dsimp only [cxOf]
  refine ⟨_, inferInstance, ?_⟩
  rintro vs M q ⟨a, p, ps, rfl, ha, p0, h64, hbig, k⟩
  try simp only [↓RR, ↓H2, GG, Nat.reduceAdd, Nat.reduceSub, List.reduceReplicate, tyW, capρ]
  intro d hd
  have nad : a ≠ d := m_ne ha hd
  try simp only [↓RR, ↓H2, GG, Nat.reduceAdd, Nat.reduceSub, List.reduceReplicate, tyW, capρ, um_ne nad, ha]
  refine for_i (fun i ρ M' => ∃ (o1 o2 : Option W) (m : Pt), ρ = [some (wi p), some (wr a), some (wr d), o1, o2] ∧ M' = um M d (.dK (kvW m)) ∧ (m.map (·.1)).Nodup ∧ m.length ≤ i ∧ (∀ x, look m x = tot (ps.take i) x % p) ∧ ∀ k ∈ m.map (·.1), ∃ q ∈ ps, q.1 = k)
    ⟨none, none, [], rfl, rfl, List.nodup_nil, Nat.le_refl _, fun x => by simp [look, tot], by simp⟩ ?_ ?_ ?_
  · rintro i ρ M' _ ⟨o1, o2, m, rfl, rfl, _⟩
    rw [um_ne nad]; exact ha
  · rintro i x ρ M' hx ⟨o1, o2, m, rfl, rfl, hn, hl, ht, hin⟩ N hN
    obtain ⟨z, hz, rfl⟩ := pairs_at hx
    have hil := (List.getElem?_eq_some_iff.mp hz).1
    have hs : ((kvW m).length < sizeLine) = True := by rw [kvW, List.length_map]; exact eq_true (bigL (by omega))
    try simp only [↓RR, ↓H2, GG, Nat.reduceAdd, Nat.reduceSub, List.reduceReplicate, tyW, capρ, pairW, getD_kv, p0, hs, putW_kv]
    refine hN _ _ ⟨_, _, _, rfl, rfl, nd_putI hn, Nat.le_trans len_putI (by omega), fun x => ?_, fun k hk => (mem_putI hk).elim (fun e => ⟨z, List.mem_of_getElem? hz, e.symm⟩) (hin k)⟩
    rw [look_putI, List.take_add_one, hz]
    show _ = tot (ps.take i ++ [z]) x % p
    rw [tot_snoc]
    by_cases hx : x = z.1
    · subst hx
      rw [if_pos rfl, if_pos rfl, ht, Int.emod_add_emod]
    · rw [if_neg hx, if_neg (Ne.symm hx), Int.add_zero]; exact ht x
  · rintro ρ M' ⟨o1, o2, m, rfl, rfl, hn, hl, ht, hin⟩
    rw [List.length_map] at hl ht
    rw [List.take_length] at ht
    try simp only [↓RR, ↓H2, GG, Nat.reduceAdd, Nat.reduceSub, List.reduceReplicate, tyW, capρ]
    refine ⟨d, kvW m, m.map (·.1), rfl, um_same, kvW_keys m, (by rw [List.length_map]; exact big (by omega)), fun sp ns hsp hperm hsort => ?_⟩
    have hdsp : d ≠ sp := m_ne um_same hsp
    have hns : ns.length ≤ 100000 := by rw [hperm.length_eq, List.length_map]; omega
    try simp only [↓RR, ↓H2, GG, Nat.reduceAdd, Nat.reduceSub, List.reduceReplicate, tyW, capρ]
    refine comp_pureK (fun x => match x with | .v (.int n) => if look m n = 0 then none else some (pairW (n, look m n)) | _ => none) (by rw [List.length_map]; exact big hns) (fun M3 s3 => s3 _ _ um_same) ?_ fun t ht0 => ?_
    · intro i x hx M3 N s3 hN
      obtain ⟨n, hn', rfl⟩ := ints_at' hx
      have hdM : M3 d = some (.dK (kvW m)) := s3 _ _ (by rw [um_ne hdsp, um_same])
      have hnk : n ∈ m.map (·.1) := hperm.mem_iff.mp (List.mem_of_getElem? hn')
      try simp only [↓RR, ↓H2, GG, Nat.reduceAdd, Nat.reduceSub, List.reduceReplicate, tyW, capρ, hdM, val_kv hnk]
      have hge : 0 ≤ look m n := by rw [ht]; exact Int.emod_nonneg _ (by omega)
      refine iteK_d (fun h => ?_) fun h => ?_
      · have h' : ¬ look m n = 0 := by omega
        simp only [h', if_false] at hN
        exact hN
      · have h' : look m n = 0 := by omega
        simp only [h', if_true] at hN
        exact hN
    · try simp only [↓RR, ↓H2, GG, Nat.reduceAdd, Nat.reduceSub, List.reduceReplicate, tyW, capρ]
      refine ⟨M, ((Sm.um (Sm.refl M) hd).trans (sm_um hsp)).trans (sm_um ht0), ?_⟩
      · have e : (ns.map wi).filterMap (fun x => match x with | .v (.int n) => if look m n = 0 then none else some (pairW (n, look m n)) | _ => none) = (nrm p ps).map pairW := by
          rw [← sel_nrm p0 hn ht hperm hsort, List.filterMap_map]
          unfold sel
          rw [List.map_filterMap]
          congr 1
          funext n
          simp only [Function.comp]
          split <;> rfl
        rw [e]
        exact k
theorem ok_l_pattern (T : Txt K mg A) : FnOk P w K mg base CX0 2 A.f_l_pattern A.d_l_pattern ["_law_draw", "_law_p_here", "_law_most", "_law_far"] (spW K pPattern) := by
  have G_l_take := ok_l_take (P := P) (w := w) (base := base) T
  have G_l_tidy := ok_l_tidy (P := P) (w := w) (base := base) T
  refine okS T.l_pattern.fn sc_l_pattern (by rintro vs M q ⟨d, l, p, most, far, rfl, _⟩; rfl) fun cdv A' outer s H E hr => ?_
  have nd := sc_l_pattern.nd
  refine ⟨_, (@pss_cons _ _ _ _ _ (@ps_set _ _ (4) _ _ _ _ nd rfl (by first | exact Or.inl rfl | exact Or.inr rfl) (@pe_lst _ _ _ _ (@pa_nil _)) (by rfl) (by first | exact .inl rfl | exact .inr rfl | assumption)) (@pss_cons _ _ _ _ _ (@ps_for _ _ _ _ _ _ _ _ PassesOwn.never rfl (@pi_range1 _ _ _ _ _ _ (by rfl) T.b_range (@pa_cons _ _ _ _ _ (@pe_callF _ _ _ _ _ _ _ _ _ _ _ _ _ T.l_take G_l_take (hr.mono (by decide)) (by rfl) (@pa_cons _ _ _ _ _ (@pv _ 0 _ _ (by rfl) (by first | exact Or.inl rfl | exact Or.inr (Or.inl rfl) | exact Or.inr (Or.inr rfl)) (by decide) (by decide)) (@pa_cons _ _ _ _ _ (@pe_op _ _ _ _ _ _ _ _ (@op_add _) (@pv _ 2 _ _ (by rfl) (by first | exact Or.inl rfl | exact Or.inr (Or.inl rfl) | exact Or.inr (Or.inr rfl)) (by decide) (by decide)) (@pe_int _ _ _ _)) (@pa_nil _) (by rfl)) (by rfl)) (by decide) (by rfl) (by rfl)) (@pa_nil _) (by rfl)) (by rfl)) (@pg_name _ _ (5) _ nd rfl (by first | exact Or.inl rfl | exact Or.inr rfl) (by first | exact .inl rfl | exact .inr rfl | assumption)) (@pss_cons _ _ _ _ _ (@ps_set _ _ (6) _ _ _ _ nd rfl (by first | exact Or.inl rfl | exact Or.inr rfl) (@pe_op _ _ _ _ _ _ _ _ (@op_sub _) (@pe_callF _ _ _ _ _ _ _ _ _ _ _ _ _ T.l_take G_l_take (hr.mono (by decide)) (by rfl) (@pa_cons _ _ _ _ _ (@pv _ 0 _ _ (by rfl) (by first | exact Or.inl rfl | exact Or.inr (Or.inl rfl) | exact Or.inr (Or.inr rfl)) (by decide) (by decide)) (@pa_cons _ _ _ _ _ (@pe_op _ _ _ _ _ _ _ _ (@op_add _) (@pe_op _ _ _ _ _ _ _ _ (@op_mul _) (@pe_int _ _ _ _) (@pv _ 3 _ _ (by rfl) (by first | exact Or.inl rfl | exact Or.inr (Or.inl rfl) | exact Or.inr (Or.inr rfl)) (by decide) (by decide))) (@pe_int _ _ _ _)) (@pa_nil _) (by rfl)) (by rfl)) (by decide) (by rfl) (by rfl)) (@pv _ 3 _ _ (by rfl) (by first | exact Or.inl rfl | exact Or.inr (Or.inl rfl) | exact Or.inr (Or.inr rfl)) (by decide) (by decide))) (by rfl) (by first | exact .inl rfl | exact .inr rfl | assumption)) (@pss_one _ _ _ (@ps_expr _ _ _ _ (@pe_bm _ _ _ _ _ _ _ _ _ _ _ _ PySem.F.plainAttrs_list PySem.F.slot_list_append PySem.F.type_list_append (@mt_append _) (@pv _ 4 _ _ (by rfl) (by first | exact Or.inl rfl | exact Or.inr (Or.inl rfl) | exact Or.inr (Or.inr rfl)) (by decide) (by decide)) (@pa_cons _ _ _ _ _ (@pe_tup _ _ _ _ _ (@pa_cons _ _ _ _ _ (@pv _ 6 _ _ (by rfl) (by first | exact Or.inl rfl | exact Or.inr (Or.inl rfl) | exact Or.inr (Or.inr rfl)) (by decide) (by decide)) (@pa_cons _ _ _ _ _ (@pe_op _ _ _ _ _ _ _ _ (@op_add _) (@pe_int _ _ _ _) (@pe_callF _ _ _ _ _ _ _ _ _ _ _ _ _ T.l_take G_l_take (hr.mono (by decide)) (by rfl) (@pa_cons _ _ _ _ _ (@pv _ 0 _ _ (by rfl) (by first | exact Or.inl rfl | exact Or.inr (Or.inl rfl) | exact Or.inr (Or.inr rfl)) (by decide) (by decide)) (@pa_cons _ _ _ _ _ (@pe_op _ _ _ _ _ _ _ _ (@op_sub _) (@pv _ 1 _ _ (by rfl) (by first | exact Or.inl rfl | exact Or.inr (Or.inl rfl) | exact Or.inr (Or.inr rfl)) (by decide) (by decide)) (@pe_int _ _ _ _)) (@pa_nil _) (by rfl)) (by rfl)) (by decide) (by rfl) (by rfl))) (@pa_nil _) (by rfl)) (by rfl))) (@pa_nil _) (by rfl)) (by rfl) (by rfl) (by rfl) (by rfl) (by rfl)) (by rfl)))) (by intro _; rfl)) (@pss_one _ _ _ (@ps_ret _ _ _ _ (@pe_callF _ _ _ _ _ _ _ _ _ _ _ _ _ T.l_tidy G_l_tidy (hr.mono (by decide)) (by rfl) (@pa_cons _ _ _ _ _ (@pv _ 1 _ _ (by rfl) (by first | exact Or.inl rfl | exact Or.inr (Or.inl rfl) | exact Or.inr (Or.inr rfl)) (by decide) (by decide)) (@pa_cons _ _ _ _ _ (@pv _ 4 _ _ (by rfl) (by first | exact Or.inl rfl | exact Or.inr (Or.inl rfl) | exact Or.inr (Or.inr rfl)) (by decide) (by decide)) (@pa_nil _) (by rfl)) (by rfl)) (by decide) (by rfl) (by rfl)))))), ?_⟩
  try dsimp only [cxOf]
  refine ⟨_, inferInstance, ?_⟩
  rintro vs M q ⟨d, l, p, most, far, rfl, hD, p2, p3, m0, m1, f0, f1, k⟩
  try simp only [↓HH, ↓H2, GG, Nat.reduceAdd, Nat.reduceSub, List.reduceReplicate, tyW, capρ]
  intro a ha
  obtain ⟨nad, nal⟩ := hD.ne ha
  refine hold_i ?_
  try simp only [↓HH, ↓H2, GG, Nat.reduceAdd, Nat.reduceSub, List.reduceReplicate, tyW, capρ]
  refine ⟨d, l, most + 1, rfl, hD.put ha, by omega, by omega, fun n M1 n0 n1 D1 b1 => ?_⟩
  have ha1 : M1 a = some (.lst []) := by rw [b1 a nad, um_same]
  try simp only [↓HH, ↓H2, GG, Nat.reduceAdd, Nat.reduceSub, List.reduceReplicate, tyW, capρ]
  refine ⟨⟨by omega, by omega⟩, for_i (fun i ρ M' => ∃ (o1 o2 : Option W) (ps : Pt), ρ = [some (wr d), some (wi p), some (wi most), some (wi far), some (wr a), o1, o2] ∧ Dr M' d l ∧ M' a = some (.lst (ps.map pairW)) ∧ ps.length = i ∧ (∀ z ∈ ps, -far ≤ z.1 ∧ z.1 ≤ far ∧ 0 < z.2 ∧ z.2 < p) ∧ (∀ b, b ≠ d → b ≠ a → M' b = M b))
    ⟨none, none, [], rfl, D1, ha1, rfl, by simp, fun b h1 h2 => by rw [b1 b h1, um_ne h2]⟩ (fun _ _ _ _ _ => trivial) ?_ ?_⟩
  · rintro i x ρ M' hx ⟨o1, o2, ps, rfl, D2, ha2, hl, hz, hb⟩ N hN
    obtain ⟨hi, rfl⟩ := range_at hx
    have cm : ∀ x, CMul 2 x = True := fun x => by simp [CMul]
    try simp only [↓HH, ↓H2, GG, Nat.reduceAdd, Nat.reduceSub, List.reduceReplicate, tyW, capρ, cm]
    refine ⟨d, l, 2 * far + 1, rfl, D2, by omega, by omega, fun r M3 r0 r1 D3 b3 => ?_⟩
    try simp only [↓HH, ↓H2, GG, Nat.reduceAdd, Nat.reduceSub, List.reduceReplicate, tyW, capρ]
    refine hold_i ?_
    have ha3 : M3 a = some (.lst (ps.map pairW)) := by rw [b3 a nad]; exact ha2
    try simp only [↓HH, ↓H2, GG, Nat.reduceAdd, Nat.reduceSub, List.reduceReplicate, tyW, capρ, ha3]
    refine ⟨d, l, p - 1, rfl, D3, by omega, by omega, fun s' M4 s0 s1 D4 b4 => ?_⟩
    have ha4 : M4 a = some (.lst (ps.map pairW)) := by rw [b4 a nad]; exact ha3
    have hs : ((ps.map pairW).length < sizeLine) = True := by rw [List.length_map]; exact eq_true (bigL (by omega))
    try simp only [↓HH, ↓H2, GG, Nat.reduceAdd, Nat.reduceSub, List.reduceReplicate, tyW, capρ, ha4, hs]
    refine hN _ _ ⟨_, _, ps ++ [(r - far, 1 + s')], rfl, D4.put' nad nal, ?_, by simp [hl], fun z hz' => ?_, fun b h1 h2 => ?_⟩
    · rw [um_same, List.map_append]; rfl
    · rcases List.mem_append.mp hz' with hz' | hz'
      · exact hz z hz'
      · rw [List.mem_singleton.mp hz']; exact ⟨by show -far ≤ r - far; omega, by show r - far ≤ far; omega, by show 0 < 1 + s'; omega, by show 1 + s' < p; omega⟩
    · rw [um_ne h2, b4 b h1, b3 b h1, hb b h1 h2]
  · rintro ρ M' ⟨o1, o2, ps, rfl, D2, ha2, hl, hz, hb⟩
    rw [range_len] at hl
    dsimp only
    refine hold_i ?_
    try simp only [↓HH, ↓H2, GG, Nat.reduceAdd, Nat.reduceSub, List.reduceReplicate, tyW, capρ]
    refine ⟨a, p, ps, rfl, ha2, by omega, few_len (by omega), by omega, ?_⟩
    refine ⟨fun b => if b = a then none else M' b, fun b o e => ?_, k ps _ (by omega) hz ?_ ?_⟩
    · dsimp only at e
      split at e
      · cases e
      · exact e
    · obtain ⟨ns, i, c, s', h1, h2, h3, h4⟩ := D2
      exact ⟨ns, i, c, s', by dsimp only; rw [if_neg (Ne.symm nad)]; exact h1, by dsimp only; rw [if_neg (Ne.symm nal)]; exact h2, h3, h4⟩
    · intro b hb'
      dsimp only
      split
      · rename_i e; rw [e]; exact ha.symm
      · rename_i e; exact hb b hb' e
theorem ok_column (T : Txt K mg A) : FnOk P w K mg base CX0 1 A.f_column A.d_column ["place", "stride"] (spW K pCol) := by
  refine okS T.column.fn sc_column (by rintro vs M q ⟨x, s, rfl, _⟩; rfl) fun cdv A' outer s H E hr => ?_
  have nd := sc_column.nd
  refine ⟨_, (@pss_cons _ _ _ _ _ (@ps_if _ _ _ _ _ _ _ _ (@pt_cmpR _ _ _ _ _ _ _ _ (@op_eq _) (@pv _ 1 _ _ (by rfl) (by first | exact Or.inl rfl | exact Or.inr (Or.inl rfl) | exact Or.inr (Or.inr rfl)) (by decide) (by decide)) (@pe_int _ _ _ _) (@nomark _ _ (by decide) (by decide))) (@pss_one _ _ _ (@ps_ret _ _ _ _ (@pv _ 0 _ _ (by rfl) (by first | exact Or.inl rfl | exact Or.inr (Or.inl rfl) | exact Or.inr (Or.inr rfl)) (by decide) (by decide)))) (@pss_nil _)) (@pss_one _ _ _ (@ps_ret _ _ _ _ (@pe_op _ _ _ _ _ _ _ _ (@op_mod _) (@pv _ 0 _ _ (by rfl) (by first | exact Or.inl rfl | exact Or.inr (Or.inl rfl) | exact Or.inr (Or.inr rfl)) (by decide) (by decide)) (@pv _ 1 _ _ (by rfl) (by first | exact Or.inl rfl | exact Or.inr (Or.inl rfl) | exact Or.inr (Or.inr rfl)) (by decide) (by decide)))))), ?_⟩
  try dsimp only [cxOf]
  refine ⟨_, inferInstance, ?_⟩
  rintro vs M q ⟨x, s, rfl, s0, s1, k⟩
  (try simp only [↓HH, ↓H2, GG, Nat.reduceAdd, Nat.reduceSub, List.reduceReplicate, tyW, capρ]); repeat (with_reducible refine hold_i ?_; try simp only [↓HH, ↓H2, GG, Nat.reduceAdd, Nat.reduceSub, List.reduceReplicate, tyW, capρ])
  refine iteK_d (fun h => ?_) fun h => ?_
  · (try simp only [↓HH, ↓H2, GG, Nat.reduceAdd, Nat.reduceSub, List.reduceReplicate, tyW, capρ]); repeat (with_reducible refine hold_i ?_; try simp only [↓HH, ↓H2, GG, Nat.reduceAdd, Nat.reduceSub, List.reduceReplicate, tyW, capρ])
    rw [colI, if_pos h] at k
    exact exM k
  · have h0 : 0 < s := by omega
    (try simp only [↓HH, ↓H2, GG, Nat.reduceAdd, Nat.reduceSub, List.reduceReplicate, tyW, capρ, h0]); repeat (with_reducible refine hold_i ?_; try simp only [↓HH, ↓H2, GG, Nat.reduceAdd, Nat.reduceSub, List.reduceReplicate, tyW, capρ, h0])
    rw [colI, if_neg h] at k
    exact exM k
theorem ok_l_column (T : Txt K mg A) : FnOk P w K mg base CX0 1 A.f_l_column A.d_l_column ["_law_place", "_law_stride"] (spW K pCol) := by
  refine okS T.l_column.fn sc_l_column (by rintro vs M q ⟨x, s, rfl, _⟩; rfl) fun cdv A' outer s H E hr => ?_
  have nd := sc_l_column.nd
  refine ⟨_, (@pss_cons _ _ _ _ _ (@ps_if _ _ _ _ _ _ _ _ (@pt_cmpR _ _ _ _ _ _ _ _ (@op_eq _) (@pv _ 1 _ _ (by rfl) (by first | exact Or.inl rfl | exact Or.inr (Or.inl rfl) | exact Or.inr (Or.inr rfl)) (by decide) (by decide)) (@pe_int _ _ _ _) (@nomark _ _ (by decide) (by decide))) (@pss_one _ _ _ (@ps_ret _ _ _ _ (@pv _ 0 _ _ (by rfl) (by first | exact Or.inl rfl | exact Or.inr (Or.inl rfl) | exact Or.inr (Or.inr rfl)) (by decide) (by decide)))) (@pss_nil _)) (@pss_one _ _ _ (@ps_ret _ _ _ _ (@pe_op _ _ _ _ _ _ _ _ (@op_mod _) (@pv _ 0 _ _ (by rfl) (by first | exact Or.inl rfl | exact Or.inr (Or.inl rfl) | exact Or.inr (Or.inr rfl)) (by decide) (by decide)) (@pv _ 1 _ _ (by rfl) (by first | exact Or.inl rfl | exact Or.inr (Or.inl rfl) | exact Or.inr (Or.inr rfl)) (by decide) (by decide)))))), ?_⟩
  try dsimp only [cxOf]
  refine ⟨_, inferInstance, ?_⟩
  rintro vs M q ⟨x, s, rfl, s0, s1, k⟩
  (try simp only [↓HH, ↓H2, GG, Nat.reduceAdd, Nat.reduceSub, List.reduceReplicate, tyW, capρ]); repeat (with_reducible refine hold_i ?_; try simp only [↓HH, ↓H2, GG, Nat.reduceAdd, Nat.reduceSub, List.reduceReplicate, tyW, capρ])
  refine iteK_d (fun h => ?_) fun h => ?_
  · (try simp only [↓HH, ↓H2, GG, Nat.reduceAdd, Nat.reduceSub, List.reduceReplicate, tyW, capρ]); repeat (with_reducible refine hold_i ?_; try simp only [↓HH, ↓H2, GG, Nat.reduceAdd, Nat.reduceSub, List.reduceReplicate, tyW, capρ])
    rw [colI, if_pos h] at k
    exact exM k
  · have h0 : 0 < s := by omega
    (try simp only [↓HH, ↓H2, GG, Nat.reduceAdd, Nat.reduceSub, List.reduceReplicate, tyW, capρ, h0]); repeat (with_reducible refine hold_i ?_; try simp only [↓HH, ↓H2, GG, Nat.reduceAdd, Nat.reduceSub, List.reduceReplicate, tyW, capρ, h0])
    rw [colI, if_neg h] at k
    exact exM k
theorem ok_first_column (T : Txt K mg A) : FnOk P w K mg base CX0 2 A.f_first_column A.d_first_column ["places", "stride"] (spW K pFirst) := by
  have G_column := ok_column (P := P) (w := w) (base := base) T
  refine okS T.first_column.fn sc_first_column (by rintro vs M q ⟨a, ns, s, rfl, _⟩; rfl) fun cdv A' outer s H E hr => ?_
  have nd := sc_first_column.nd
  refine ⟨_, (@pss_one _ _ _ (@ps_ret _ _ _ _ (@pe_minD _ _ _ _ _ _ _ _ (by rfl) T.b_min rfl (@pe_comp _ _ _ _ _ _ _ _ _ _ _ _ _ _ rfl (CScope.of (sc := defScope s_first_column) (N := ["places", "stride"]) (own := ["place"]) (fr := [1]) (N' := ["place", "stride"]) rfl rfl rfl (by decide +kernel) rfl (by decide +kernel) (by decide +kernel) (by decide +kernel) (by decide +kernel) (by decide +kernel)) (@pi_list _ _ _ _ (@pv _ 0 _ _ (by rfl) (by first | exact Or.inl rfl | exact Or.inr (Or.inl rfl) | exact Or.inr (Or.inr rfl)) (by decide) (by decide))) (fun _ _ _ _ => (@pg_name _ _ (0) _ (by show (["place", "stride"] : List Str).Nodup ; decide +kernel) rfl (by first | exact Or.inl rfl | exact Or.inr rfl) (by first | exact .inl rfl | exact .inr rfl | assumption))) capg_name (fun _ _ _ _ => (@pts_nil _)) (fun _ _ _ _ => (@pe_callF _ _ _ _ _ _ _ _ _ _ _ _ _ T.column G_column (hr.mono (by decide)) (by rfl) (@pa_cons _ _ _ _ _ (@pv _ 0 _ _ (by rfl) (by first | exact Or.inl rfl | exact Or.inr (Or.inl rfl) | exact Or.inr (Or.inr rfl)) (by decide) (by decide)) (@pa_cons _ _ _ _ _ (@pv _ 1 _ _ (by rfl) (by first | exact Or.inl rfl | exact Or.inr (Or.inl rfl) | exact Or.inr (Or.inr rfl)) (by decide) (by decide)) (@pa_nil _) (by rfl)) (by rfl)) (by decide) (by rfl) (by rfl))) (by intro _; rfl)) (@pe_non _ _ _) (by rfl)))), ?_⟩
  try dsimp only [cxOf]
  refine ⟨_, inferInstance, ?_⟩
  rintro vs M q ⟨a, ns, s, rfl, ha, hl, s0, s1, k0, k1⟩
  (try simp only [↓HH, ↓H2, GG, Nat.reduceAdd, Nat.reduceSub, List.reduceReplicate, tyW, capρ, wMinD, ha]); repeat (with_reducible refine hold_i ?_; try simp only [↓HH, ↓H2, GG, Nat.reduceAdd, Nat.reduceSub, List.reduceReplicate, tyW, capρ, wMinD, ha])
  refine comp_all (fun x : Int => wi (colI s x)) (big (by omega)) (fun M6 s6 => s6 _ _ ha) ?_ fun t ht => ?_
  · intro x hx M3 N s3 hN
    (try simp only [↓HH, ↓H2, GG, Nat.reduceAdd, Nat.reduceSub, List.reduceReplicate, tyW, capρ]); repeat (with_reducible refine hold_i ?_; try simp only [↓HH, ↓H2, GG, Nat.reduceAdd, Nat.reduceSub, List.reduceReplicate, tyW, capρ])
    refine ⟨x, s, rfl, s0, s1, ?_⟩
    (try simp only [↓HH, ↓H2, GG, Nat.reduceAdd, Nat.reduceSub, List.reduceReplicate, tyW, capρ]); repeat (with_reducible refine hold_i ?_; try simp only [↓HH, ↓H2, GG, Nat.reduceAdd, Nat.reduceSub, List.reduceReplicate, tyW, capρ])
    exact hN
  (try simp only [↓HH, ↓H2, GG, Nat.reduceAdd, Nat.reduceSub, List.reduceReplicate, tyW, capρ]); repeat (with_reducible refine hold_i ?_; try simp only [↓HH, ↓H2, GG, Nat.reduceAdd, Nat.reduceSub, List.reduceReplicate, tyW, capρ])
  refine ⟨t, ns.map (colI s), rfl, by rw [um_same, List.map_map]; rfl, fun e => ?_, fun m hm => ?_⟩
  · (try simp only [↓HH, ↓H2, GG, Nat.reduceAdd, Nat.reduceSub, List.reduceReplicate, tyW, capρ]); repeat (with_reducible refine hold_i ?_; try simp only [↓HH, ↓H2, GG, Nat.reduceAdd, Nat.reduceSub, List.reduceReplicate, tyW, capρ])
    exact ⟨M, sm_um ht, k0 (by simpa using e)⟩
  · (try simp only [↓HH, ↓H2, GG, Nat.reduceAdd, Nat.reduceSub, List.reduceReplicate, tyW, capρ]); repeat (with_reducible refine hold_i ?_; try simp only [↓HH, ↓H2, GG, Nat.reduceAdd, Nat.reduceSub, List.reduceReplicate, tyW, capρ])
    have hne : ns ≠ [] := by rintro rfl; exact absurd hm.1 (by simp)
    rw [IsMin.uniq hm (least_is (by simpa using hne))]
    exact ⟨M, sm_um ht, k1 hne⟩
theorem ok_heights (T : Txt K mg A) : FnOk P w K mg base CX0 1 A.f_heights A.d_heights ["places", "stride", "first"] (spW K pHts) := by
  refine okS T.heights.fn sc_heights (by rintro vs M q ⟨a, ns, s, f, rfl, _⟩; rfl) fun cdv A' outer s H E hr => ?_
  have nd := sc_heights.nd
  refine ⟨_, (@pss_cons _ _ _ _ _ (@ps_if _ _ _ _ _ _ _ _ (@pt_cmpR _ _ _ _ _ _ _ _ (@op_eq _) (@pv _ 1 _ _ (by rfl) (by first | exact Or.inl rfl | exact Or.inr (Or.inl rfl) | exact Or.inr (Or.inr rfl)) (by decide) (by decide)) (@pe_int _ _ _ _) (@nomark _ _ (by decide) (by decide))) (@pss_one _ _ _ (@ps_ret _ _ _ _ (@pe_comp _ _ _ _ _ _ _ _ _ _ _ _ _ _ rfl (CScope.of (sc := defScope s_heights) (N := ["places", "stride", "first"]) (own := ["place"]) (fr := [2]) (N' := ["place", "first"]) rfl rfl rfl (by decide +kernel) rfl (by decide +kernel) (by decide +kernel) (by decide +kernel) (by decide +kernel) (by decide +kernel)) (@pi_list _ _ _ _ (@pv _ 0 _ _ (by rfl) (by first | exact Or.inl rfl | exact Or.inr (Or.inl rfl) | exact Or.inr (Or.inr rfl)) (by decide) (by decide))) (fun _ _ _ _ => (@pg_name _ _ (0) _ (by show (["place", "first"] : List Str).Nodup ; decide +kernel) rfl (by first | exact Or.inl rfl | exact Or.inr rfl) (by first | exact .inl rfl | exact .inr rfl | assumption))) capg_name (fun _ _ _ _ => (@pts_one _ _ _ (@pt_cmpR _ _ _ _ _ _ _ _ (@op_eq _) (@pv _ 0 _ _ (by rfl) (by first | exact Or.inl rfl | exact Or.inr (Or.inl rfl) | exact Or.inr (Or.inr rfl)) (by decide) (by decide)) (@pv _ 1 _ _ (by rfl) (by first | exact Or.inl rfl | exact Or.inr (Or.inl rfl) | exact Or.inr (Or.inr rfl)) (by decide) (by decide)) (@nomark _ _ (by decide) (by decide))))) (fun _ _ _ _ => (@pe_int _ _ _ _)) (by intro _; rfl)))) (@pss_nil _)) (@pss_one _ _ _ (@ps_ret _ _ _ _ (@pe_callB _ _ _ _ _ _ _ _ _ (@call_sortL _) (by rfl) T.b_sorted Boot.«sorted» (@pa_cons _ _ _ _ _ (@pe_comp _ _ _ _ _ _ _ _ _ _ _ _ _ _ rfl (CScope.of (sc := defScope s_heights) (N := ["places", "stride", "first"]) (own := ["place"]) (fr := [1, 2]) (N' := ["place", "stride", "first"]) rfl rfl rfl (by decide +kernel) rfl (by decide +kernel) (by decide +kernel) (by decide +kernel) (by decide +kernel) (by decide +kernel)) (@pi_list _ _ _ _ (@pv _ 0 _ _ (by rfl) (by first | exact Or.inl rfl | exact Or.inr (Or.inl rfl) | exact Or.inr (Or.inr rfl)) (by decide) (by decide))) (fun _ _ _ _ => (@pg_name _ _ (0) _ (by show (["place", "stride", "first"] : List Str).Nodup ; decide +kernel) rfl (by first | exact Or.inl rfl | exact Or.inr rfl) (by first | exact .inl rfl | exact .inr rfl | assumption))) capg_name (fun _ _ _ _ => (@pts_one _ _ _ (@pt_cmpR _ _ _ _ _ _ _ _ (@op_eq _) (@pe_op _ _ _ _ _ _ _ _ (@op_mod _) (@pv _ 0 _ _ (by rfl) (by first | exact Or.inl rfl | exact Or.inr (Or.inl rfl) | exact Or.inr (Or.inr rfl)) (by decide) (by decide)) (@pv _ 1 _ _ (by rfl) (by first | exact Or.inl rfl | exact Or.inr (Or.inl rfl) | exact Or.inr (Or.inr rfl)) (by decide) (by decide))) (@pv _ 2 _ _ (by rfl) (by first | exact Or.inl rfl | exact Or.inr (Or.inl rfl) | exact Or.inr (Or.inr rfl)) (by decide) (by decide)) (@nomark _ _ (by decide) (by decide))))) (fun _ _ _ _ => (@pe_op _ _ _ _ _ _ _ _ (@op_fdiv _) (@pv _ 0 _ _ (by rfl) (by first | exact Or.inl rfl | exact Or.inr (Or.inl rfl) | exact Or.inr (Or.inr rfl)) (by decide) (by decide)) (@pv _ 1 _ _ (by rfl) (by first | exact Or.inl rfl | exact Or.inr (Or.inl rfl) | exact Or.inr (Or.inr rfl)) (by decide) (by decide)))) (by intro _; rfl)) (@pa_nil _) (by rfl)) (by decide) (by decide) (by rfl) (by rfl))))), ?_⟩
  try dsimp only [cxOf]
  refine ⟨_, inferInstance, ?_⟩
  rintro vs M q ⟨a, ns, s, f, rfl, ha, hl, s0, s1, k⟩
  (try simp only [↓HH, ↓H2, GG, Nat.reduceAdd, Nat.reduceSub, List.reduceReplicate, tyW, capρ]); repeat (with_reducible refine hold_i ?_; try simp only [↓HH, ↓H2, GG, Nat.reduceAdd, Nat.reduceSub, List.reduceReplicate, tyW, capρ])
  refine iteK_d (fun h => ?_) fun h => ?_
  · subst h
    (try simp only [↓HH, ↓H2, GG, Nat.reduceAdd, Nat.reduceSub, List.reduceReplicate, tyW, capρ, ha]); repeat (with_reducible refine hold_i ?_; try simp only [↓HH, ↓H2, GG, Nat.reduceAdd, Nat.reduceSub, List.reduceReplicate, tyW, capρ, ha])
    refine comp_map (fun x : Int => decide (x = f)) (fun x : Int => wi 0) (big (by omega)) (fun M6 s6 => s6 _ _ ha) ?_ fun t ht => ?_
    · intro x hx M3 N s3 hN
      (try simp only [↓HH, ↓H2, GG, Nat.reduceAdd, Nat.reduceSub, List.reduceReplicate, tyW, capρ]); repeat (with_reducible refine hold_i ?_; try simp only [↓HH, ↓H2, GG, Nat.reduceAdd, Nat.reduceSub, List.reduceReplicate, tyW, capρ])
      refine iteK_d (fun h => ?_) fun h => ?_
      · (try simp only [↓HH, ↓H2, GG, Nat.reduceAdd, Nat.reduceSub, List.reduceReplicate, tyW, capρ]); repeat (with_reducible refine hold_i ?_; try simp only [↓HH, ↓H2, GG, Nat.reduceAdd, Nat.reduceSub, List.reduceReplicate, tyW, capρ])
        simpa only [h, decide_true, if_true] using hN
      · (try simp only [↓HH, ↓H2, GG, Nat.reduceAdd, Nat.reduceSub, List.reduceReplicate, tyW, capρ]); repeat (with_reducible refine hold_i ?_; try simp only [↓HH, ↓H2, GG, Nat.reduceAdd, Nat.reduceSub, List.reduceReplicate, tyW, capρ])
        simpa only [h, decide_false, Bool.false_eq_true, if_false] using hN
    (try simp only [↓HH, ↓H2, GG, Nat.reduceAdd, Nat.reduceSub, List.reduceReplicate, tyW, capρ]); repeat (with_reducible refine hold_i ?_; try simp only [↓HH, ↓H2, GG, Nat.reduceAdd, Nat.reduceSub, List.reduceReplicate, tyW, capρ])
    have e : (ns.filter fun x => decide (x = f)).map (fun _ => wi 0) = (hts 0 f ns).map wi := by
      unfold hts; rw [List.map_map]; rfl
    rw [e]
    refine exM (k t _ ht (List.Perm.refl _) ?_)
    unfold hts
    rw [List.pairwise_map]
    exact List.pairwise_of_forall fun _ _ => Int.le_refl _
  · have h0 : 0 < s := by omega
    have cd : ∀ x, CDiv x s = True := fun x => by simp [CDiv]; omega
    (try simp only [↓HH, ↓H2, GG, Nat.reduceAdd, Nat.reduceSub, List.reduceReplicate, tyW, capρ, ha, h0, cd]); repeat (with_reducible refine hold_i ?_; try simp only [↓HH, ↓H2, GG, Nat.reduceAdd, Nat.reduceSub, List.reduceReplicate, tyW, capρ, ha, h0, cd])
    refine comp_map (fun x : Int => decide (x % s = f)) (fun x : Int => wi (x / s)) (big (by omega)) (fun M6 s6 => s6 _ _ ha) ?_ fun t ht => ?_
    · intro x hx M3 N s3 hN
      (try simp only [↓HH, ↓H2, GG, Nat.reduceAdd, Nat.reduceSub, List.reduceReplicate, tyW, capρ, h0]); repeat (with_reducible refine hold_i ?_; try simp only [↓HH, ↓H2, GG, Nat.reduceAdd, Nat.reduceSub, List.reduceReplicate, tyW, capρ, h0])
      refine iteK_d (fun h => ?_) fun h => ?_
      · (try simp only [↓HH, ↓H2, GG, Nat.reduceAdd, Nat.reduceSub, List.reduceReplicate, tyW, capρ, h0, cd]); repeat (with_reducible refine hold_i ?_; try simp only [↓HH, ↓H2, GG, Nat.reduceAdd, Nat.reduceSub, List.reduceReplicate, tyW, capρ, h0, cd])
        simpa only [h, decide_true, if_true] using hN
      · (try simp only [↓HH, ↓H2, GG, Nat.reduceAdd, Nat.reduceSub, List.reduceReplicate, tyW, capρ]); repeat (with_reducible refine hold_i ?_; try simp only [↓HH, ↓H2, GG, Nat.reduceAdd, Nat.reduceSub, List.reduceReplicate, tyW, capρ])
        simpa only [h, decide_false, Bool.false_eq_true, if_false] using hN
    (try simp only [↓HH, ↓H2, GG, Nat.reduceAdd, Nat.reduceSub, List.reduceReplicate, tyW, capρ, wSortL]); repeat (with_reducible refine hold_i ?_; try simp only [↓HH, ↓H2, GG, Nat.reduceAdd, Nat.reduceSub, List.reduceReplicate, tyW, capρ, wSortL])
    have e : (ns.filter fun x => decide (x % s = f)).map (fun x => wi (x / s)) = (hts s f ns).map wi := by
      unfold hts colI hI; rw [List.map_map]; simp only [h, if_false]; rfl
    refine ⟨t, hts s f ns, rfl, by rw [um_same, e], fun p ms hp h1 h2 => ?_⟩
    (try simp only [↓HH, ↓H2, GG, Nat.reduceAdd, Nat.reduceSub, List.reduceReplicate, tyW, capρ]); repeat (with_reducible refine hold_i ?_; try simp only [↓HH, ↓H2, GG, Nat.reduceAdd, Nat.reduceSub, List.reduceReplicate, tyW, capρ])
    exact ⟨_, sm_two ht hp, k p ms (by rw [um_ne (fun z => by rw [z, um_same] at hp; cases hp)] at hp; exact hp) h1 h2⟩
end
end K18
namespace K18
open PySem L2 WL WP WQ PyProof.Rows
section
variable {P : Program} {w : World} {K : PySem.W.Frag} {mg : Str → Option Value} {base : Heap} {A : Adr}
theorem ok_measured (T : Txt K mg A) : FnOk P w K mg base CX0 3 A.f_measured A.d_measured ["stride", "stair"] (spW K pMeas) := by
  have G_first_column := ok_first_column (P := P) (w := w) (base := base) T
  have G_heights := ok_heights (P := P) (w := w) (base := base) T
  refine okS T.measured.fn sc_measured (by rintro vs M q ⟨st, s, rfl, _⟩; rfl) fun cdv A' outer s H E hr => ?_
  have nd := sc_measured.nd
  refine ⟨_, (@pss_cons _ _ _ _ _ (@ps_setComp _ (2) _ _ _ _ _ _ _ _ _ _ _ _ _ _ _ _ rfl nd rfl (Or.inl rfl) (CScope.of (sc := defScope s_measured) (N := ["stride", "stair", "places", "first"]) (own := ["place", "setting"]) (fr := []) (N' := ["place", "setting"]) rfl rfl rfl (by decide +kernel) rfl (by decide +kernel) (by decide +kernel) (by decide +kernel) (by decide +kernel) (by decide +kernel)) (@pi_tup _ _ _ _ (@pv _ 1 _ _ (by rfl) (by first | exact Or.inl rfl | exact Or.inr (Or.inl rfl) | exact Or.inr (Or.inr rfl)) (by decide) (by decide))) (fun _ _ _ _ => (@pg_tup _ _ _ _ _ (2) rfl (@pgs_cons _ _ _ _ _ (@pg_name _ _ (0) _ (by show (["place", "setting"] : List Str).Nodup ; decide +kernel) rfl (by first | exact Or.inl rfl | exact Or.inr rfl) (by first | exact .inl rfl | exact .inr rfl | assumption)) (@pgs_cons _ _ _ _ _ (@pg_name _ _ (1) _ (by show (["place", "setting"] : List Str).Nodup ; decide +kernel) rfl (by first | exact Or.inl rfl | exact Or.inr rfl) (by first | exact .inl rfl | exact .inr rfl | assumption)) (@pgs_nil _) (by rfl)) (by rfl)) (by rfl) (by rfl))) (@capg_two _) (fun _ _ _ _ => (@pts_nil _)) (fun _ _ _ _ => (@pv _ 0 _ _ (by rfl) (by first | exact Or.inl rfl | exact Or.inr (Or.inl rfl) | exact Or.inr (Or.inr rfl)) (by decide) (by decide))) rfl (by intro _; rfl) (by first | exact .inl rfl | exact .inr rfl | assumption)) (@pss_cons _ _ _ _ _ (@ps_set _ _ (3) _ _ _ _ nd rfl (by first | exact Or.inl rfl | exact Or.inr rfl) (@pe_callF _ _ _ _ _ _ _ _ _ _ _ _ _ T.first_column G_first_column (hr.mono (by decide)) (by rfl) (@pa_cons _ _ _ _ _ (@pv _ 2 _ _ (by rfl) (by first | exact Or.inl rfl | exact Or.inr (Or.inl rfl) | exact Or.inr (Or.inr rfl)) (by decide) (by decide)) (@pa_cons _ _ _ _ _ (@pv _ 0 _ _ (by rfl) (by first | exact Or.inl rfl | exact Or.inr (Or.inl rfl) | exact Or.inr (Or.inr rfl)) (by decide) (by decide)) (@pa_nil _) (by rfl)) (by rfl)) (by decide) (by rfl) (by rfl)) (by rfl) (by first | exact .inl rfl | exact .inr rfl | assumption)) (@pss_one _ _ _ (@ps_ret _ _ _ _ (@pe_tup _ _ _ _ _ (@pa_cons _ _ _ _ _ (@pv _ 3 _ _ (by rfl) (by first | exact Or.inl rfl | exact Or.inr (Or.inl rfl) | exact Or.inr (Or.inr rfl)) (by decide) (by decide)) (@pa_cons _ _ _ _ _ (@pe_ix _ _ _ _ _ _ _ (@ix_list _) (@pe_callF _ _ _ _ _ _ _ _ _ _ _ _ _ T.heights G_heights (hr.mono (by decide)) (by rfl) (@pa_cons _ _ _ _ _ (@pv _ 2 _ _ (by rfl) (by first | exact Or.inl rfl | exact Or.inr (Or.inl rfl) | exact Or.inr (Or.inr rfl)) (by decide) (by decide)) (@pa_cons _ _ _ _ _ (@pv _ 0 _ _ (by rfl) (by first | exact Or.inl rfl | exact Or.inr (Or.inl rfl) | exact Or.inr (Or.inr rfl)) (by decide) (by decide)) (@pa_cons _ _ _ _ _ (@pv _ 3 _ _ (by rfl) (by first | exact Or.inl rfl | exact Or.inr (Or.inl rfl) | exact Or.inr (Or.inr rfl)) (by decide) (by decide)) (@pa_nil _) (by rfl)) (by rfl)) (by rfl)) (by decide) (by rfl) (by rfl)) (@pe_un _ _ _ _ _ _ (@un_neg _) (@pe_int _ _ _ _)) (fun _ _ => (@rfl _ _))) (@pa_nil _) (by rfl)) (by rfl))))))), ?_⟩
  try dsimp only [cxOf]
  refine ⟨_, inferInstance, ?_⟩
  rintro vs M q ⟨st, s, rfl, hne, hl, s0, s1, k⟩
  (try simp only [↓HH, ↓H2, GG, Nat.reduceAdd, Nat.reduceSub, List.reduceReplicate, tyW, capρ, patW]); repeat (with_reducible refine hold_i ?_; try simp only [↓HH, ↓H2, GG, Nat.reduceAdd, Nat.reduceSub, List.reduceReplicate, tyW, capρ, patW])
  refine comp_all (fun z : Int × Int => wi z.1) (big (by omega)) (fun _ _ => trivial) ?_ fun t ht => ?_
  · intro z hz M3 N s3 hN
    (try simp only [↓HH, ↓H2, GG, Nat.reduceAdd, Nat.reduceSub, List.reduceReplicate, tyW, capρ, pairW]); repeat (with_reducible refine hold_i ?_; try simp only [↓HH, ↓H2, GG, Nat.reduceAdd, Nat.reduceSub, List.reduceReplicate, tyW, capρ, pairW])
    exact hN
  have e1 : st.map (fun z => wi z.1) = (plc st).map wi := by unfold plc; rw [List.map_map]; rfl
  have hpn : plc st ≠ [] := by unfold plc; simpa using hne
  have hpl : (plc st).length ≤ 100000 := by unfold plc; rw [List.length_map]; exact hl
  rw [e1]
  (try simp only [↓HH, ↓H2, GG, Nat.reduceAdd, Nat.reduceSub, List.reduceReplicate, tyW, capρ]); repeat (with_reducible refine hold_i ?_; try simp only [↓HH, ↓H2, GG, Nat.reduceAdd, Nat.reduceSub, List.reduceReplicate, tyW, capρ])
  refine ⟨t, plc st, s, rfl, um_same, hpl, s0, s1, fun e => absurd e hpn, fun _ => ?_⟩
  (try simp only [↓HH, ↓H2, GG, Nat.reduceAdd, Nat.reduceSub, List.reduceReplicate, tyW, capρ]); repeat (with_reducible refine hold_i ?_; try simp only [↓HH, ↓H2, GG, Nat.reduceAdd, Nat.reduceSub, List.reduceReplicate, tyW, capρ])
  refine ⟨t, plc st, s, leastI ((plc st).map (colI s)), rfl, um_same, hpl, s0, s1, fun p ms hp h1 h2 => ?_⟩
  have hf : IsMin ((plc st).map (colI s)) (leastI ((plc st).map (colI s))) := least_is (by simpa using hpn)
  have hh : hts s (leastI ((plc st).map (colI s))) (plc st) ≠ [] := by
    obtain ⟨x, hx, e⟩ := List.mem_map.mp hf.1
    have : hI s x ∈ hts s (leastI ((plc st).map (colI s))) (plc st) := List.mem_map.mpr ⟨x, List.mem_filter.mpr ⟨hx, by simpa using e⟩, rfl⟩
    intro e2; rw [e2] at this; cases this
  have hmn : ms ≠ [] := fun e => by rw [e] at h1; exact hh (List.Perm.nil_eq h1).symm
  have hla : atI (ms.map wi) (-1) = some (wi (ms.getLastD 0)) := atI_lastW hmn
  have hm2 : IsMax (hts s (leastI ((plc st).map (colI s))) (plc st)) (ms.getLastD 0) := by
    obtain ⟨a, b⟩ := last_is h2 hmn
    exact ⟨h1.mem_iff.mp a, fun x hx => b x (h1.mem_iff.mpr hx)⟩
  have e3 : ms.getLastD 0 = slen s st := IsMax.uniq hm2 (most_is hh)
  rw [e3] at hla
  (try simp only [↓HH, ↓H2, GG, Nat.reduceAdd, Nat.reduceSub, List.reduceReplicate, tyW, capρ, um_same, hla]); repeat (with_reducible refine hold_i ?_; try simp only [↓HH, ↓H2, GG, Nat.reduceAdd, Nat.reduceSub, List.reduceReplicate, tyW, capρ, um_same, hla])
  exact ⟨M, (sm_um ht).trans (sm_um hp), k⟩
theorem ok_low (T : Txt K mg A) : FnOk P w K mg base CX0 4 A.f_low A.d_low ["stride", "stairs", "pattern"] (spW K pLow) := by
  have G_measured := ok_measured (P := P) (w := w) (base := base) T
  have G_heights := ok_heights (P := P) (w := w) (base := base) T
  refine okS T.low.fn sc_low (by rintro vs M q ⟨sts, pat, s, rfl, _⟩; rfl) fun cdv A' outer s H E hr => ?_
  have nd := sc_low.nd
  refine ⟨_, (@pss_cons _ _ _ _ _ (@ps_setComp _ (3) _ _ _ _ _ _ _ _ _ _ _ _ _ _ _ _ rfl nd rfl (Or.inl rfl) (CScope.of (sc := defScope s_low) (N := ["stride", "stairs", "pattern", "lit", "stair", "first", "length"]) (own := ["place", "setting"]) (fr := []) (N' := ["place", "setting"]) rfl rfl rfl (by decide +kernel) rfl (by decide +kernel) (by decide +kernel) (by decide +kernel) (by decide +kernel) (by decide +kernel)) (@pi_tup _ _ _ _ (@pv _ 2 _ _ (by rfl) (by first | exact Or.inl rfl | exact Or.inr (Or.inl rfl) | exact Or.inr (Or.inr rfl)) (by decide) (by decide))) (fun _ _ _ _ => (@pg_tup _ _ _ _ _ (2) rfl (@pgs_cons _ _ _ _ _ (@pg_name _ _ (0) _ (by show (["place", "setting"] : List Str).Nodup ; decide +kernel) rfl (by first | exact Or.inl rfl | exact Or.inr rfl) (by first | exact .inl rfl | exact .inr rfl | assumption)) (@pgs_cons _ _ _ _ _ (@pg_name _ _ (1) _ (by show (["place", "setting"] : List Str).Nodup ; decide +kernel) rfl (by first | exact Or.inl rfl | exact Or.inr rfl) (by first | exact .inl rfl | exact .inr rfl | assumption)) (@pgs_nil _) (by rfl)) (by rfl)) (by rfl) (by rfl))) (@capg_two _) (fun _ _ _ _ => (@pts_nil _)) (fun _ _ _ _ => (@pv _ 0 _ _ (by rfl) (by first | exact Or.inl rfl | exact Or.inr (Or.inl rfl) | exact Or.inr (Or.inr rfl)) (by decide) (by decide))) rfl (by intro _; rfl) (by first | exact .inl rfl | exact .inr rfl | assumption)) (@pss_cons _ _ _ _ _ (@ps_for _ _ _ _ _ _ _ _ PassesOwn.never rfl (@pi_tup _ _ _ _ (@pv _ 1 _ _ (by rfl) (by first | exact Or.inl rfl | exact Or.inr (Or.inl rfl) | exact Or.inr (Or.inr rfl)) (by decide) (by decide))) (@pg_name _ _ (4) _ nd rfl (by first | exact Or.inl rfl | exact Or.inr rfl) (by first | exact .inl rfl | exact .inr rfl | assumption)) (@pss_cons _ _ _ _ _ (@ps_asg _ _ _ _ _ _ (@pe_callF _ _ _ _ _ _ _ _ _ _ _ _ _ T.measured G_measured (hr.mono (by decide)) (by rfl) (@pa_cons _ _ _ _ _ (@pv _ 0 _ _ (by rfl) (by first | exact Or.inl rfl | exact Or.inr (Or.inl rfl) | exact Or.inr (Or.inr rfl)) (by decide) (by decide)) (@pa_cons _ _ _ _ _ (@pv _ 4 _ _ (by rfl) (by first | exact Or.inl rfl | exact Or.inr (Or.inl rfl) | exact Or.inr (Or.inr rfl)) (by decide) (by decide)) (@pa_nil _) (by rfl)) (by rfl)) (by decide) (by rfl) (by rfl)) (@pg_tup _ _ _ _ _ (2) rfl (@pgs_cons _ _ _ _ _ (@pg_name _ _ (5) _ nd rfl (by first | exact Or.inl rfl | exact Or.inr rfl) (by first | exact .inl rfl | exact .inr rfl | assumption)) (@pgs_cons _ _ _ _ _ (@pg_name _ _ (6) _ nd rfl (by first | exact Or.inl rfl | exact Or.inr rfl) (by first | exact .inl rfl | exact .inr rfl | assumption)) (@pgs_nil _) (by rfl)) (by rfl)) (by rfl) (by rfl)) (by rfl) (by rfl) (by rfl)) (@pss_one _ _ _ (@ps_if _ _ _ _ _ _ _ _ (@pt_val _ _ _ (@pe_callB _ _ _ _ _ _ _ _ _ (@call_anyW _ rfl) (by rfl) T.b_any Boot.«any» (@pa_cons _ _ _ _ _ (@pe_comp _ _ _ _ _ _ _ _ _ _ _ _ _ _ rfl (CScope.of (sc := defScope s_low) (N := ["stride", "stairs", "pattern", "lit", "stair", "first", "length"]) (own := ["height"]) (fr := [6]) (N' := ["height", "length"]) rfl rfl rfl (by decide +kernel) rfl (by decide +kernel) (by decide +kernel) (by decide +kernel) (by decide +kernel) (by decide +kernel)) (@pi_list _ _ _ _ (@pe_callF _ _ _ _ _ _ _ _ _ _ _ _ _ T.heights G_heights (hr.mono (by decide)) (by rfl) (@pa_cons _ _ _ _ _ (@pv _ 3 _ _ (by rfl) (by first | exact Or.inl rfl | exact Or.inr (Or.inl rfl) | exact Or.inr (Or.inr rfl)) (by decide) (by decide)) (@pa_cons _ _ _ _ _ (@pv _ 0 _ _ (by rfl) (by first | exact Or.inl rfl | exact Or.inr (Or.inl rfl) | exact Or.inr (Or.inr rfl)) (by decide) (by decide)) (@pa_cons _ _ _ _ _ (@pv _ 5 _ _ (by rfl) (by first | exact Or.inl rfl | exact Or.inr (Or.inl rfl) | exact Or.inr (Or.inr rfl)) (by decide) (by decide)) (@pa_nil _) (by rfl)) (by rfl)) (by rfl)) (by decide) (by rfl) (by rfl))) (fun _ _ _ _ => (@pg_name _ _ (0) _ (by show (["height", "length"] : List Str).Nodup ; decide +kernel) rfl (by first | exact Or.inl rfl | exact Or.inr rfl) (by first | exact .inl rfl | exact .inr rfl | assumption))) capg_name (fun _ _ _ _ => (@pts_nil _)) (fun _ _ _ _ => (@pe_or _ _ _ _ _ _ _ (@pe_cmpR _ _ _ _ _ _ _ _ (@op_lt _) (@pv _ 0 _ _ (by rfl) (by first | exact Or.inl rfl | exact Or.inr (Or.inl rfl) | exact Or.inr (Or.inr rfl)) (by decide) (by decide)) (@pe_int _ _ _ _) (@nomark _ _ (by decide) (by decide))) (@pe_one _ _ _ _ _ (@pe_cmpR _ _ _ _ _ _ _ _ (@op_ge _) (@pv _ 0 _ _ (by rfl) (by first | exact Or.inl rfl | exact Or.inr (Or.inl rfl) | exact Or.inr (Or.inr rfl)) (by decide) (by decide)) (@pv _ 1 _ _ (by rfl) (by first | exact Or.inl rfl | exact Or.inr (Or.inl rfl) | exact Or.inr (Or.inr rfl)) (by decide) (by decide)) (@nomark _ _ (by decide) (by decide)))))) (by intro _; rfl)) (@pa_nil _) (by rfl)) (by decide) (by decide) (by rfl) (by rfl)) (by intro _; rfl)) (@pss_one _ _ _ (@ps_ret _ _ _ _ (@pe_bl _ _ _ _))) (@pss_nil _)))) (by intro _; rfl)) (@pss_one _ _ _ (@ps_ret _ _ _ _ (@pe_bl _ _ _ _))))), ?_⟩
  try dsimp only [cxOf]
  refine ⟨_, inferInstance, ?_⟩
  rintro vs M q ⟨sts, pat, s, rfl, hst, hpl, s0, s1, k⟩
  (try simp only [↓HH, ↓H2, GG, Nat.reduceAdd, Nat.reduceSub, List.reduceReplicate, tyW, capρ, patW]); repeat (with_reducible refine hold_i ?_; try simp only [↓HH, ↓H2, GG, Nat.reduceAdd, Nat.reduceSub, List.reduceReplicate, tyW, capρ, patW])
  refine comp_all (fun z : Int × Int => wi z.1) (big (by omega)) (fun _ _ => trivial) ?_ fun t ht => ?_
  · intro z hz M3 N s3 hN
    (try simp only [↓HH, ↓H2, GG, Nat.reduceAdd, Nat.reduceSub, List.reduceReplicate, tyW, capρ, pairW]); repeat (with_reducible refine hold_i ?_; try simp only [↓HH, ↓H2, GG, Nat.reduceAdd, Nat.reduceSub, List.reduceReplicate, tyW, capρ, pairW])
    exact hN
  have e1 : pat.map (fun z => wi z.1) = (plc pat).map wi := by unfold plc; rw [List.map_map]; rfl
  have hpl2 : (plc pat).length ≤ 100000 := by unfold plc; rw [List.length_map]; exact hpl
  rw [e1]
  (try simp only [↓HH, ↓H2, GG, Nat.reduceAdd, Nat.reduceSub, List.reduceReplicate, tyW, capρ]); repeat (with_reducible refine hold_i ?_; try simp only [↓HH, ↓H2, GG, Nat.reduceAdd, Nat.reduceSub, List.reduceReplicate, tyW, capρ])
  refine for_i (fun i ρ M' => ∃ o1 o2 o3 : Option W, ρ = [some (wi s), some (.tup (sts.map patW)), some (patW pat), some (wr t), o1, o2, o3] ∧ Sm M M' ∧ M' t = some (.lst ((plc pat).map wi)) ∧ lowB s (sts.take i) pat = true) ⟨none, none, none, rfl, sm_um ht, um_same, rfl⟩ (fun _ _ _ _ _ => trivial) ?_ ?_
  · rintro i x ρ M' hx ⟨o1, o2, o3, rfl, sM, hMt, hlo⟩ N hN
    obtain ⟨st, hz, rfl⟩ : ∃ st, sts[i]? = some st ∧ x = patW st := by
      rw [List.getElem?_map] at hx
      cases e : sts[i]? with
      | none => rw [e] at hx; cases hx
      | some q => rw [e] at hx; cases hx; exact ⟨q, rfl, rfl⟩
    obtain ⟨h1, h2⟩ := hst st (List.mem_of_getElem? hz)
    (try simp only [↓HH, ↓H2, GG, Nat.reduceAdd, Nat.reduceSub, List.reduceReplicate, tyW, capρ]); repeat (with_reducible refine hold_i ?_; try simp only [↓HH, ↓H2, GG, Nat.reduceAdd, Nat.reduceSub, List.reduceReplicate, tyW, capρ])
    refine ⟨st, s, rfl, h1, h2, s0, s1, ?_⟩
    (try simp only [↓HH, ↓H2, GG, Nat.reduceAdd, Nat.reduceSub, List.reduceReplicate, tyW, capρ]); repeat (with_reducible refine hold_i ?_; try simp only [↓HH, ↓H2, GG, Nat.reduceAdd, Nat.reduceSub, List.reduceReplicate, tyW, capρ])
    refine ⟨t, plc pat, s, fcol s st, rfl, hMt, hpl2, s0, s1, fun p ms hp g1 g2 => ?_⟩
    have hml : ms.length ≤ 100000 := by rw [g1.length_eq, hts, List.length_map]; exact Nat.le_trans (List.length_filter_le _ _) hpl2
    (try simp only [↓HH, ↓H2, GG, Nat.reduceAdd, Nat.reduceSub, List.reduceReplicate, tyW, capρ, um_same]); repeat (with_reducible refine hold_i ?_; try simp only [↓HH, ↓H2, GG, Nat.reduceAdd, Nat.reduceSub, List.reduceReplicate, tyW, capρ, um_same])
    refine comp_all (fun x : Int => wb (decide (¬ (0 ≤ x ∧ x < slen s st)))) (big (by omega)) (fun M6 s6 => s6 _ _ um_same) ?_ fun u hu => ?_
    · intro x hx M3 N s3 hN
      (try simp only [↓HH, ↓H2, GG, Nat.reduceAdd, Nat.reduceSub, List.reduceReplicate, tyW, capρ]); repeat (with_reducible refine hold_i ?_; try simp only [↓HH, ↓H2, GG, Nat.reduceAdd, Nat.reduceSub, List.reduceReplicate, tyW, capρ])
      refine iteK_d (fun h => ?_) fun h => ?_
      · rwa [show decide (¬ (0 ≤ x ∧ x < slen s st)) = true from decide_eq_true (by omega)] at hN
      · rwa [show decide (¬ (0 ≤ x ∧ x < slen s st)) = decide (slen s st ≤ x) from decide_eq_decide.mpr (by omega)] at hN
    have hb : (hts s (fcol s st) (plc pat)).all (fun x => decide (0 ≤ x ∧ x < slen s st)) = !((ms.map fun x => decide (¬ (0 ≤ x ∧ x < slen s st))).any id) := by
      rw [List.any_map, ← g1.all_eq]
      rw [Bool.eq_iff_iff, List.all_eq_true, Bool.not_eq_true', List.any_eq_false]
      refine forall_congr' fun x => forall_congr' fun _ => ?_
      simp
    have hsnoc : lowB s (sts.take (i + 1)) pat = (hts s (fcol s st) (plc pat)).all (fun x => decide (0 ≤ x ∧ x < slen s st)) := by
      rw [List.take_add_one, hz]
      show lowB s (sts.take i ++ [st]) pat = _
      unfold lowB at hlo ⊢
      rw [List.all_append, hlo]
      simp
    refine ⟨u, ms.map fun x => decide (¬ (0 ≤ x ∧ x < slen s st)), rfl, by rw [um_same, List.map_map]; rfl, ?_⟩
    rw [hb] at hsnoc
    (try simp only [↓HH, ↓H2, GG, Nat.reduceAdd, Nat.reduceSub, List.reduceReplicate, tyW, capρ]); repeat (with_reducible refine hold_i ?_; try simp only [↓HH, ↓H2, GG, Nat.reduceAdd, Nat.reduceSub, List.reduceReplicate, tyW, capρ])
    generalize (ms.map fun x => decide (¬ (0 ≤ x ∧ x < slen s st))).any id = bb at hsnoc ⊢
    have sU : Sm M' (um (um M' p (.lst (ms.map wi))) u (.lst (ms.map fun x => wb (decide (¬ (0 ≤ x ∧ x < slen s st)))))) := (sm_um hp).trans (sm_um hu)
    cases bb with
    | true =>
      have : lowB s sts pat = false := by
        have e : sts = sts.take (i + 1) ++ sts.drop (i + 1) := (List.take_append_drop _ _).symm
        rw [e]
        unfold lowB at hsnoc ⊢
        rw [List.all_append, hsnoc]; rfl
      rw [this] at k
      exact ⟨M, sM.trans sU, k⟩
    | false => exact hN _ _ ⟨_, _, _, rfl, sM.trans sU, sU _ _ hMt, hsnoc⟩
  · rintro ρ M' ⟨o1, o2, o3, rfl, sM, hMt, hlo⟩
    rw [List.length_map, List.take_length] at hlo
    (try simp only [↓HH, ↓H2, GG, Nat.reduceAdd, Nat.reduceSub, List.reduceReplicate, tyW, capρ]); repeat (with_reducible refine hold_i ?_; try simp only [↓HH, ↓H2, GG, Nat.reduceAdd, Nat.reduceSub, List.reduceReplicate, tyW, capρ])
    rw [hlo] at k
    exact ⟨M, sM, k⟩
end
end K18
namespace K18
open PySem L2 WL WP WQ PyProof.Rows
section
variable {P : Program} {w : World} {K : PySem.W.Frag} {mg : Str → Option Value} {base : Heap} {A : Adr}
theorem ok_l_first (T : Txt K mg A) : FnOk P w K mg base CX0 2 A.f_l_first A.d_l_first ["_law_stride", "_law_pattern_here"] (spW K pLFirst) := by
  have G_l_column := ok_l_column (P := P) (w := w) (base := base) T
  refine okS T.l_first.fn sc_l_first (by rintro vs M q ⟨st, s, rfl, _⟩; rfl) fun cdv A' outer s H E hr => ?_
  have nd := sc_l_first.nd
  refine ⟨_, (@pss_one _ _ _ (@ps_ret _ _ _ _ (@pe_callB _ _ _ _ _ _ _ _ _ (@call_minL _ rfl) (by rfl) T.b_min Boot.«min» (@pa_cons _ _ _ _ _ (@pe_comp _ _ _ _ _ _ _ _ _ _ _ _ _ _ rfl (CScope.of (sc := defScope s_l_first) (N := ["_law_stride", "_law_pattern_here"]) (own := ["_law_place", "_law_setting"]) (fr := [0]) (N' := ["_law_place", "_law_setting", "_law_stride"]) rfl rfl rfl (by decide +kernel) rfl (by decide +kernel) (by decide +kernel) (by decide +kernel) (by decide +kernel) (by decide +kernel)) (@pi_tup _ _ _ _ (@pv _ 1 _ _ (by rfl) (by first | exact Or.inl rfl | exact Or.inr (Or.inl rfl) | exact Or.inr (Or.inr rfl)) (by decide) (by decide))) (fun _ _ _ _ => (@pg_tup _ _ _ _ _ (2) rfl (@pgs_cons _ _ _ _ _ (@pg_name _ _ (0) _ (by show (["_law_place", "_law_setting", "_law_stride"] : List Str).Nodup ; decide +kernel) rfl (by first | exact Or.inl rfl | exact Or.inr rfl) (by first | exact .inl rfl | exact .inr rfl | assumption)) (@pgs_cons _ _ _ _ _ (@pg_name _ _ (1) _ (by show (["_law_place", "_law_setting", "_law_stride"] : List Str).Nodup ; decide +kernel) rfl (by first | exact Or.inl rfl | exact Or.inr rfl) (by first | exact .inl rfl | exact .inr rfl | assumption)) (@pgs_nil _) (by rfl)) (by rfl)) (by rfl) (by rfl))) (@capg_two _) (fun _ _ _ _ => (@pts_nil _)) (fun _ _ _ _ => (@pe_callF _ _ _ _ _ _ _ _ _ _ _ _ _ T.l_column G_l_column (hr.mono (by decide)) (by rfl) (@pa_cons _ _ _ _ _ (@pv _ 0 _ _ (by rfl) (by first | exact Or.inl rfl | exact Or.inr (Or.inl rfl) | exact Or.inr (Or.inr rfl)) (by decide) (by decide)) (@pa_cons _ _ _ _ _ (@pv _ 2 _ _ (by rfl) (by first | exact Or.inl rfl | exact Or.inr (Or.inl rfl) | exact Or.inr (Or.inr rfl)) (by decide) (by decide)) (@pa_nil _) (by rfl)) (by rfl)) (by decide) (by rfl) (by rfl))) (by intro _; rfl)) (@pa_nil _) (by rfl)) (by decide) (by decide) (by rfl) (by rfl)))), ?_⟩
  try dsimp only [cxOf]
  refine ⟨_, inferInstance, ?_⟩
  rintro vs M q ⟨st, s, rfl, hne, hl, s0, s1, k⟩
  (try simp only [↓HH, ↓H2, GG, Nat.reduceAdd, Nat.reduceSub, List.reduceReplicate, tyW, capρ, patW]); repeat (with_reducible refine hold_i ?_; try simp only [↓HH, ↓H2, GG, Nat.reduceAdd, Nat.reduceSub, List.reduceReplicate, tyW, capρ, patW])
  refine comp_all (fun z : Int × Int => wi (colI s z.1)) (big (by omega)) (fun _ _ => trivial) ?_ fun t ht => ?_
  · intro z hz M3 N s3 hN
    (try simp only [↓HH, ↓H2, GG, Nat.reduceAdd, Nat.reduceSub, List.reduceReplicate, tyW, capρ, pairW]); repeat (with_reducible refine hold_i ?_; try simp only [↓HH, ↓H2, GG, Nat.reduceAdd, Nat.reduceSub, List.reduceReplicate, tyW, capρ, pairW])
    refine ⟨z.1, s, rfl, s0, s1, ?_⟩
    (try simp only [↓HH, ↓H2, GG, Nat.reduceAdd, Nat.reduceSub, List.reduceReplicate, tyW, capρ]); repeat (with_reducible refine hold_i ?_; try simp only [↓HH, ↓H2, GG, Nat.reduceAdd, Nat.reduceSub, List.reduceReplicate, tyW, capρ])
    exact hN
  have e1 : st.map (fun z => wi (colI s z.1)) = ((plc st).map (colI s)).map wi := by unfold plc; rw [List.map_map, List.map_map]; rfl
  have hpn : (plc st).map (colI s) ≠ [] := by unfold plc; simpa using hne
  rw [e1]
  (try simp only [↓HH, ↓H2, GG, Nat.reduceAdd, Nat.reduceSub, List.reduceReplicate, tyW, capρ]); repeat (with_reducible refine hold_i ?_; try simp only [↓HH, ↓H2, GG, Nat.reduceAdd, Nat.reduceSub, List.reduceReplicate, tyW, capρ])
  refine ⟨t, (plc st).map (colI s), rfl, um_same, hpn, fun m hm => ?_⟩
  (try simp only [↓HH, ↓H2, GG, Nat.reduceAdd, Nat.reduceSub, List.reduceReplicate, tyW, capρ]); repeat (with_reducible refine hold_i ?_; try simp only [↓HH, ↓H2, GG, Nat.reduceAdd, Nat.reduceSub, List.reduceReplicate, tyW, capρ])
  rw [IsMin.uniq hm (least_is hpn)]
  exact ⟨M, sm_um ht, k⟩
theorem ok_l_spots (T : Txt K mg A) : FnOk P w K mg base CX0 2 A.f_l_spots A.d_l_spots ["_law_stride", "_law_pattern_here", "_law_at"] (spW K pSpots) := by
  have G_l_column := ok_l_column (P := P) (w := w) (base := base) T
  refine okS T.l_spots.fn sc_l_spots (by rintro vs M q ⟨st, s, c, rfl, _⟩; rfl) fun cdv A' outer s H E hr => ?_
  have nd := sc_l_spots.nd
  refine ⟨_, (@pss_one _ _ _ (@ps_ret _ _ _ _ (@pe_comp _ _ _ _ _ _ _ _ _ _ _ _ _ _ rfl (CScope.of (sc := defScope s_l_spots) (N := ["_law_stride", "_law_pattern_here", "_law_at"]) (own := ["_law_place", "_law_setting"]) (fr := [2, 0]) (N' := ["_law_place", "_law_setting", "_law_at", "_law_stride"]) rfl rfl rfl (by decide +kernel) rfl (by decide +kernel) (by decide +kernel) (by decide +kernel) (by decide +kernel) (by decide +kernel)) (@pi_tup _ _ _ _ (@pv _ 1 _ _ (by rfl) (by first | exact Or.inl rfl | exact Or.inr (Or.inl rfl) | exact Or.inr (Or.inr rfl)) (by decide) (by decide))) (fun _ _ _ _ => (@pg_tup _ _ _ _ _ (2) rfl (@pgs_cons _ _ _ _ _ (@pg_name _ _ (0) _ (by show (["_law_place", "_law_setting", "_law_at", "_law_stride"] : List Str).Nodup ; decide +kernel) rfl (by first | exact Or.inl rfl | exact Or.inr rfl) (by first | exact .inl rfl | exact .inr rfl | assumption)) (@pgs_cons _ _ _ _ _ (@pg_name _ _ (1) _ (by show (["_law_place", "_law_setting", "_law_at", "_law_stride"] : List Str).Nodup ; decide +kernel) rfl (by first | exact Or.inl rfl | exact Or.inr rfl) (by first | exact .inl rfl | exact .inr rfl | assumption)) (@pgs_nil _) (by rfl)) (by rfl)) (by rfl) (by rfl))) (@capg_two _) (fun _ _ _ _ => (@pts_one _ _ _ (@pt_cmpR _ _ _ _ _ _ _ _ (@op_eq _) (@pe_callF _ _ _ _ _ _ _ _ _ _ _ _ _ T.l_column G_l_column (hr.mono (by decide)) (by rfl) (@pa_cons _ _ _ _ _ (@pv _ 0 _ _ (by rfl) (by first | exact Or.inl rfl | exact Or.inr (Or.inl rfl) | exact Or.inr (Or.inr rfl)) (by decide) (by decide)) (@pa_cons _ _ _ _ _ (@pv _ 3 _ _ (by rfl) (by first | exact Or.inl rfl | exact Or.inr (Or.inl rfl) | exact Or.inr (Or.inr rfl)) (by decide) (by decide)) (@pa_nil _) (by rfl)) (by rfl)) (by decide) (by rfl) (by rfl)) (@pv _ 2 _ _ (by rfl) (by first | exact Or.inl rfl | exact Or.inr (Or.inl rfl) | exact Or.inr (Or.inr rfl)) (by decide) (by decide)) (@nomark _ _ (by decide) (by decide))))) (fun _ _ _ _ => (@pv _ 0 _ _ (by rfl) (by first | exact Or.inl rfl | exact Or.inr (Or.inl rfl) | exact Or.inr (Or.inr rfl)) (by decide) (by decide))) (by intro _; rfl)))), ?_⟩
  try dsimp only [cxOf]
  refine ⟨_, inferInstance, ?_⟩
  rintro vs M q ⟨st, s, c, rfl, hl, s0, s1, k⟩
  (try simp only [↓HH, ↓H2, GG, Nat.reduceAdd, Nat.reduceSub, List.reduceReplicate, tyW, capρ, patW]); repeat (with_reducible refine hold_i ?_; try simp only [↓HH, ↓H2, GG, Nat.reduceAdd, Nat.reduceSub, List.reduceReplicate, tyW, capρ, patW])
  refine comp_map (fun z : Int × Int => decide (colI s z.1 = c)) (fun z : Int × Int => wi z.1) (big (by omega)) (fun _ _ => trivial) ?_ fun t ht => ?_
  · intro z hz M3 N s3 hN
    (try simp only [↓HH, ↓H2, GG, Nat.reduceAdd, Nat.reduceSub, List.reduceReplicate, tyW, capρ, pairW]); repeat (with_reducible refine hold_i ?_; try simp only [↓HH, ↓H2, GG, Nat.reduceAdd, Nat.reduceSub, List.reduceReplicate, tyW, capρ, pairW])
    refine ⟨z.1, s, rfl, s0, s1, ?_⟩
    (try simp only [↓HH, ↓H2, GG, Nat.reduceAdd, Nat.reduceSub, List.reduceReplicate, tyW, capρ]); repeat (with_reducible refine hold_i ?_; try simp only [↓HH, ↓H2, GG, Nat.reduceAdd, Nat.reduceSub, List.reduceReplicate, tyW, capρ])
    refine iteK_d (fun h => ?_) fun h => ?_
    · (try simp only [↓HH, ↓H2, GG, Nat.reduceAdd, Nat.reduceSub, List.reduceReplicate, tyW, capρ]); repeat (with_reducible refine hold_i ?_; try simp only [↓HH, ↓H2, GG, Nat.reduceAdd, Nat.reduceSub, List.reduceReplicate, tyW, capρ])
      simpa only [h, decide_true, if_true] using hN
    · (try simp only [↓HH, ↓H2, GG, Nat.reduceAdd, Nat.reduceSub, List.reduceReplicate, tyW, capρ]); repeat (with_reducible refine hold_i ?_; try simp only [↓HH, ↓H2, GG, Nat.reduceAdd, Nat.reduceSub, List.reduceReplicate, tyW, capρ])
      simpa only [h, decide_false, Bool.false_eq_true, if_false] using hN
  have e1 : (st.filter fun z => decide (colI s z.1 = c)).map (fun z => wi z.1) = (cspots s st c).map wi := by
    unfold cspots plc; rw [List.filter_map, List.map_map]; rfl
  rw [e1]
  (try simp only [↓HH, ↓H2, GG, Nat.reduceAdd, Nat.reduceSub, List.reduceReplicate, tyW, capρ]); repeat (with_reducible refine hold_i ?_; try simp only [↓HH, ↓H2, GG, Nat.reduceAdd, Nat.reduceSub, List.reduceReplicate, tyW, capρ])
  exact exM (k t ht)
theorem ok_l_size (T : Txt K mg A) : FnOk P w K mg base CX0 3 A.f_l_size A.d_l_size ["_law_stride", "_law_stair"] (spW K pSize) := by
  have G_l_first := ok_l_first (P := P) (w := w) (base := base) T
  have G_l_spots := ok_l_spots (P := P) (w := w) (base := base) T
  refine okS T.l_size.fn sc_l_size (by rintro vs M q ⟨st, s, rfl, _⟩; rfl) fun cdv A' outer s H E hr => ?_
  have nd := sc_l_size.nd
  refine ⟨_, (@pss_cons _ _ _ _ _ (@ps_set _ _ (2) _ _ _ _ nd rfl (by first | exact Or.inl rfl | exact Or.inr rfl) (@pe_callF _ _ _ _ _ _ _ _ _ _ _ _ _ T.l_spots G_l_spots (hr.mono (by decide)) (by rfl) (@pa_cons _ _ _ _ _ (@pv _ 0 _ _ (by rfl) (by first | exact Or.inl rfl | exact Or.inr (Or.inl rfl) | exact Or.inr (Or.inr rfl)) (by decide) (by decide)) (@pa_cons _ _ _ _ _ (@pv _ 1 _ _ (by rfl) (by first | exact Or.inl rfl | exact Or.inr (Or.inl rfl) | exact Or.inr (Or.inr rfl)) (by decide) (by decide)) (@pa_cons _ _ _ _ _ (@pe_callF _ _ _ _ _ _ _ _ _ _ _ _ _ T.l_first G_l_first (hr.mono (by decide)) (by rfl) (@pa_cons _ _ _ _ _ (@pv _ 0 _ _ (by rfl) (by first | exact Or.inl rfl | exact Or.inr (Or.inl rfl) | exact Or.inr (Or.inr rfl)) (by decide) (by decide)) (@pa_cons _ _ _ _ _ (@pv _ 1 _ _ (by rfl) (by first | exact Or.inl rfl | exact Or.inr (Or.inl rfl) | exact Or.inr (Or.inr rfl)) (by decide) (by decide)) (@pa_nil _) (by rfl)) (by rfl)) (by decide) (by rfl) (by rfl)) (@pa_nil _) (by rfl)) (by rfl)) (by rfl)) (by decide) (by rfl) (by rfl)) (by rfl) (by first | exact .inl rfl | exact .inr rfl | assumption)) (@pss_one _ _ _ (@ps_ret _ _ _ _ (@pe_op _ _ _ _ _ _ _ _ (@op_fdiv _) (@pe_op _ _ _ _ _ _ _ _ (@op_sub _) (@pe_ix _ _ _ _ _ _ _ (@ix_list _) (@pv _ 2 _ _ (by rfl) (by first | exact Or.inl rfl | exact Or.inr (Or.inl rfl) | exact Or.inr (Or.inr rfl)) (by decide) (by decide)) (@pe_un _ _ _ _ _ _ (@un_neg _) (@pe_int _ _ _ _)) (fun _ _ => (@rfl _ _))) (@pe_ix _ _ _ _ _ _ _ (@ix_list _) (@pv _ 2 _ _ (by rfl) (by first | exact Or.inl rfl | exact Or.inr (Or.inl rfl) | exact Or.inr (Or.inr rfl)) (by decide) (by decide)) (@pe_int _ _ _ _) (fun _ _ => (@rfl _ _)))) (@pe_callB _ _ _ _ _ _ _ _ _ (@call_max2W _ rfl) (by rfl) T.b_max Boot.«max» (@pa_cons _ _ _ _ _ (@pe_int _ _ _ _) (@pa_cons _ _ _ _ _ (@pv _ 0 _ _ (by rfl) (by first | exact Or.inl rfl | exact Or.inr (Or.inl rfl) | exact Or.inr (Or.inr rfl)) (by decide) (by decide)) (@pa_nil _) (by rfl)) (by rfl)) (by decide) (by decide) (by rfl) (by rfl)))))), ?_⟩
  try dsimp only [cxOf]
  refine ⟨_, inferInstance, ?_⟩
  rintro vs M q ⟨st, s, rfl, hne, hl, s0, s1, k⟩
  (try simp only [↓HH, ↓H2, GG, Nat.reduceAdd, Nat.reduceSub, List.reduceReplicate, tyW, capρ]); repeat (with_reducible refine hold_i ?_; try simp only [↓HH, ↓H2, GG, Nat.reduceAdd, Nat.reduceSub, List.reduceReplicate, tyW, capρ])
  refine ⟨st, s, rfl, hne, hl, s0, s1, ?_⟩
  (try simp only [↓HH, ↓H2, GG, Nat.reduceAdd, Nat.reduceSub, List.reduceReplicate, tyW, capρ]); repeat (with_reducible refine hold_i ?_; try simp only [↓HH, ↓H2, GG, Nat.reduceAdd, Nat.reduceSub, List.reduceReplicate, tyW, capρ])
  refine ⟨st, s, fcol s st, rfl, hl, s0, s1, fun t ht => ?_⟩
  have hpn : (plc st).map (colI s) ≠ [] := by unfold plc; simpa using hne
  have hn : cspots s st (fcol s st) ≠ [] := by
    obtain ⟨x, hx, e⟩ := List.mem_map.mp (least_is hpn).1
    have : x ∈ cspots s st (fcol s st) := List.mem_filter.mpr ⟨hx, decide_eq_true e⟩
    intro e2; rw [e2] at this; cases this
  have h1 : atI ((cspots s st (fcol s st)).map wi) (-1) = some (wi ((cspots s st (fcol s st)).getLastD 0)) := atI_lastW hn
  have h0 : atI ((cspots s st (fcol s st)).map wi) 0 = some (wi ((cspots s st (fcol s st)).headD 0)) := by
    cases e : cspots s st (fcol s st) with
    | nil => exact absurd e hn
    | cons a r => exact atI_0
  have cd : ∀ x, CDiv x (if s > 1 then s else 1) = True := fun x => by simp only [CDiv]; split <;> simp <;> omega
  (try simp only [↓HH, ↓H2, GG, Nat.reduceAdd, Nat.reduceSub, List.reduceReplicate, tyW, capρ, um_same, h1, h0, cd]); repeat (with_reducible refine hold_i ?_; try simp only [↓HH, ↓H2, GG, Nat.reduceAdd, Nat.reduceSub, List.reduceReplicate, tyW, capρ, um_same, h1, h0, cd])
  exact ⟨M, sm_um ht, k⟩
theorem ok_l_lies_low (T : Txt K mg A) : FnOk P w K mg base CX0 4 A.f_l_lies_low A.d_l_lies_low ["_law_stride", "_law_stairs", "_law_pattern_here"] (spW K pLies) := by
  have G_l_first := ok_l_first (P := P) (w := w) (base := base) T
  have G_l_spots := ok_l_spots (P := P) (w := w) (base := base) T
  have G_l_size := ok_l_size (P := P) (w := w) (base := base) T
  refine okS T.l_lies_low.fn sc_l_lies_low (by rintro vs M q ⟨sts, pat, s, rfl, _⟩; rfl) fun cdv A' outer s H E hr => ?_
  have nd := sc_l_lies_low.nd
  refine ⟨_, (@pss_cons _ _ _ _ _ (@ps_for _ _ _ _ _ _ _ _ PassesOwn.never rfl (@pi_tup _ _ _ _ (@pv _ 1 _ _ (by rfl) (by first | exact Or.inl rfl | exact Or.inr (Or.inl rfl) | exact Or.inr (Or.inr rfl)) (by decide) (by decide))) (@pg_name _ _ (3) _ nd rfl (by first | exact Or.inl rfl | exact Or.inr rfl) (by first | exact .inl rfl | exact .inr rfl | assumption)) (@pss_cons _ _ _ _ _ (@ps_set _ _ (4) _ _ _ _ nd rfl (by first | exact Or.inl rfl | exact Or.inr rfl) (@pe_callF _ _ _ _ _ _ _ _ _ _ _ _ _ T.l_first G_l_first (hr.mono (by decide)) (by rfl) (@pa_cons _ _ _ _ _ (@pv _ 0 _ _ (by rfl) (by first | exact Or.inl rfl | exact Or.inr (Or.inl rfl) | exact Or.inr (Or.inr rfl)) (by decide) (by decide)) (@pa_cons _ _ _ _ _ (@pv _ 3 _ _ (by rfl) (by first | exact Or.inl rfl | exact Or.inr (Or.inl rfl) | exact Or.inr (Or.inr rfl)) (by decide) (by decide)) (@pa_nil _) (by rfl)) (by rfl)) (by decide) (by rfl) (by rfl)) (by rfl) (by first | exact .inl rfl | exact .inr rfl | assumption)) (@pss_cons _ _ _ _ _ (@ps_set _ _ (5) _ _ _ _ nd rfl (by first | exact Or.inl rfl | exact Or.inr rfl) (@pe_callF _ _ _ _ _ _ _ _ _ _ _ _ _ T.l_size G_l_size (hr.mono (by decide)) (by rfl) (@pa_cons _ _ _ _ _ (@pv _ 0 _ _ (by rfl) (by first | exact Or.inl rfl | exact Or.inr (Or.inl rfl) | exact Or.inr (Or.inr rfl)) (by decide) (by decide)) (@pa_cons _ _ _ _ _ (@pv _ 3 _ _ (by rfl) (by first | exact Or.inl rfl | exact Or.inr (Or.inl rfl) | exact Or.inr (Or.inr rfl)) (by decide) (by decide)) (@pa_nil _) (by rfl)) (by rfl)) (by decide) (by rfl) (by rfl)) (by rfl) (by first | exact .inl rfl | exact .inr rfl | assumption)) (@pss_one _ _ _ (@ps_for _ _ _ _ _ _ _ _ PassesOwn.never rfl (@pi_list _ _ _ _ (@pe_callF _ _ _ _ _ _ _ _ _ _ _ _ _ T.l_spots G_l_spots (hr.mono (by decide)) (by rfl) (@pa_cons _ _ _ _ _ (@pv _ 0 _ _ (by rfl) (by first | exact Or.inl rfl | exact Or.inr (Or.inl rfl) | exact Or.inr (Or.inr rfl)) (by decide) (by decide)) (@pa_cons _ _ _ _ _ (@pv _ 2 _ _ (by rfl) (by first | exact Or.inl rfl | exact Or.inr (Or.inl rfl) | exact Or.inr (Or.inr rfl)) (by decide) (by decide)) (@pa_cons _ _ _ _ _ (@pv _ 4 _ _ (by rfl) (by first | exact Or.inl rfl | exact Or.inr (Or.inl rfl) | exact Or.inr (Or.inr rfl)) (by decide) (by decide)) (@pa_nil _) (by rfl)) (by rfl)) (by rfl)) (by decide) (by rfl) (by rfl))) (@pg_name _ _ (6) _ nd rfl (by first | exact Or.inl rfl | exact Or.inr rfl) (by first | exact .inl rfl | exact .inr rfl | assumption)) (@pss_one _ _ _ (@ps_if _ _ _ _ _ _ _ _ (@pw_or _ _ _ _ _ _ _ (@pt_cmpR _ _ _ _ _ _ _ _ (@op_lt _) (@pv _ 6 _ _ (by rfl) (by first | exact Or.inl rfl | exact Or.inr (Or.inl rfl) | exact Or.inr (Or.inr rfl)) (by decide) (by decide)) (@pv _ 4 _ _ (by rfl) (by first | exact Or.inl rfl | exact Or.inr (Or.inl rfl) | exact Or.inr (Or.inr rfl)) (by decide) (by decide)) (@nomark _ _ (by decide) (by decide))) (@pw_or1 _ _ _ _ (@pt_cmpR _ _ _ _ _ _ _ _ (@op_ge _) (@pv _ 6 _ _ (by rfl) (by first | exact Or.inl rfl | exact Or.inr (Or.inl rfl) | exact Or.inr (Or.inr rfl)) (by decide) (by decide)) (@pe_op _ _ _ _ _ _ _ _ (@op_add _) (@pv _ 4 _ _ (by rfl) (by first | exact Or.inl rfl | exact Or.inr (Or.inl rfl) | exact Or.inr (Or.inr rfl)) (by decide) (by decide)) (@pe_op _ _ _ _ _ _ _ _ (@op_mul _) (@pv _ 5 _ _ (by rfl) (by first | exact Or.inl rfl | exact Or.inr (Or.inl rfl) | exact Or.inr (Or.inr rfl)) (by decide) (by decide)) (@pe_callB _ _ _ _ _ _ _ _ _ (@call_max2W _ rfl) (by rfl) T.b_max Boot.«max» (@pa_cons _ _ _ _ _ (@pe_int _ _ _ _) (@pa_cons _ _ _ _ _ (@pv _ 0 _ _ (by rfl) (by first | exact Or.inl rfl | exact Or.inr (Or.inl rfl) | exact Or.inr (Or.inr rfl)) (by decide) (by decide)) (@pa_nil _) (by rfl)) (by rfl)) (by decide) (by decide) (by rfl) (by rfl)))) (@nomark _ _ (by decide) (by decide))))).pt (@pss_one _ _ _ (@ps_ret _ _ _ _ (@pe_bl _ _ _ _))) (@pss_nil _))) (by intro _; rfl))))) (by intro _; rfl)) (@pss_one _ _ _ (@ps_ret _ _ _ _ (@pe_bl _ _ _ _)))), ?_⟩
  try dsimp only [cxOf]
  refine ⟨_, inferInstance, ?_⟩
  rintro vs M q ⟨sts, pat, s, rfl, hst, hpl, s0, s1, k⟩
  (try simp only [↓HH, ↓H2, GG, Nat.reduceAdd, Nat.reduceSub, List.reduceReplicate, tyW, capρ]); repeat (with_reducible refine hold_i ?_; try simp only [↓HH, ↓H2, GG, Nat.reduceAdd, Nat.reduceSub, List.reduceReplicate, tyW, capρ])
  refine for_i (fun i ρ M' => ∃ o1 o2 o3 o4 : Option W, ρ = [some (wi s), some (.tup (sts.map patW)), some (patW pat), o1, o2, o3, o4] ∧ Sm M M' ∧ lLow s (sts.take i) pat = true) ⟨none, none, none, none, rfl, Sm.refl M, rfl⟩ (fun _ _ _ _ _ => trivial) ?_ ?_
  · rintro i x ρ M' hx ⟨o1, o2, o3, o4, rfl, sM, hlo⟩ N hN
    obtain ⟨st, hz, rfl⟩ : ∃ st, sts[i]? = some st ∧ x = patW st := by
      rw [List.getElem?_map] at hx
      cases e : sts[i]? with
      | none => rw [e] at hx; cases hx
      | some q => rw [e] at hx; cases hx; exact ⟨q, rfl, rfl⟩
    obtain ⟨h1, h2⟩ := hst st (List.mem_of_getElem? hz)
    (try simp only [↓HH, ↓H2, GG, Nat.reduceAdd, Nat.reduceSub, List.reduceReplicate, tyW, capρ]); repeat (with_reducible refine hold_i ?_; try simp only [↓HH, ↓H2, GG, Nat.reduceAdd, Nat.reduceSub, List.reduceReplicate, tyW, capρ])
    refine ⟨st, s, rfl, h1, h2, s0, s1, ?_⟩
    (try simp only [↓HH, ↓H2, GG, Nat.reduceAdd, Nat.reduceSub, List.reduceReplicate, tyW, capρ]); repeat (with_reducible refine hold_i ?_; try simp only [↓HH, ↓H2, GG, Nat.reduceAdd, Nat.reduceSub, List.reduceReplicate, tyW, capρ])
    refine ⟨st, s, rfl, h1, h2, s0, s1, ?_⟩
    (try simp only [↓HH, ↓H2, GG, Nat.reduceAdd, Nat.reduceSub, List.reduceReplicate, tyW, capρ]); repeat (with_reducible refine hold_i ?_; try simp only [↓HH, ↓H2, GG, Nat.reduceAdd, Nat.reduceSub, List.reduceReplicate, tyW, capρ])
    refine ⟨pat, s, fcol s st, rfl, hpl, s0, s1, fun t ht => ?_⟩
    (try simp only [↓HH, ↓H2, GG, Nat.reduceAdd, Nat.reduceSub, List.reduceReplicate, tyW, capρ, um_same]); repeat (with_reducible refine hold_i ?_; try simp only [↓HH, ↓H2, GG, Nat.reduceAdd, Nat.reduceSub, List.reduceReplicate, tyW, capρ, um_same])
    have cm : ∀ x, CMul x (if s > 1 then s else 1) = True := fun x => by simp only [CMul]; split <;> simp <;> omega
    refine for_i (fun j ρ M2 => ∃ o4 : Option W, ρ = [some (wi s), some (.tup (sts.map patW)), some (patW pat), some (patW st), some (wi (fcol s st)), some (wi (lsize s st)), o4] ∧ M2 = um M' t (.lst ((cspots s pat (fcol s st)).map wi)) ∧ ((cspots s pat (fcol s st)).take j).all (fun x => decide (fcol s st ≤ x ∧ x < fcol s st + lsize s st * (if s > 1 then s else 1))) = true) ⟨_, rfl, rfl, rfl⟩ ?_ ?_ ?_
    · rintro j ρ M2 _ ⟨o4, rfl, rfl, _⟩
      exact um_same
    · rintro j x ρ M2 hx ⟨o4, rfl, rfl, hj⟩ N2 hN2
      obtain ⟨y, hy, rfl⟩ := ints_at' hx
      have bad : ¬ (fcol s st ≤ y ∧ y < fcol s st + lsize s st * (if s > 1 then s else 1)) → lLow s sts pat = false := fun hb => by
        have hm := List.mem_of_getElem? hz
        have hy' := List.mem_of_getElem? hy
        unfold lLow
        rw [List.all_eq_false]
        refine ⟨st, hm, ?_⟩
        intro hall
        have := List.all_eq_true.mp hall y hy'
        exact hb (by simpa using this)
      (try simp only [↓HH, ↓H2, GG, Nat.reduceAdd, Nat.reduceSub, List.reduceReplicate, tyW, capρ, cm]); repeat (with_reducible refine hold_i ?_; try simp only [↓HH, ↓H2, GG, Nat.reduceAdd, Nat.reduceSub, List.reduceReplicate, tyW, capρ, cm])
      refine iteK_d (fun h => ?_) fun h => ?_
      · rw [bad (by omega)] at k
        (try simp only [↓HH, ↓H2, GG, Nat.reduceAdd, Nat.reduceSub, List.reduceReplicate, tyW, capρ]); repeat (with_reducible refine hold_i ?_; try simp only [↓HH, ↓H2, GG, Nat.reduceAdd, Nat.reduceSub, List.reduceReplicate, tyW, capρ])
        exact ⟨M, sM.trans (sm_um ht), k⟩
      · (try simp only [↓HH, ↓H2, GG, Nat.reduceAdd, Nat.reduceSub, List.reduceReplicate, tyW, capρ, cm]); repeat (with_reducible refine hold_i ?_; try simp only [↓HH, ↓H2, GG, Nat.reduceAdd, Nat.reduceSub, List.reduceReplicate, tyW, capρ, cm])
        refine iteK_d (fun h' => ?_) fun h' => ?_
        · rw [bad (by omega)] at k
          (try simp only [↓HH, ↓H2, GG, Nat.reduceAdd, Nat.reduceSub, List.reduceReplicate, tyW, capρ]); repeat (with_reducible refine hold_i ?_; try simp only [↓HH, ↓H2, GG, Nat.reduceAdd, Nat.reduceSub, List.reduceReplicate, tyW, capρ])
          exact ⟨M, sM.trans (sm_um ht), k⟩
        · refine hN2 _ _ ⟨_, rfl, rfl, ?_⟩
          rw [List.take_add_one, hy, List.all_append, hj]
          show (true && (decide (_ ∧ _) && true)) = true
          rw [decide_eq_true (by omega)]; rfl
    · rintro ρ M2 ⟨o4, rfl, rfl, hj⟩
      rw [List.length_map, List.take_length] at hj
      refine hN _ _ ⟨_, _, _, _, rfl, sM.trans (sm_um ht), ?_⟩
      rw [List.take_add_one, hz]
      show lLow s (sts.take i ++ [st]) pat = true
      unfold lLow at hlo ⊢
      rw [List.all_append, hlo, List.all_cons, hj]; rfl
  · rintro ρ M' ⟨o1, o2, o3, o4, rfl, sM, hlo⟩
    rw [List.length_map, List.take_length] at hlo
    (try simp only [↓HH, ↓H2, GG, Nat.reduceAdd, Nat.reduceSub, List.reduceReplicate, tyW, capρ]); repeat (with_reducible refine hold_i ?_; try simp only [↓HH, ↓H2, GG, Nat.reduceAdd, Nat.reduceSub, List.reduceReplicate, tyW, capρ])
    rw [hlo] at k
    exact ⟨M, sM, k⟩
end
end K18
namespace K18
open PySem L2 WL WP WQ PyProof.Rows
section
variable {P : Program} {w : World} {K : PySem.W.Frag} {mg : Str → Option Value} {base : Heap} {A : Adr}
theorem ok_l_draw_stair (T : Txt K mg A) : FnOk P w K mg base CX0 2 A.f_l_draw_stair A.d_l_draw_stair ["_law_draw", "_law_p_here", "_law_stride", "_law_at"] (spW K pDSt) := by
  have G_l_take := ok_l_take (P := P) (w := w) (base := base) T
  have G_l_tidy := ok_l_tidy (P := P) (w := w) (base := base) T
  have G_l_column := ok_l_column (P := P) (w := w) (base := base) T
  refine okS T.l_draw_stair.fn sc_l_draw_stair (by rintro vs M q ⟨d, l, p, s, c, rfl, _⟩; rfl) fun cdv A' outer s H E hr => ?_
  have nd := sc_l_draw_stair.nd
  refine ⟨_, (@pss_cons _ _ _ _ _ (@ps_set _ _ (4) _ _ _ _ nd rfl (by first | exact Or.inl rfl | exact Or.inr rfl) (@pe_lst _ _ _ _ (@pa_cons _ _ _ _ _ (@pe_tup _ _ _ _ _ (@pa_cons _ _ _ _ _ (@pv _ 3 _ _ (by rfl) (by first | exact Or.inl rfl | exact Or.inr (Or.inl rfl) | exact Or.inr (Or.inr rfl)) (by decide) (by decide)) (@pa_cons _ _ _ _ _ (@pe_int _ _ _ _) (@pa_nil _) (by rfl)) (by rfl))) (@pa_nil _) (by rfl))) (by rfl) (by first | exact .inl rfl | exact .inr rfl | assumption)) (@pss_cons _ _ _ _ _ (@ps_set _ _ (5) _ _ _ _ nd rfl (by first | exact Or.inl rfl | exact Or.inr rfl) (@pe_op _ _ _ _ _ _ _ _ (@op_mul _) (@pe_callF _ _ _ _ _ _ _ _ _ _ _ _ _ T.l_take G_l_take (hr.mono (by decide)) (by rfl) (@pa_cons _ _ _ _ _ (@pv _ 0 _ _ (by rfl) (by first | exact Or.inl rfl | exact Or.inr (Or.inl rfl) | exact Or.inr (Or.inr rfl)) (by decide) (by decide)) (@pa_cons _ _ _ _ _ (@pe_ix _ _ _ _ _ _ _ (@ix_tup _) (@pe_tup _ _ _ _ _ (@pa_cons _ _ _ _ _ (@pe_int _ _ _ _) (@pa_cons _ _ _ _ _ (@pe_int _ _ _ _) (@pa_cons _ _ _ _ _ (@pe_int _ _ _ _) (@pa_cons _ _ _ _ _ (@pe_int _ _ _ _) (@pa_cons _ _ _ _ _ (@pe_int _ _ _ _) (@pa_nil _) (by rfl)) (by rfl)) (by rfl)) (by rfl)) (by rfl))) (@pe_callF _ _ _ _ _ _ _ _ _ _ _ _ _ T.l_take G_l_take (hr.mono (by decide)) (by rfl) (@pa_cons _ _ _ _ _ (@pv _ 0 _ _ (by rfl) (by first | exact Or.inl rfl | exact Or.inr (Or.inl rfl) | exact Or.inr (Or.inr rfl)) (by decide) (by decide)) (@pa_cons _ _ _ _ _ (@pe_int _ _ _ _) (@pa_nil _) (by rfl)) (by rfl)) (by decide) (by rfl) (by rfl)) (fun _ _ => (@rfl _ _))) (@pa_nil _) (by rfl)) (by rfl)) (by decide) (by rfl) (by rfl)) (@pe_callTy _ _ _ _ _ _ _ _ _ (@call_intW _) (by rfl) T.b_int Boot.«int» (@pa_cons _ _ _ _ _ (@pe_cmpR _ _ _ _ _ _ _ _ (@op_gt _) (@pv _ 2 _ _ (by rfl) (by first | exact Or.inl rfl | exact Or.inr (Or.inl rfl) | exact Or.inr (Or.inr rfl)) (by decide) (by decide)) (@pe_int _ _ _ _) (@nomark _ _ (by decide) (by decide))) (@pa_nil _) (by rfl)) (by decide) (by decide) (by rfl) (by rfl))) (by rfl) (by first | exact .inl rfl | exact .inr rfl | assumption)) (@pss_cons _ _ _ _ _ (@ps_if _ _ _ _ _ _ _ _ (@pt_cmpR _ _ _ _ _ _ _ _ (@op_gt _) (@pv _ 2 _ _ (by rfl) (by first | exact Or.inl rfl | exact Or.inr (Or.inl rfl) | exact Or.inr (Or.inr rfl)) (by decide) (by decide)) (@pe_int _ _ _ _) (@nomark _ _ (by decide) (by decide))) (@pss_one _ _ _ (@ps_set _ _ (5) _ _ _ _ nd rfl (by first | exact Or.inl rfl | exact Or.inr rfl) (@pe_op _ _ _ _ _ _ _ _ (@op_mod _) (@pv _ 5 _ _ (by rfl) (by first | exact Or.inl rfl | exact Or.inr (Or.inl rfl) | exact Or.inr (Or.inr rfl)) (by decide) (by decide)) (@pe_int _ _ _ _)) (by rfl) (by first | exact .inl rfl | exact .inr rfl | assumption))) (@pss_nil _)) (@pss_cons _ _ _ _ _ (@ps_if _ _ _ _ _ _ _ _ (@pt_cmpR _ _ _ _ _ _ _ _ (@op_gt _) (@pv _ 5 _ _ (by rfl) (by first | exact Or.inl rfl | exact Or.inr (Or.inl rfl) | exact Or.inr (Or.inr rfl)) (by decide) (by decide)) (@pe_int _ _ _ _) (@nomark _ _ (by decide) (by decide))) (@pss_cons _ _ _ _ _ (@ps_set _ _ (4) _ _ _ _ nd rfl (by first | exact Or.inl rfl | exact Or.inr rfl) (@pe_lst _ _ _ _ (@pa_cons _ _ _ _ _ (@pe_tup _ _ _ _ _ (@pa_cons _ _ _ _ _ (@pv _ 3 _ _ (by rfl) (by first | exact Or.inl rfl | exact Or.inr (Or.inl rfl) | exact Or.inr (Or.inr rfl)) (by decide) (by decide)) (@pa_cons _ _ _ _ _ (@pe_op _ _ _ _ _ _ _ _ (@op_add _) (@pe_int _ _ _ _) (@pe_callF _ _ _ _ _ _ _ _ _ _ _ _ _ T.l_take G_l_take (hr.mono (by decide)) (by rfl) (@pa_cons _ _ _ _ _ (@pv _ 0 _ _ (by rfl) (by first | exact Or.inl rfl | exact Or.inr (Or.inl rfl) | exact Or.inr (Or.inr rfl)) (by decide) (by decide)) (@pa_cons _ _ _ _ _ (@pe_op _ _ _ _ _ _ _ _ (@op_sub _) (@pv _ 1 _ _ (by rfl) (by first | exact Or.inl rfl | exact Or.inr (Or.inl rfl) | exact Or.inr (Or.inr rfl)) (by decide) (by decide)) (@pe_int _ _ _ _)) (@pa_nil _) (by rfl)) (by rfl)) (by decide) (by rfl) (by rfl))) (@pa_nil _) (by rfl)) (by rfl))) (@pa_cons _ _ _ _ _ (@pe_tup _ _ _ _ _ (@pa_cons _ _ _ _ _ (@pe_op _ _ _ _ _ _ _ _ (@op_add _) (@pv _ 3 _ _ (by rfl) (by first | exact Or.inl rfl | exact Or.inr (Or.inl rfl) | exact Or.inr (Or.inr rfl)) (by decide) (by decide)) (@pe_op _ _ _ _ _ _ _ _ (@op_mul _) (@pv _ 5 _ _ (by rfl) (by first | exact Or.inl rfl | exact Or.inr (Or.inl rfl) | exact Or.inr (Or.inr rfl)) (by decide) (by decide)) (@pv _ 2 _ _ (by rfl) (by first | exact Or.inl rfl | exact Or.inr (Or.inl rfl) | exact Or.inr (Or.inr rfl)) (by decide) (by decide)))) (@pa_cons _ _ _ _ _ (@pe_int _ _ _ _) (@pa_nil _) (by rfl)) (by rfl))) (@pa_nil _) (by rfl)) (by rfl))) (by rfl) (by first | exact .inl rfl | exact .inr rfl | assumption)) (@pss_one _ _ _ (@ps_expr _ _ _ _ (@pe_bm _ _ _ _ _ _ _ _ _ _ _ _ PySem.F.plainAttrs_list PySem.F.slot_list_extend PySem.F.type_list_extend (@mt_extend _) (@pv _ 4 _ _ (by rfl) (by first | exact Or.inl rfl | exact Or.inr (Or.inl rfl) | exact Or.inr (Or.inr rfl)) (by decide) (by decide)) (@pa_cons _ _ _ _ _ (@pe_comp _ _ _ _ _ _ _ _ _ _ _ _ _ _ rfl (CScope.of (sc := defScope s_l_draw_stair) (N := ["_law_draw", "_law_p_here", "_law_stride", "_law_at", "_law_pairs", "_law_many", "_law_k", "_law_place"]) (own := ["_law_k"]) (fr := [3, 0, 1, 2]) (N' := ["_law_k", "_law_at", "_law_draw", "_law_p_here", "_law_stride"]) rfl rfl rfl (by decide +kernel) rfl (by decide +kernel) (by decide +kernel) (by decide +kernel) (by decide +kernel) (by decide +kernel)) (@pi_range2 _ _ _ _ _ _ _ (by rfl) T.b_range (@pa_cons _ _ _ _ _ (@pe_int _ _ _ _) (@pa_cons _ _ _ _ _ (@pv _ 5 _ _ (by rfl) (by first | exact Or.inl rfl | exact Or.inr (Or.inl rfl) | exact Or.inr (Or.inr rfl)) (by decide) (by decide)) (@pa_nil _) (by rfl)) (by rfl)) (by rfl) (by rfl)) (fun _ _ _ _ => (@pg_name _ _ (0) _ (by show (["_law_k", "_law_at", "_law_draw", "_law_p_here", "_law_stride"] : List Str).Nodup ; decide +kernel) rfl (by first | exact Or.inl rfl | exact Or.inr rfl) (by first | exact .inl rfl | exact .inr rfl | assumption))) capg_name (fun _ _ _ _ => (@pts_nil _)) (fun _ _ _ _ => (@pe_tup _ _ _ _ _ (@pa_cons _ _ _ _ _ (@pe_op _ _ _ _ _ _ _ _ (@op_add _) (@pv _ 1 _ _ (by rfl) (by first | exact Or.inl rfl | exact Or.inr (Or.inl rfl) | exact Or.inr (Or.inr rfl)) (by decide) (by decide)) (@pe_op _ _ _ _ _ _ _ _ (@op_mul _) (@pv _ 0 _ _ (by rfl) (by first | exact Or.inl rfl | exact Or.inr (Or.inl rfl) | exact Or.inr (Or.inr rfl)) (by decide) (by decide)) (@pv _ 4 _ _ (by rfl) (by first | exact Or.inl rfl | exact Or.inr (Or.inl rfl) | exact Or.inr (Or.inr rfl)) (by decide) (by decide)))) (@pa_cons _ _ _ _ _ (@pe_callF _ _ _ _ _ _ _ _ _ _ _ _ _ T.l_take G_l_take (hr.mono (by decide)) (by rfl) (@pa_cons _ _ _ _ _ (@pv _ 2 _ _ (by rfl) (by first | exact Or.inl rfl | exact Or.inr (Or.inl rfl) | exact Or.inr (Or.inr rfl)) (by decide) (by decide)) (@pa_cons _ _ _ _ _ (@pv _ 3 _ _ (by rfl) (by first | exact Or.inl rfl | exact Or.inr (Or.inl rfl) | exact Or.inr (Or.inr rfl)) (by decide) (by decide)) (@pa_nil _) (by rfl)) (by rfl)) (by decide) (by rfl) (by rfl)) (@pa_nil _) (by rfl)) (by rfl)))) (by intro _; rfl)) (@pa_nil _) (by rfl)) (by rfl) (by rfl) (by rfl) (by rfl) (by rfl)) (by rfl)))) (@pss_nil _)) (@pss_cons _ _ _ _ _ (@ps_for _ _ _ _ _ _ _ _ PassesOwn.never rfl (@pi_range1 _ _ _ _ _ _ (by rfl) T.b_range (@pa_cons _ _ _ _ _ (@pe_callF _ _ _ _ _ _ _ _ _ _ _ _ _ T.l_take G_l_take (hr.mono (by decide)) (by rfl) (@pa_cons _ _ _ _ _ (@pv _ 0 _ _ (by rfl) (by first | exact Or.inl rfl | exact Or.inr (Or.inl rfl) | exact Or.inr (Or.inr rfl)) (by decide) (by decide)) (@pa_cons _ _ _ _ _ (@pe_int _ _ _ _) (@pa_nil _) (by rfl)) (by rfl)) (by decide) (by rfl) (by rfl)) (@pa_nil _) (by rfl)) (by rfl)) (@pg_name _ _ (6) _ nd rfl (by first | exact Or.inl rfl | exact Or.inr rfl) (by first | exact .inl rfl | exact .inr rfl | assumption)) (@pss_cons _ _ _ _ _ (@ps_set _ _ (7) _ _ _ _ nd rfl (by first | exact Or.inl rfl | exact Or.inr rfl) (@pe_op _ _ _ _ _ _ _ _ (@op_sub _) (@pe_callF _ _ _ _ _ _ _ _ _ _ _ _ _ T.l_take G_l_take (hr.mono (by decide)) (by rfl) (@pa_cons _ _ _ _ _ (@pv _ 0 _ _ (by rfl) (by first | exact Or.inl rfl | exact Or.inr (Or.inl rfl) | exact Or.inr (Or.inr rfl)) (by decide) (by decide)) (@pa_cons _ _ _ _ _ (@pe_int _ _ _ _) (@pa_nil _) (by rfl)) (by rfl)) (by decide) (by rfl) (by rfl)) (@pe_int _ _ _ _)) (by rfl) (by first | exact .inl rfl | exact .inr rfl | assumption)) (@pss_one _ _ _ (@ps_if _ _ _ _ _ _ _ _ (@pt_cmpR _ _ _ _ _ _ _ _ (@op_gt _) (@pe_callF _ _ _ _ _ _ _ _ _ _ _ _ _ T.l_column G_l_column (hr.mono (by decide)) (by rfl) (@pa_cons _ _ _ _ _ (@pv _ 7 _ _ (by rfl) (by first | exact Or.inl rfl | exact Or.inr (Or.inl rfl) | exact Or.inr (Or.inr rfl)) (by decide) (by decide)) (@pa_cons _ _ _ _ _ (@pv _ 2 _ _ (by rfl) (by first | exact Or.inl rfl | exact Or.inr (Or.inl rfl) | exact Or.inr (Or.inr rfl)) (by decide) (by decide)) (@pa_nil _) (by rfl)) (by rfl)) (by decide) (by rfl) (by rfl)) (@pv _ 3 _ _ (by rfl) (by first | exact Or.inl rfl | exact Or.inr (Or.inl rfl) | exact Or.inr (Or.inr rfl)) (by decide) (by decide)) (@nomark _ _ (by decide) (by decide))) (@pss_one _ _ _ (@ps_expr _ _ _ _ (@pe_bm _ _ _ _ _ _ _ _ _ _ _ _ PySem.F.plainAttrs_list PySem.F.slot_list_append PySem.F.type_list_append (@mt_append _) (@pv _ 4 _ _ (by rfl) (by first | exact Or.inl rfl | exact Or.inr (Or.inl rfl) | exact Or.inr (Or.inr rfl)) (by decide) (by decide)) (@pa_cons _ _ _ _ _ (@pe_tup _ _ _ _ _ (@pa_cons _ _ _ _ _ (@pv _ 7 _ _ (by rfl) (by first | exact Or.inl rfl | exact Or.inr (Or.inl rfl) | exact Or.inr (Or.inr rfl)) (by decide) (by decide)) (@pa_cons _ _ _ _ _ (@pe_op _ _ _ _ _ _ _ _ (@op_add _) (@pe_int _ _ _ _) (@pe_callF _ _ _ _ _ _ _ _ _ _ _ _ _ T.l_take G_l_take (hr.mono (by decide)) (by rfl) (@pa_cons _ _ _ _ _ (@pv _ 0 _ _ (by rfl) (by first | exact Or.inl rfl | exact Or.inr (Or.inl rfl) | exact Or.inr (Or.inr rfl)) (by decide) (by decide)) (@pa_cons _ _ _ _ _ (@pe_op _ _ _ _ _ _ _ _ (@op_sub _) (@pv _ 1 _ _ (by rfl) (by first | exact Or.inl rfl | exact Or.inr (Or.inl rfl) | exact Or.inr (Or.inr rfl)) (by decide) (by decide)) (@pe_int _ _ _ _)) (@pa_nil _) (by rfl)) (by rfl)) (by decide) (by rfl) (by rfl))) (@pa_nil _) (by rfl)) (by rfl))) (@pa_nil _) (by rfl)) (by rfl) (by rfl) (by rfl) (by rfl) (by rfl)) (by rfl))) (@pss_nil _)))) (by intro _; rfl)) (@pss_one _ _ _ (@ps_ret _ _ _ _ (@pe_callF _ _ _ _ _ _ _ _ _ _ _ _ _ T.l_tidy G_l_tidy (hr.mono (by decide)) (by rfl) (@pa_cons _ _ _ _ _ (@pv _ 1 _ _ (by rfl) (by first | exact Or.inl rfl | exact Or.inr (Or.inl rfl) | exact Or.inr (Or.inr rfl)) (by decide) (by decide)) (@pa_cons _ _ _ _ _ (@pv _ 4 _ _ (by rfl) (by first | exact Or.inl rfl | exact Or.inr (Or.inl rfl) | exact Or.inr (Or.inr rfl)) (by decide) (by decide)) (@pa_nil _) (by rfl)) (by rfl)) (by decide) (by rfl) (by rfl))))))))), ?_⟩
  try dsimp only [cxOf]
  refine ⟨_, inferInstance, ?_⟩
  rintro vs M q ⟨d, l, p, s, c, rfl, hD, p2, p7, s0, s8, hc, c0, c1, k⟩
  have p0 : 0 < p := by omega
  (try simp only [↓HH, ↓H2, GG, Nat.reduceAdd, Nat.reduceSub, List.reduceReplicate, tyW, capρ]); repeat (with_reducible refine hold_i ?_; try simp only [↓HH, ↓H2, GG, Nat.reduceAdd, Nat.reduceSub, List.reduceReplicate, tyW, capρ])
  intro a ha
  obtain ⟨nad, nal⟩ := hD.ne ha
  (try simp only [↓HH, ↓H2, GG, Nat.reduceAdd, Nat.reduceSub, List.reduceReplicate, tyW, capρ]); repeat (with_reducible refine hold_i ?_; try simp only [↓HH, ↓H2, GG, Nat.reduceAdd, Nat.reduceSub, List.reduceReplicate, tyW, capρ])
  refine ⟨d, l, 5, rfl, hD.put ha, by decide, by decide, fun r1 M1 _ _ D1 b1 => ?_⟩
  refine ixT_all (fun x => ∃ e : Int, x = wi e ∧ 1 ≤ e ∧ e ≤ 13) (by omega) (by show r1 < ((5 : Nat) : Int); omega) (fun x hx => ?_) ?_
  · simp only [List.mem_cons, List.not_mem_nil, or_false] at hx
    rcases hx with rfl | rfl | rfl | rfl | rfl <;> exact ⟨_, rfl, by decide, by decide⟩
  rintro _ ⟨most, rfl, m0, m1⟩
  (try simp only [↓HH, ↓H2, GG, Nat.reduceAdd, Nat.reduceSub, List.reduceReplicate, tyW, capρ]); repeat (with_reducible refine hold_i ?_; try simp only [↓HH, ↓H2, GG, Nat.reduceAdd, Nat.reduceSub, List.reduceReplicate, tyW, capρ])
  refine ⟨d, l, most, rfl, D1, by omega, by omega, fun m M2 g0 g1 D2 b2 => ?_⟩
  have hM2 : M2 a = some (.lst [pairW (c, 1)]) := by rw [b2 a nad, b1 a nad, um_same]; rfl
  have s2 : SmB d M M2 := fun b o n e => by rw [b2 b n, b1 b n, um_ne (m_ne e ha)]; exact e
  have cm : CMul m (if decide (0 < s) = true then 1 else 0) = True := by simp only [CMul]; split <;> simp
  (try simp only [↓HH, ↓H2, GG, Nat.reduceAdd, Nat.reduceSub, List.reduceReplicate, tyW, capρ]); repeat (with_reducible refine hold_i ?_; try simp only [↓HH, ↓H2, GG, Nat.reduceAdd, Nat.reduceSub, List.reduceReplicate, tyW, capρ])
  refine .inr ⟨_, rfl, ?_⟩
  try simp only [↓HH, ↓H2, GG, Nat.reduceAdd, Nat.reduceSub, List.reduceReplicate, tyW, capρ, cm]
  refine hold_i (if_mid (fun ρ M3 => ∃ m : Int, ρ = [some (wr d), some (wi p), some (wi s), some (wi c), some (wr a), some (wi m), none, none] ∧ M3 = M2 ∧ 0 ≤ m ∧ m ≤ 12 ∧ (0 < m → 0 < s)) ?_ fun N hN => ?_)
  rotate_left
  · (try simp only [↓HH, ↓H2, GG, Nat.reduceAdd, Nat.reduceSub, List.reduceReplicate, tyW, capρ]); repeat (with_reducible refine hold_i ?_; try simp only [↓HH, ↓H2, GG, Nat.reduceAdd, Nat.reduceSub, List.reduceReplicate, tyW, capρ])
    have hm : 0 ≤ m * (if decide (0 < s) = true then 1 else 0) ∧ m * (if decide (0 < s) = true then 1 else 0) ≤ 12 ∧ (0 < m * (if decide (0 < s) = true then 1 else 0) → 0 < s) := by
      by_cases h : 0 < s
      · rw [if_pos (decide_eq_true h), Int.mul_one]; exact ⟨by omega, by omega, fun _ => h⟩
      · rw [if_neg (by simpa using h), Int.mul_zero]; exact ⟨by omega, by omega, by omega⟩
    generalize m * (if decide (0 < s) = true then 1 else 0) = m' at hm
    obtain ⟨hm0, hm1, hm2⟩ := hm
    refine iteK_d (fun h => ?_) fun h => hN _ _ ⟨_, rfl, rfl, hm0, hm1, hm2⟩
    (try simp only [↓HH, ↓H2, GG, Nat.reduceAdd, Nat.reduceSub, List.reduceReplicate, tyW, capρ]); repeat (with_reducible refine hold_i ?_; try simp only [↓HH, ↓H2, GG, Nat.reduceAdd, Nat.reduceSub, List.reduceReplicate, tyW, capρ])
    exact ⟨by decide, hN _ _ ⟨_, rfl, rfl, by omega, by omega, by omega⟩⟩
  clear cm g0 g1 m0 m1
  rintro ρ M3 ⟨m, rfl, rfl, m0, m1, m2⟩
  refine if_mid (fun ρ M3 => ∃ (e : Addr) (ps : Pt), ρ = [some (wr d), some (wi p), some (wi s), some (wi c), some (wr e), some (wi m), none, none] ∧ Dr M3 d l ∧ SmB d M M3 ∧ M e = none ∧ e ≠ d ∧ e ≠ l ∧ M3 e = some (.lst (ps.map pairW)) ∧ ps.length ≤ 20 ∧ Pre s c p ps) ?_ fun N hN => ?_
  rotate_left
  · (try simp only [↓HH, ↓H2, GG, Nat.reduceAdd, Nat.reduceSub, List.reduceReplicate, tyW, capρ]); repeat (with_reducible refine hold_i ?_; try simp only [↓HH, ↓H2, GG, Nat.reduceAdd, Nat.reduceSub, List.reduceReplicate, tyW, capρ])
    refine iteK_d (fun h => ?_) fun h => hN _ _ ⟨a, [(c, 1)], rfl, D2, s2, ha, nad, nal, hM2, by simp, Pre.one (by omega)⟩
    have cm : CMul m s = True := eq_true (.inl ⟨by omega, by omega⟩)
    (try simp only [↓HH, ↓H2, GG, Nat.reduceAdd, Nat.reduceSub, List.reduceReplicate, tyW, capρ]); repeat (with_reducible refine hold_i ?_; try simp only [↓HH, ↓H2, GG, Nat.reduceAdd, Nat.reduceSub, List.reduceReplicate, tyW, capρ])
    refine ⟨d, l, p - 1, rfl, D2, by omega, by omega, fun r M3 r0 r1 D3 b3 => ?_⟩
    (try simp only [↓HH, ↓H2, GG, Nat.reduceAdd, Nat.reduceSub, List.reduceReplicate, tyW, capρ, cm]); repeat (with_reducible refine hold_i ?_; try simp only [↓HH, ↓H2, GG, Nat.reduceAdd, Nat.reduceSub, List.reduceReplicate, tyW, capρ, cm])
    intro e he
    obtain ⟨ned, nel⟩ := D3.ne he
    have heM : M e = none := by
      cases e2 : M e with
      | none => rfl
      | some o => have := s2 e o ned e2; rw [b3 e ned, this] at he; cases he
    (try simp only [↓HH, ↓H2, GG, Nat.reduceAdd, Nat.reduceSub, List.reduceReplicate, tyW, capρ]); repeat (with_reducible refine hold_i ?_; try simp only [↓HH, ↓H2, GG, Nat.reduceAdd, Nat.reduceSub, List.reduceReplicate, tyW, capρ])
    refine ⟨⟨by omega, by omega⟩, comp_i (by rw [range_len]; exact big (by omega)) fun t ht => ?_⟩
    have htM : M t = none := by
      cases e2 : M t with
      | none => rfl
      | some o =>
        exfalso
        have ntd : t ≠ d := ((D3.put he).ne ht).1
        have h2 := ((s2.trans (SmB.nb b3)).um heM (o := .lst [W.tup [wi c, W.v (V.int (1 + r))], W.tup [W.v (V.int (c + m * s)), W.v (V.int 1)]])) t o ntd e2
        rw [ht] at h2; cases h2
    refine ⟨fun i ys M' => ∃ ps : Pt, ys = ps.map pairW ∧ ps.length = i ∧ (∀ z ∈ ps, ∃ k : Int, 1 ≤ k ∧ z.1 = c + k * s) ∧ Dr M' d l ∧ M' t = some (.lst ys) ∧ M' e = some (.lst [pairW (c, 1 + r), pairW (c + m * s, 1)]) ∧ SmB d M M', ⟨[], rfl, rfl, by simp, ?_, um_same, ?_, ?_⟩, ?_, ?_, ?_⟩
    · exact (D3.put he).put ht
    · rw [um_ne (m_ne um_same ht), um_same]; rfl
    · exact ((s2.trans (SmB.nb b3)).um heM).um htM
    · rintro i ys M' hi ⟨ps, rfl, hl, _, _, hM, _⟩
      exact ⟨trivial, hM, by rw [List.length_map]; omega⟩
    · rintro i x ys M' hx ⟨ps, rfl, hl, hk, D5, hM, hMe, s5⟩ N2 hN2
      obtain ⟨hi, rfl⟩ := range_at hx
      obtain ⟨ntd, ntl⟩ := (D3.put he).ne ht
      have nte : t ≠ e := fun z => by rw [z, um_same] at ht; cases ht
      have cm2 : CMul (1 + (i : Int)) s = True := eq_true (.inl ⟨by omega, by omega⟩)
      try simp only [↓HH, ↓H2, GG, Nat.reduceAdd, Nat.reduceSub, List.reduceReplicate, tyW, capρ, cm2]
      refine ⟨d, l, p, rfl, D5, by omega, by omega, fun g M6 g0 g1 D6 b6 => ?_⟩
      try simp only [↓HH, ↓H2, GG, Nat.reduceAdd, Nat.reduceSub, List.reduceReplicate, tyW, capρ]
      refine ⟨by rw [b6 t ntd]; exact hM, hN2 _ _ ⟨ps ++ [(c + (1 + (i : Int)) * s, g)], by rw [List.map_append]; rfl, by simp [hl], fun z hz => ?_, D6.put' ntd ntl, um_same, by rw [um_ne (Ne.symm nte), b6 e ned]; exact hMe, ?_⟩⟩
      · rcases List.mem_append.mp hz with hz | hz
        · exact hk z hz
        · rw [List.mem_singleton.mp hz]; exact ⟨1 + (i : Int), by omega, rfl⟩
      · exact (s5.trans (SmB.nb b6)).um htM
    · rintro ys M' ⟨ps, rfl, hl, hk, D5, hM, hMe, s5⟩
      rw [range_len] at hl
      refine ⟨e, t, _, _, rfl, rfl, hMe, hM, big (by simp; omega), ?_⟩
      exact hN _ _ ⟨e, [(c, 1 + r), (c + m * s, 1)] ++ ps, rfl, D5.put' ned nel, s5.um heM, heM, ned, nel, by rw [um_same, List.map_append]; rfl, by simp; omega, Pre.two r0 (by omega) (m2 h) h hk⟩
  rintro ρ M3 ⟨e, ps, rfl, D3, s3, heM, ned, nel, hM3, hps, hpre⟩
  (try simp only [↓HH, ↓H2, GG, Nat.reduceAdd, Nat.reduceSub, List.reduceReplicate, tyW, capρ]); repeat (with_reducible refine hold_i ?_; try simp only [↓HH, ↓H2, GG, Nat.reduceAdd, Nat.reduceSub, List.reduceReplicate, tyW, capρ])
  refine ⟨d, l, 4, rfl, D3, by decide, by decide, fun n M4 n0 n1 D4 b4 => ?_⟩
  (try simp only [↓HH, ↓H2, GG, Nat.reduceAdd, Nat.reduceSub, List.reduceReplicate, tyW, capρ]); repeat (with_reducible refine hold_i ?_; try simp only [↓HH, ↓H2, GG, Nat.reduceAdd, Nat.reduceSub, List.reduceReplicate, tyW, capρ])
  refine ⟨⟨by omega, by omega⟩, for_i (fun i ρ M5 => ∃ (o1 o2 : Option W) (ps : Pt), ρ = [some (wr d), some (wi p), some (wi s), some (wi c), some (wr e), some (wi m), o1, o2] ∧ Dr M5 d l ∧ SmB d M M5 ∧ M5 e = some (.lst (ps.map pairW)) ∧ ps.length ≤ 20 + i ∧ Pre s c p ps) ⟨none, none, ps, rfl, D4, s3.trans (SmB.nb b4), by rw [b4 e ned]; exact hM3, hps, hpre⟩ (fun _ _ _ _ _ => trivial) ?_ ?_⟩
  · rintro i x ρ M5 hx ⟨o1, o2, ps, rfl, D5, s5, hM5, hps, hpre⟩ N hN
    obtain ⟨hi, rfl⟩ := range_at hx
    (try simp only [↓HH, ↓H2, GG, Nat.reduceAdd, Nat.reduceSub, List.reduceReplicate, tyW, capρ]); repeat (with_reducible refine hold_i ?_; try simp only [↓HH, ↓H2, GG, Nat.reduceAdd, Nat.reduceSub, List.reduceReplicate, tyW, capρ])
    refine ⟨d, l, 19, rfl, D5, by decide, by decide, fun r M6 r0 r1 D6 b6 => ?_⟩
    have h6 : M6 e = some (.lst (ps.map pairW)) := by rw [b6 e ned]; exact hM5
    (try simp only [↓HH, ↓H2, GG, Nat.reduceAdd, Nat.reduceSub, List.reduceReplicate, tyW, capρ]); repeat (with_reducible refine hold_i ?_; try simp only [↓HH, ↓H2, GG, Nat.reduceAdd, Nat.reduceSub, List.reduceReplicate, tyW, capρ])
    refine ⟨r - 9, s, rfl, s0, by omega, ?_⟩
    (try simp only [↓HH, ↓H2, GG, Nat.reduceAdd, Nat.reduceSub, List.reduceReplicate, tyW, capρ]); repeat (with_reducible refine hold_i ?_; try simp only [↓HH, ↓H2, GG, Nat.reduceAdd, Nat.reduceSub, List.reduceReplicate, tyW, capρ])
    refine iteK_d (fun h => ?_) fun h => hN _ _ ⟨_, _, ps, rfl, D6, s5.trans (SmB.nb b6), h6, by omega, hpre⟩
    (try simp only [↓HH, ↓H2, GG, Nat.reduceAdd, Nat.reduceSub, List.reduceReplicate, tyW, capρ, h6]); repeat (with_reducible refine hold_i ?_; try simp only [↓HH, ↓H2, GG, Nat.reduceAdd, Nat.reduceSub, List.reduceReplicate, tyW, capρ, h6])
    refine ⟨d, l, p - 1, rfl, D6, by omega, by omega, fun g M7 g0 g1 D7 b7 => ?_⟩
    have h7 : M7 e = some (.lst (ps.map pairW)) := by rw [b7 e ned]; exact h6
    have hs : ((ps.map pairW).length < sizeLine) = True := by rw [List.length_map]; exact eq_true (bigL (by omega))
    (try simp only [↓HH, ↓H2, GG, Nat.reduceAdd, Nat.reduceSub, List.reduceReplicate, tyW, capρ, h7, hs]); repeat (with_reducible refine hold_i ?_; try simp only [↓HH, ↓H2, GG, Nat.reduceAdd, Nat.reduceSub, List.reduceReplicate, tyW, capρ, h7, hs])
    exact hN _ _ ⟨_, _, ps ++ [(r - 9, 1 + g)], rfl, D7.put' ned nel, ((s5.trans (SmB.nb b6)).trans (SmB.nb b7)).um heM, by rw [um_same, List.map_append]; rfl, by rw [List.length_append, List.length_singleton]; omega, hpre.snoc hc h⟩
  · rintro ρ M5 ⟨o1, o2, ps, rfl, D5, s5, hM5, hps, hpre⟩
    rw [range_len] at hps
    (try simp only [↓HH, ↓H2, GG, Nat.reduceAdd, Nat.reduceSub, List.reduceReplicate, tyW, capρ]); repeat (with_reducible refine hold_i ?_; try simp only [↓HH, ↓H2, GG, Nat.reduceAdd, Nat.reduceSub, List.reduceReplicate, tyW, capρ])
    refine ⟨e, p, ps, rfl, hM5, p0, few, by omega, ?_⟩
    (try simp only [↓HH, ↓H2, GG, Nat.reduceAdd, Nat.reduceSub, List.reduceReplicate, tyW, capρ]); repeat (with_reducible refine hold_i ?_; try simp only [↓HH, ↓H2, GG, Nat.reduceAdd, Nat.reduceSub, List.reduceReplicate, tyW, capρ])
    exact exM (k _ _ (hpre.st p0 hc (by omega)) (nrm_pat p0 ps) D5 s5)
end
end K18
namespace K18
open PySem L2 WL WP WQ PyProof.Rows
section
variable {P : Program} {w : World} {K : PySem.W.Frag} {mg : Str → Option Value} {base : Heap} {A : Adr}
theorem ok_l_draw_stairs (T : Txt K mg A) : FnOk P w K mg base CX0 3 A.f_l_draw_stairs A.d_l_draw_stairs ["_law_draw", "_law_p_here", "_law_stride"] (spW K pDSs) := by
  have G_l_take := ok_l_take (P := P) (w := w) (base := base) T
  have G_l_draw_stair := ok_l_draw_stair (P := P) (w := w) (base := base) T
  refine okS T.l_draw_stairs.fn sc_l_draw_stairs (by rintro vs M q ⟨d, l, p, s, rfl, _⟩; rfl) fun cdv A' outer s H E hr => ?_
  have nd := sc_l_draw_stairs.nd
  refine ⟨_, (@pss_cons _ _ _ _ _ (@ps_set _ _ (3) _ _ _ _ nd rfl (by first | exact Or.inl rfl | exact Or.inr rfl) (@pe_lrange1 _ _ _ _ _ _ _ (by rfl) T.b_list (by rfl) T.b_range rfl (@pa_cons _ _ _ _ _ (@pv _ 2 _ _ (by rfl) (by first | exact Or.inl rfl | exact Or.inr (Or.inl rfl) | exact Or.inr (Or.inr rfl)) (by decide) (by decide)) (@pa_nil _) (by rfl)) (by rfl) (by rfl)) (by rfl) (by first | exact .inl rfl | exact .inr rfl | assumption)) (@pss_cons _ _ _ _ _ (@ps_if _ _ _ _ _ _ _ _ (@pt_cmpR _ _ _ _ _ _ _ _ (@op_eq _) (@pv _ 2 _ _ (by rfl) (by first | exact Or.inl rfl | exact Or.inr (Or.inl rfl) | exact Or.inr (Or.inr rfl)) (by decide) (by decide)) (@pe_int _ _ _ _) (@nomark _ _ (by decide) (by decide))) (@pss_one _ _ _ (@ps_set _ _ (3) _ _ _ _ nd rfl (by first | exact Or.inl rfl | exact Or.inr rfl) (@pe_lrange2 _ _ _ _ _ _ _ _ (by rfl) T.b_list (by rfl) T.b_range rfl (@pa_cons _ _ _ _ _ (@pe_un _ _ _ _ _ _ (@un_neg _) (@pe_int _ _ _ _)) (@pa_cons _ _ _ _ _ (@pe_int _ _ _ _) (@pa_nil _) (by rfl)) (by rfl)) (by rfl) (by rfl) (by rfl)) (by rfl) (by first | exact .inl rfl | exact .inr rfl | assumption))) (@pss_nil _)) (@pss_cons _ _ _ _ _ (@ps_setComp _ (4) _ _ _ _ _ _ _ _ _ _ _ _ _ _ _ _ rfl nd rfl (Or.inl rfl) (CScope.of (sc := defScope s_l_draw_stairs) (N := ["_law_draw", "_law_p_here", "_law_stride", "_law_columns", "_law_kept"]) (own := ["_law_at"]) (fr := [0, 2]) (N' := ["_law_at", "_law_draw", "_law_stride"]) rfl rfl rfl (by decide +kernel) rfl (by decide +kernel) (by decide +kernel) (by decide +kernel) (by decide +kernel) (by decide +kernel)) (@pi_list _ _ _ _ (@pv _ 3 _ _ (by rfl) (by first | exact Or.inl rfl | exact Or.inr (Or.inl rfl) | exact Or.inr (Or.inr rfl)) (by decide) (by decide))) (fun _ _ _ _ => (@pg_name _ _ (0) _ (by show (["_law_at", "_law_draw", "_law_stride"] : List Str).Nodup ; decide +kernel) rfl (by first | exact Or.inl rfl | exact Or.inr rfl) (by first | exact .inl rfl | exact .inr rfl | assumption))) capg_name (fun _ _ _ _ => (@pts_one _ _ _ (@pt_cmpR _ _ _ _ _ _ _ _ (@op_gt _) (@pe_callF _ _ _ _ _ _ _ _ _ _ _ _ _ T.l_take G_l_take (hr.mono (by decide)) (by rfl) (@pa_cons _ _ _ _ _ (@pv _ 1 _ _ (by rfl) (by first | exact Or.inl rfl | exact Or.inr (Or.inl rfl) | exact Or.inr (Or.inr rfl)) (by decide) (by decide)) (@pa_cons _ _ _ _ _ (@pe_int _ _ _ _) (@pa_nil _) (by rfl)) (by rfl)) (by decide) (by rfl) (by rfl)) (@pe_op _ _ _ _ _ _ _ _ (@op_fdiv _) (@pe_op _ _ _ _ _ _ _ _ (@op_mul _) (@pe_int _ _ _ _) (@pe_callTy _ _ _ _ _ _ _ _ _ (@call_intW _) (by rfl) T.b_int Boot.«int» (@pa_cons _ _ _ _ _ (@pe_cmpR _ _ _ _ _ _ _ _ (@op_eq _) (@pv _ 2 _ _ (by rfl) (by first | exact Or.inl rfl | exact Or.inr (Or.inl rfl) | exact Or.inr (Or.inr rfl)) (by decide) (by decide)) (@pe_int _ _ _ _) (@nomark _ _ (by decide) (by decide))) (@pa_nil _) (by rfl)) (by decide) (by decide) (by rfl) (by rfl))) (@pe_int _ _ _ _)) (@nomark _ _ (by decide) (by decide))))) (fun _ _ _ _ => (@pv _ 0 _ _ (by rfl) (by first | exact Or.inl rfl | exact Or.inr (Or.inl rfl) | exact Or.inr (Or.inr rfl)) (by decide) (by decide))) rfl (by intro _; rfl) (by first | exact .inl rfl | exact .inr rfl | assumption)) (@pss_one _ _ _ (@ps_ret _ _ _ _ (@pe_callTy _ _ _ _ _ _ _ _ _ (@call_tupleW _) (by rfl) T.b_tuple Boot.«tuple» (@pa_cons _ _ _ _ _ (@pe_comp _ _ _ _ _ _ _ _ _ _ _ _ _ _ rfl (CScope.of (sc := defScope s_l_draw_stairs) (N := ["_law_draw", "_law_p_here", "_law_stride", "_law_columns", "_law_kept"]) (own := ["_law_at"]) (fr := [0, 1, 2]) (N' := ["_law_at", "_law_draw", "_law_p_here", "_law_stride"]) rfl rfl rfl (by decide +kernel) rfl (by decide +kernel) (by decide +kernel) (by decide +kernel) (by decide +kernel) (by decide +kernel)) (@pi_list _ _ _ _ (@pv _ 4 _ _ (by rfl) (by first | exact Or.inl rfl | exact Or.inr (Or.inl rfl) | exact Or.inr (Or.inr rfl)) (by decide) (by decide))) (fun _ _ _ _ => (@pg_name _ _ (0) _ (by show (["_law_at", "_law_draw", "_law_p_here", "_law_stride"] : List Str).Nodup ; decide +kernel) rfl (by first | exact Or.inl rfl | exact Or.inr rfl) (by first | exact .inl rfl | exact .inr rfl | assumption))) capg_name (fun _ _ _ _ => (@pts_nil _)) (fun _ _ _ _ => (@pe_callF _ _ _ _ _ _ _ _ _ _ _ _ _ T.l_draw_stair G_l_draw_stair (hr.mono (by decide)) (by rfl) (@pa_cons _ _ _ _ _ (@pv _ 1 _ _ (by rfl) (by first | exact Or.inl rfl | exact Or.inr (Or.inl rfl) | exact Or.inr (Or.inr rfl)) (by decide) (by decide)) (@pa_cons _ _ _ _ _ (@pv _ 2 _ _ (by rfl) (by first | exact Or.inl rfl | exact Or.inr (Or.inl rfl) | exact Or.inr (Or.inr rfl)) (by decide) (by decide)) (@pa_cons _ _ _ _ _ (@pv _ 3 _ _ (by rfl) (by first | exact Or.inl rfl | exact Or.inr (Or.inl rfl) | exact Or.inr (Or.inr rfl)) (by decide) (by decide)) (@pa_cons _ _ _ _ _ (@pv _ 0 _ _ (by rfl) (by first | exact Or.inl rfl | exact Or.inr (Or.inl rfl) | exact Or.inr (Or.inr rfl)) (by decide) (by decide)) (@pa_nil _) (by rfl)) (by rfl)) (by rfl)) (by rfl)) (by decide) (by rfl) (by rfl))) (by intro _; rfl)) (@pa_nil _) (by rfl)) (by decide) (by decide) (by rfl) (by rfl))))))), ?_⟩
  try dsimp only [cxOf]
  refine ⟨_, inferInstance, ?_⟩
  rintro vs M q ⟨d, l, p, s, rfl, hD, p2, p7, s0, s8, k⟩
  (try simp only [↓HH, ↓H2, GG, Nat.reduceAdd, Nat.reduceSub, List.reduceReplicate, tyW, capρ, wLRng1_e]); repeat (with_reducible refine hold_i ?_; try simp only [↓HH, ↓H2, GG, Nat.reduceAdd, Nat.reduceSub, List.reduceReplicate, tyW, capρ, wLRng1_e])
  refine ⟨s, rfl, ⟨by omega, by omega⟩, by omega, ?_⟩
  intro a ha
  try simp only [↓HH, ↓H2, GG, Nat.reduceAdd, Nat.reduceSub, List.reduceReplicate, tyW, capρ]
  refine hold_i (if_mid (fun ρ M1 => ∃ (e : Addr) (cs : List Int), ρ = [some (wr d), some (wi p), some (wi s), some (wr e), none] ∧ Sm M M1 ∧ M e = none ∧ M1 e = some (.lst (cs.map wi)) ∧ cs.length ≤ 13 ∧ ∀ c ∈ cs, ColOk s c ∧ -100 ≤ c ∧ c ≤ 100) ?_ fun N hN => ?_)
  rotate_left
  · (try simp only [↓HH, ↓H2, GG, Nat.reduceAdd, Nat.reduceSub, List.reduceReplicate, tyW, capρ]); repeat (with_reducible refine hold_i ?_; try simp only [↓HH, ↓H2, GG, Nat.reduceAdd, Nat.reduceSub, List.reduceReplicate, tyW, capρ])
    refine iteK_d (fun h => ?_) fun h => hN _ _ ⟨a, (List.range s.toNat).map fun j : Nat => 0 + (j : Int), rfl, sm_um ha, ha, by rw [um_same, List.map_map]; rfl, by simp; omega, fun c hc => ?_⟩
    · (try simp only [↓HH, ↓H2, GG, Nat.reduceAdd, Nat.reduceSub, List.reduceReplicate, tyW, capρ, wLRng2_e]); repeat (with_reducible refine hold_i ?_; try simp only [↓HH, ↓H2, GG, Nat.reduceAdd, Nat.reduceSub, List.reduceReplicate, tyW, capρ, wLRng2_e])
      refine ⟨-6, 7, rfl, by decide, by decide, fun e he => ?_⟩
      have heM : M e = none := (sm_um ha).free he
      refine hN _ _ ⟨e, (List.range 13).map fun j : Nat => -6 + (j : Int), rfl, (sm_um ha).trans (sm_um he), heM, by rw [um_same, List.map_map]; rfl, by simp, fun c hc => ?_⟩
      obtain ⟨j, hj, rfl⟩ := List.mem_map.mp hc
      have := List.mem_range.mp hj
      exact ⟨.inl h, by omega, by omega⟩
    · obtain ⟨j, hj, rfl⟩ := List.mem_map.mp hc
      have := List.mem_range.mp hj
      exact ⟨.inr ⟨by omega, by omega⟩, by omega, by omega⟩
  rintro ρ M1 ⟨e, cs, rfl, s1, heM, hM1, hcl, hcs⟩
  have D1 := hD.sm s1
  obtain ⟨ned, nel⟩ := hD.ne heM
  (try simp only [↓HH, ↓H2, GG, Nat.reduceAdd, Nat.reduceSub, List.reduceReplicate, tyW, capρ, hM1]); repeat (with_reducible refine hold_i ?_; try simp only [↓HH, ↓H2, GG, Nat.reduceAdd, Nat.reduceSub, List.reduceReplicate, tyW, capρ, hM1])
  refine comp_i (by rw [List.length_map]; exact big (by omega)) fun t ht => ?_
  have htM : M t = none := s1.free ht
  obtain ⟨ntd, ntl⟩ := hD.ne htM
  have nte : t ≠ e := fun z => by rw [z, hM1] at ht; cases ht
  refine ⟨fun i ys M' => ∃ ks : List Int, ys = ks.map wi ∧ ks.length ≤ i ∧ (∀ c ∈ ks, ColOk s c ∧ -100 ≤ c ∧ c ≤ 100) ∧ Dr M' d l ∧ M' t = some (.lst ys) ∧ M' e = some (.lst (cs.map wi)) ∧ SmB d M M', ⟨[], rfl, Nat.le_refl _, by simp, D1.put ht, um_same, by rw [um_ne (Ne.symm nte)]; exact hM1, (SmB.sm s1).um htM⟩, ?_, ?_, ?_⟩
  · rintro i ys M' hi ⟨ks, rfl, hl, _, _, hM, hMe, _⟩
    exact ⟨hMe, hM, by rw [List.length_map]; omega⟩
  · rintro i x ys M' hx ⟨ks, rfl, hl, hk, D5, hM, hMe, s5⟩ N2 hN2
    obtain ⟨c, hc, rfl⟩ := ints_at' hx
    have hcc := hcs c (List.mem_of_getElem? hc)
    try simp only [↓HH, ↓H2, GG, Nat.reduceAdd, Nat.reduceSub, List.reduceReplicate, tyW, capρ]
    refine ⟨d, l, 4, rfl, D5, by decide, by decide, fun g M6 g0 g1 D6 b6 => ?_⟩
    try simp only [↓HH, ↓H2, GG, Nat.reduceAdd, Nat.reduceSub, List.reduceReplicate, tyW, capρ]
    refine .inr ⟨_, rfl, ?_⟩
    have cm : CMul 4 (if decide (s = 0) = true then 1 else 0) = True := by simp only [CMul]; split <;> simp
    have cd : ∀ x, CDiv x 3 = True := fun x => by simp [CDiv]
    try simp only [↓HH, ↓H2, GG, Nat.reduceAdd, Nat.reduceSub, List.reduceReplicate, tyW, capρ, cm, cd]
    refine iteK_d (fun h => ?_) fun h => ?_
    · try simp only [↓HH, ↓H2, GG, Nat.reduceAdd, Nat.reduceSub, List.reduceReplicate, tyW, capρ]
      refine ⟨by rw [b6 t ntd]; exact hM, hN2 _ _ ⟨ks ++ [c], by rw [List.map_append]; rfl, by simp; omega, fun z hz => ?_, D6.put' ntd ntl, um_same, by rw [um_ne (Ne.symm nte), b6 e ned]; exact hMe, (s5.trans (SmB.nb b6)).um htM⟩⟩
      rcases List.mem_append.mp hz with hz | hz
      · exact hk z hz
      · rw [List.mem_singleton.mp hz]; exact hcc
    · exact hN2 _ _ ⟨ks, rfl, by omega, hk, D6, by rw [b6 t ntd]; exact hM, by rw [b6 e ned]; exact hMe, s5.trans (SmB.nb b6)⟩
  · rintro ys M2 ⟨ks, rfl, hkl, hks, D2, hM2, _, s2⟩
    rw [List.length_map] at hkl
    (try simp only [↓HH, ↓H2, GG, Nat.reduceAdd, Nat.reduceSub, List.reduceReplicate, tyW, capρ, hM2]); repeat (with_reducible refine hold_i ?_; try simp only [↓HH, ↓H2, GG, Nat.reduceAdd, Nat.reduceSub, List.reduceReplicate, tyW, capρ, hM2])
    refine comp_i (by rw [List.length_map]; exact big (by omega)) fun u hu => ?_
    have huM : M u = none := by
      obtain ⟨nud, _⟩ := D2.ne hu
      cases e2 : M u with
      | none => rfl
      | some o => have := s2 u o nud e2; rw [hu] at this; cases this
    obtain ⟨nud, nul⟩ := D2.ne hu
    have nut : u ≠ t := fun z => by rw [z, hM2] at hu; cases hu
    refine ⟨fun i ys M' => ∃ sts : List Pt, ys = sts.map patW ∧ sts.length ≤ i ∧ (∀ st ∈ sts, IsPat p st ∧ ∃ c, StOk s st c) ∧ Dr M' d l ∧ M' u = some (.lst ys) ∧ M' t = some (.lst (ks.map wi)) ∧ SmB d M M', ⟨[], rfl, Nat.le_refl _, by simp, D2.put hu, um_same, by rw [um_ne (Ne.symm nut)]; exact hM2, s2.um huM⟩, ?_, ?_, ?_⟩
    · rintro i ys M' hi ⟨sts, rfl, hl, _, _, hM, hMe, _⟩
      exact ⟨hMe, hM, by rw [List.length_map]; omega⟩
    · rintro i x ys M' hx ⟨sts, rfl, hl, hk, D5, hM, hMe, s5⟩ N2 hN2
      obtain ⟨c, hc, rfl⟩ := ints_at' hx
      obtain ⟨c1, c2, c3⟩ := hks c (List.mem_of_getElem? hc)
      try simp only [↓HH, ↓H2, GG, Nat.reduceAdd, Nat.reduceSub, List.reduceReplicate, tyW, capρ]
      refine ⟨d, l, p, s, c, rfl, D5, p2, p7, s0, s8, c1, c2, c3, fun st M6 h1 h2 D6 b6 => ?_⟩
      try simp only [↓HH, ↓H2, GG, Nat.reduceAdd, Nat.reduceSub, List.reduceReplicate, tyW, capρ]
      refine ⟨b6 u _ nud hM, hN2 _ _ ⟨sts ++ [st], by rw [List.map_append]; rfl, by simp; omega, fun z hz => ?_, D6.put' nud nul, um_same, by rw [um_ne (Ne.symm nut)]; exact b6 t _ ntd hMe, (s5.trans b6).um huM⟩⟩
      rcases List.mem_append.mp hz with hz | hz
      · exact hk z hz
      · rw [List.mem_singleton.mp hz]; exact ⟨h2, c, h1⟩
    · rintro ys M3 ⟨sts, rfl, hl, hk, D3, hM3, _, s3⟩
      rw [List.length_map] at hl
      (try simp only [↓HH, ↓H2, GG, Nat.reduceAdd, Nat.reduceSub, List.reduceReplicate, tyW, capρ, hM3]); repeat (with_reducible refine hold_i ?_; try simp only [↓HH, ↓H2, GG, Nat.reduceAdd, Nat.reduceSub, List.reduceReplicate, tyW, capρ, hM3])
      exact exM (k sts _ hk (by omega) D3 s3)
end
end K18
namespace K18
open PySem L2 WL WP WQ PyProof.Rows
section
variable {P : Program} {w : World} {K : PySem.W.Frag} {mg : Str → Option Value} {base : Heap} {A : Adr}
theorem ok_l_close (T : Txt K mg A) : FnOk P w K mg base CX0 4 A.f_l_close A.d_l_close ["_law_draw", "_law_p_here", "_law_stride", "_law_stairs"] (spW K pClose) := by
  have G_l_first := ok_l_first (P := P) (w := w) (base := base) T
  have G_l_size := ok_l_size (P := P) (w := w) (base := base) T
  have G_l_take := ok_l_take (P := P) (w := w) (base := base) T
  have G_l_tidy := ok_l_tidy (P := P) (w := w) (base := base) T
  refine okS T.l_close.fn sc_l_close (by rintro vs M q ⟨d, l, p, s, sts, rfl, _⟩; rfl) fun cdv A' outer s H E hr => ?_
  have nd := sc_l_close.nd
  refine ⟨_, (@pss_cons _ _ _ _ _ (@ps_set _ _ (4) _ _ _ _ nd rfl (by first | exact Or.inl rfl | exact Or.inr rfl) (@pe_lst _ _ _ _ (@pa_nil _)) (by rfl) (by first | exact .inl rfl | exact .inr rfl | assumption)) (@pss_cons _ _ _ _ _ (@ps_for _ _ _ _ _ _ _ _ PassesOwn.never rfl (@pi_tup _ _ _ _ (@pv _ 3 _ _ (by rfl) (by first | exact Or.inl rfl | exact Or.inr (Or.inl rfl) | exact Or.inr (Or.inr rfl)) (by decide) (by decide))) (@pg_name _ _ (5) _ nd rfl (by first | exact Or.inl rfl | exact Or.inr rfl) (by first | exact .inl rfl | exact .inr rfl | assumption)) (@pss_cons _ _ _ _ _ (@ps_set _ _ (6) _ _ _ _ nd rfl (by first | exact Or.inl rfl | exact Or.inr rfl) (@pe_callF _ _ _ _ _ _ _ _ _ _ _ _ _ T.l_first G_l_first (hr.mono (by decide)) (by rfl) (@pa_cons _ _ _ _ _ (@pv _ 2 _ _ (by rfl) (by first | exact Or.inl rfl | exact Or.inr (Or.inl rfl) | exact Or.inr (Or.inr rfl)) (by decide) (by decide)) (@pa_cons _ _ _ _ _ (@pv _ 5 _ _ (by rfl) (by first | exact Or.inl rfl | exact Or.inr (Or.inl rfl) | exact Or.inr (Or.inr rfl)) (by decide) (by decide)) (@pa_nil _) (by rfl)) (by rfl)) (by decide) (by rfl) (by rfl)) (by rfl) (by first | exact .inl rfl | exact .inr rfl | assumption)) (@pss_cons _ _ _ _ _ (@ps_set _ _ (7) _ _ _ _ nd rfl (by first | exact Or.inl rfl | exact Or.inr rfl) (@pe_op _ _ _ _ _ _ _ _ (@op_add _) (@pv _ 6 _ _ (by rfl) (by first | exact Or.inl rfl | exact Or.inr (Or.inl rfl) | exact Or.inr (Or.inr rfl)) (by decide) (by decide)) (@pe_op _ _ _ _ _ _ _ _ (@op_mul _) (@pe_callF _ _ _ _ _ _ _ _ _ _ _ _ _ T.l_size G_l_size (hr.mono (by decide)) (by rfl) (@pa_cons _ _ _ _ _ (@pv _ 2 _ _ (by rfl) (by first | exact Or.inl rfl | exact Or.inr (Or.inl rfl) | exact Or.inr (Or.inr rfl)) (by decide) (by decide)) (@pa_cons _ _ _ _ _ (@pv _ 5 _ _ (by rfl) (by first | exact Or.inl rfl | exact Or.inr (Or.inl rfl) | exact Or.inr (Or.inr rfl)) (by decide) (by decide)) (@pa_nil _) (by rfl)) (by rfl)) (by decide) (by rfl) (by rfl)) (@pv _ 2 _ _ (by rfl) (by first | exact Or.inl rfl | exact Or.inr (Or.inl rfl) | exact Or.inr (Or.inr rfl)) (by decide) (by decide)))) (by rfl) (by first | exact .inl rfl | exact .inr rfl | assumption)) (@pss_cons _ _ _ _ _ (@ps_set _ _ (8) _ _ _ _ nd rfl (by first | exact Or.inl rfl | exact Or.inr rfl) (@pe_ix _ _ _ _ _ _ _ (@ix_tup _) (@pe_tup _ _ _ _ _ (@pa_cons _ _ _ _ _ (@pe_op _ _ _ _ _ _ _ _ (@op_sub _) (@pv _ 6 _ _ (by rfl) (by first | exact Or.inl rfl | exact Or.inr (Or.inl rfl) | exact Or.inr (Or.inr rfl)) (by decide) (by decide)) (@pe_callB _ _ _ _ _ _ _ _ _ (@call_max2W _ rfl) (by rfl) T.b_max Boot.«max» (@pa_cons _ _ _ _ _ (@pe_int _ _ _ _) (@pa_cons _ _ _ _ _ (@pv _ 2 _ _ (by rfl) (by first | exact Or.inl rfl | exact Or.inr (Or.inl rfl) | exact Or.inr (Or.inr rfl)) (by decide) (by decide)) (@pa_nil _) (by rfl)) (by rfl)) (by decide) (by decide) (by rfl) (by rfl))) (@pa_cons _ _ _ _ _ (@pv _ 6 _ _ (by rfl) (by first | exact Or.inl rfl | exact Or.inr (Or.inl rfl) | exact Or.inr (Or.inr rfl)) (by decide) (by decide)) (@pa_cons _ _ _ _ _ (@pe_op _ _ _ _ _ _ _ _ (@op_sub _) (@pv _ 7 _ _ (by rfl) (by first | exact Or.inl rfl | exact Or.inr (Or.inl rfl) | exact Or.inr (Or.inr rfl)) (by decide) (by decide)) (@pv _ 2 _ _ (by rfl) (by first | exact Or.inl rfl | exact Or.inr (Or.inl rfl) | exact Or.inr (Or.inr rfl)) (by decide) (by decide))) (@pa_cons _ _ _ _ _ (@pv _ 7 _ _ (by rfl) (by first | exact Or.inl rfl | exact Or.inr (Or.inl rfl) | exact Or.inr (Or.inr rfl)) (by decide) (by decide)) (@pa_cons _ _ _ _ _ (@pe_op _ _ _ _ _ _ _ _ (@op_add _) (@pv _ 7 _ _ (by rfl) (by first | exact Or.inl rfl | exact Or.inr (Or.inl rfl) | exact Or.inr (Or.inr rfl)) (by decide) (by decide)) (@pv _ 2 _ _ (by rfl) (by first | exact Or.inl rfl | exact Or.inr (Or.inl rfl) | exact Or.inr (Or.inr rfl)) (by decide) (by decide))) (@pa_nil _) (by rfl)) (by rfl)) (by rfl)) (by rfl)) (by rfl))) (@pe_callF _ _ _ _ _ _ _ _ _ _ _ _ _ T.l_take G_l_take (hr.mono (by decide)) (by rfl) (@pa_cons _ _ _ _ _ (@pv _ 0 _ _ (by rfl) (by first | exact Or.inl rfl | exact Or.inr (Or.inl rfl) | exact Or.inr (Or.inr rfl)) (by decide) (by decide)) (@pa_cons _ _ _ _ _ (@pe_int _ _ _ _) (@pa_nil _) (by rfl)) (by rfl)) (by decide) (by rfl) (by rfl)) (fun _ _ => (@rfl _ _))) (by rfl) (by first | exact .inl rfl | exact .inr rfl | assumption)) (@pss_one _ _ _ (@ps_if _ _ _ _ _ _ _ _ (@pt_cmpR _ _ _ _ _ _ _ _ (@op_eq _) (@pe_callF _ _ _ _ _ _ _ _ _ _ _ _ _ T.l_take G_l_take (hr.mono (by decide)) (by rfl) (@pa_cons _ _ _ _ _ (@pv _ 0 _ _ (by rfl) (by first | exact Or.inl rfl | exact Or.inr (Or.inl rfl) | exact Or.inr (Or.inr rfl)) (by decide) (by decide)) (@pa_cons _ _ _ _ _ (@pe_int _ _ _ _) (@pa_nil _) (by rfl)) (by rfl)) (by decide) (by rfl) (by rfl)) (@pe_int _ _ _ _) (@nomark _ _ (by decide) (by decide))) (@pss_one _ _ _ (@ps_expr _ _ _ _ (@pe_bm _ _ _ _ _ _ _ _ _ _ _ _ PySem.F.plainAttrs_list PySem.F.slot_list_append PySem.F.type_list_append (@mt_append _) (@pv _ 4 _ _ (by rfl) (by first | exact Or.inl rfl | exact Or.inr (Or.inl rfl) | exact Or.inr (Or.inr rfl)) (by decide) (by decide)) (@pa_cons _ _ _ _ _ (@pe_tup _ _ _ _ _ (@pa_cons _ _ _ _ _ (@pv _ 8 _ _ (by rfl) (by first | exact Or.inl rfl | exact Or.inr (Or.inl rfl) | exact Or.inr (Or.inr rfl)) (by decide) (by decide)) (@pa_cons _ _ _ _ _ (@pe_op _ _ _ _ _ _ _ _ (@op_add _) (@pe_int _ _ _ _) (@pe_callF _ _ _ _ _ _ _ _ _ _ _ _ _ T.l_take G_l_take (hr.mono (by decide)) (by rfl) (@pa_cons _ _ _ _ _ (@pv _ 0 _ _ (by rfl) (by first | exact Or.inl rfl | exact Or.inr (Or.inl rfl) | exact Or.inr (Or.inr rfl)) (by decide) (by decide)) (@pa_cons _ _ _ _ _ (@pe_op _ _ _ _ _ _ _ _ (@op_sub _) (@pv _ 1 _ _ (by rfl) (by first | exact Or.inl rfl | exact Or.inr (Or.inl rfl) | exact Or.inr (Or.inr rfl)) (by decide) (by decide)) (@pe_int _ _ _ _)) (@pa_nil _) (by rfl)) (by rfl)) (by decide) (by rfl) (by rfl))) (@pa_nil _) (by rfl)) (by rfl))) (@pa_nil _) (by rfl)) (by rfl) (by rfl) (by rfl) (by rfl) (by rfl)) (by rfl))) (@pss_nil _)))))) (by intro _; rfl)) (@pss_one _ _ _ (@ps_ret _ _ _ _ (@pe_callF _ _ _ _ _ _ _ _ _ _ _ _ _ T.l_tidy G_l_tidy (hr.mono (by decide)) (by rfl) (@pa_cons _ _ _ _ _ (@pv _ 1 _ _ (by rfl) (by first | exact Or.inl rfl | exact Or.inr (Or.inl rfl) | exact Or.inr (Or.inr rfl)) (by decide) (by decide)) (@pa_cons _ _ _ _ _ (@pv _ 4 _ _ (by rfl) (by first | exact Or.inl rfl | exact Or.inr (Or.inl rfl) | exact Or.inr (Or.inr rfl)) (by decide) (by decide)) (@pa_nil _) (by rfl)) (by rfl)) (by decide) (by rfl) (by rfl)))))), ?_⟩
  try dsimp only [cxOf]
  refine ⟨_, inferInstance, ?_⟩
  rintro vs M q ⟨d, l, p, s, sts, rfl, hD, p2, p7, s0, s8, hsl, hsts, k⟩
  have p0 : 0 < p := by omega
  have cm : ∀ x, CMul x s = True := fun x => eq_true (.inr ⟨by omega, by omega⟩)
  (try simp only [↓HH, ↓H2, GG, Nat.reduceAdd, Nat.reduceSub, List.reduceReplicate, tyW, capρ]); repeat (with_reducible refine hold_i ?_; try simp only [↓HH, ↓H2, GG, Nat.reduceAdd, Nat.reduceSub, List.reduceReplicate, tyW, capρ])
  intro a ha
  obtain ⟨nad, nal⟩ := hD.ne ha
  (try simp only [↓HH, ↓H2, GG, Nat.reduceAdd, Nat.reduceSub, List.reduceReplicate, tyW, capρ]); repeat (with_reducible refine hold_i ?_; try simp only [↓HH, ↓H2, GG, Nat.reduceAdd, Nat.reduceSub, List.reduceReplicate, tyW, capρ])
  refine for_i (fun i ρ M' => ∃ (o1 o2 o3 o4 : Option W) (ps : Pt), ρ = [some (wr d), some (wi p), some (wi s), some (.tup (sts.map patW)), some (wr a), o1, o2, o3, o4] ∧ Dr M' d l ∧ M' a = some (.lst (ps.map pairW)) ∧ ps.length ≤ i) ⟨none, none, none, none, [], rfl, hD.put ha, um_same, Nat.le_refl _⟩ (fun _ _ _ _ _ => trivial) ?_ ?_
  · rintro i x ρ M' hx ⟨o1, o2, o3, o4, ps, rfl, D5, hMa, hl⟩ N hN
    obtain ⟨st, hz, rfl⟩ : ∃ st, sts[i]? = some st ∧ x = patW st := by
      rw [List.getElem?_map] at hx
      cases e : sts[i]? with
      | none => rw [e] at hx; cases hx
      | some q => rw [e] at hx; cases hx; exact ⟨q, rfl, rfl⟩
    have hil := (List.getElem?_eq_some_iff.mp hz).1
    obtain ⟨c, hc⟩ := hsts st (List.mem_of_getElem? hz)
    have hlen := hc.len
    (try simp only [↓HH, ↓H2, GG, Nat.reduceAdd, Nat.reduceSub, List.reduceReplicate, tyW, capρ]); repeat (with_reducible refine hold_i ?_; try simp only [↓HH, ↓H2, GG, Nat.reduceAdd, Nat.reduceSub, List.reduceReplicate, tyW, capρ])
    refine ⟨st, s, rfl, hc.ne, by omega, s0, by omega, ?_⟩
    (try simp only [↓HH, ↓H2, GG, Nat.reduceAdd, Nat.reduceSub, List.reduceReplicate, tyW, capρ]); repeat (with_reducible refine hold_i ?_; try simp only [↓HH, ↓H2, GG, Nat.reduceAdd, Nat.reduceSub, List.reduceReplicate, tyW, capρ])
    refine ⟨st, s, rfl, hc.ne, by omega, s0, by omega, ?_⟩
    (try simp only [↓HH, ↓H2, GG, Nat.reduceAdd, Nat.reduceSub, List.reduceReplicate, tyW, capρ, cm]); repeat (with_reducible refine hold_i ?_; try simp only [↓HH, ↓H2, GG, Nat.reduceAdd, Nat.reduceSub, List.reduceReplicate, tyW, capρ, cm])
    refine ⟨d, l, 5, rfl, D5, by decide, by decide, fun r M6 r0 r1 D6 b6 => ?_⟩
    have h6 : M6 a = some (.lst (ps.map pairW)) := by rw [b6 a nad]; exact hMa
    refine ixT_all (fun x => ∃ e : Int, x = wi e) (by omega) (by show r < ((5 : Nat) : Int); omega) (fun x hx => ?_) ?_
    · simp only [List.mem_cons, List.not_mem_nil, or_false] at hx
      rcases hx with rfl | rfl | rfl | rfl | rfl <;> exact ⟨_, rfl⟩
    rintro _ ⟨e, rfl⟩
    (try simp only [↓HH, ↓H2, GG, Nat.reduceAdd, Nat.reduceSub, List.reduceReplicate, tyW, capρ]); repeat (with_reducible refine hold_i ?_; try simp only [↓HH, ↓H2, GG, Nat.reduceAdd, Nat.reduceSub, List.reduceReplicate, tyW, capρ])
    refine ⟨d, l, 2, rfl, D6, by decide, by decide, fun g M7 g0 g1 D7 b7 => ?_⟩
    have h7 : M7 a = some (.lst (ps.map pairW)) := by rw [b7 a nad]; exact h6
    (try simp only [↓HH, ↓H2, GG, Nat.reduceAdd, Nat.reduceSub, List.reduceReplicate, tyW, capρ]); repeat (with_reducible refine hold_i ?_; try simp only [↓HH, ↓H2, GG, Nat.reduceAdd, Nat.reduceSub, List.reduceReplicate, tyW, capρ])
    refine iteK_d (fun h => ?_) fun h => hN _ _ ⟨_, _, _, _, ps, rfl, D7, h7, by omega⟩
    (try simp only [↓HH, ↓H2, GG, Nat.reduceAdd, Nat.reduceSub, List.reduceReplicate, tyW, capρ, h7]); repeat (with_reducible refine hold_i ?_; try simp only [↓HH, ↓H2, GG, Nat.reduceAdd, Nat.reduceSub, List.reduceReplicate, tyW, capρ, h7])
    refine ⟨d, l, p - 1, rfl, D7, by omega, by omega, fun g M8 g0 g1 D8 b8 => ?_⟩
    have h8 : M8 a = some (.lst (ps.map pairW)) := by rw [b8 a nad]; exact h7
    have hs : ((ps.map pairW).length < sizeLine) = True := by rw [List.length_map]; exact eq_true (bigL (by omega))
    (try simp only [↓HH, ↓H2, GG, Nat.reduceAdd, Nat.reduceSub, List.reduceReplicate, tyW, capρ, h8, hs]); repeat (with_reducible refine hold_i ?_; try simp only [↓HH, ↓H2, GG, Nat.reduceAdd, Nat.reduceSub, List.reduceReplicate, tyW, capρ, h8, hs])
    exact hN _ _ ⟨_, _, _, _, ps ++ [(e, 1 + g)], rfl, D8.put' nad nal, by rw [um_same, List.map_append]; rfl, by rw [List.length_append, List.length_singleton]; omega⟩
  · rintro ρ M' ⟨o1, o2, o3, o4, ps, rfl, D5, hMa, hl⟩
    rw [List.length_map] at hl
    (try simp only [↓HH, ↓H2, GG, Nat.reduceAdd, Nat.reduceSub, List.reduceReplicate, tyW, capρ]); repeat (with_reducible refine hold_i ?_; try simp only [↓HH, ↓H2, GG, Nat.reduceAdd, Nat.reduceSub, List.reduceReplicate, tyW, capρ])
    refine ⟨a, p, ps, rfl, hMa, p0, few, by omega, ?_⟩
    (try simp only [↓HH, ↓H2, GG, Nat.reduceAdd, Nat.reduceSub, List.reduceReplicate, tyW, capρ]); repeat (with_reducible refine hold_i ?_; try simp only [↓HH, ↓H2, GG, Nat.reduceAdd, Nat.reduceSub, List.reduceReplicate, tyW, capρ])
    exact exM (k ps _ (by omega) D5)
theorem ok_law (T : Txt K mg A) : FnOk P w K mg base CX0 6 A.f_law A.d_law ["_law_script"] (spLaw K) := by
  have G_l_begin := ok_l_begin (P := P) (w := w) (base := base) T
  have G_l_p := ok_l_p (P := P) (w := w) (base := base) T
  have G_l_take := ok_l_take (P := P) (w := w) (base := base) T
  have G_l_wide := ok_l_wide (P := P) (w := w) (base := base) T
  have G_column := ok_column (P := P) (w := w) (base := base) T
  have G_l_int := ok_l_int (P := P) (w := w) (base := base) T
  have G_l_column := ok_l_column (P := P) (w := w) (base := base) T
  have G_l_draw_stairs := ok_l_draw_stairs (P := P) (w := w) (base := base) T
  have G_l_pattern := ok_l_pattern (P := P) (w := w) (base := base) T
  have G_l_close := ok_l_close (P := P) (w := w) (base := base) T
  have G_low := ok_low (P := P) (w := w) (base := base) T
  have G_l_lies_low := ok_l_lies_low (P := P) (w := w) (base := base) T
  refine okLaw T.law.fn sc_law (by decide) fun cdv A' outer s H E hr => ?_
  have nd := sc_law.nd
  refine ⟨_, (@pss_cons _ _ _ _ _ (@ps_set _ _ (1) _ _ _ _ nd rfl (by first | exact Or.inl rfl | exact Or.inr rfl) (@pe_callF _ _ _ _ _ _ _ _ _ _ _ _ _ T.l_begin G_l_begin (hr.mono (by decide)) (by rfl) (@pa_cons _ _ _ _ _ (@pv _ 0 _ _ (by rfl) (by first | exact Or.inl rfl | exact Or.inr (Or.inl rfl) | exact Or.inr (Or.inr rfl)) (by decide) (by decide)) (@pa_nil _) (by rfl)) (by decide) (by rfl) (by rfl)) (by rfl) (by first | exact .inl rfl | exact .inr rfl | assumption)) (@pss_cons _ _ _ _ _ (@ps_set _ _ (2) _ _ _ _ nd rfl (by first | exact Or.inl rfl | exact Or.inr rfl) (@pe_callF _ _ _ _ _ _ _ _ _ _ _ _ _ T.l_p G_l_p (hr.mono (by decide)) (by rfl) (@pa_cons _ _ _ _ _ (@pv _ 1 _ _ (by rfl) (by first | exact Or.inl rfl | exact Or.inr (Or.inl rfl) | exact Or.inr (Or.inr rfl)) (by decide) (by decide)) (@pa_nil _) (by rfl)) (by decide) (by rfl) (by rfl)) (by rfl) (by first | exact .inl rfl | exact .inr rfl | assumption)) (@pss_cons _ _ _ _ _ (@ps_set _ _ (3) _ _ _ _ nd rfl (by first | exact Or.inl rfl | exact Or.inr rfl) (@pe_callF _ _ _ _ _ _ _ _ _ _ _ _ _ T.l_take G_l_take (hr.mono (by decide)) (by rfl) (@pa_cons _ _ _ _ _ (@pv _ 1 _ _ (by rfl) (by first | exact Or.inl rfl | exact Or.inr (Or.inl rfl) | exact Or.inr (Or.inr rfl)) (by decide) (by decide)) (@pa_cons _ _ _ _ _ (@pe_int _ _ _ _) (@pa_nil _) (by rfl)) (by rfl)) (by decide) (by rfl) (by rfl)) (by rfl) (by first | exact .inl rfl | exact .inr rfl | assumption)) (@pss_cons _ _ _ _ _ (@ps_if _ _ _ _ _ _ _ _ (@pt_cmpR _ _ _ _ _ _ _ _ (@op_eq _) (@pe_callF _ _ _ _ _ _ _ _ _ _ _ _ _ T.l_take G_l_take (hr.mono (by decide)) (by rfl) (@pa_cons _ _ _ _ _ (@pv _ 1 _ _ (by rfl) (by first | exact Or.inl rfl | exact Or.inr (Or.inl rfl) | exact Or.inr (Or.inr rfl)) (by decide) (by decide)) (@pa_cons _ _ _ _ _ (@pe_int _ _ _ _) (@pa_nil _) (by rfl)) (by rfl)) (by decide) (by rfl) (by rfl)) (@pe_int _ _ _ _) (@nomark _ _ (by decide) (by decide))) (@pss_one _ _ _ (@ps_set _ _ (3) _ _ _ _ nd rfl (by first | exact Or.inl rfl | exact Or.inr rfl) (@pe_op _ _ _ _ _ _ _ _ (@op_add _) (@pe_int _ _ _ _) (@pe_callF _ _ _ _ _ _ _ _ _ _ _ _ _ T.l_take G_l_take (hr.mono (by decide)) (by rfl) (@pa_cons _ _ _ _ _ (@pv _ 1 _ _ (by rfl) (by first | exact Or.inl rfl | exact Or.inr (Or.inl rfl) | exact Or.inr (Or.inr rfl)) (by decide) (by decide)) (@pa_cons _ _ _ _ _ (@pe_int _ _ _ _) (@pa_nil _) (by rfl)) (by rfl)) (by decide) (by rfl) (by rfl))) (by rfl) (by first | exact .inl rfl | exact .inr rfl | assumption))) (@pss_nil _)) (@pss_cons _ _ _ _ _ (@ps_set _ _ (4) _ _ _ _ nd rfl (by first | exact Or.inl rfl | exact Or.inr rfl) (@pe_callF _ _ _ _ _ _ _ _ _ _ _ _ _ T.l_wide G_l_wide (hr.mono (by decide)) (by rfl) (@pa_cons _ _ _ _ _ (@pv _ 1 _ _ (by rfl) (by first | exact Or.inl rfl | exact Or.inr (Or.inl rfl) | exact Or.inr (Or.inr rfl)) (by decide) (by decide)) (@pa_nil _) (by rfl)) (by decide) (by rfl) (by rfl)) (by rfl) (by first | exact .inl rfl | exact .inr rfl | assumption)) (@pss_cons _ _ _ _ _ (@ps_set _ _ (5) _ _ _ _ nd rfl (by first | exact Or.inl rfl | exact Or.inr rfl) (@pe_callF _ _ _ _ _ _ _ _ _ _ _ _ _ T.column G_column (hr.mono (by decide)) (by rfl) (@pa_cons _ _ _ _ _ (@pv _ 4 _ _ (by rfl) (by first | exact Or.inl rfl | exact Or.inr (Or.inl rfl) | exact Or.inr (Or.inr rfl)) (by decide) (by decide)) (@pa_cons _ _ _ _ _ (@pv _ 3 _ _ (by rfl) (by first | exact Or.inl rfl | exact Or.inr (Or.inl rfl) | exact Or.inr (Or.inr rfl)) (by decide) (by decide)) (@pa_nil _) (by rfl)) (by rfl)) (by decide) (by rfl) (by rfl)) (by rfl) (by first | exact .inl rfl | exact .inr rfl | assumption)) (@pss_cons _ _ _ _ _ (@ps_if _ _ _ _ _ _ _ _ (@pw_or _ _ _ _ _ _ _ (@pt_not _ _ _ _ (@pt_val _ _ _ (@pe_callF _ _ _ _ _ _ _ _ _ _ _ _ _ T.l_int G_l_int (hr.mono (by decide)) (by rfl) (@pa_cons _ _ _ _ _ (@pv _ 5 _ _ (by rfl) (by first | exact Or.inl rfl | exact Or.inr (Or.inl rfl) | exact Or.inr (Or.inr rfl)) (by decide) (by decide)) (@pa_nil _) (by rfl)) (by decide) (by rfl) (by rfl)) (by intro _; rfl))) (@pw_or1 _ _ _ _ (@pt_cmpR _ _ _ _ _ _ _ _ (@op_ne _) (@pv _ 5 _ _ (by rfl) (by first | exact Or.inl rfl | exact Or.inr (Or.inl rfl) | exact Or.inr (Or.inr rfl)) (by decide) (by decide)) (@pe_callF _ _ _ _ _ _ _ _ _ _ _ _ _ T.l_column G_l_column (hr.mono (by decide)) (by rfl) (@pa_cons _ _ _ _ _ (@pv _ 4 _ _ (by rfl) (by first | exact Or.inl rfl | exact Or.inr (Or.inl rfl) | exact Or.inr (Or.inr rfl)) (by decide) (by decide)) (@pa_cons _ _ _ _ _ (@pv _ 3 _ _ (by rfl) (by first | exact Or.inl rfl | exact Or.inr (Or.inl rfl) | exact Or.inr (Or.inr rfl)) (by decide) (by decide)) (@pa_nil _) (by rfl)) (by rfl)) (by decide) (by rfl) (by rfl)) (@nomark _ _ (by decide) (by decide))))).pt (@pss_one _ _ _ (@ps_ret _ _ _ _ (@pe_bl _ _ _ _))) (@pss_nil _)) (@pss_cons _ _ _ _ _ (@ps_set _ _ (6) _ _ _ _ nd rfl (by first | exact Or.inl rfl | exact Or.inr rfl) (@pe_callF _ _ _ _ _ _ _ _ _ _ _ _ _ T.l_draw_stairs G_l_draw_stairs (hr.mono (by decide)) (by rfl) (@pa_cons _ _ _ _ _ (@pv _ 1 _ _ (by rfl) (by first | exact Or.inl rfl | exact Or.inr (Or.inl rfl) | exact Or.inr (Or.inr rfl)) (by decide) (by decide)) (@pa_cons _ _ _ _ _ (@pv _ 2 _ _ (by rfl) (by first | exact Or.inl rfl | exact Or.inr (Or.inl rfl) | exact Or.inr (Or.inr rfl)) (by decide) (by decide)) (@pa_cons _ _ _ _ _ (@pv _ 3 _ _ (by rfl) (by first | exact Or.inl rfl | exact Or.inr (Or.inl rfl) | exact Or.inr (Or.inr rfl)) (by decide) (by decide)) (@pa_nil _) (by rfl)) (by rfl)) (by rfl)) (by decide) (by rfl) (by rfl)) (by rfl) (by first | exact .inl rfl | exact .inr rfl | assumption)) (@pss_cons _ _ _ _ _ (@ps_set _ _ (7) _ _ _ _ nd rfl (by first | exact Or.inl rfl | exact Or.inr rfl) (@pe_callF _ _ _ _ _ _ _ _ _ _ _ _ _ T.l_pattern G_l_pattern (hr.mono (by decide)) (by rfl) (@pa_cons _ _ _ _ _ (@pv _ 1 _ _ (by rfl) (by first | exact Or.inl rfl | exact Or.inr (Or.inl rfl) | exact Or.inr (Or.inr rfl)) (by decide) (by decide)) (@pa_cons _ _ _ _ _ (@pv _ 2 _ _ (by rfl) (by first | exact Or.inl rfl | exact Or.inr (Or.inl rfl) | exact Or.inr (Or.inr rfl)) (by decide) (by decide)) (@pa_cons _ _ _ _ _ (@pe_int _ _ _ _) (@pa_cons _ _ _ _ _ (@pe_int _ _ _ _) (@pa_nil _) (by rfl)) (by rfl)) (by rfl)) (by rfl)) (by decide) (by rfl) (by rfl)) (by rfl) (by first | exact .inl rfl | exact .inr rfl | assumption)) (@pss_cons _ _ _ _ _ (@ps_if _ _ _ _ _ _ _ _ (@pt_cmpR _ _ _ _ _ _ _ _ (@op_eq _) (@pe_callF _ _ _ _ _ _ _ _ _ _ _ _ _ T.l_take G_l_take (hr.mono (by decide)) (by rfl) (@pa_cons _ _ _ _ _ (@pv _ 1 _ _ (by rfl) (by first | exact Or.inl rfl | exact Or.inr (Or.inl rfl) | exact Or.inr (Or.inr rfl)) (by decide) (by decide)) (@pa_cons _ _ _ _ _ (@pe_int _ _ _ _) (@pa_nil _) (by rfl)) (by rfl)) (by decide) (by rfl) (by rfl)) (@pe_int _ _ _ _) (@nomark _ _ (by decide) (by decide))) (@pss_one _ _ _ (@ps_set _ _ (7) _ _ _ _ nd rfl (by first | exact Or.inl rfl | exact Or.inr rfl) (@pe_callF _ _ _ _ _ _ _ _ _ _ _ _ _ T.l_close G_l_close (hr.mono (by decide)) (by rfl) (@pa_cons _ _ _ _ _ (@pv _ 1 _ _ (by rfl) (by first | exact Or.inl rfl | exact Or.inr (Or.inl rfl) | exact Or.inr (Or.inr rfl)) (by decide) (by decide)) (@pa_cons _ _ _ _ _ (@pv _ 2 _ _ (by rfl) (by first | exact Or.inl rfl | exact Or.inr (Or.inl rfl) | exact Or.inr (Or.inr rfl)) (by decide) (by decide)) (@pa_cons _ _ _ _ _ (@pv _ 3 _ _ (by rfl) (by first | exact Or.inl rfl | exact Or.inr (Or.inl rfl) | exact Or.inr (Or.inr rfl)) (by decide) (by decide)) (@pa_cons _ _ _ _ _ (@pv _ 6 _ _ (by rfl) (by first | exact Or.inl rfl | exact Or.inr (Or.inl rfl) | exact Or.inr (Or.inr rfl)) (by decide) (by decide)) (@pa_nil _) (by rfl)) (by rfl)) (by rfl)) (by rfl)) (by decide) (by rfl) (by rfl)) (by rfl) (by first | exact .inl rfl | exact .inr rfl | assumption))) (@pss_nil _)) (@pss_cons _ _ _ _ _ (@ps_set _ _ (8) _ _ _ _ nd rfl (by first | exact Or.inl rfl | exact Or.inr rfl) (@pe_callF _ _ _ _ _ _ _ _ _ _ _ _ _ T.low G_low (hr.mono (by decide)) (by rfl) (@pa_cons _ _ _ _ _ (@pv _ 3 _ _ (by rfl) (by first | exact Or.inl rfl | exact Or.inr (Or.inl rfl) | exact Or.inr (Or.inr rfl)) (by decide) (by decide)) (@pa_cons _ _ _ _ _ (@pv _ 6 _ _ (by rfl) (by first | exact Or.inl rfl | exact Or.inr (Or.inl rfl) | exact Or.inr (Or.inr rfl)) (by decide) (by decide)) (@pa_cons _ _ _ _ _ (@pv _ 7 _ _ (by rfl) (by first | exact Or.inl rfl | exact Or.inr (Or.inl rfl) | exact Or.inr (Or.inr rfl)) (by decide) (by decide)) (@pa_nil _) (by rfl)) (by rfl)) (by rfl)) (by decide) (by rfl) (by rfl)) (by rfl) (by first | exact .inl rfl | exact .inr rfl | assumption)) (@pss_one _ _ _ (@ps_ret _ _ _ _ (@pe_and _ _ _ _ _ _ _ (@pe_callB _ _ _ _ _ _ _ _ _ (@call_isX _) (by rfl) T.b_isinstance Boot.«isinstance» (@pa_cons _ _ _ _ _ (@pv _ 8 _ _ (by rfl) (by first | exact Or.inl rfl | exact Or.inr (Or.inl rfl) | exact Or.inr (Or.inr rfl)) (by decide) (by decide)) (@pa_cons _ _ _ _ _ (@pe_bltn _ _ _ _ _ (by rfl) T.b_bool Boot.«bool» (show RelV (.ty "bool") _ from rfl) (by decide) (by decide)) (@pa_nil _) (by rfl)) (by rfl)) (by decide) (by decide) (by rfl) (by rfl)) (@pe_one _ _ _ _ _ (@pe_cmpR _ _ _ _ _ _ _ _ (@op_eq _) (@pv _ 8 _ _ (by rfl) (by first | exact Or.inl rfl | exact Or.inr (Or.inl rfl) | exact Or.inr (Or.inr rfl)) (by decide) (by decide)) (@pe_callF _ _ _ _ _ _ _ _ _ _ _ _ _ T.l_lies_low G_l_lies_low (hr.mono (by decide)) (by rfl) (@pa_cons _ _ _ _ _ (@pv _ 3 _ _ (by rfl) (by first | exact Or.inl rfl | exact Or.inr (Or.inl rfl) | exact Or.inr (Or.inr rfl)) (by decide) (by decide)) (@pa_cons _ _ _ _ _ (@pv _ 6 _ _ (by rfl) (by first | exact Or.inl rfl | exact Or.inr (Or.inl rfl) | exact Or.inr (Or.inr rfl)) (by decide) (by decide)) (@pa_cons _ _ _ _ _ (@pv _ 7 _ _ (by rfl) (by first | exact Or.inl rfl | exact Or.inr (Or.inl rfl) | exact Or.inr (Or.inr rfl)) (by decide) (by decide)) (@pa_nil _) (by rfl)) (by rfl)) (by rfl)) (by decide) (by rfl) (by rfl)) (@nomark _ _ (by decide) (by decide)))))))))))))))))), ?_⟩
  try dsimp only [cxOf]
  refine ⟨_, inferInstance, ?_⟩
  intro d l M hD
  (try simp only [↓HH, ↓H2, GG, Nat.reduceAdd, Nat.reduceSub, List.reduceReplicate, tyW, capρ]); repeat (with_reducible refine hold_i ?_; try simp only [↓HH, ↓H2, GG, Nat.reduceAdd, Nat.reduceSub, List.reduceReplicate, tyW, capρ])
  refine ⟨d, l, rfl, hD, fun p M1 hp D1 _ => ?_⟩
  have p0 : 0 < p := by omega
  have p7 : p ≤ 7 := by omega
  have p2 : 2 ≤ p := by omega
  (try simp only [↓HH, ↓H2, GG, Nat.reduceAdd, Nat.reduceSub, List.reduceReplicate, tyW, capρ]); repeat (with_reducible refine hold_i ?_; try simp only [↓HH, ↓H2, GG, Nat.reduceAdd, Nat.reduceSub, List.reduceReplicate, tyW, capρ])
  refine ⟨d, l, 5, rfl, D1, by decide, by decide, fun s M2 s0 s1 D2 _ => ?_⟩
  try simp only [↓HH, ↓H2, GG, Nat.reduceAdd, Nat.reduceSub, List.reduceReplicate, tyW, capρ]
  refine hold_i (if_mid (fun ρ M' => ∃ s : Int, ρ = [none, some (wr d), some (wi p), some (wi s), none, none, none, none, none] ∧ 0 ≤ s ∧ s ≤ 8 ∧ Dr M' d l) ?_ fun N hN => ?_)
  rotate_left
  · (try simp only [↓HH, ↓H2, GG, Nat.reduceAdd, Nat.reduceSub, List.reduceReplicate, tyW, capρ]); repeat (with_reducible refine hold_i ?_; try simp only [↓HH, ↓H2, GG, Nat.reduceAdd, Nat.reduceSub, List.reduceReplicate, tyW, capρ])
    refine ⟨d, l, 6, rfl, D2, by decide, by decide, fun g M3 g0 g1 D3 _ => ?_⟩
    (try simp only [↓HH, ↓H2, GG, Nat.reduceAdd, Nat.reduceSub, List.reduceReplicate, tyW, capρ]); repeat (with_reducible refine hold_i ?_; try simp only [↓HH, ↓H2, GG, Nat.reduceAdd, Nat.reduceSub, List.reduceReplicate, tyW, capρ])
    refine iteK_d (fun h => ?_) fun h => hN _ _ ⟨s, rfl, s0, by omega, D3⟩
    (try simp only [↓HH, ↓H2, GG, Nat.reduceAdd, Nat.reduceSub, List.reduceReplicate, tyW, capρ]); repeat (with_reducible refine hold_i ?_; try simp only [↓HH, ↓H2, GG, Nat.reduceAdd, Nat.reduceSub, List.reduceReplicate, tyW, capρ])
    refine ⟨d, l, 4, rfl, D3, by decide, by decide, fun g M3 g0 g1 D3 _ => ?_⟩
    (try simp only [↓HH, ↓H2, GG, Nat.reduceAdd, Nat.reduceSub, List.reduceReplicate, tyW, capρ]); repeat (with_reducible refine hold_i ?_; try simp only [↓HH, ↓H2, GG, Nat.reduceAdd, Nat.reduceSub, List.reduceReplicate, tyW, capρ])
    exact hN _ _ ⟨5 + g, rfl, by omega, by omega, D3⟩
  clear s0 s1 D2
  rintro ρ M3 ⟨s, rfl, s0, s8, D3⟩
  (try simp only [↓HH, ↓H2, GG, Nat.reduceAdd, Nat.reduceSub, List.reduceReplicate, tyW, capρ]); repeat (with_reducible refine hold_i ?_; try simp only [↓HH, ↓H2, GG, Nat.reduceAdd, Nat.reduceSub, List.reduceReplicate, tyW, capρ])
  refine ⟨d, l, rfl, D3, fun x M4 _ _ D4 _ => ?_⟩
  (try simp only [↓HH, ↓H2, GG, Nat.reduceAdd, Nat.reduceSub, List.reduceReplicate, tyW, capρ]); repeat (with_reducible refine hold_i ?_; try simp only [↓HH, ↓H2, GG, Nat.reduceAdd, Nat.reduceSub, List.reduceReplicate, tyW, capρ])
  refine ⟨x, s, rfl, s0, by omega, ?_⟩
  (try simp only [↓HH, ↓H2, GG, Nat.reduceAdd, Nat.reduceSub, List.reduceReplicate, tyW, capρ]); repeat (with_reducible refine hold_i ?_; try simp only [↓HH, ↓H2, GG, Nat.reduceAdd, Nat.reduceSub, List.reduceReplicate, tyW, capρ])
  refine ⟨_, rfl, ?_⟩
  (try simp only [↓HH, ↓H2, GG, Nat.reduceAdd, Nat.reduceSub, List.reduceReplicate, tyW, capρ]); repeat (with_reducible refine hold_i ?_; try simp only [↓HH, ↓H2, GG, Nat.reduceAdd, Nat.reduceSub, List.reduceReplicate, tyW, capρ])
  refine ⟨x, s, rfl, s0, by omega, ?_⟩
  (try simp only [↓HH, ↓H2, GG, Nat.reduceAdd, Nat.reduceSub, List.reduceReplicate, tyW, capρ, decide_true]); repeat (with_reducible refine hold_i ?_; try simp only [↓HH, ↓H2, GG, Nat.reduceAdd, Nat.reduceSub, List.reduceReplicate, tyW, capρ, decide_true])
  refine ⟨d, l, p, s, rfl, D4, p2, p7, s0, s8, fun sts M5 hsts hsl D5 _ => ?_⟩
  (try simp only [↓HH, ↓H2, GG, Nat.reduceAdd, Nat.reduceSub, List.reduceReplicate, tyW, capρ]); repeat (with_reducible refine hold_i ?_; try simp only [↓HH, ↓H2, GG, Nat.reduceAdd, Nat.reduceSub, List.reduceReplicate, tyW, capρ])
  refine ⟨d, l, p, 6, 9, rfl, D5, p2, by omega, by decide, by decide, by decide, by decide, fun ps M6 hps _ D6 _ => ?_⟩
  try simp only [↓HH, ↓H2, GG, Nat.reduceAdd, Nat.reduceSub, List.reduceReplicate, tyW, capρ]
  refine hold_i (if_mid (fun ρ M' => ∃ pat : Pt, ρ = [none, some (wr d), some (wi p), some (wi s), some (wi x), some (wi (colI s x)), some (.tup (sts.map patW)), some (patW pat), none] ∧ pat.length ≤ 13) ?_ fun N hN => ?_)
  rotate_left
  · (try simp only [↓HH, ↓H2, GG, Nat.reduceAdd, Nat.reduceSub, List.reduceReplicate, tyW, capρ]); repeat (with_reducible refine hold_i ?_; try simp only [↓HH, ↓H2, GG, Nat.reduceAdd, Nat.reduceSub, List.reduceReplicate, tyW, capρ])
    refine ⟨d, l, 2, rfl, D6, by decide, by decide, fun g M7 g0 g1 D7 _ => ?_⟩
    (try simp only [↓HH, ↓H2, GG, Nat.reduceAdd, Nat.reduceSub, List.reduceReplicate, tyW, capρ]); repeat (with_reducible refine hold_i ?_; try simp only [↓HH, ↓H2, GG, Nat.reduceAdd, Nat.reduceSub, List.reduceReplicate, tyW, capρ])
    refine iteK_d (fun h => ?_) fun h => hN _ _ ⟨nrm p ps, rfl, Nat.le_trans (nrm_len p ps) (by omega)⟩
    (try simp only [↓HH, ↓H2, GG, Nat.reduceAdd, Nat.reduceSub, List.reduceReplicate, tyW, capρ]); repeat (with_reducible refine hold_i ?_; try simp only [↓HH, ↓H2, GG, Nat.reduceAdd, Nat.reduceSub, List.reduceReplicate, tyW, capρ])
    refine ⟨d, l, p, s, sts, rfl, D7, p2, p7, s0, s8, hsl, fun st h => (hsts st h).2, fun ps M8 hps D8 => ?_⟩
    (try simp only [↓HH, ↓H2, GG, Nat.reduceAdd, Nat.reduceSub, List.reduceReplicate, tyW, capρ]); repeat (with_reducible refine hold_i ?_; try simp only [↓HH, ↓H2, GG, Nat.reduceAdd, Nat.reduceSub, List.reduceReplicate, tyW, capρ])
    exact hN _ _ ⟨nrm p ps, rfl, Nat.le_trans (nrm_len p ps) (by omega)⟩
  rintro ρ M7 ⟨pat, rfl, hpat⟩
  have hst : ∀ st ∈ sts, st ≠ [] ∧ st.length ≤ 100000 := fun st h => by
    obtain ⟨_, c, hc⟩ := hsts st h
    exact ⟨hc.ne, Nat.le_trans hc.len (by omega)⟩
  (try simp only [↓HH, ↓H2, GG, Nat.reduceAdd, Nat.reduceSub, List.reduceReplicate, tyW, capρ]); repeat (with_reducible refine hold_i ?_; try simp only [↓HH, ↓H2, GG, Nat.reduceAdd, Nat.reduceSub, List.reduceReplicate, tyW, capρ])
  refine ⟨sts, pat, s, rfl, hst, by omega, s0, by omega, ?_⟩
  (try simp only [↓HH, ↓H2, GG, Nat.reduceAdd, Nat.reduceSub, List.reduceReplicate, tyW, capρ]); repeat (with_reducible refine hold_i ?_; try simp only [↓HH, ↓H2, GG, Nat.reduceAdd, Nat.reduceSub, List.reduceReplicate, tyW, capρ])
  refine ⟨sts, pat, s, rfl, hst, by omega, s0, by omega, ?_⟩
  rw [low_same s0 fun st h => (hsts st h).2]
  (try simp only [↓HH, ↓H2, GG, Nat.reduceAdd, Nat.reduceSub, List.reduceReplicate, tyW, capρ, decide_true]); repeat (with_reducible refine hold_i ?_; try simp only [↓HH, ↓H2, GG, Nat.reduceAdd, Nat.reduceSub, List.reduceReplicate, tyW, capρ, decide_true])
end
end K18
namespace K18
open PySem L2 WL WQ PyProof.Rows
theorem all_mk {l : PySem.W.OpenLaw} {w : World} {K : PySem.W.Frag} {h : Heap} {mg : Str → Option Value} {fa f_column f_first_column f_heights f_measured f_low f_l_begin f_l_take f_l_wide f_l_p f_l_tidy f_l_pattern f_l_column f_l_draw_stair f_l_draw_stairs f_l_first f_l_spots f_l_size f_l_lies_low f_l_int f_l_close f_law : Addr} (X : K.In h) (G : h.Ns mainGlobals mg) (hfa : mg "law" = some (.ref fa))
    {od_column an_column : Option Addr} {sl_column : Array (Option Value)} {oc_column kV_column dc_column pm_column cd_column ct_column : Value}
    {od_first_column an_first_column : Option Addr} {sl_first_column : Array (Option Value)} {oc_first_column kV_first_column dc_first_column pm_first_column cd_first_column ct_first_column : Value}
    {od_heights an_heights : Option Addr} {sl_heights : Array (Option Value)} {oc_heights kV_heights dc_heights pm_heights cd_heights ct_heights : Value}
    {od_measured an_measured : Option Addr} {sl_measured : Array (Option Value)} {oc_measured kV_measured dc_measured pm_measured cd_measured ct_measured : Value}
    {od_low an_low : Option Addr} {sl_low : Array (Option Value)} {oc_low kV_low dc_low pm_low cd_low ct_low : Value}
    {od_l_begin an_l_begin : Option Addr} {sl_l_begin : Array (Option Value)} {oc_l_begin kV_l_begin dc_l_begin pm_l_begin cd_l_begin ct_l_begin : Value}
    {od_l_take an_l_take : Option Addr} {sl_l_take : Array (Option Value)} {oc_l_take kV_l_take dc_l_take pm_l_take cd_l_take ct_l_take : Value}
    {od_l_wide an_l_wide : Option Addr} {sl_l_wide : Array (Option Value)} {oc_l_wide kV_l_wide dc_l_wide pm_l_wide cd_l_wide ct_l_wide : Value}
    {od_l_p an_l_p : Option Addr} {sl_l_p : Array (Option Value)} {oc_l_p kV_l_p dc_l_p pm_l_p cd_l_p ct_l_p : Value}
    {od_l_tidy an_l_tidy : Option Addr} {sl_l_tidy : Array (Option Value)} {oc_l_tidy kV_l_tidy dc_l_tidy pm_l_tidy cd_l_tidy ct_l_tidy : Value}
    {od_l_pattern an_l_pattern : Option Addr} {sl_l_pattern : Array (Option Value)} {oc_l_pattern kV_l_pattern dc_l_pattern pm_l_pattern cd_l_pattern ct_l_pattern : Value}
    {od_l_column an_l_column : Option Addr} {sl_l_column : Array (Option Value)} {oc_l_column kV_l_column dc_l_column pm_l_column cd_l_column ct_l_column : Value}
    {od_l_draw_stair an_l_draw_stair : Option Addr} {sl_l_draw_stair : Array (Option Value)} {oc_l_draw_stair kV_l_draw_stair dc_l_draw_stair pm_l_draw_stair cd_l_draw_stair ct_l_draw_stair : Value}
    {od_l_draw_stairs an_l_draw_stairs : Option Addr} {sl_l_draw_stairs : Array (Option Value)} {oc_l_draw_stairs kV_l_draw_stairs dc_l_draw_stairs pm_l_draw_stairs cd_l_draw_stairs ct_l_draw_stairs : Value}
    {od_l_first an_l_first : Option Addr} {sl_l_first : Array (Option Value)} {oc_l_first kV_l_first dc_l_first pm_l_first cd_l_first ct_l_first : Value}
    {od_l_spots an_l_spots : Option Addr} {sl_l_spots : Array (Option Value)} {oc_l_spots kV_l_spots dc_l_spots pm_l_spots cd_l_spots ct_l_spots : Value}
    {od_l_size an_l_size : Option Addr} {sl_l_size : Array (Option Value)} {oc_l_size kV_l_size dc_l_size pm_l_size cd_l_size ct_l_size : Value}
    {od_l_lies_low an_l_lies_low : Option Addr} {sl_l_lies_low : Array (Option Value)} {oc_l_lies_low kV_l_lies_low dc_l_lies_low pm_l_lies_low cd_l_lies_low ct_l_lies_low : Value}
    {od_l_int an_l_int : Option Addr} {sl_l_int : Array (Option Value)} {oc_l_int kV_l_int dc_l_int pm_l_int cd_l_int ct_l_int : Value}
    {od_l_close an_l_close : Option Addr} {sl_l_close : Array (Option Value)} {oc_l_close kV_l_close dc_l_close pm_l_close cd_l_close ct_l_close : Value}
    {od_law an_law : Option Addr} {sl_law : Array (Option Value)} {oc_law kV_law dc_law pm_law cd_law ct_law : Value}
    (a_column : PySem.W.nsIn K mainGlobals "column" = some (some (.ref f_column)))
    (l_column : K.lookup f_column = some ⟨oc_column, od_column, .func (PySem.W.fnOf "column" "column" (defArgs s_column) (defBody s_column) (defScope s_column) .none kV_column dc_column pm_column an_column cd_column ct_column), sl_column⟩)
    (c_column : PySem.W.codeIn K cd_column "column" = true) (k_column : PySem.W.keepIn K (.ref f_column) = true)
    (a_first_column : PySem.W.nsIn K mainGlobals "first_column" = some (some (.ref f_first_column)))
    (l_first_column : K.lookup f_first_column = some ⟨oc_first_column, od_first_column, .func (PySem.W.fnOf "first_column" "first_column" (defArgs s_first_column) (defBody s_first_column) (defScope s_first_column) .none kV_first_column dc_first_column pm_first_column an_first_column cd_first_column ct_first_column), sl_first_column⟩)
    (c_first_column : PySem.W.codeIn K cd_first_column "first_column" = true) (k_first_column : PySem.W.keepIn K (.ref f_first_column) = true)
    (a_heights : PySem.W.nsIn K mainGlobals "heights" = some (some (.ref f_heights)))
    (l_heights : K.lookup f_heights = some ⟨oc_heights, od_heights, .func (PySem.W.fnOf "heights" "heights" (defArgs s_heights) (defBody s_heights) (defScope s_heights) .none kV_heights dc_heights pm_heights an_heights cd_heights ct_heights), sl_heights⟩)
    (c_heights : PySem.W.codeIn K cd_heights "heights" = true) (k_heights : PySem.W.keepIn K (.ref f_heights) = true)
    (a_measured : PySem.W.nsIn K mainGlobals "measured" = some (some (.ref f_measured)))
    (l_measured : K.lookup f_measured = some ⟨oc_measured, od_measured, .func (PySem.W.fnOf "measured" "measured" (defArgs s_measured) (defBody s_measured) (defScope s_measured) .none kV_measured dc_measured pm_measured an_measured cd_measured ct_measured), sl_measured⟩)
    (c_measured : PySem.W.codeIn K cd_measured "measured" = true) (k_measured : PySem.W.keepIn K (.ref f_measured) = true)
    (a_low : PySem.W.nsIn K mainGlobals "low" = some (some (.ref f_low)))
    (l_low : K.lookup f_low = some ⟨oc_low, od_low, .func (PySem.W.fnOf "low" "low" (defArgs s_low) (defBody s_low) (defScope s_low) .none kV_low dc_low pm_low an_low cd_low ct_low), sl_low⟩)
    (c_low : PySem.W.codeIn K cd_low "low" = true) (k_low : PySem.W.keepIn K (.ref f_low) = true)
    (a_l_begin : PySem.W.nsIn K mainGlobals "_law_begin" = some (some (.ref f_l_begin)))
    (l_l_begin : K.lookup f_l_begin = some ⟨oc_l_begin, od_l_begin, .func (PySem.W.fnOf "_law_begin" "_law_begin" (defArgs s_l_begin) (defBody s_l_begin) (defScope s_l_begin) .none kV_l_begin dc_l_begin pm_l_begin an_l_begin cd_l_begin ct_l_begin), sl_l_begin⟩)
    (c_l_begin : PySem.W.codeIn K cd_l_begin "_law_begin" = true) (k_l_begin : PySem.W.keepIn K (.ref f_l_begin) = true)
    (a_l_take : PySem.W.nsIn K mainGlobals "_law_take" = some (some (.ref f_l_take)))
    (l_l_take : K.lookup f_l_take = some ⟨oc_l_take, od_l_take, .func (PySem.W.fnOf "_law_take" "_law_take" (defArgs s_l_take) (defBody s_l_take) (defScope s_l_take) .none kV_l_take dc_l_take pm_l_take an_l_take cd_l_take ct_l_take), sl_l_take⟩)
    (c_l_take : PySem.W.codeIn K cd_l_take "_law_take" = true) (k_l_take : PySem.W.keepIn K (.ref f_l_take) = true)
    (a_l_wide : PySem.W.nsIn K mainGlobals "_law_wide" = some (some (.ref f_l_wide)))
    (l_l_wide : K.lookup f_l_wide = some ⟨oc_l_wide, od_l_wide, .func (PySem.W.fnOf "_law_wide" "_law_wide" (defArgs s_l_wide) (defBody s_l_wide) (defScope s_l_wide) .none kV_l_wide dc_l_wide pm_l_wide an_l_wide cd_l_wide ct_l_wide), sl_l_wide⟩)
    (c_l_wide : PySem.W.codeIn K cd_l_wide "_law_wide" = true) (k_l_wide : PySem.W.keepIn K (.ref f_l_wide) = true)
    (a_l_p : PySem.W.nsIn K mainGlobals "_law_p" = some (some (.ref f_l_p)))
    (l_l_p : K.lookup f_l_p = some ⟨oc_l_p, od_l_p, .func (PySem.W.fnOf "_law_p" "_law_p" (defArgs s_l_p) (defBody s_l_p) (defScope s_l_p) .none kV_l_p dc_l_p pm_l_p an_l_p cd_l_p ct_l_p), sl_l_p⟩)
    (c_l_p : PySem.W.codeIn K cd_l_p "_law_p" = true) (k_l_p : PySem.W.keepIn K (.ref f_l_p) = true)
    (a_l_tidy : PySem.W.nsIn K mainGlobals "_law_tidy" = some (some (.ref f_l_tidy)))
    (l_l_tidy : K.lookup f_l_tidy = some ⟨oc_l_tidy, od_l_tidy, .func (PySem.W.fnOf "_law_tidy" "_law_tidy" (defArgs s_l_tidy) (defBody s_l_tidy) (defScope s_l_tidy) .none kV_l_tidy dc_l_tidy pm_l_tidy an_l_tidy cd_l_tidy ct_l_tidy), sl_l_tidy⟩)
    (c_l_tidy : PySem.W.codeIn K cd_l_tidy "_law_tidy" = true) (k_l_tidy : PySem.W.keepIn K (.ref f_l_tidy) = true)
    (a_l_pattern : PySem.W.nsIn K mainGlobals "_law_pattern" = some (some (.ref f_l_pattern)))
    (l_l_pattern : K.lookup f_l_pattern = some ⟨oc_l_pattern, od_l_pattern, .func (PySem.W.fnOf "_law_pattern" "_law_pattern" (defArgs s_l_pattern) (defBody s_l_pattern) (defScope s_l_pattern) .none kV_l_pattern dc_l_pattern pm_l_pattern an_l_pattern cd_l_pattern ct_l_pattern), sl_l_pattern⟩)
    (c_l_pattern : PySem.W.codeIn K cd_l_pattern "_law_pattern" = true) (k_l_pattern : PySem.W.keepIn K (.ref f_l_pattern) = true)
    (a_l_column : PySem.W.nsIn K mainGlobals "_law_column" = some (some (.ref f_l_column)))
    (l_l_column : K.lookup f_l_column = some ⟨oc_l_column, od_l_column, .func (PySem.W.fnOf "_law_column" "_law_column" (defArgs s_l_column) (defBody s_l_column) (defScope s_l_column) .none kV_l_column dc_l_column pm_l_column an_l_column cd_l_column ct_l_column), sl_l_column⟩)
    (c_l_column : PySem.W.codeIn K cd_l_column "_law_column" = true) (k_l_column : PySem.W.keepIn K (.ref f_l_column) = true)
    (a_l_draw_stair : PySem.W.nsIn K mainGlobals "_law_draw_stair" = some (some (.ref f_l_draw_stair)))
    (l_l_draw_stair : K.lookup f_l_draw_stair = some ⟨oc_l_draw_stair, od_l_draw_stair, .func (PySem.W.fnOf "_law_draw_stair" "_law_draw_stair" (defArgs s_l_draw_stair) (defBody s_l_draw_stair) (defScope s_l_draw_stair) .none kV_l_draw_stair dc_l_draw_stair pm_l_draw_stair an_l_draw_stair cd_l_draw_stair ct_l_draw_stair), sl_l_draw_stair⟩)
    (c_l_draw_stair : PySem.W.codeIn K cd_l_draw_stair "_law_draw_stair" = true) (k_l_draw_stair : PySem.W.keepIn K (.ref f_l_draw_stair) = true)
    (a_l_draw_stairs : PySem.W.nsIn K mainGlobals "_law_draw_stairs" = some (some (.ref f_l_draw_stairs)))
    (l_l_draw_stairs : K.lookup f_l_draw_stairs = some ⟨oc_l_draw_stairs, od_l_draw_stairs, .func (PySem.W.fnOf "_law_draw_stairs" "_law_draw_stairs" (defArgs s_l_draw_stairs) (defBody s_l_draw_stairs) (defScope s_l_draw_stairs) .none kV_l_draw_stairs dc_l_draw_stairs pm_l_draw_stairs an_l_draw_stairs cd_l_draw_stairs ct_l_draw_stairs), sl_l_draw_stairs⟩)
    (c_l_draw_stairs : PySem.W.codeIn K cd_l_draw_stairs "_law_draw_stairs" = true) (k_l_draw_stairs : PySem.W.keepIn K (.ref f_l_draw_stairs) = true)
    (a_l_first : PySem.W.nsIn K mainGlobals "_law_first" = some (some (.ref f_l_first)))
    (l_l_first : K.lookup f_l_first = some ⟨oc_l_first, od_l_first, .func (PySem.W.fnOf "_law_first" "_law_first" (defArgs s_l_first) (defBody s_l_first) (defScope s_l_first) .none kV_l_first dc_l_first pm_l_first an_l_first cd_l_first ct_l_first), sl_l_first⟩)
    (c_l_first : PySem.W.codeIn K cd_l_first "_law_first" = true) (k_l_first : PySem.W.keepIn K (.ref f_l_first) = true)
    (a_l_spots : PySem.W.nsIn K mainGlobals "_law_spots" = some (some (.ref f_l_spots)))
    (l_l_spots : K.lookup f_l_spots = some ⟨oc_l_spots, od_l_spots, .func (PySem.W.fnOf "_law_spots" "_law_spots" (defArgs s_l_spots) (defBody s_l_spots) (defScope s_l_spots) .none kV_l_spots dc_l_spots pm_l_spots an_l_spots cd_l_spots ct_l_spots), sl_l_spots⟩)
    (c_l_spots : PySem.W.codeIn K cd_l_spots "_law_spots" = true) (k_l_spots : PySem.W.keepIn K (.ref f_l_spots) = true)
    (a_l_size : PySem.W.nsIn K mainGlobals "_law_size" = some (some (.ref f_l_size)))
    (l_l_size : K.lookup f_l_size = some ⟨oc_l_size, od_l_size, .func (PySem.W.fnOf "_law_size" "_law_size" (defArgs s_l_size) (defBody s_l_size) (defScope s_l_size) .none kV_l_size dc_l_size pm_l_size an_l_size cd_l_size ct_l_size), sl_l_size⟩)
    (c_l_size : PySem.W.codeIn K cd_l_size "_law_size" = true) (k_l_size : PySem.W.keepIn K (.ref f_l_size) = true)
    (a_l_lies_low : PySem.W.nsIn K mainGlobals "_law_lies_low" = some (some (.ref f_l_lies_low)))
    (l_l_lies_low : K.lookup f_l_lies_low = some ⟨oc_l_lies_low, od_l_lies_low, .func (PySem.W.fnOf "_law_lies_low" "_law_lies_low" (defArgs s_l_lies_low) (defBody s_l_lies_low) (defScope s_l_lies_low) .none kV_l_lies_low dc_l_lies_low pm_l_lies_low an_l_lies_low cd_l_lies_low ct_l_lies_low), sl_l_lies_low⟩)
    (c_l_lies_low : PySem.W.codeIn K cd_l_lies_low "_law_lies_low" = true) (k_l_lies_low : PySem.W.keepIn K (.ref f_l_lies_low) = true)
    (a_l_int : PySem.W.nsIn K mainGlobals "_law_int" = some (some (.ref f_l_int)))
    (l_l_int : K.lookup f_l_int = some ⟨oc_l_int, od_l_int, .func (PySem.W.fnOf "_law_int" "_law_int" (defArgs s_l_int) (defBody s_l_int) (defScope s_l_int) .none kV_l_int dc_l_int pm_l_int an_l_int cd_l_int ct_l_int), sl_l_int⟩)
    (c_l_int : PySem.W.codeIn K cd_l_int "_law_int" = true) (k_l_int : PySem.W.keepIn K (.ref f_l_int) = true)
    (a_l_close : PySem.W.nsIn K mainGlobals "_law_close" = some (some (.ref f_l_close)))
    (l_l_close : K.lookup f_l_close = some ⟨oc_l_close, od_l_close, .func (PySem.W.fnOf "_law_close" "_law_close" (defArgs s_l_close) (defBody s_l_close) (defScope s_l_close) .none kV_l_close dc_l_close pm_l_close an_l_close cd_l_close ct_l_close), sl_l_close⟩)
    (c_l_close : PySem.W.codeIn K cd_l_close "_law_close" = true) (k_l_close : PySem.W.keepIn K (.ref f_l_close) = true)
    (a_law : PySem.W.nsIn K mainGlobals "law" = some (some (.ref f_law)))
    (l_law : K.lookup f_law = some ⟨oc_law, od_law, .func (PySem.W.fnOf "law" "law" (defArgs s_law) (defBody s_law) (defScope s_law) .none kV_law dc_law pm_law an_law cd_law ct_law), sl_law⟩)
    (c_law : PySem.W.codeIn K cd_law "law" = true) (k_law : PySem.W.keepIn K (.ref f_law) = true)
    (z_abs : PySem.W.nsIn K mainGlobals "abs" = some none)
    (z_any : PySem.W.nsIn K mainGlobals "any" = some none)
    (z_bool : PySem.W.nsIn K mainGlobals "bool" = some none)
    (z_int : PySem.W.nsIn K mainGlobals "int" = some none)
    (z_isinstance : PySem.W.nsIn K mainGlobals "isinstance" = some none)
    (z_len : PySem.W.nsIn K mainGlobals "len" = some none)
    (z_list : PySem.W.nsIn K mainGlobals "list" = some none)
    (z_max : PySem.W.nsIn K mainGlobals "max" = some none)
    (z_min : PySem.W.nsIn K mainGlobals "min" = some none)
    (z_range : PySem.W.nsIn K mainGlobals "range" = some none)
    (z_sorted : PySem.W.nsIn K mainGlobals "sorted" = some none)
    (z_tuple : PySem.W.nsIn K mainGlobals "tuple" = some none)
    : ∃ fd : FuncData, (∀ (s : Shared) (v : Value), BindsTo s fd ⟨[v], []⟩ [("_law_script", v)]) ∧ ∀ base : Heap, K.In base → base.Ns mainGlobals mg → FnOk l.prog w K mg base CX0 6 fa fd ["_law_script"] (spLaw K) := by
  have e := hfa.symm.trans (PySem.W.mg_of X G a_law)
  cases e
  have F_column := fun_mk (st := s_column) l_column c_column k_column
  have b_column := F_column.binds (ps := ["place", "stride"]) fun _ _ _ _ _ _ us hl => match us, hl with | [_, _], _ => rfl
  have F_first_column := fun_mk (st := s_first_column) l_first_column c_first_column k_first_column
  have b_first_column := F_first_column.binds (ps := ["places", "stride"]) fun _ _ _ _ _ _ us hl => match us, hl with | [_, _], _ => rfl
  have F_heights := fun_mk (st := s_heights) l_heights c_heights k_heights
  have b_heights := F_heights.binds (ps := ["places", "stride", "first"]) fun _ _ _ _ _ _ us hl => match us, hl with | [_, _, _], _ => rfl
  have F_measured := fun_mk (st := s_measured) l_measured c_measured k_measured
  have b_measured := F_measured.binds (ps := ["stride", "stair"]) fun _ _ _ _ _ _ us hl => match us, hl with | [_, _], _ => rfl
  have F_low := fun_mk (st := s_low) l_low c_low k_low
  have b_low := F_low.binds (ps := ["stride", "stairs", "pattern"]) fun _ _ _ _ _ _ us hl => match us, hl with | [_, _, _], _ => rfl
  have F_l_begin := fun_mk (st := s_l_begin) l_l_begin c_l_begin k_l_begin
  have b_l_begin := F_l_begin.binds (ps := ["_law_script"]) fun _ _ _ _ _ _ us hl => match us, hl with | [_], _ => rfl
  have F_l_take := fun_mk (st := s_l_take) l_l_take c_l_take k_l_take
  have b_l_take := F_l_take.binds (ps := ["_law_draw", "_law_many"]) fun _ _ _ _ _ _ us hl => match us, hl with | [_, _], _ => rfl
  have F_l_wide := fun_mk (st := s_l_wide) l_l_wide c_l_wide k_l_wide
  have b_l_wide := F_l_wide.binds (ps := ["_law_draw"]) fun _ _ _ _ _ _ us hl => match us, hl with | [_], _ => rfl
  have F_l_p := fun_mk (st := s_l_p) l_l_p c_l_p k_l_p
  have b_l_p := F_l_p.binds (ps := ["_law_draw"]) fun _ _ _ _ _ _ us hl => match us, hl with | [_], _ => rfl
  have F_l_tidy := fun_mk (st := s_l_tidy) l_l_tidy c_l_tidy k_l_tidy
  have b_l_tidy := F_l_tidy.binds (ps := ["_law_p_here", "_law_pairs"]) fun _ _ _ _ _ _ us hl => match us, hl with | [_, _], _ => rfl
  have F_l_pattern := fun_mk (st := s_l_pattern) l_l_pattern c_l_pattern k_l_pattern
  have b_l_pattern := F_l_pattern.binds (ps := ["_law_draw", "_law_p_here", "_law_most", "_law_far"]) fun _ _ _ _ _ _ us hl => match us, hl with | [_, _, _, _], _ => rfl
  have F_l_column := fun_mk (st := s_l_column) l_l_column c_l_column k_l_column
  have b_l_column := F_l_column.binds (ps := ["_law_place", "_law_stride"]) fun _ _ _ _ _ _ us hl => match us, hl with | [_, _], _ => rfl
  have F_l_draw_stair := fun_mk (st := s_l_draw_stair) l_l_draw_stair c_l_draw_stair k_l_draw_stair
  have b_l_draw_stair := F_l_draw_stair.binds (ps := ["_law_draw", "_law_p_here", "_law_stride", "_law_at"]) fun _ _ _ _ _ _ us hl => match us, hl with | [_, _, _, _], _ => rfl
  have F_l_draw_stairs := fun_mk (st := s_l_draw_stairs) l_l_draw_stairs c_l_draw_stairs k_l_draw_stairs
  have b_l_draw_stairs := F_l_draw_stairs.binds (ps := ["_law_draw", "_law_p_here", "_law_stride"]) fun _ _ _ _ _ _ us hl => match us, hl with | [_, _, _], _ => rfl
  have F_l_first := fun_mk (st := s_l_first) l_l_first c_l_first k_l_first
  have b_l_first := F_l_first.binds (ps := ["_law_stride", "_law_pattern_here"]) fun _ _ _ _ _ _ us hl => match us, hl with | [_, _], _ => rfl
  have F_l_spots := fun_mk (st := s_l_spots) l_l_spots c_l_spots k_l_spots
  have b_l_spots := F_l_spots.binds (ps := ["_law_stride", "_law_pattern_here", "_law_at"]) fun _ _ _ _ _ _ us hl => match us, hl with | [_, _, _], _ => rfl
  have F_l_size := fun_mk (st := s_l_size) l_l_size c_l_size k_l_size
  have b_l_size := F_l_size.binds (ps := ["_law_stride", "_law_stair"]) fun _ _ _ _ _ _ us hl => match us, hl with | [_, _], _ => rfl
  have F_l_lies_low := fun_mk (st := s_l_lies_low) l_l_lies_low c_l_lies_low k_l_lies_low
  have b_l_lies_low := F_l_lies_low.binds (ps := ["_law_stride", "_law_stairs", "_law_pattern_here"]) fun _ _ _ _ _ _ us hl => match us, hl with | [_, _, _], _ => rfl
  have F_l_int := fun_mk (st := s_l_int) l_l_int c_l_int k_l_int
  have b_l_int := F_l_int.binds (ps := ["_law_thing"]) fun _ _ _ _ _ _ us hl => match us, hl with | [_], _ => rfl
  have F_l_close := fun_mk (st := s_l_close) l_l_close c_l_close k_l_close
  have b_l_close := F_l_close.binds (ps := ["_law_draw", "_law_p_here", "_law_stride", "_law_stairs"]) fun _ _ _ _ _ _ us hl => match us, hl with | [_, _, _, _], _ => rfl
  have F_law := fun_mk (st := s_law) l_law c_law k_law
  have b_law := F_law.binds (ps := ["_law_script"]) fun _ _ _ _ _ _ us hl => match us, hl with | [_], _ => rfl
  have T : Txt K mg ⟨f_column, _, f_first_column, _, f_heights, _, f_measured, _, f_low, _, f_l_begin, _, f_l_take, _, f_l_wide, _, f_l_p, _, f_l_tidy, _, f_l_pattern, _, f_l_column, _, f_l_draw_stair, _, f_l_draw_stairs, _, f_l_first, _, f_l_spots, _, f_l_size, _, f_l_lies_low, _, f_l_int, _, f_l_close, _, fa, _⟩ := ⟨PySem.W.mg_none_of X G z_abs, PySem.W.mg_none_of X G z_any, PySem.W.mg_none_of X G z_bool, PySem.W.mg_none_of X G z_int, PySem.W.mg_none_of X G z_isinstance, PySem.W.mg_none_of X G z_len, PySem.W.mg_none_of X G z_list, PySem.W.mg_none_of X G z_max, PySem.W.mg_none_of X G z_min, PySem.W.mg_none_of X G z_range, PySem.W.mg_none_of X G z_sorted, PySem.W.mg_none_of X G z_tuple, ⟨PySem.W.mg_of X G a_column, F_column, b_column⟩, ⟨PySem.W.mg_of X G a_first_column, F_first_column, b_first_column⟩, ⟨PySem.W.mg_of X G a_heights, F_heights, b_heights⟩, ⟨PySem.W.mg_of X G a_measured, F_measured, b_measured⟩, ⟨PySem.W.mg_of X G a_low, F_low, b_low⟩, ⟨PySem.W.mg_of X G a_l_begin, F_l_begin, b_l_begin⟩, ⟨PySem.W.mg_of X G a_l_take, F_l_take, b_l_take⟩, ⟨PySem.W.mg_of X G a_l_wide, F_l_wide, b_l_wide⟩, ⟨PySem.W.mg_of X G a_l_p, F_l_p, b_l_p⟩, ⟨PySem.W.mg_of X G a_l_tidy, F_l_tidy, b_l_tidy⟩, ⟨PySem.W.mg_of X G a_l_pattern, F_l_pattern, b_l_pattern⟩, ⟨PySem.W.mg_of X G a_l_column, F_l_column, b_l_column⟩, ⟨PySem.W.mg_of X G a_l_draw_stair, F_l_draw_stair, b_l_draw_stair⟩, ⟨PySem.W.mg_of X G a_l_draw_stairs, F_l_draw_stairs, b_l_draw_stairs⟩, ⟨PySem.W.mg_of X G a_l_first, F_l_first, b_l_first⟩, ⟨PySem.W.mg_of X G a_l_spots, F_l_spots, b_l_spots⟩, ⟨PySem.W.mg_of X G a_l_size, F_l_size, b_l_size⟩, ⟨PySem.W.mg_of X G a_l_lies_low, F_l_lies_low, b_l_lies_low⟩, ⟨PySem.W.mg_of X G a_l_int, F_l_int, b_l_int⟩, ⟨PySem.W.mg_of X G a_l_close, F_l_close, b_l_close⟩, ⟨PySem.W.mg_of X G a_law, F_law, b_law⟩⟩
  exact ⟨_, fun s v => .of_eq rfl, fun base _ _ => ok_law T⟩
theorem walk {l : PySem.W.OpenLaw} {q : Program} {loose : List Str} {XP : (Str → Option Value) → Heap → Prop} {YP : World → Heap → Prop} {d : DefRec} {K : Params → PySem.W.Frag} (hn : l.most = some 63) (hdf : d.params.defaults = [])
    (hY : ∀ (w : World) (h : Heap), YP w h → (K w.params).In h)
    (F : ∀ (w : World) (mg : Str → Option Value) (fa : Addr) (h : Heap), (K w.params).In h → h.Ns mainGlobals mg → mg d.name = some (.ref fa) →
      ∃ fd : FuncData, (∀ (s : Shared) (u : Value), BindsTo s fd ⟨[u], []⟩ [("_law_script", u)]) ∧ ∀ base : Heap, (K w.params).In base → base.Ns mainGlobals mg → FnOk l.prog w (K w.params) mg base CX0 6 fa fd ["_law_script"] (spLaw (K w.params))) :
    PySem.W.WalkO q loose XP YP l.row.toRowW d [] (fun f vs => PySem.call f vs) :=
  L2.walk_of (n := 63) (k := 6) (x := "_law_script") (CX := fun _ => CX0) (sp := fun w => spLaw (K w.params)) hn (by decide) hdf ⟨rfl, by decide, by decide⟩ hY F (fun _ _ a ns hl _ hS => ⟨a, ns, rfl, hS, fun _ => rfl⟩) fun _ _ _ _ _ z => z
end K18
open PySem PySem.W PyProof.Rows
set_option maxRecDepth 100000 in
set_option maxHeartbeats 0 in
theorem PySem.Challenge.cw_duskround_k18_columns_and_lying_low_holds : PySem.Challenge.rw_duskround_k18_columns_and_lying_low.Holds := by
  w_on; o_law; k_head; (case hw => w_witness2)
  k_fill
  refine K18.walk (l := PySem.Challenge.rw_duskround_k18_columns_and_lying_low) rfl rfl (fun w h Y => PySem.W.kIn_of Y) ?F
  case F =>
    intro w mg fa h KX G hmg
    refine' K18.all_mk KX G hmg ?a_column ?l_column ?c_column ?k_column ?a_first_column ?l_first_column ?c_first_column ?k_first_column ?a_heights ?l_heights ?c_heights ?k_heights ?a_measured ?l_measured ?c_measured ?k_measured ?a_low ?l_low ?c_low ?k_low ?a_l_begin ?l_l_begin ?c_l_begin ?k_l_begin ?a_l_take ?l_l_take ?c_l_take ?k_l_take ?a_l_wide ?l_l_wide ?c_l_wide ?k_l_wide ?a_l_p ?l_l_p ?c_l_p ?k_l_p ?a_l_tidy ?l_l_tidy ?c_l_tidy ?k_l_tidy ?a_l_pattern ?l_l_pattern ?c_l_pattern ?k_l_pattern ?a_l_column ?l_l_column ?c_l_column ?k_l_column ?a_l_draw_stair ?l_l_draw_stair ?c_l_draw_stair ?k_l_draw_stair ?a_l_draw_stairs ?l_l_draw_stairs ?c_l_draw_stairs ?k_l_draw_stairs ?a_l_first ?l_l_first ?c_l_first ?k_l_first ?a_l_spots ?l_l_spots ?c_l_spots ?k_l_spots ?a_l_size ?l_l_size ?c_l_size ?k_l_size ?a_l_lies_low ?l_l_lies_low ?c_l_lies_low ?k_l_lies_low ?a_l_int ?l_l_int ?c_l_int ?k_l_int ?a_l_close ?l_l_close ?c_l_close ?k_l_close ?a_law ?l_law ?c_law ?k_law ?z_abs ?z_any ?z_bool ?z_int ?z_isinstance ?z_len ?z_list ?z_max ?z_min ?z_range ?z_sorted ?z_tuple
    (case a_column => k_is)
    (case l_column => k_is)
    (case c_column => k_is)
    (case k_column => k_is)
    (case a_first_column => k_is)
    (case l_first_column => k_is)
    (case c_first_column => k_is)
    (case k_first_column => k_is)
    (case a_heights => k_is)
    (case l_heights => k_is)
    (case c_heights => k_is)
    (case k_heights => k_is)
    (case a_measured => k_is)
    (case l_measured => k_is)
    (case c_measured => k_is)
    (case k_measured => k_is)
    (case a_low => k_is)
    (case l_low => k_is)
    (case c_low => k_is)
    (case k_low => k_is)
    (case a_l_begin => k_is)
    (case l_l_begin => k_is)
    (case c_l_begin => k_is)
    (case k_l_begin => k_is)
    (case a_l_take => k_is)
    (case l_l_take => k_is)
    (case c_l_take => k_is)
    (case k_l_take => k_is)
    (case a_l_wide => k_is)
    (case l_l_wide => k_is)
    (case c_l_wide => k_is)
    (case k_l_wide => k_is)
    (case a_l_p => k_is)
    (case l_l_p => k_is)
    (case c_l_p => k_is)
    (case k_l_p => k_is)
    (case a_l_tidy => k_is)
    (case l_l_tidy => k_is)
    (case c_l_tidy => k_is)
    (case k_l_tidy => k_is)
    (case a_l_pattern => k_is)
    (case l_l_pattern => k_is)
    (case c_l_pattern => k_is)
    (case k_l_pattern => k_is)
    (case a_l_column => k_is)
    (case l_l_column => k_is)
    (case c_l_column => k_is)
    (case k_l_column => k_is)
    (case a_l_draw_stair => k_is)
    (case l_l_draw_stair => k_is)
    (case c_l_draw_stair => k_is)
    (case k_l_draw_stair => k_is)
    (case a_l_draw_stairs => k_is)
    (case l_l_draw_stairs => k_is)
    (case c_l_draw_stairs => k_is)
    (case k_l_draw_stairs => k_is)
    (case a_l_first => k_is)
    (case l_l_first => k_is)
    (case c_l_first => k_is)
    (case k_l_first => k_is)
    (case a_l_spots => k_is)
    (case l_l_spots => k_is)
    (case c_l_spots => k_is)
    (case k_l_spots => k_is)
    (case a_l_size => k_is)
    (case l_l_size => k_is)
    (case c_l_size => k_is)
    (case k_l_size => k_is)
    (case a_l_lies_low => k_is)
    (case l_l_lies_low => k_is)
    (case c_l_lies_low => k_is)
    (case k_l_lies_low => k_is)
    (case a_l_int => k_is)
    (case l_l_int => k_is)
    (case c_l_int => k_is)
    (case k_l_int => k_is)
    (case a_l_close => k_is)
    (case l_l_close => k_is)
    (case c_l_close => k_is)
    (case k_l_close => k_is)
    (case a_law => k_is)
    (case l_law => k_is)
    (case c_law => k_is)
    (case k_law => k_is)
    (case z_abs => k_is)
    (case z_any => k_is)
    (case z_bool => k_is)
    (case z_int => k_is)
    (case z_isinstance => k_is)
    (case z_len => k_is)
    (case z_list => k_is)
    (case z_max => k_is)
    (case z_min => k_is)
    (case z_range => k_is)
    (case z_sorted => k_is)
    (case z_tuple => k_is)
