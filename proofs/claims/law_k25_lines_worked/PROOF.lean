import PyProof.Rows.All
import Wide.All
import OpenK.AllK
import Wide.FinOn
import Lean
import PyProof.EqAt
import PyProof.EqKinds
import PyProof.TupleCall
import PyProof.NeKinds
import PyProof.SumAny
import PyProof.ConsumeS
import PyProof.WalkInts
import PyProof.Draws
import PyProof.EnumMake
import PyProof.Rows.Range3
import PyProof.MeetsStr
import KE.KDictLaws
import PyProof.Rows.CallKwBuiltin
import PyProof.DictItems
import KE.KPairComp
import PyProof.AttrMissHeap
import KE.KDictOf
import KE.KItemsList
import PySem.Challenge.RW_duskround_k25_lines_worked
set_option Elab.async false
set_option genSizeOf false
set_option genInjectivity false
set_option linter.all false
set_option maxRecDepth 100000
noncomputable section
namespace TS
open PySem PyProof.Rows
noncomputable def LE (less : Keyed -> Keyed -> Bool) (x y : Keyed) : Prop := less y x = false
structure Ord (less : Keyed -> Keyed -> Bool) : Prop where
 asym : ∀ x y, less x y = true -> less y x = false
 trans : ∀ x y z, LE less x y -> LE less y z -> LE less x z
section
variable {less : Keyed -> Keyed -> Bool}
theorem Ord.refl (O : Ord less) (x : Keyed) : LE less x x := by
 unfold LE
 cases h : less x x with
 | false => rfl
 | true => exact (O.asym x x h).symm.trans h ▸ rfl
theorem Ord.le (O : Ord less) {x y : Keyed} (h : less x y = true) : LE less x y := O.asym x y h
theorem Ord.le_lt (O : Ord less) {x y z : Keyed} (h : LE less x y) (h' : less y z = true) : less x z = true := by
 cases e : less x z with
 | true => rfl
 | false =>
   have := O.trans z x y e h
   unfold LE at this
   rw [h'] at this; cases this
end
noncomputable def ath (xs : Array Keyed) (i : Nat) : Keyed := (xs[i]?).getD (.none, .none)
theorem ath_lt {xs : Array Keyed} {i : Nat} (h : i < xs.size) : xs[i]? = some (ath xs i) := by
 unfold ath; rw [getElem?_pos xs i h]; rfl
theorem ath_congr {xs ys : Array Keyed} {i j : Nat} (h : xs[i]? = ys[j]?) : ath xs i = ath ys j := by unfold ath; rw [h]
theorem ath_mem {xs : Array Keyed} {i : Nat} (h : i < xs.size) : ath xs i ∈ xs.toList := by
 unfold ath; rw [getElem?_pos xs i h]; simp
noncomputable def Sg (less : Keyed -> Keyed -> Bool) (xs : Array Keyed) (lo hi : Nat) : Prop := ∀ i j, lo <= i -> i <= j -> j < hi -> LE less (ath xs i) (ath xs j)
noncomputable def Ng (less : Keyed -> Keyed -> Bool) (xs : Array Keyed) (lo hi : Nat) : Prop := ∀ i j, lo <= i -> i <= j -> j < hi -> LE less (ath xs j) (ath xs i)
structure SB (kd : SortKind) (a₀ : Array Keyed) (st : SortSt) : Prop where
 perm : (arrOf st).Perm a₀
 kd : kindOf st = kd
 fl : failedOf st = none
theorem SB.size {kd : SortKind} {a₀ : Array Keyed} {st : SortSt} (h : SB kd a₀ st) : (arrOf st).size = a₀.size := h.perm.size_eq
theorem SB.mem {kd : SortKind} {a₀ : Array Keyed} {st : SortSt} (h : SB kd a₀ st) {i : Nat} (hi : i < a₀.size) : ath (arrOf st) i ∈ a₀.toList :=
 (Array.perm_iff_toList_perm.mp h.perm).mem_iff.mp (ath_mem (by rw [h.size]; exact hi))
theorem SB.arr {kd : SortKind} {a₀ : Array Keyed} {st : SortSt} (h : SB kd a₀ st) {xs : Array Keyed} (hp : xs.Perm (arrOf st)) : SB kd a₀ (setArr st xs) := ⟨hp.trans h.perm, h.kd, h.fl⟩
noncomputable def LtOk (prog : Program) (w : World) (A : Around) (E : Value -> Shared -> Prop) (s : Shared) (kd : SortKind) (a₀ : Array Keyed) (less : Keyed -> Keyed -> Bool) : Prop :=
 ∀ (x y : Keyed) (st : SortSt) (Q : Option Bool -> SortSt -> Prop), x ∈ a₀.toList -> y ∈ a₀.toList -> kindOf st = kd -> Q (some (less x y)) st -> wpS (model prog w) A E s (lt' x y) Q st
section
variable {prog : Program} {w : World} {A : Around} {E : Value -> Shared -> Prop} {s : Shared} {kd : SortKind} {a₀ : Array Keyed} {less : Keyed -> Keyed -> Bool}
theorem wp_elem {xs : Array Keyed} {i : Nat} {Q : Keyed -> SortSt -> Prop} {st : SortSt} (hi : i < xs.size) (h : Q (ath xs i) st) : wpS (model prog w) A E s (elem' xs i) Q st := by
 rw [elem'_eq, ath_lt hi]; exact wpS_pure h
theorem wp_lt (L : LtOk prog w A E s kd a₀ less) {st : SortSt} {i j : Nat} {Q : Option Bool -> SortSt -> Prop} (B : SB kd a₀ st) (hi : i < a₀.size) (hj : j < a₀.size)
   (h : Q (some (less (ath (arrOf st) i) (ath (arrOf st) j))) st) : wpS (model prog w) A E s (ltAt' i j) Q st := by
 rw [ltAt'_eq]
 refine wpS_bind (wpS_get ?_)
 exact wpS_bind (wp_elem (by rw [B.size]; exact hi) (wpS_bind (wp_elem (by rw [B.size]; exact hj) (L _ _ _ _ (B.mem hi) (B.mem hj) B.kd h))))
theorem wp_rev {st : SortSt} {i j : Nat} {Q : Unit -> SortSt -> Prop} (h : Q () (setArr st (mirror (arrOf st) i j ((j - i) / 2)))) : wpS (model prog w) A E s (reverseSlice' i j) Q st := by
 rw [reverseSlice'_eq]; exact wpS_modify h
theorem ath_mirror {xs : Array Keyed} {i j : Nat} (hj : j <= xs.size) (k : Nat) : ath (mirror xs i j ((j - i) / 2)) k = if i <= k /\ k < j then ath xs (i + j - 1 - k) else ath xs k := by
 have e := getElem?_mirror_all (i := i) hj k
 by_cases c : i <= k /\ k < j
 · rw [if_pos c] at e ⊢; exact ath_congr e
 · rw [if_neg c] at e ⊢; exact ath_congr e
theorem ath_bubble {xs : Array Keyed} {src d : Nat} (hs : src < xs.size) (hd : d <= src) (k : Nat) : ath (bubble xs src d) k = if k = src - d then ath xs src else if src - d < k /\ k <= src then ath xs (k - 1) else ath xs k := by
 have e := getElem?_bubble hs d hd k
 by_cases c : k = src - d
 · rw [if_pos c] at e ⊢; exact ath_congr e
 · rw [if_neg c] at e ⊢
   by_cases c' : src - d < k /\ k <= src
   · rw [if_pos c'] at e ⊢; exact ath_congr e
   · rw [if_neg c'] at e ⊢; exact ath_congr e
noncomputable def ascL (lo a nrem : Nat) : StateT SortSt Sem AscSt :=
 forIn [a:nrem] ((none, a) : AscSt) fun _ c => do
   let x <- ltAt' (lo + c.snd) (lo + c.snd - 1)
   match x with
   | some b => if b = true then pure (ForInStep.done (none, c.snd)) else pure (ForInStep.yield (none, c.snd + 1))
   | _ => pure (ForInStep.done (some none, c.snd))
noncomputable def tailL (lo n nrem : Nat) : StateT SortSt Sem (Option Nat) := do
 reverseSlice' lo (lo + n)
 let c <- ascL lo n nrem
 match c.fst with
 | some r => pure r
 | none => pure (some c.snd)
noncomputable def descL (lo n nrem : Nat) : StateT SortSt Sem DescSt :=
 forIn [n:nrem] ((none, n, 0) : DescSt) fun _ c => do
   let x <- ltAt' (lo + c.snd.fst) (lo + c.snd.fst - 1)
   match x with
   | some b =>
     if b = true then
       if c.snd.snd > 0 then do
         reverseSlice' (lo + c.snd.fst - (c.snd.snd + 1)) (lo + c.snd.fst)
         pure (ForInStep.yield (none, c.snd.fst + 1, 0))
       else pure (ForInStep.yield (none, c.snd.fst + 1, 0))
     else do
       let y <- ltAt' (lo + c.snd.fst - 1) (lo + c.snd.fst)
       match y with
       | some d =>
         if d = true then pure (ForInStep.done (none, c.snd.fst, c.snd.snd))
         else pure (ForInStep.yield (none, c.snd.fst + 1, c.snd.snd + 1))
       | _ => pure (ForInStep.done (some none, c.snd.fst, c.snd.snd))
   | _ => pure (ForInStep.done (some none, c.snd.fst, c.snd.snd))
noncomputable def partL (lo n nrem : Nat) : StateT SortSt Sem (Option Nat) := do
 liftM (rule "list.sort.descending-run")
 let c <- descL lo (n + 1) nrem
 match c.fst with
 | some r => pure r
 | none =>
   if c.snd.snd > 0 then do
     reverseSlice' (lo + c.snd.fst - (c.snd.snd + 1)) (lo + c.snd.fst)
     tailL lo c.snd.fst nrem
   else tailL lo c.snd.fst nrem
theorem runL_eq (lo nrem : Nat) : countRun' lo nrem = (do
   let c <- ascL lo 1 nrem
   match c.fst with
   | some r => pure r
   | none =>
     if (c.snd == nrem) = true then pure (some c.snd)
     else if c.snd > 1 then do
       let x <- ltAt' lo (lo + c.snd - 1)
       match x with
       | some b => if b = true then pure (some c.snd) else do
           reverseSlice' lo (lo + c.snd)
           partL lo c.snd nrem
       | _ => pure none
     else partL lo c.snd nrem) := by
 rw [countRun'_eq]
 dsimp only
 unfold partL tailL descL ascL
 congr 1
 funext c
 obtain ⟨r, n⟩ := c
 cases r with
 | some r => rfl
 | none =>
   dsimp only
   split
   · rfl
   · split
     · congr 1
       funext x
       cases x with
       | none => rfl
       | some b =>
         dsimp only
         split
         · rfl
         · congr 1
           funext _r
           congr 1; funext _u; congr 1; congr 1; funext s2; obtain ⟨r2, n2, q2⟩ := s2
           cases r2 with
           | some r2 => rfl
           | none =>
             dsimp only; split
             · congr 1; funext _v; congr 1; funext _w; congr 1; funext s3; obtain ⟨r3, n3⟩ := s3; cases r3 <;> rfl
             · congr 1; funext _w; congr 1; funext s3; obtain ⟨r3, n3⟩ := s3; cases r3 <;> rfl
     · congr 1; funext _u; congr 1; congr 1; funext s2; obtain ⟨r2, n2, q2⟩ := s2
       cases r2 with
       | some r2 => rfl
       | none =>
         dsimp only; split
         · congr 1; funext _v; congr 1; funext _w; congr 1; funext s3; obtain ⟨r3, n3⟩ := s3; cases r3 <;> rfl
         · congr 1; funext _w; congr 1; funext s3; obtain ⟨r3, n3⟩ := s3; cases r3 <;> rfl
noncomputable def Out (lo hi : Nat) (xs ys : Array Keyed) : Prop := ∀ k, k < lo \/ hi <= k -> ath ys k = ath xs k
theorem Out.refl {lo hi : Nat} {xs : Array Keyed} : Out lo hi xs xs := fun _ _ => rfl
theorem Out.trans {lo hi : Nat} {xs ys zs : Array Keyed} (a : Out lo hi xs ys) (b : Out lo hi ys zs) : Out lo hi xs zs := fun k h => (b k h).trans (a k h)
theorem wp_ascL (O : Ord less) (L : LtOk prog w A E s kd a₀ less) {st : SortSt} {lo a nrem : Nat} {Q : AscSt -> SortSt -> Prop} (hn : lo + nrem <= a₀.size) (ha : 1 <= a) (han : a <= nrem) (B : SB kd a₀ st)
   (hs : Sg less (arrOf st) lo (lo + a))
   (h : ∀ n, a <= n -> n <= nrem -> Sg less (arrOf st) lo (lo + n) -> (n = nrem \/ less (ath (arrOf st) (lo + n)) (ath (arrOf st) (lo + n - 1)) = true) -> Q (none, n) st) :
   wpS (model prog w) A E s (ascL lo a nrem) Q st := by
 unfold ascL
 refine wpS_forRange (I := fun x c st' => st' = st /\ c = (none, x) /\ Sg less (arrOf st) lo (lo + x)) ?step ?fin ⟨rfl, rfl, hs⟩
 case fin =>
   rintro c st' ⟨rfl, rfl, hs'⟩
   rw [show max a nrem = nrem by lia] at hs' ⊢
   exact h nrem han (Nat.le_refl _) hs' (.inl rfl)
 case step =>
   rintro x c st' hax hxn ⟨rfl, rfl, hs'⟩
   dsimp only
   refine wpS_bind (wp_lt L B (by lia) (by lia) ?_)
   cases e : less (ath (arrOf st') (lo + x)) (ath (arrOf st') (lo + x - 1)) with
   | true =>
     simp only [if_true]
     exact wpS_pure (h x hax (by lia) hs' (.inr e))
   | false =>
     simp only [Bool.false_eq_true, if_false]
     refine wpS_pure ⟨rfl, rfl, fun i j hi hij hj => ?_⟩
     by_cases c : j < lo + x
     · exact hs' i j hi hij c
     · have : j = lo + x := by lia
       subst this
       by_cases c2 : i = lo + x
       · subst c2; exact O.refl _
       · exact O.trans _ _ _ (hs' i (lo + x - 1) hi (by lia) (by lia)) e
theorem wp_tailL (O : Ord less) (L : LtOk prog w A E s kd a₀ less) {st : SortSt} {lo n nrem : Nat} {Q : Option Nat -> SortSt -> Prop} (hn : lo + nrem <= a₀.size) (h1 : 1 <= n) (hnn : n <= nrem) (B : SB kd a₀ st)
   (hs : Ng less (arrOf st) lo (lo + n)) (h : ∀ m st', SB kd a₀ st' -> 1 <= m -> m <= nrem -> Sg less (arrOf st') lo (lo + m) -> pendingOf st' = pendingOf st -> Out lo (lo + nrem) (arrOf st) (arrOf st') -> Q (some m) st') :
   wpS (model prog w) A E s (tailL lo n nrem) Q st := by
 unfold tailL
 have hsz : lo + n <= (arrOf st).size := by rw [B.size]; lia
 refine wpS_bind (wp_rev ?_)
 have B' : SB kd a₀ (setArr st (mirror (arrOf st) lo (lo + n) ((lo + n - lo) / 2))) := B.arr (mirror_perm _ _ _ _)
 refine wpS_bind (wp_ascL O L hn h1 hnn B' ?_ fun m hm1 hm2 hsm _ => wpS_pure (h m _ B' (by lia) hm2 hsm rfl ?_))
 · intro i j hi hij hj
   show LE less (ath (mirror (arrOf st) lo (lo + n) ((lo + n - lo) / 2)) i) (ath (mirror (arrOf st) lo (lo + n) ((lo + n - lo) / 2)) j)
   rw [ath_mirror hsz, ath_mirror hsz, if_pos (by lia), if_pos (by lia)]
   exact hs _ _ (by lia) (by lia) (by lia)
 · intro k hk
   show ath (mirror (arrOf st) lo (lo + n) ((lo + n - lo) / 2)) k = _
   rw [ath_mirror hsz, if_neg (by lia)]
theorem ng_mirror (O : Ord less) {xs : Array Keyed} {lo i m : Nat} (hj : m <= xs.size) (hli : lo <= i) (hs : Ng less xs lo m) (he : ∀ k, i <= k -> k < m -> LE less (ath xs k) (ath xs (m - 1))) : Ng less (mirror xs i m ((m - i) / 2)) lo m := by
 intro a b ha hab hb
 rw [ath_mirror hj, ath_mirror hj]
 by_cases c1 : i <= a
 · rw [if_pos (by lia), if_pos (by lia)]
   refine O.trans _ _ _ (he (i + m - 1 - b) (by lia) (by lia)) (hs _ _ (by lia) (by lia) (by lia))
 · rw [if_neg (show ¬ (i <= a /\ a < m) by lia)]
   by_cases c2 : i <= b
   · rw [if_pos (by lia)]
     exact hs _ _ (by lia) (by lia) (by lia)
   · rw [if_neg (by lia)]
     exact hs _ _ (by lia) (by lia) (by lia)
theorem out_mirror {xs : Array Keyed} {lo hi i j : Nat} (hj : j <= xs.size) (h1 : lo <= i) (h2 : j <= hi) : Out lo hi xs (mirror xs i j ((j - i) / 2)) := fun k hk => by
 rw [ath_mirror hj, if_neg (by lia)]
theorem wp_descL (O : Ord less) (L : LtOk prog w A E s kd a₀ less) {st : SortSt} {lo n nrem : Nat} {Q : DescSt -> SortSt -> Prop} (hn : lo + nrem <= a₀.size) (h1 : 1 <= n) (hnn : n <= nrem) (B : SB kd a₀ st)
   (hs : Ng less (arrOf st) lo (lo + n))
   (h : ∀ m neq st', SB kd a₀ st' -> n <= m -> m <= nrem -> Ng less (arrOf st') lo (lo + m) -> neq + 1 <= m -> (∀ i, lo + m - (neq + 1) <= i -> i < lo + m -> LE less (ath (arrOf st') i) (ath (arrOf st') (lo + m - 1))) -> pendingOf st' = pendingOf st -> Out lo (lo + nrem) (arrOf st) (arrOf st') -> Q (none, m, neq) st') :
   wpS (model prog w) A E s (descL lo n nrem) Q st := by
 unfold descL
 refine wpS_forRange (I := fun x c st' => ∃ neq, c = (none, x, neq) /\ SB kd a₀ st' /\ Ng less (arrOf st') lo (lo + x) /\ neq + 1 <= x /\
     (∀ i, lo + x - (neq + 1) <= i -> i < lo + x -> LE less (ath (arrOf st') i) (ath (arrOf st') (lo + x - 1))) /\ pendingOf st' = pendingOf st /\ Out lo (lo + nrem) (arrOf st) (arrOf st')) ?step ?fin
     ⟨0, rfl, B, hs, by lia, fun i h1 h2 => by rw [show i = lo + n - 1 by lia]; exact O.refl _, rfl, Out.refl⟩
 case fin =>
   rintro c st' ⟨neq, rfl, B', hs', hq, he, hp, ho⟩
   rw [show max n nrem = nrem by lia] at hs' hq he ⊢
   exact h nrem neq st' B' hnn (Nat.le_refl _) hs' hq he hp ho
 case step =>
   rintro x c st' hax hxn ⟨neq, rfl, B', hs', hq, he, hp, ho⟩
   dsimp only
   have hsz : lo + x <= (arrOf st').size := by rw [B'.size]; lia
   refine wpS_bind (wp_lt L B' (by lia) (by lia) ?_)
   cases e : less (ath (arrOf st') (lo + x)) (ath (arrOf st') (lo + x - 1)) with
   | true =>
     simp only [if_true]
     by_cases hneq : neq > 0
     · rw [if_pos hneq]
       refine wpS_bind (wp_rev (wpS_pure ⟨0, rfl, B'.arr (mirror_perm _ _ _ _), ?_, by lia, fun i h1 h2 => by rw [show i = lo + (x + 1) - 1 by lia]; exact O.refl _, hp, ho.trans (out_mirror hsz (by lia) (by lia))⟩))
       have hm := ng_mirror O (i := lo + x - (neq + 1)) hsz (by lia) hs' he
       intro i j hi hij hj
       by_cases c : j < lo + x
       · exact hm i j hi hij c
       · have : j = lo + x := by lia
         subst this
         by_cases c2 : i = lo + x
         · subst c2; exact O.refl _
         · refine O.trans _ _ _ ?_ (hm i (lo + x - 1) hi (by lia) (by lia))
           show LE less (ath (mirror (arrOf st') (lo + x - (neq + 1)) (lo + x) ((lo + x - (lo + x - (neq + 1))) / 2)) (lo + x)) (ath (mirror (arrOf st') (lo + x - (neq + 1)) (lo + x) ((lo + x - (lo + x - (neq + 1))) / 2)) (lo + x - 1))
           rw [ath_mirror hsz, ath_mirror hsz, if_neg (by lia), if_pos (by lia)]
           exact O.trans _ _ _ (O.le e) (hs' _ _ (by lia) (by lia) (by lia))
     · rw [if_neg hneq]
       refine wpS_pure ⟨0, rfl, B', fun i j hi hij hj => ?_, by lia, fun i h1 h2 => by rw [show i = lo + (x + 1) - 1 by lia]; exact O.refl _, hp, ho⟩
       by_cases c : j < lo + x
       · exact hs' i j hi hij c
       · have : j = lo + x := by lia
         subst this
         by_cases c2 : i = lo + x
         · subst c2; exact O.refl _
         · exact O.trans _ _ _ (O.le e) (hs' i (lo + x - 1) hi (by lia) (by lia))
   | false =>
     simp only [Bool.false_eq_true, if_false]
     refine wpS_bind (wp_lt L B' (by lia) (by lia) ?_)
     cases e2 : less (ath (arrOf st') (lo + x - 1)) (ath (arrOf st') (lo + x)) with
     | true =>
       simp only [if_true]
       exact wpS_pure (h x neq st' B' hax (by lia) hs' hq he hp ho)
     | false =>
       simp only [Bool.false_eq_true, if_false]
       refine wpS_pure ⟨neq + 1, rfl, B', fun i j hi hij hj => ?_, by lia, fun i h1 h2 => ?_, hp, ho⟩
       · by_cases c : j < lo + x
         · exact hs' i j hi hij c
         · have : j = lo + x := by lia
           subst this
           by_cases c2 : i = lo + x
           · subst c2; exact O.refl _
           · exact O.trans _ _ _ e2 (hs' i (lo + x - 1) hi (by lia) (by lia))
       · rw [show lo + (x + 1) - 1 = lo + x by lia]
         by_cases c : i = lo + x
         · subst c; exact O.refl _
         · exact O.trans _ _ _ (he i (by lia) (by lia)) e
theorem wp_partL (O : Ord less) (L : LtOk prog w A E s kd a₀ less) {st : SortSt} {lo n nrem : Nat} {Q : Option Nat -> SortSt -> Prop} (hn : lo + nrem <= a₀.size) (hnn : n + 1 <= nrem) (B : SB kd a₀ st)
   (hs : Ng less (arrOf st) lo (lo + (n + 1))) (h : ∀ m st', SB kd a₀ st' -> 1 <= m -> m <= nrem -> Sg less (arrOf st') lo (lo + m) -> pendingOf st' = pendingOf st -> Out lo (lo + nrem) (arrOf st) (arrOf st') -> Q (some m) st') :
   wpS (model prog w) A E s (partL lo n nrem) Q st := by
 unfold partL
 refine wpS_bind (wpS_lift (wpAny_rule ⟨rfl, ?_⟩))
 refine wpS_bind (wp_descL O L hn (by lia) hnn B hs fun m neq st' B' hm1 hm2 hs' hq he hp ho => ?_)
 dsimp only
 have hsz : lo + m <= (arrOf st').size := by rw [B'.size]; lia
 by_cases hneq : neq > 0
 · rw [if_pos hneq]
   refine wpS_bind (wp_rev (wp_tailL O L hn (by lia) hm2 (B'.arr (mirror_perm _ _ _ _)) (ng_mirror O hsz (by lia) hs' he) fun m2 st2 b1 b2 b3 b4 b5 b6 => h m2 st2 b1 b2 b3 b4 (b5.trans hp) (ho.trans ((out_mirror hsz (by lia) (by lia)).trans b6))))
 · rw [if_neg hneq]
   exact wp_tailL O L hn (by lia) hm2 B' hs' fun m2 st2 b1 b2 b3 b4 b5 b6 => h m2 st2 b1 b2 b3 b4 (b5.trans hp) (ho.trans b6)
theorem wp_run (O : Ord less) (L : LtOk prog w A E s kd a₀ less) {st : SortSt} {lo nrem : Nat} {Q : Option Nat -> SortSt -> Prop} (hn : lo + nrem <= a₀.size) (h1 : 1 <= nrem) (B : SB kd a₀ st)
   (h : ∀ m st', SB kd a₀ st' -> 1 <= m -> m <= nrem -> Sg less (arrOf st') lo (lo + m) -> pendingOf st' = pendingOf st -> Out lo (lo + nrem) (arrOf st) (arrOf st') -> Q (some m) st') :
   wpS (model prog w) A E s (countRun' lo nrem) Q st := by
 rw [runL_eq]
 refine wpS_bind (wp_ascL O L hn (Nat.le_refl 1) h1 B (fun i j hi hij hj => by rw [show i = j by lia]; exact O.refl _) fun n hn1 hn2 hsn hor => ?_)
 dsimp only
 by_cases hnn : n = nrem
 · rw [if_pos (by simpa using hnn)]
   exact wpS_pure (h n st B hn1 hn2 hsn rfl Out.refl)
 · rw [if_neg (by simpa using hnn)]
   have hlt := hor.resolve_left hnn
   have hsz : lo + n <= (arrOf st).size := by rw [B.size]; lia
   by_cases hgt : n > 1
   · rw [if_pos hgt]
     refine wpS_bind (wp_lt L B (by lia) (by lia) ?_)
     cases e : less (ath (arrOf st) lo) (ath (arrOf st) (lo + n - 1)) with
     | true =>
       simp only [if_true]
       exact wpS_pure (h n st B hn1 hn2 hsn rfl Out.refl)
     | false =>
       simp only [Bool.false_eq_true, if_false]
       have hng : Ng less (arrOf st) lo (lo + n) := fun i j hi hij hj => O.trans _ _ _ (O.trans _ _ _ (hsn j (lo + n - 1) (by lia) (by lia) (by lia)) e) (hsn lo i (Nat.le_refl _) hi (by lia))
       refine wpS_bind (wp_rev (wp_partL O L hn (by lia) (B.arr (mirror_perm _ _ _ _)) ?_ fun m2 st2 b1 b2 b3 b4 b5 b6 => h m2 st2 b1 b2 b3 b4 b5 ((out_mirror hsz (by lia) (by lia)).trans b6)))
       have hm := ng_mirror O (i := lo) hsz (Nat.le_refl _) hng fun k _ _ => hsn k (lo + n - 1) (by lia) (by lia) (by lia)
       intro i j hi hij hj
       by_cases c : j < lo + n
       · exact hm i j hi hij c
       · have : j = lo + n := by lia
         subst this
         by_cases c2 : i = lo + n
         · subst c2; exact O.refl _
         · refine O.trans _ _ _ ?_ (hm i (lo + n - 1) hi (by lia) (by lia))
           show LE less (ath (mirror (arrOf st) lo (lo + n) ((lo + n - lo) / 2)) (lo + n)) (ath (mirror (arrOf st) lo (lo + n) ((lo + n - lo) / 2)) (lo + n - 1))
           rw [ath_mirror hsz, ath_mirror hsz, if_neg (by lia), if_pos (by lia)]
           exact O.trans _ _ _ (O.le hlt) (hng _ _ (by lia) (by lia) (by lia))
   · rw [if_neg hgt]
     have hn1' : n = 1 := by lia
     subst hn1'
     refine wp_partL O L hn (by lia) B (fun i j hi hij hj => ?_) h
     by_cases c : i = j
     · subst c; exact O.refl _
     · rw [show i = lo + 1 - 1 by lia, show j = lo + 1 by lia]
       exact O.le hlt
theorem wp_bin (O : Ord less) (L : LtOk prog w A E s kd a₀ less) {st : SortSt} {lo n ok : Nat} {Q : Bool -> SortSt -> Prop} (hn : lo + n <= a₀.size) (hok : ok <= n) (B : SB kd a₀ st) (hs : Sg less (arrOf st) lo (lo + ok))
   (h : ∀ st', SB kd a₀ st' -> Sg less (arrOf st') lo (lo + n) -> pendingOf st' = pendingOf st -> Out lo (lo + n) (arrOf st) (arrOf st') -> Q true st') : wpS (model prog w) A E s (binarySort' lo n ok) Q st := by
 rw [binarySort'_eq]
 refine wpS_bind (wpS_mono (wpS_forRange (I := fun k c st' => c = (none, ()) /\ SB kd a₀ st' /\ Sg less (arrOf st') lo (lo + min k n) /\ pendingOf st' = pendingOf st /\ Out lo (lo + n) (arrOf st) (arrOf st'))
   (Q := fun c st' => c = (none, ()) /\ SB kd a₀ st' /\ Sg less (arrOf st') lo (lo + n) /\ pendingOf st' = pendingOf st /\ Out lo (lo + n) (arrOf st) (arrOf st')) ?step ?fin ?init) ?post)
 case post =>
   rintro c st' ⟨rfl, B', hs', hp, ho⟩
   exact wpS_pure (h st' B' hs' hp ho)
 case init =>
   refine ⟨rfl, B, fun i j hi hij hj => ?_, rfl, Out.refl⟩
   by_cases c : ok = 0
   · rw [show i = j by lia]; exact O.refl _
   · exact hs i j hi hij (by lia)
 case fin =>
   rintro c st' ⟨hc, B', hs', hp, ho⟩
   refine ⟨hc, B', ?_, hp, ho⟩
   rwa [show min (max (max ok 1) n) n = n by lia] at hs'
 case step =>
   rintro k c st' hak hkn ⟨rfl, B', hs', hp, ho⟩
   rw [show min k n = k by lia] at hs'
   have hk : lo + k < a₀.size := by lia
   refine wpS_bind (wpS_mono (wpS_forRange (I := fun x c st'' => st'' = st' /\ ∃ l r, c = (none, l, r) /\ l <= r /\ r <= k /\ r - l <= k - x /\
       (∀ i, i < l -> LE less (ath (arrOf st') (lo + i)) (ath (arrOf st') (lo + k))) /\ (∀ i, r <= i -> i < k -> LE less (ath (arrOf st') (lo + k)) (ath (arrOf st') (lo + i))))
     (Q := fun c st'' => st'' = st' /\ ∃ l r, c = (none, l, r) /\ l <= k /\
       (∀ i, i < l -> LE less (ath (arrOf st') (lo + i)) (ath (arrOf st') (lo + k))) /\ (∀ i, l <= i -> i < k -> LE less (ath (arrOf st') (lo + k)) (ath (arrOf st') (lo + i)))) ?istep ?ifin ?iinit) ?ipost)
   case iinit => exact ⟨rfl, 0, k, rfl, by lia, by lia, by lia, fun i hi => by lia, fun i h1 h2 => by lia⟩
   case ifin =>
     rintro c st'' ⟨rfl, l, r, rfl, hlr, hrk, hm, hlo, hhi⟩
     have : l = r := by lia
     subst this
     exact ⟨rfl, l, l, rfl, hrk, hlo, hhi⟩
   case istep =>
     rintro x c st'' _ hxk ⟨rfl, l, r, rfl, hlr, hrk, hm, hlo, hhi⟩
     dsimp only
     by_cases hge : l ≥ r
     · rw [if_pos hge]
       have : l = r := by lia
       subst this
       exact wpS_pure ⟨rfl, l, l, rfl, hrk, hlo, hhi⟩
     · rw [if_neg hge]
       refine wpS_bind (wp_lt L B' hk (by lia) ?_)
       cases e : less (ath (arrOf st'') (lo + k)) (ath (arrOf st'') (lo + (l + r) / 2)) with
       | true =>
         simp only [if_true]
         refine wpS_pure ⟨rfl, l, (l + r) / 2, rfl, by lia, by lia, by lia, hlo, fun i h1 h2 => ?_⟩
         exact O.trans _ _ _ (O.le e) (hs' _ _ (by lia) (by lia) (by lia))
       | false =>
         simp only [Bool.false_eq_true, if_false]
         refine wpS_pure ⟨rfl, (l + r) / 2 + 1, r, rfl, by lia, by lia, by lia, fun i h1 => ?_, hhi⟩
         exact O.trans _ _ _ (hs' (lo + i) (lo + (l + r) / 2) (by lia) (by lia) (by lia)) e
   case ipost =>
     rintro c st'' ⟨rfl, l, r, rfl, hlk, hlo, hhi⟩
     show wpS _ _ _ _ (do moveDown' (lo + k) (lo + l); pure (ForInStep.yield (none, ()))) _ _
     rw [moveDown'_eq]
     have hks : lo + k < (arrOf st'').size := by rw [B'.size]; exact hk
     refine wpS_bind (wpS_modify (wpS_pure ⟨rfl, B'.arr (bubble_perm _ _ _), ?_, hp, ho.trans fun j hj => ?_⟩))
     · rw [show min (k + 1) n = k + 1 by lia]
       intro i j hi hij hj
       show LE less (ath (bubble (arrOf st'') (lo + k) (lo + k - (lo + l))) i) (ath (bubble (arrOf st'') (lo + k) (lo + k - (lo + l))) j)
       rw [ath_bubble hks (by lia), ath_bubble hks (by lia), show lo + k - (lo + k - (lo + l)) = lo + l by lia]
       have hlo' : ∀ i, lo <= i -> i < lo + l -> LE less (ath (arrOf st'') i) (ath (arrOf st'') (lo + k)) := fun i h1 h2 => by
         have := hlo (i - lo) (by lia)
         rwa [show lo + (i - lo) = i by lia] at this
       have hhi' : ∀ i, lo + l <= i -> i < lo + k -> LE less (ath (arrOf st'') (lo + k)) (ath (arrOf st'') i) := fun i h1 h2 => by
         have := hhi (i - lo) (by lia) (by lia)
         rwa [show lo + (i - lo) = i by lia] at this
       repeat' split
       all_goals first
         | (exfalso; lia)
         | exact O.refl _
         | exact hlo' _ (by lia) (by lia)
         | exact hhi' _ (by lia) (by lia)
         | exact hs' _ _ (by lia) (by lia) (by lia)
     · show ath (bubble (arrOf st'') (lo + k) (lo + k - (lo + l))) j = _
       rw [ath_bubble hks (by lia), if_neg (by lia), if_neg (by lia)]
end
end TS
namespace TS
open PySem PyProof.Rows
noncomputable def gal : Bool -> Keyed -> Array Keyed -> Nat -> Nat -> Nat -> StateT SortSt Sem (Option Nat) := sortPriv% PySem.Builtin.gallop
noncomputable def mLo : Array Keyed -> Array Keyed -> StateT SortSt Sem (Array Keyed) := sortPriv% PySem.Builtin.mergeLo
noncomputable def mHi : Array Keyed -> Array Keyed -> StateT SortSt Sem (Array Keyed) := sortPriv% PySem.Builtin.mergeHi
noncomputable abbrev setGal (st : SortSt) (g : Nat) : SortSt := SortSt.mk' (kindOf st) (arrOf st) (pendingOf st) g (failedOf st)
noncomputable def bey (left : Bool) (key : Keyed) (arr : Array Keyed) (base i : Nat) : StateT SortSt Sem (Option Bool) := do
 let x <- elem' arr (base + i)
 if left then lt' x key else return (<- lt' key x).map (!·)
theorem gal_eq (left : Bool) (key : Keyed) (arr : Array Keyed) (base n hint : Nat) : gal left key arr base n hint = (do
 let mut la := 0
 let mut f := 1
 let mut lo := 0
 let mut hi := 0
 let some g <- bey left key arr base hint | return none
 if g then
   let mx := n - hint
   for _ in [0:n] do
     if f ≥ mx then break
     let some g <- bey left key arr base (hint + f) | return none
     if !g then break
     la := f
     f := 2 * f + 1
   lo := hint + la + 1
   hi := hint + min f mx
 else
   let mx := hint + 1
   for _ in [0:n] do
     if f ≥ mx then break
     let some g <- bey left key arr base (hint - f) | return none
     if g then break
     la := f
     f := 2 * f + 1
   lo := hint + 1 - min f mx
   hi := hint - la
 for _ in [0:n] do
   if lo ≥ hi then break
   let m := lo + (hi - lo) / 2
   let some g <- bey left key arr base m | return none
   if g then lo := m + 1 else hi := m
 return some hi) := rfl
section
variable {prog : Program} {w : World} {A : Around} {E : Value -> Shared -> Prop} {s : Shared} {kd : SortKind} {a₀ : Array Keyed} {less : Keyed -> Keyed -> Bool}
theorem wp_gal0 {st : SortSt} {left : Bool} {key : Keyed} {arr : Array Keyed} {base n hint : Nat} {Q : Option Nat -> SortSt -> Prop} (Bf : Nat -> Bool) (hh : hint < n)
   (hb : ∀ i, i < n -> ∀ Q' : Option Bool -> SortSt -> Prop, Q' (some (Bf i)) st -> wpS (model prog w) A E s (bey left key arr base i) Q' st)
   (mono : ∀ i j, i <= j -> j < n -> Bf j = true -> Bf i = true)
   (h : ∀ k, k <= n -> (∀ i, i < k -> Bf i = true) -> (∀ i, k <= i -> i < n -> Bf i = false) -> Q (some k) st) :
   wpS (model prog w) A E s (gal left key arr base n hint) Q st := by
 have mono' : ∀ i j, i <= j -> j < n -> Bf i = false -> Bf j = false := fun i j hij hj e => by
   cases e2 : Bf j with
   | false => rfl
   | true => rw [mono i j hij hj e2] at e; cases e
 rw [gal_eq]
 dsimp only
 refine wpS_bind (hb hint hh _ ?_)
 dsimp only
 cases hB : Bf hint with
 | true =>
   simp only [if_true]
   refine wpS_bind (wpS_mono (wpS_forRange (I := fun i c st' => st' = st /\ ∃ la f, c = (none, la, f) /\ i + 1 <= f /\ la < f /\ hint + la < n /\ Bf (hint + la) = true)
     (Q := fun c st' => st' = st /\ ∃ la f, c = (none, la, f) /\ la < f /\ hint + la < n /\ Bf (hint + la) = true /\ (n - hint <= f \/ (hint + f < n /\ Bf (hint + f) = false)))
     ?_ ?_ ⟨rfl, 0, 1, rfl, by omega, by omega, by omega, hB⟩) ?_)
   · rintro i c st' _ hi ⟨rfl, la, f, rfl, h1, h2, h3, h4⟩
     dsimp only
     by_cases c1 : f ≥ n - hint
     · rw [if_pos c1]
       exact wpS_pure ⟨rfl, la, f, rfl, h2, h3, h4, .inl c1⟩
     · rw [if_neg c1]
       refine wpS_bind (hb _ (by omega) _ ?_)
       cases e : Bf (hint + f) with
       | true =>
         simp only [Bool.not_true, Bool.false_eq_true, if_false]
         exact wpS_pure ⟨rfl, f, 2 * f + 1, rfl, by omega, by omega, by omega, e⟩
       | false =>
         simp only [Bool.not_false, if_true]
         exact wpS_pure ⟨rfl, la, f, rfl, h2, h3, h4, .inr ⟨by omega, e⟩⟩
   · rintro c st' ⟨rfl, la, f, rfl, h1, h2, h3, h4⟩
     exact ⟨rfl, la, f, rfl, h2, h3, h4, .inl (by omega)⟩
   · rintro c st' ⟨rfl, la, f, rfl, h2, h3, h4, h5⟩
     dsimp only
     refine wpS_bind (wpS_mono (wpS_forRange (I := fun i c st'' => st'' = st' /\ ∃ lo hi, c = (none, lo, hi) /\ lo <= hi /\ hi <= n /\ hi - lo <= n - i /\ (∀ i, i < lo -> Bf i = true) /\ (∀ i, hi <= i -> i < n -> Bf i = false))
       (Q := fun c st'' => st'' = st' /\ ∃ lo hi, c = (none, lo, hi) /\ hi <= n /\ (∀ i, i < hi -> Bf i = true) /\ (∀ i, hi <= i -> i < n -> Bf i = false)) ?_ ?_
       ⟨rfl, _, _, rfl, by omega, by omega, by omega, fun i hi => mono i (hint + la) (by omega) h3 h4, fun i hi hin => ?_⟩) ?_)
     · rintro i c st'' _ hi ⟨rfl, lo, hi', rfl, g1, g2, g3, g4, g5⟩
       dsimp only
       by_cases c1 : lo ≥ hi'
       · rw [if_pos c1]
         have : lo = hi' := by omega
         subst this
         exact wpS_pure ⟨rfl, _, _, rfl, g2, g4, g5⟩
       · rw [if_neg c1]
         refine wpS_bind (hb _ (by omega) _ ?_)
         cases e : Bf (lo + (hi' - lo) / 2) with
         | true =>
           simp only [if_true]
           exact wpS_pure ⟨rfl, _, _, rfl, by omega, g2, by omega, fun j hj => mono j _ (by omega) (by omega) e, g5⟩
         | false =>
           simp only [Bool.false_eq_true, if_false]
           exact wpS_pure ⟨rfl, _, _, rfl, by omega, by omega, by omega, g4, fun j hj hjn => mono' _ j hj hjn e⟩
     · rintro c st'' ⟨rfl, lo, hi', rfl, g1, g2, g3, g4, g5⟩
       have : lo = hi' := by omega
       subst this
       exact ⟨rfl, _, _, rfl, g2, g4, g5⟩
     · rcases h5 with h5 | ⟨h5, h6⟩
       · omega
       · exact mono' (hint + f) i (by omega) hin h6
     · rintro c st'' ⟨rfl, lo, hi', rfl, g2, g4, g5⟩
       exact wpS_pure (h _ g2 g4 g5)
 | false =>
   simp only [Bool.false_eq_true, if_false]
   refine wpS_bind (wpS_mono (wpS_forRange (I := fun i c st' => st' = st /\ ∃ la f, c = (none, la, f) /\ i + 1 <= f /\ la < f /\ la <= hint /\ Bf (hint - la) = false)
     (Q := fun c st' => st' = st /\ ∃ la f, c = (none, la, f) /\ la < f /\ la <= hint /\ Bf (hint - la) = false /\ (hint + 1 <= f \/ (f <= hint /\ Bf (hint - f) = true)))
     ?_ ?_ ⟨rfl, 0, 1, rfl, by omega, by omega, by omega, hB⟩) ?_)
   · rintro i c st' _ hi ⟨rfl, la, f, rfl, h1, h2, h3, h4⟩
     dsimp only
     by_cases c1 : f ≥ hint + 1
     · rw [if_pos c1]
       exact wpS_pure ⟨rfl, la, f, rfl, h2, h3, h4, .inl c1⟩
     · rw [if_neg c1]
       refine wpS_bind (hb _ (by omega) _ ?_)
       cases e : Bf (hint - f) with
       | false =>
         simp only [Bool.false_eq_true, if_false]
         exact wpS_pure ⟨rfl, f, 2 * f + 1, rfl, by omega, by omega, by omega, e⟩
       | true =>
         simp only [if_true]
         exact wpS_pure ⟨rfl, la, f, rfl, h2, h3, h4, .inr ⟨by omega, e⟩⟩
   · rintro c st' ⟨rfl, la, f, rfl, h1, h2, h3, h4⟩
     exact ⟨rfl, la, f, rfl, h2, h3, h4, .inl (by omega)⟩
   · rintro c st' ⟨rfl, la, f, rfl, h2, h3, h4, h5⟩
     dsimp only
     refine wpS_bind (wpS_mono (wpS_forRange (I := fun i c st'' => st'' = st' /\ ∃ lo hi, c = (none, lo, hi) /\ lo <= hi /\ hi <= n /\ hi - lo <= n - i /\ (∀ i, i < lo -> Bf i = true) /\ (∀ i, hi <= i -> i < n -> Bf i = false))
       (Q := fun c st'' => st'' = st' /\ ∃ lo hi, c = (none, lo, hi) /\ hi <= n /\ (∀ i, i < hi -> Bf i = true) /\ (∀ i, hi <= i -> i < n -> Bf i = false)) ?_ ?_
       ⟨rfl, _, _, rfl, by omega, by omega, by omega, fun i hi => ?_, fun i hi hin => mono' (hint - la) i (by omega) hin h4⟩) ?_)
     · rintro i c st'' _ hi ⟨rfl, lo, hi', rfl, g1, g2, g3, g4, g5⟩
       dsimp only
       by_cases c1 : lo ≥ hi'
       · rw [if_pos c1]
         have : lo = hi' := by omega
         subst this
         exact wpS_pure ⟨rfl, _, _, rfl, g2, g4, g5⟩
       · rw [if_neg c1]
         refine wpS_bind (hb _ (by omega) _ ?_)
         cases e : Bf (lo + (hi' - lo) / 2) with
         | true =>
           simp only [if_true]
           exact wpS_pure ⟨rfl, _, _, rfl, by omega, g2, by omega, fun j hj => mono j _ (by omega) (by omega) e, g5⟩
         | false =>
           simp only [Bool.false_eq_true, if_false]
           exact wpS_pure ⟨rfl, _, _, rfl, by omega, by omega, by omega, g4, fun j hj hjn => mono' _ j hj hjn e⟩
     · rintro c st'' ⟨rfl, lo, hi', rfl, g1, g2, g3, g4, g5⟩
       have : lo = hi' := by omega
       subst this
       exact ⟨rfl, _, _, rfl, g2, g4, g5⟩
     · rcases h5 with h5 | ⟨h5, h6⟩
       · omega
       · exact mono i (hint - f) (by omega) (by omega) h6
     · rintro c st'' ⟨rfl, lo, hi', rfl, g2, g4, g5⟩
       exact wpS_pure (h _ g2 g4 g5)
theorem wp_galL (O : Ord less) (L : LtOk prog w A E s kd a₀ less) {st : SortSt} {key : Keyed} {arr : Array Keyed} {base n hint : Nat} {Q : Option Nat -> SortSt -> Prop} (B : kindOf st = kd) (hk : key ∈ a₀.toList)
   (hm : ∀ i, i < n -> base + i < arr.size /\ ath arr (base + i) ∈ a₀.toList) (hh : hint < n) (hs : Sg less arr base (base + n))
   (h : ∀ k, k <= n -> (∀ i, i < k -> less (ath arr (base + i)) key = true) -> (∀ i, k <= i -> i < n -> LE less key (ath arr (base + i))) -> Q (some k) st) :
   wpS (model prog w) A E s (gal true key arr base n hint) Q st := by
 refine wp_gal0 (fun i => less (ath arr (base + i)) key) hh (fun i hi Q' hq => ?_) (fun i j hij hj e => O.le_lt (hs (base + i) (base + j) (by omega) (by omega) (by omega)) e) h
 unfold bey
 refine wpS_bind (wp_elem (hm i hi).1 ?_)
 simp only [if_true]
 exact L _ _ _ _ (hm i hi).2 hk B hq
theorem wp_galR (O : Ord less) (L : LtOk prog w A E s kd a₀ less) {st : SortSt} {key : Keyed} {arr : Array Keyed} {base n hint : Nat} {Q : Option Nat -> SortSt -> Prop} (B : kindOf st = kd) (hk : key ∈ a₀.toList)
   (hm : ∀ i, i < n -> base + i < arr.size /\ ath arr (base + i) ∈ a₀.toList) (hh : hint < n) (hs : Sg less arr base (base + n))
   (h : ∀ k, k <= n -> (∀ i, i < k -> LE less (ath arr (base + i)) key) -> (∀ i, k <= i -> i < n -> less key (ath arr (base + i)) = true) -> Q (some k) st) :
   wpS (model prog w) A E s (gal false key arr base n hint) Q st := by
 refine wp_gal0 (fun i => !less key (ath arr (base + i))) hh (fun i hi Q' hq => ?_) (fun i j hij hj e => ?_) (fun k h1 h2 h3 => h k h1 (fun i hi => ?_) fun i h4 h5 => ?_)
 · unfold bey
   refine wpS_bind (wp_elem (hm i hi).1 ?_)
   simp only [Bool.false_eq_true, if_false]
   exact wpS_bind (L _ _ _ _ hk (hm i hi).2 B (wpS_pure hq))
 · simp only [Bool.not_eq_true'] at e ⊢
   exact O.trans _ _ _ (hs (base + i) (base + j) (by omega) (by omega) (by omega)) e
 · have := h2 i hi
   simp only [Bool.not_eq_true'] at this
   exact this
 · have := h3 i h4 h5
   simpa using this
theorem mLo_eq (a b : Array Keyed) : mLo a b = (do
 rule "list.sort.merge-lo"
 let tt := a.size + b.size
 let dn (o : Array Keyed) (i j : Nat) := o ++ a.extract i a.size ++ b.extract j b.size
 let la (o : Array Keyed) (i j : Nat) := o ++ b.extract j b.size ++ a.extract i a.size
 let mut o : Array Keyed := #[<- elem' b 0]
 let mut i := 0
 let mut j := 1
 if j == b.size then return dn o i j
 if i + 1 == a.size then return la o i j
 let mut mg := gallopOf (<- get)
 for _ in [0:tt] do
   let mut ac := 0
   let mut bc := 0
   for _ in [0:tt] do
     let some g <- lt' (<- elem' b j) (<- elem' a i) | return dn o i j
     if g then
       o := o.push (<- elem' b j); j := j + 1; bc := bc + 1; ac := 0
       if j == b.size then return dn o i j
       if bc ≥ mg then break
     else
       o := o.push (<- elem' a i); i := i + 1; ac := ac + 1; bc := 0
       if i + 1 == a.size then return la o i j
       if ac ≥ mg then break
   rule "list.sort.gallop"
   mg := mg + 1
   for _ in [0:tt] do
     if mg > 1 then mg := mg - 1
     modify fun s => setGal s mg
     let some k <- gal false (<- elem' b j) a i (a.size - i) 0 | return dn o i j
     ac := k
     if k > 0 then
       o := o ++ a.extract i (i + k); i := i + k
       if i + 1 == a.size then return la o i j
       if i == a.size then return dn o i j
     o := o.push (<- elem' b j); j := j + 1
     if j == b.size then return dn o i j
     let some k <- gal true (<- elem' a i) b j (b.size - j) 0 | return dn o i j
     bc := k
     if k > 0 then
       o := o ++ b.extract j (j + k); j := j + k
       if j == b.size then return dn o i j
     o := o.push (<- elem' a i); i := i + 1
     if i + 1 == a.size then return la o i j
     if ac < 7 && bc < 7 then break
   mg := mg + 1
   modify fun s => setGal s mg
 unsupported "internal:list.sort.merge-bound") := rfl
theorem mHi_eq (a b : Array Keyed) : mHi a b = (do
 rule "list.sort.merge-hi"
 let tt := a.size + b.size
 let dn (o : Array Keyed) (i j : Nat) := a.extract 0 i ++ b.extract 0 j ++ o.reverse
 let fb (o : Array Keyed) (i j : Nat) := b.extract 0 j ++ a.extract 0 i ++ o.reverse
 let mut i := a.size - 1
 let mut j := b.size
 let mut o : Array Keyed := #[<- elem' a i]
 if i == 0 then return dn o i j
 if j == 1 then return fb o i j
 let mut mg := gallopOf (<- get)
 for _ in [0:tt] do
   let mut ac := 0
   let mut bc := 0
   for _ in [0:tt] do
     let some g <- lt' (<- elem' b (j - 1)) (<- elem' a (i - 1)) | return dn o i j
     if g then
       i := i - 1; o := o.push (<- elem' a i); ac := ac + 1; bc := 0
       if i == 0 then return dn o i j
       if ac ≥ mg then break
     else
       j := j - 1; o := o.push (<- elem' b j); bc := bc + 1; ac := 0
       if j == 1 then return fb o i j
       if bc ≥ mg then break
   rule "list.sort.gallop"
   mg := mg + 1
   for _ in [0:tt] do
     if mg > 1 then mg := mg - 1
     modify fun s => setGal s mg
     let some at_ <- gal false (<- elem' b (j - 1)) a 0 i (i - 1) | return dn o i j
     let k := i - at_
     ac := k
     if k > 0 then
       o := o ++ (a.extract at_ i).reverse; i := at_
       if i == 0 then return dn o i j
     j := j - 1; o := o.push (<- elem' b j)
     if j == 1 then return fb o i j
     let some at_ <- gal true (<- elem' a (i - 1)) b 0 j (j - 1) | return dn o i j
     let k := j - at_
     bc := k
     if k > 0 then
       o := o ++ (b.extract at_ j).reverse; j := at_
       if j == 1 then return fb o i j
       if j == 0 then return dn o i j
     i := i - 1; o := o.push (<- elem' a i)
     if i == 0 then return dn o i j
     if ac < 7 && bc < 7 then break
   mg := mg + 1
   modify fun s => setGal s mg
 unsupported "internal:list.sort.merge-bound") := rfl
end
end TS
namespace TS
open PySem PyProof.Rows
structure MI (less : Keyed -> Keyed -> Bool) (al bl o : List Keyed) (i j : Nat) : Prop where
 pm : o.Perm (al.take i ++ bl.take j)
 so : o.Pairwise (LE less)
 ba : ∀ x ∈ o, ∀ y ∈ al.drop i, LE less x y
 bb : ∀ x ∈ o, ∀ y ∈ bl.drop j, LE less x y
section
variable {less : Keyed -> Keyed -> Bool} {al bl o : List Keyed} {i j : Nat}
theorem MI.swap (h : MI less al bl o i j) : MI less bl al o j i := ⟨h.pm.trans List.perm_append_comm, h.so, h.bb, h.ba⟩
theorem take_add {α : Type} (l : List α) (i k : Nat) : l.take (i + k) = l.take i ++ (l.drop i).take k := by
 rw [List.take_add]
theorem MI.blk (h : MI less al bl o i j) (sa : al.Pairwise (LE less)) (k : Nat) (hk : ∀ x ∈ (al.drop i).take k, ∀ y ∈ bl.drop j, LE less x y) : MI less al bl (o ++ (al.drop i).take k) (i + k) j := by
 have sd : (al.drop i).Pairwise (LE less) := sa.sublist (List.drop_sublist _ _)
 have e : (al.drop i).take k ++ al.drop (i + k) = al.drop i := by rw [<- List.drop_drop, List.take_append_drop]
 have sd2 := sd
 rw [<- e, List.pairwise_append] at sd2
 refine ⟨?_, ?_, ?_, ?_⟩
 · rw [take_add, List.append_assoc]
   refine (h.pm.append_right _).trans ?_
   rw [List.append_assoc]
   exact List.Perm.append_left _ List.perm_append_comm
 · rw [List.pairwise_append]
   exact ⟨h.so, sd2.1, fun x hx y hy => h.ba x hx y (List.mem_of_mem_take hy)⟩
 · intro x hx y hy
   rcases List.mem_append.mp hx with hx | hx
   · exact h.ba x hx y (by rw [<- e]; exact List.mem_append_right _ hy)
   · exact sd2.2.2 x hx y hy
 · intro x hx y hy
   rcases List.mem_append.mp hx with hx | hx
   · exact h.bb x hx y hy
   · exact hk x hx y hy
theorem MI.fin (h : MI less al bl o i j) (sa : al.Pairwise (LE less)) (sb : bl.Pairwise (LE less)) (hk : ∀ x ∈ bl.drop j, ∀ y ∈ al.drop i, LE less x y) : (o ++ bl.drop j ++ al.drop i).Perm (al ++ bl) /\ (o ++ bl.drop j ++ al.drop i).Pairwise (LE less) := by
 constructor
 · rw [List.append_assoc]
   refine (h.pm.append_right _).trans ?_
   have e1 : (al ++ bl).Perm ((al.take i ++ al.drop i) ++ (bl.take j ++ bl.drop j)) := by rw [List.take_append_drop, List.take_append_drop]
   refine List.Perm.trans ?_ e1.symm
   rw [List.append_assoc, List.append_assoc]
   refine List.Perm.append_left _ ?_
   rw [<- List.append_assoc]
   exact List.perm_append_comm
 · rw [List.pairwise_append, List.pairwise_append]
   refine ⟨⟨h.so, sb.sublist (List.drop_sublist _ _), h.bb⟩, sa.sublist (List.drop_sublist _ _), fun x hx y hy => ?_⟩
   rcases List.mem_append.mp hx with hx | hx
   · exact h.ba x hx y hy
   · exact hk x hx y hy
structure MH (less : Keyed -> Keyed -> Bool) (al bl t : List Keyed) (i j : Nat) : Prop where
 pm : t.Perm (al.drop i ++ bl.drop j)
 so : t.Pairwise (LE less)
 ba : ∀ x ∈ t, ∀ y ∈ al.take i, LE less y x
 bb : ∀ x ∈ t, ∀ y ∈ bl.take j, LE less y x
theorem MH.swap {t : List Keyed} (h : MH less al bl t i j) : MH less bl al t j i := ⟨h.pm.trans List.perm_append_comm, h.so, h.bb, h.ba⟩
theorem MH.blk {t : List Keyed} (h : MH less al bl t i j) (sa : al.Pairwise (LE less)) {k : Nat} (hki : k <= i) (hk : ∀ x ∈ (al.take i).drop k, ∀ y ∈ bl.take j, LE less y x) : MH less al bl ((al.take i).drop k ++ t) k j := by
 have sd : (al.take i).Pairwise (LE less) := sa.sublist (List.take_sublist _ _)
 have e0 : (al.take i).take k = al.take k := by rw [List.take_take, Nat.min_eq_left hki]
 have e : al.take k ++ (al.take i).drop k = al.take i := by rw [<- e0, List.take_append_drop]
 have sd2 := sd
 rw [<- e, List.pairwise_append] at sd2
 have e3 : al.drop k = (al.take i).drop k ++ al.drop i := by
   have := List.take_append_drop i al
   have e4 : al.drop k = (al.take i ++ al.drop i).drop k := by rw [this]
   rw [e4]
   by_cases c : i <= al.length
   · rw [List.drop_append_of_le_length (by rw [List.length_take]; lia)]
   · have z : al.drop i = [] := List.drop_eq_nil_of_le (by lia)
     rw [z, List.append_nil, List.append_nil]
 refine ⟨?_, ?_, ?_, ?_⟩
 · rw [e3, List.append_assoc]
   exact List.Perm.append_left _ h.pm
 · rw [List.pairwise_append]
   exact ⟨sd2.2.1, h.so, fun x hx y hy => h.ba y hy x (by rw [<- e]; exact List.mem_append_right _ hx)⟩
 · intro x hx y hy
   rcases List.mem_append.mp hx with hx | hx
   · exact sd2.2.2 y hy x hx
   · exact h.ba x hx y (by rw [<- e]; exact List.mem_append_left _ hy)
 · intro x hx y hy
   rcases List.mem_append.mp hx with hx | hx
   · exact hk x hx y hy
   · exact h.bb x hx y hy
theorem MH.fin {t : List Keyed} (h : MH less al bl t i j) (sa : al.Pairwise (LE less)) (sb : bl.Pairwise (LE less)) (hk : ∀ x ∈ al.take i, ∀ y ∈ bl.take j, LE less x y) : (al.take i ++ bl.take j ++ t).Perm (al ++ bl) /\ (al.take i ++ bl.take j ++ t).Pairwise (LE less) := by
 constructor
 · refine (List.Perm.append_left _ h.pm).trans ?_
   have e1 : (al ++ bl).Perm ((al.take i ++ al.drop i) ++ (bl.take j ++ bl.drop j)) := by rw [List.take_append_drop, List.take_append_drop]
   refine List.Perm.trans ?_ e1.symm
   rw [List.append_assoc, List.append_assoc]
   refine List.Perm.append_left _ ?_
   rw [<- List.append_assoc, <- List.append_assoc]
   exact List.Perm.append_right _ List.perm_append_comm
 · rw [List.pairwise_append, List.pairwise_append]
   refine ⟨⟨sa.sublist (List.take_sublist _ _), sb.sublist (List.take_sublist _ _), hk⟩, h.so, fun x hx y hy => ?_⟩
   rcases List.mem_append.mp hx with hx | hx
   · exact h.ba y hy x hx
   · exact h.bb y hy x hx
end
noncomputable abbrev R5 := Option (Array Keyed) × Array Keyed × Nat × Nat × Nat
noncomputable abbrev R6 := Option (Array Keyed) × Array Keyed × Nat × Nat × Nat × Nat
noncomputable abbrev R7 := Option (Array Keyed) × Array Keyed × Nat × Nat × Nat × Nat × Nat
section
variable (a b : Array Keyed)
noncomputable abbrev dnL (o : Array Keyed) (i j : Nat) : Array Keyed := o ++ a.extract i a.size ++ b.extract j b.size
noncomputable abbrev laL (o : Array Keyed) (i j : Nat) : Array Keyed := o ++ b.extract j b.size ++ a.extract i a.size
noncomputable def one1 (mg : Nat) (o : Array Keyed) (i j ac bc : Nat) : StateT SortSt Sem (ForInStep R6) := do
 let x <- elem' b j
 let y <- elem' a i
 let g <- lt' x y
 match g with
 | some g =>
   if g = true then do
     let x <- elem' b j
     if (j + 1 == b.size) = true then pure (.done (some (dnL a b (o.push x) i (j + 1)), o.push x, i, j + 1, 0, bc + 1))
     else if bc + 1 ≥ mg then pure (.done (none, o.push x, i, j + 1, 0, bc + 1))
     else pure (.yield (none, o.push x, i, j + 1, 0, bc + 1))
   else do
     let x <- elem' a i
     if (i + 1 + 1 == a.size) = true then pure (.done (some (laL a b (o.push x) (i + 1) j), o.push x, i + 1, j, ac + 1, 0))
     else if ac + 1 ≥ mg then pure (.done (none, o.push x, i + 1, j, ac + 1, 0))
     else pure (.yield (none, o.push x, i + 1, j, ac + 1, 0))
 | _ => pure (.done (some (dnL a b o i j), o, i, j, ac, bc))
noncomputable def p3L (mg ac bc : Nat) (o : Array Keyed) (i j : Nat) : StateT SortSt Sem (ForInStep R7) := do
 let x <- elem' a i
 if (i + 1 + 1 == a.size) = true then pure (.done (some (laL a b (o.push x) (i + 1) j), o.push x, i + 1, j, mg, ac, bc))
 else if (decide (ac < 7) && decide (bc < 7)) = true then pure (.done (none, o.push x, i + 1, j, mg, ac, bc))
 else pure (.yield (none, o.push x, i + 1, j, mg, ac, bc))
noncomputable def p2L (mg ac bc : Nat) (o : Array Keyed) (i j : Nat) : StateT SortSt Sem (ForInStep R7) := do
 let x <- elem' b j
 if (j + 1 == b.size) = true then pure (.done (some (dnL a b (o.push x) i (j + 1)), o.push x, i, j + 1, mg, ac, bc))
 else do
   let y <- elem' a i
   let r <- gal true y b (j + 1) (b.size - (j + 1)) 0
   match r with
   | some k =>
     if k > 0 then
       if (j + 1 + k == b.size) = true then pure (.done (some (dnL a b (o.push x ++ b.extract (j + 1) (j + 1 + k)) i (j + 1 + k)), o.push x ++ b.extract (j + 1) (j + 1 + k), i, j + 1 + k, mg, ac, k))
       else p3L a b mg ac k (o.push x ++ b.extract (j + 1) (j + 1 + k)) i (j + 1 + k)
     else p3L a b mg ac k (o.push x) i (j + 1)
   | _ => pure (.done (some (dnL a b (o.push x) i (j + 1)), o.push x, i, j + 1, mg, ac, bc))
noncomputable def p1L (mg ac bc : Nat) (o : Array Keyed) (i j : Nat) : StateT SortSt Sem (ForInStep R7) := do
 modify fun s => setGal s mg
 let x <- elem' b j
 let r <- gal false x a i (a.size - i) 0
 match r with
 | some k =>
   if k > 0 then
     if (i + k + 1 == a.size) = true then pure (.done (some (laL a b (o ++ a.extract i (i + k)) (i + k) j), o ++ a.extract i (i + k), i + k, j, mg, k, bc))
     else if (i + k == a.size) = true then pure (.done (some (dnL a b (o ++ a.extract i (i + k)) (i + k) j), o ++ a.extract i (i + k), i + k, j, mg, k, bc))
     else p2L a b mg k bc (o ++ a.extract i (i + k)) (i + k) j
   else p2L a b mg k bc o i j
 | _ => pure (.done (some (dnL a b o i j), o, i, j, mg, ac, bc))
noncomputable def outL (c : R5) : StateT SortSt Sem (ForInStep R5) := do
 let d <- forIn [:a.size + b.size] ((none, c.2.1, c.2.2.1, c.2.2.2.1, 0, 0) : R6) fun _ d => one1 a b c.2.2.2.2 d.2.1 d.2.2.1 d.2.2.2.1 d.2.2.2.2.1 d.2.2.2.2.2
 match d.1 with
 | some r => pure (.done (some r, d.2.1, d.2.2.1, d.2.2.2.1, c.2.2.2.2))
 | none => do
   liftM (rule "list.sort.gallop")
   let e <- forIn [:a.size + b.size] ((none, d.2.1, d.2.2.1, d.2.2.2.1, c.2.2.2.2 + 1, d.2.2.2.2.1, d.2.2.2.2.2) : R7) fun _ e =>
     if e.2.2.2.2.1 > 1 then p1L a b (e.2.2.2.2.1 - 1) e.2.2.2.2.2.1 e.2.2.2.2.2.2 e.2.1 e.2.2.1 e.2.2.2.1
     else p1L a b e.2.2.2.2.1 e.2.2.2.2.2.1 e.2.2.2.2.2.2 e.2.1 e.2.2.1 e.2.2.2.1
   match e.1 with
   | some r => pure (.done (some r, e.2.1, e.2.2.1, e.2.2.2.1, e.2.2.2.2.1))
   | none => do
     modify fun s => setGal s (e.2.2.2.2.1 + 1)
     pure (.yield (none, e.2.1, e.2.2.1, e.2.2.2.1, e.2.2.2.2.1 + 1))
end
theorem bnd {σ α β : Type} {m : StateT σ Sem α} {f g : α -> StateT σ Sem β} (h : ∀ x, f x = g x) : (m >>= f) = (m >>= g) := by rw [funext h]
theorem bnd2 {σ α β : Type} {m m' : StateT σ Sem α} {f g : α -> StateT σ Sem β} (e : m = m') (h : ∀ x, f x = g x) : (m >>= f) = (m' >>= g) := by rw [e, funext h]
theorem ifc {α : Sort _} {c : Prop} [Decidable c] {x y x' y' : α} (h : x = x') (h' : y = y') : (if c then x else y) = (if c then x' else y') := by rw [h, h']
theorem forc {σ β : Type} {r : Std.Legacy.Range} {c : β} {f g : Nat -> β -> StateT σ Sem (ForInStep β)} (h : ∀ i c, f i c = g i c) : forIn r c f = forIn r c g := by rw [funext fun i => funext (h i)]
section
variable (a b : Array Keyed)
theorem p1_same (mg ac bc : Nat) (o : Array Keyed) (i j : Nat) : (do
     modify fun s => setGal s mg
     let __do_lift <- elem' b j
     let __x <- gal false __do_lift a i (a.size - i) 0
     match __x with
     | some k =>
       have ac := k
       have jp := fun (__r : Unit) (o : Array Keyed) (i : Nat) => do
         let x <- elem' b j
         have o : Array Keyed := o.push x
         have j : Nat := j + 1
         if (j == b.size) = true then pure (ForInStep.done ((some (dnL a b o i j), o, i, j, mg, ac, bc) : R7))
         else do
           let y <- elem' a i
           let __x <- gal true y b j (b.size - j) 0
           match __x with
           | some k =>
             have bc := k
             have jp := fun (__r : Unit) (o : Array Keyed) (j : Nat) => do
               let x <- elem' a i
               have o : Array Keyed := o.push x
               have i : Nat := i + 1
               if (i + 1 == a.size) = true then pure (ForInStep.done ((some (laL a b o i j), o, i, j, mg, ac, bc) : R7))
               else if (decide (ac < 7) && decide (bc < 7)) = true then pure (.done (none, o, i, j, mg, ac, bc))
               else pure (.yield (none, o, i, j, mg, ac, bc))
             if k > 0 then
               have o := o ++ b.extract j (j + k)
               have j := j + k
               if (j == b.size) = true then pure (.done (some (dnL a b o i j), o, i, j, mg, ac, bc)) else jp () o j
             else jp () o j
           | _ => pure (.done (some (dnL a b o i j), o, i, j, mg, ac, bc))
       if k > 0 then
         have o := o ++ a.extract i (i + k)
         have i := i + k
         if (i + 1 == a.size) = true then pure (.done (some (laL a b o i j), o, i, j, mg, ac, bc))
         else if (i == a.size) = true then pure (.done (some (dnL a b o i j), o, i, j, mg, ac, bc)) else jp () o i
       else jp () o i
     | _ => pure (.done (some (dnL a b o i j), o, i, j, mg, ac, bc))) = p1L a b mg ac bc o i j := by
 refine bnd fun _ => bnd fun x => bnd fun r => ?_
 cases r with
 | none => rfl
 | some k =>
   refine ifc (ifc rfl (ifc rfl ?_)) ?_
   all_goals
     refine bnd fun y => ifc rfl (bnd fun z => bnd fun r => ?_)
     cases r with
     | none => rfl
     | some k => rfl
theorem mLo_parts : mLo a b = (do
   liftM (rule "list.sort.merge-lo")
   let x <- elem' b 0
   if (1 == b.size) = true then pure (dnL a b #[x] 0 1)
   else if (0 + 1 == a.size) = true then pure (laL a b #[x] 0 1)
   else do
     let g <- get
     let c <- forIn [:a.size + b.size] ((none, #[x], 0, 1, gallopOf g) : R5) fun _ c => outL a b c
     match c.1 with
     | some r => pure r
     | none => unsupported "internal:list.sort.merge-bound") := by
 rw [mLo_eq]
 refine bnd fun _ => ?_
 refine bnd fun x => ?_
 refine ifc rfl (ifc rfl (bnd fun g => bnd2 (forc fun _ c => ?_) fun c => ?_))
 · refine bnd2 (forc fun _ d => rfl) fun d => ?_
   obtain ⟨r, d⟩ := d
   cases r with
   | some r => rfl
   | none =>
     refine bnd fun _ => bnd2 (forc fun _ e => ?_) fun e => ?_
     · refine ifc ?_ ?_
       · exact p1_same a b _ _ _ _ _ _
       · exact p1_same a b _ _ _ _ _ _
     · obtain ⟨r, e⟩ := e
       cases r <;> rfl
 · obtain ⟨r, c⟩ := c
   cases r <;> rfl
noncomputable abbrev dnH (o : Array Keyed) (i j : Nat) : Array Keyed := a.extract 0 i ++ b.extract 0 j ++ o.reverse
noncomputable abbrev fbH (o : Array Keyed) (i j : Nat) : Array Keyed := b.extract 0 j ++ a.extract 0 i ++ o.reverse
noncomputable def two1 (mg : Nat) (i j : Nat) (o : Array Keyed) (ac bc : Nat) : StateT SortSt Sem (ForInStep (Option (Array Keyed) × Nat × Nat × Array Keyed × Nat × Nat)) := do
 let x <- elem' b (j - 1)
 let y <- elem' a (i - 1)
 let g <- lt' x y
 match g with
 | some g =>
   if g = true then do
     let x <- elem' a (i - 1)
     if (i - 1 == 0) = true then pure (.done (some (dnH a b (o.push x) (i - 1) j), i - 1, j, o.push x, ac + 1, 0))
     else if ac + 1 ≥ mg then pure (.done (none, i - 1, j, o.push x, ac + 1, 0))
     else pure (.yield (none, i - 1, j, o.push x, ac + 1, 0))
   else do
     let x <- elem' b (j - 1)
     if (j - 1 == 1) = true then pure (.done (some (fbH a b (o.push x) i (j - 1)), i, j - 1, o.push x, 0, bc + 1))
     else if bc + 1 ≥ mg then pure (.done (none, i, j - 1, o.push x, 0, bc + 1))
     else pure (.yield (none, i, j - 1, o.push x, 0, bc + 1))
 | _ => pure (.done (some (dnH a b o i j), i, j, o, ac, bc))
noncomputable abbrev S7 := Option (Array Keyed) × Nat × Nat × Array Keyed × Nat × Nat × Nat
noncomputable def p3H (mg ac bc : Nat) (i j : Nat) (o : Array Keyed) : StateT SortSt Sem (ForInStep S7) := do
 let x <- elem' a (i - 1)
 if (i - 1 == 0) = true then pure (.done (some (dnH a b (o.push x) (i - 1) j), i - 1, j, o.push x, mg, ac, bc))
 else if (decide (ac < 7) && decide (bc < 7)) = true then pure (.done (none, i - 1, j, o.push x, mg, ac, bc))
 else pure (.yield (none, i - 1, j, o.push x, mg, ac, bc))
noncomputable def p2H (mg ac bc : Nat) (i j : Nat) (o : Array Keyed) : StateT SortSt Sem (ForInStep S7) := do
 let x <- elem' b (j - 1)
 if (j - 1 == 1) = true then pure (.done (some (fbH a b (o.push x) i (j - 1)), i, j - 1, o.push x, mg, ac, bc))
 else do
   let y <- elem' a (i - 1)
   let r <- gal true y b 0 (j - 1) (j - 1 - 1)
   match r with
   | some k =>
     if j - 1 - k > 0 then
       if (k == 1) = true then pure (.done (some (fbH a b (o.push x ++ (b.extract k (j - 1)).reverse) i k), i, k, o.push x ++ (b.extract k (j - 1)).reverse, mg, ac, j - 1 - k))
       else if (k == 0) = true then pure (.done (some (dnH a b (o.push x ++ (b.extract k (j - 1)).reverse) i k), i, k, o.push x ++ (b.extract k (j - 1)).reverse, mg, ac, j - 1 - k))
       else p3H a b mg ac (j - 1 - k) i k (o.push x ++ (b.extract k (j - 1)).reverse)
     else p3H a b mg ac (j - 1 - k) i (j - 1) (o.push x)
   | _ => pure (.done (some (dnH a b (o.push x) i (j - 1)), i, j - 1, o.push x, mg, ac, bc))
noncomputable def p1H (mg ac bc : Nat) (i j : Nat) (o : Array Keyed) : StateT SortSt Sem (ForInStep S7) := do
 modify fun s => setGal s mg
 let x <- elem' b (j - 1)
 let r <- gal false x a 0 i (i - 1)
 match r with
 | some k =>
   if i - k > 0 then
     if (k == 0) = true then pure (.done (some (dnH a b (o ++ (a.extract k i).reverse) k j), k, j, o ++ (a.extract k i).reverse, mg, i - k, bc))
     else p2H a b mg (i - k) bc k j (o ++ (a.extract k i).reverse)
   else p2H a b mg (i - k) bc i j o
 | _ => pure (.done (some (dnH a b o i j), i, j, o, mg, ac, bc))
noncomputable abbrev S5 := Option (Array Keyed) × Nat × Nat × Array Keyed × Nat
noncomputable def outH (c : S5) : StateT SortSt Sem (ForInStep S5) := do
 let d <- forIn [:a.size + b.size] ((none, c.2.1, c.2.2.1, c.2.2.2.1, 0, 0) : Option (Array Keyed) × Nat × Nat × Array Keyed × Nat × Nat) fun _ d => two1 a b c.2.2.2.2 d.2.1 d.2.2.1 d.2.2.2.1 d.2.2.2.2.1 d.2.2.2.2.2
 match d.1 with
 | some r => pure (.done (some r, d.2.1, d.2.2.1, d.2.2.2.1, c.2.2.2.2))
 | none => do
   liftM (rule "list.sort.gallop")
   let e <- forIn [:a.size + b.size] ((none, d.2.1, d.2.2.1, d.2.2.2.1, c.2.2.2.2 + 1, d.2.2.2.2.1, d.2.2.2.2.2) : S7) fun _ e =>
     if e.2.2.2.2.1 > 1 then p1H a b (e.2.2.2.2.1 - 1) e.2.2.2.2.2.1 e.2.2.2.2.2.2 e.2.1 e.2.2.1 e.2.2.2.1
     else p1H a b e.2.2.2.2.1 e.2.2.2.2.2.1 e.2.2.2.2.2.2 e.2.1 e.2.2.1 e.2.2.2.1
   match e.1 with
   | some r => pure (.done (some r, e.2.1, e.2.2.1, e.2.2.2.1, e.2.2.2.2.1))
   | none => do
     modify fun s => setGal s (e.2.2.2.2.1 + 1)
     pure (.yield (none, e.2.1, e.2.2.1, e.2.2.2.1, e.2.2.2.2.1 + 1))
theorem p1H_same (mg ac bc : Nat) (i j : Nat) (o : Array Keyed) : (do
     modify fun s => setGal s mg
     let x <- elem' b (j - 1)
     let r <- gal false x a 0 i (i - 1)
     match r with
     | some at_ =>
       have k := i - at_
       have ac := k
       have jp := fun (__r : Unit) (i : Nat) (o : Array Keyed) => do
         have j : Nat := j - 1
         let x <- elem' b j
         have o : Array Keyed := o.push x
         if (j == 1) = true then pure (ForInStep.done ((some (fbH a b o i j), i, j, o, mg, ac, bc) : S7))
         else do
           let y <- elem' a (i - 1)
           let r <- gal true y b 0 j (j - 1)
           match r with
           | some at_ =>
             have k := j - at_
             have bc := k
             have jp := fun (__r : Unit) (j : Nat) (o : Array Keyed) => do
               have i : Nat := i - 1
               let x <- elem' a i
               have o : Array Keyed := o.push x
               if (i == 0) = true then pure (ForInStep.done ((some (dnH a b o i j), i, j, o, mg, ac, bc) : S7))
               else if (decide (ac < 7) && decide (bc < 7)) = true then pure (.done (none, i, j, o, mg, ac, bc))
               else pure (.yield (none, i, j, o, mg, ac, bc))
             if k > 0 then
               have o := o ++ (b.extract at_ j).reverse
               have j := at_
               if (j == 1) = true then pure (.done (some (fbH a b o i j), i, j, o, mg, ac, bc)) else if (j == 0) = true then pure (.done (some (dnH a b o i j), i, j, o, mg, ac, bc)) else jp () j o
             else jp () j o
           | _ => pure (.done (some (dnH a b o i j), i, j, o, mg, ac, bc))
       if k > 0 then
         have o := o ++ (a.extract at_ i).reverse
         have i := at_
         if (i == 0) = true then pure (.done (some (dnH a b o i j), i, j, o, mg, ac, bc)) else jp () i o
       else jp () i o
     | _ => pure (.done (some (dnH a b o i j), i, j, o, mg, ac, bc))) = p1H a b mg ac bc i j o := by
 refine bnd fun _ => bnd fun x => bnd fun r => ?_
 cases r with
 | none => rfl
 | some k =>
   refine ifc (ifc rfl ?_) ?_
   all_goals
     refine bnd fun y => ifc rfl (bnd fun z => bnd fun r => ?_)
     cases r with
     | none => rfl
     | some k => rfl
theorem mHi_parts : mHi a b = (do
   liftM (rule "list.sort.merge-hi")
   let x <- elem' a (a.size - 1)
   if (a.size - 1 == 0) = true then pure (dnH a b #[x] (a.size - 1) b.size)
   else if (b.size == 1) = true then pure (fbH a b #[x] (a.size - 1) b.size)
   else do
     let g <- get
     let c <- forIn [:a.size + b.size] ((none, a.size - 1, b.size, #[x], gallopOf g) : S5) fun _ c => outH a b c
     match c.1 with
     | some r => pure r
     | none => unsupported "internal:list.sort.merge-bound") := by
 rw [mHi_eq]
 refine bnd fun _ => ?_
 refine bnd fun x => ?_
 refine ifc rfl (ifc rfl (bnd fun g => bnd2 (forc fun _ c => ?_) fun c => ?_))
 · refine bnd2 (forc fun _ d => rfl) fun d => ?_
   obtain ⟨r, d⟩ := d
   cases r with
   | some r => rfl
   | none =>
     refine bnd fun _ => bnd2 (forc fun _ e => ?_) fun e => ?_
     · refine ifc ?_ ?_
       · exact p1H_same a b _ _ _ _ _ _
       · exact p1H_same a b _ _ _ _ _ _
     · obtain ⟨r, e⟩ := e
       cases r <;> rfl
 · obtain ⟨r, c⟩ := c
   cases r <;> rfl
end
end TS
namespace TS
open PySem PyProof.Rows
theorem ath_list {xs : Array Keyed} {i : Nat} (h : i < xs.size) : xs.toList[i]? = some (ath xs i) := by
 rw [<- ath_lt h]; simp
theorem drop_cons {xs : Array Keyed} {i : Nat} (h : i < xs.size) : xs.toList.drop i = ath xs i :: xs.toList.drop (i + 1) := by
 have h' : i < xs.toList.length := by simpa using h
 have e := ath_list h
 rw [List.getElem?_eq_getElem h'] at e
 rw [List.drop_eq_getElem_cons h', Option.some.inj e]
theorem take1 {xs : Array Keyed} {i : Nat} (h : i < xs.size) : (xs.toList.drop i).take 1 = [ath xs i] := by
 rw [drop_cons h]; rfl
theorem drop_at {xs : Array Keyed} {i : Nat} {y : Keyed} (h : y ∈ xs.toList.drop i) : ∃ k, i <= k /\ k < xs.size /\ y = ath xs k := by
 obtain ⟨n, hn⟩ := List.mem_iff_getElem?.mp h
 rw [List.getElem?_drop] at hn
 have hl := (List.getElem?_eq_some_iff.mp hn).1
 have hl' : i + n < xs.size := by simpa using hl
 rw [ath_list hl'] at hn
 exact ⟨i + n, by lia, hl', (Option.some.inj hn).symm⟩
theorem take_at {xs : Array Keyed} {i k : Nat} {y : Keyed} (h : y ∈ (xs.toList.drop i).take k) : ∃ n, i <= n /\ n < i + k /\ n < xs.size /\ y = ath xs n := by
 obtain ⟨n, hn⟩ := List.mem_iff_getElem?.mp h
 rw [List.getElem?_take] at hn
 split at hn
 · rename_i hk
   rw [List.getElem?_drop] at hn
   have hl := (List.getElem?_eq_some_iff.mp hn).1
   have hl' : i + n < xs.size := by simpa using hl
   rw [ath_list hl'] at hn
   exact ⟨i + n, by lia, by lia, hl', (Option.some.inj hn).symm⟩
 · cases hn
theorem pw_at {less : Keyed -> Keyed -> Bool} (O : Ord less) {xs : Array Keyed} (h : xs.toList.Pairwise (LE less)) {i j : Nat} (hij : i <= j) (hj : j < xs.size) : LE less (ath xs i) (ath xs j) := by
 by_cases c : i = j
 · subst c; exact O.refl _
 · rw [List.pairwise_iff_getElem] at h
   have hi' : i < xs.toList.length := by simp; lia
   have hj' : j < xs.toList.length := by simpa using hj
   have := h i j hi' hj' (by lia)
   have e1 := ath_list (xs := xs) (i := i) (by lia)
   have e2 := ath_list hj
   rw [List.getElem?_eq_getElem hi'] at e1
   rw [List.getElem?_eq_getElem hj'] at e2
   rwa [Option.some.inj e1, Option.some.inj e2] at this
theorem sg_all {less : Keyed -> Keyed -> Bool} (O : Ord less) {xs : Array Keyed} (h : xs.toList.Pairwise (LE less)) {i n : Nat} (hn : i + n <= xs.size) : Sg less xs i (i + n) := fun x y _ hxy hy => pw_at O h hxy (by lia)
theorem ext_list (xs : Array Keyed) (i k : Nat) : (xs.extract i (i + k)).toList = (xs.toList.drop i).take k := by
 rw [Array.toList_extract, List.extract_eq_take_drop]; congr 1; lia
theorem ext_end (xs : Array Keyed) (i : Nat) : (xs.extract i xs.size).toList = xs.toList.drop i := by
 rw [Array.toList_extract, List.extract_eq_take_drop]
 exact List.take_of_length_le (by simp)
section
variable {prog : Program} {w : World} {A : Around} {E : Value -> Shared -> Prop} {s : Shared} {kd : SortKind} {a₀ : Array Keyed} {less : Keyed -> Keyed -> Bool}
structure Two (less : Keyed -> Keyed -> Bool) (a₀ a b : Array Keyed) : Prop where
 sa : a.toList.Pairwise (LE less)
 sb : b.toList.Pairwise (LE less)
 ma : ∀ i, i < a.size -> ath a i ∈ a₀.toList
 mb : ∀ i, i < b.size -> ath b i ∈ a₀.toList
 na : 1 <= a.size
 nb : 1 <= b.size
 h0 : less (ath b 0) (ath a 0) = true
 hl : ∀ j, j < b.size -> less (ath b j) (ath a (a.size - 1)) = true
noncomputable def Res (less : Keyed -> Keyed -> Bool) (a b r : Array Keyed) : Prop := r.toList.Perm (a.toList ++ b.toList) /\ r.toList.Pairwise (LE less)
structure JL (less : Keyed -> Keyed -> Bool) (a b o : Array Keyed) (i j : Nat) : Prop where
 mi : MI less a.toList b.toList o.toList i j
 hi : i + 1 < a.size
 hj : j < b.size
variable {a b : Array Keyed}
theorem res_dn (T : Two less a₀ a b) {o : Array Keyed} {i j : Nat} (h : MI less a.toList b.toList o.toList i j) (hj : b.size <= j \/ a.size <= i) : Res less a b (dnL a b o i j) := by
 unfold Res dnL
 rw [Array.toList_append, Array.toList_append, ext_end, ext_end]
 have := h.swap.fin T.sb T.sa fun x hx y hy => by
   rcases hj with hj | hj
   · obtain ⟨k, h1, h2, _⟩ := drop_at hy; lia
   · obtain ⟨k, h1, h2, _⟩ := drop_at hx; lia
 exact ⟨this.1.trans List.perm_append_comm, this.2⟩
theorem res_la (O : Ord less) (T : Two less a₀ a b) {o : Array Keyed} {i j : Nat} (h : MI less a.toList b.toList o.toList i j) (hi : i + 1 = a.size) : Res less a b (laL a b o i j) := by
 unfold Res laL
 rw [Array.toList_append, Array.toList_append, ext_end, ext_end]
 refine h.fin T.sa T.sb fun x hx y hy => ?_
 obtain ⟨k, h1, h2, rfl⟩ := drop_at hx
 obtain ⟨k', h1', h2', rfl⟩ := drop_at hy
 rw [show k' = a.size - 1 by lia]
 exact O.le (T.hl k h2)
theorem push_b (O : Ord less) (T : Two less a₀ a b) {o : Array Keyed} {i j : Nat} (h : MI less a.toList b.toList o.toList i j) (hj : j < b.size) (hc : i < a.size -> LE less (ath b j) (ath a i)) : MI less a.toList b.toList (o.push (ath b j)).toList i (j + 1) := by
 have := (h.swap.blk T.sb 1 fun x hx y hy => by
   rw [take1 hj] at hx
   rw [List.mem_singleton.mp hx]
   obtain ⟨k, h1, h2, rfl⟩ := drop_at hy
   exact O.trans _ _ _ (hc (by lia)) (pw_at O T.sa h1 h2)).swap
 rw [take1 hj] at this
 rwa [Array.toList_push]
theorem push_a (O : Ord less) (T : Two less a₀ a b) {o : Array Keyed} {i j : Nat} (h : MI less a.toList b.toList o.toList i j) (hi : i < a.size) (hc : j < b.size -> LE less (ath a i) (ath b j)) : MI less a.toList b.toList (o.push (ath a i)).toList (i + 1) j := by
 have := h.blk T.sa 1 fun x hx y hy => by
   rw [take1 hi] at hx
   rw [List.mem_singleton.mp hx]
   obtain ⟨k, h1, h2, rfl⟩ := drop_at hy
   exact O.trans _ _ _ (hc (by lia)) (pw_at O T.sb h1 h2)
 rw [take1 hi] at this
 rwa [Array.toList_push]
noncomputable def EndG (less : Keyed -> Keyed -> Bool) (a b : Array Keyed) (st : SortSt) (N : Nat) (r : ForInStep R7) (st' : SortSt) : Prop :=
 (∃ g, st' = setGal st g) /\ ((∃ x c, r = .done (some x, c) /\ Res less a b x) \/ (∃ o i j c, (r = .done (none, o, i, j, c) \/ r = .yield (none, o, i, j, c)) /\ JL less a b o i j /\ N <= i + j))
theorem wp_p3L (O : Ord less) (T : Two less a₀ a b) {st st' : SortSt} {mg ac bc N : Nat} {o : Array Keyed} {i j : Nat} (hg : ∃ g, st' = setGal st g) (J : JL less a b o i j) (hc : LE less (ath a i) (ath b j)) (hN : N <= i + j) : wpS (model prog w) A E s (p3L a b mg ac bc o i j) (EndG less a b st N) st' := by
 unfold p3L
 have hi := J.hi
 refine wpS_bind (wp_elem (by lia) ?_)
 have m := push_a O T J.mi (by lia) fun _ => hc
 by_cases c : i + 1 + 1 = a.size
 · rw [if_pos (by simpa using c)]
   exact wpS_pure ⟨hg, .inl ⟨_, _, rfl, res_la O T m c⟩⟩
 · rw [if_neg (by simpa using c)]
   have J' : JL less a b (o.push (ath a i)) (i + 1) j := ⟨m, by lia, J.hj⟩
   split
   · exact wpS_pure ⟨hg, .inr ⟨_, _, _, _, .inl rfl, J', by lia⟩⟩
   · exact wpS_pure ⟨hg, .inr ⟨_, _, _, _, .inr rfl, J', by lia⟩⟩
theorem wp_p2L (O : Ord less) (L : LtOk prog w A E s kd a₀ less) (T : Two less a₀ a b) {st st' : SortSt} {mg ac bc N : Nat} {o : Array Keyed} {i j : Nat} (hk : kindOf st' = kd) (hg : ∃ g, st' = setGal st g) (J : JL less a b o i j) (hc : less (ath b j) (ath a i) = true) (hN : N <= i + j) : wpS (model prog w) A E s (p2L a b mg ac bc o i j) (EndG less a b st N) st' := by
 unfold p2L
 have hi := J.hi
 have hj := J.hj
 refine wpS_bind (wp_elem hj ?_)
 have m := push_b O T J.mi hj fun _ => O.le hc
 by_cases c : j + 1 = b.size
 · rw [if_pos (by simpa using c)]
   exact wpS_pure ⟨hg, .inl ⟨_, _, rfl, res_dn T m (.inl (by lia))⟩⟩
 · rw [if_neg (by simpa using c)]
   refine wpS_bind (wp_elem (by lia) ?_)
   refine wpS_bind (wp_galL O L hk (T.ma i (by lia)) (fun k hk => ⟨by lia, T.mb _ (by lia)⟩) (by lia) (sg_all O T.sb (by lia)) fun k h1 h2 h3 => ?_)
   dsimp only
   by_cases ck : k > 0
   · rw [if_pos ck]
     have m2 : MI less a.toList b.toList (o.push (ath b j) ++ b.extract (j + 1) (j + 1 + k)).toList i (j + 1 + k) := by
       rw [Array.toList_append, ext_list]
       refine (m.swap.blk T.sb k fun x hx y hy => ?_).swap
       obtain ⟨n, n1, n2, n3, rfl⟩ := take_at hx
       obtain ⟨k', k1, k2, rfl⟩ := drop_at hy
       have := h2 (n - (j + 1)) (by lia)
       rw [show j + 1 + (n - (j + 1)) = n by lia] at this
       exact O.trans _ _ _ (O.le this) (pw_at O T.sa k1 k2)
     by_cases c2 : j + 1 + k = b.size
     · rw [if_pos (by simpa using c2)]
       exact wpS_pure ⟨hg, .inl ⟨_, _, rfl, res_dn T m2 (.inl (by lia))⟩⟩
     · rw [if_neg (by simpa using c2)]
       exact wp_p3L O T hg ⟨m2, hi, by lia⟩ (h3 k (Nat.le_refl _) (by lia)) (by lia)
   · rw [if_neg ck]
     have : k = 0 := by lia
     subst this
     exact wp_p3L O T hg ⟨m, hi, by lia⟩ (h3 0 (Nat.le_refl _) (by lia)) (by lia)
theorem wp_p1L (O : Ord less) (L : LtOk prog w A E s kd a₀ less) (T : Two less a₀ a b) {st st' : SortSt} {mg ac bc N : Nat} {o : Array Keyed} {i j : Nat} (hk : kindOf st = kd) (hg : ∃ g, st' = setGal st g) (J : JL less a b o i j) (hN : N <= i + j) : wpS (model prog w) A E s (p1L a b mg ac bc o i j) (EndG less a b st N) st' := by
 unfold p1L
 have hi := J.hi
 have hj := J.hj
 refine wpS_bind (wpS_modify ?_)
 have hg' : ∃ g, setGal st' mg = setGal st g := by obtain ⟨g, rfl⟩ := hg; exact ⟨mg, rfl⟩
 have hk' : kindOf (setGal st' mg) = kd := by obtain ⟨g, rfl⟩ := hg; exact hk
 refine wpS_bind (wp_elem hj ?_)
 refine wpS_bind (wp_galR O L hk' (T.mb j hj) (fun k hk => ⟨by lia, T.ma _ (by lia)⟩) (by lia) (sg_all O T.sa (by lia)) fun k h1 h2 h3 => ?_)
 dsimp only
 have hkl : i + k < a.size := by
   by_cases c : i + k < a.size
   · exact c
   · have := h2 (a.size - 1 - i) (by lia)
     rw [show i + (a.size - 1 - i) = a.size - 1 by lia] at this
     unfold LE at this
     rw [T.hl j hj] at this; cases this
 have hnext := h3 k (Nat.le_refl _) (by lia)
 by_cases ck : k > 0
 · rw [if_pos ck]
   have m2 : MI less a.toList b.toList (o ++ a.extract i (i + k)).toList (i + k) j := by
     rw [Array.toList_append, ext_list]
     refine J.mi.blk T.sa k fun x hx y hy => ?_
     obtain ⟨n, n1, n2, n3, rfl⟩ := take_at hx
     obtain ⟨k', k1, k2, rfl⟩ := drop_at hy
     have := h2 (n - i) (by lia)
     rw [show i + (n - i) = n by lia] at this
     exact O.trans _ _ _ this (pw_at O T.sb k1 k2)
   by_cases c2 : i + k + 1 = a.size
   · rw [if_pos (by simpa using c2)]
     exact wpS_pure ⟨hg', .inl ⟨_, _, rfl, res_la O T m2 c2⟩⟩
   · rw [if_neg (by simpa using c2), if_neg (by simp; lia)]
     exact wp_p2L O L T hk' hg' ⟨m2, by lia, hj⟩ hnext (by lia)
 · rw [if_neg ck]
   have : k = 0 := by lia
   subst this
   exact wp_p2L O L T hk' hg' J hnext hN
theorem wp_one1 (O : Ord less) (L : LtOk prog w A E s kd a₀ less) (T : Two less a₀ a b) {st' : SortSt} {mg ac bc : Nat} {o : Array Keyed} {i j : Nat} {Q : ForInStep R6 -> SortSt -> Prop} (hk : kindOf st' = kd) (J : JL less a b o i j)
   (h1 : ∀ x c, Res less a b x -> Q (.done (some x, c)) st') (h2 : ∀ o i' j' c, JL less a b o i' j' -> i' + j' = i + j + 1 -> Q (.done (none, o, i', j', c)) st' /\ Q (.yield (none, o, i', j', c)) st') :
   wpS (model prog w) A E s (one1 a b mg o i j ac bc) Q st' := by
 unfold one1
 have hi := J.hi
 have hj := J.hj
 refine wpS_bind (wp_elem hj (wpS_bind (wp_elem (by lia) (wpS_bind (L _ _ _ _ (T.mb j hj) (T.ma i (by lia)) hk ?_)))))
 dsimp only
 cases e : less (ath b j) (ath a i) with
 | true =>
   simp only [if_true]
   refine wpS_bind (wp_elem hj ?_)
   have m := push_b O T J.mi hj fun _ => O.le e
   by_cases c : j + 1 = b.size
   · rw [if_pos (by simpa using c)]
     exact wpS_pure (h1 _ _ (res_dn T m (.inl (by lia))))
   · rw [if_neg (by simpa using c)]
     have := h2 _ i (j + 1) (0, bc + 1) ⟨m, hi, by lia⟩ (by lia)
     split
     · exact wpS_pure this.1
     · exact wpS_pure this.2
 | false =>
   simp only [Bool.false_eq_true, if_false]
   refine wpS_bind (wp_elem (by lia) ?_)
   have m := push_a O T J.mi (by lia) fun _ => e
   by_cases c : i + 1 + 1 = a.size
   · rw [if_pos (by simpa using c)]
     exact wpS_pure (h1 _ _ (res_la O T m c))
   · rw [if_neg (by simpa using c)]
     have := h2 _ (i + 1) j (ac + 1, 0) ⟨m, by lia, hj⟩ (by lia)
     split
     · exact wpS_pure this.1
     · exact wpS_pure this.2
theorem wp_mLo (O : Ord less) (L : LtOk prog w A E s kd a₀ less) (T : Two less a₀ a b) {st : SortSt} {Q : Array Keyed -> SortSt -> Prop} (hk : kindOf st = kd) (h : ∀ r g, Res less a b r -> Q r (setGal st g)) : wpS (model prog w) A E s (mLo a b) Q st := by
 rw [mLo_parts]
 have na := T.na
 have nb := T.nb
 refine wpS_bind (wpS_lift (wpAny_rule ⟨rfl, ?_⟩))
 refine wpS_bind (wp_elem (by lia) ?_)
 have h' : ∀ r, Res less a b r -> Q r st := fun r hr => h r (gallopOf st) hr
 have m : MI less a.toList b.toList (#[ath b 0] : Array Keyed).toList 0 1 := by
   have m0 : MI less a.toList b.toList (#[] : Array Keyed).toList 0 0 := ⟨by simp, by simp, by simp, by simp⟩
   exact push_b O T m0 (by lia) fun _ => O.le T.h0
 by_cases c : 1 = b.size
 · rw [if_pos (by simpa using c)]
   exact wpS_pure (h' _ (res_dn T m (.inl (by lia))))
 rw [if_neg (by simpa using c)]
 by_cases c2 : 0 + 1 = a.size
 · rw [if_pos (by simpa using c2)]
   exact wpS_pure (h' _ (res_la O T m c2))
 rw [if_neg (by simpa using c2)]
 refine wpS_bind (wpS_get ?_)
 refine wpS_bind (wpS_mono (wpS_forRange (I := fun n c st' => (∃ g, st' = setGal st g) /\ ∃ o i j mg, c = (none, o, i, j, mg) /\ JL less a b o i j /\ n + 1 <= i + j)
   (Q := fun c st' => (∃ g, st' = setGal st g) /\ ∃ x d, c = (some x, d) /\ Res less a b x) ?_ ?_ ⟨⟨gallopOf st, rfl⟩, _, 0, 1, _, rfl, ⟨m, by lia, by lia⟩, by lia⟩) ?_)
 · rintro n c st' _ hn ⟨hg, o, i, j, mg, rfl, J, hN⟩
   unfold outL
   dsimp only
   have hk' : kindOf st' = kd := by obtain ⟨g, rfl⟩ := hg; exact hk
   refine wpS_bind (wpS_mono (wpS_forRange (I := fun x c st2 => st2 = st' /\ ∃ o' i' j' d, c = (none, o', i', j', d) /\ JL less a b o' i' j' /\ i' + j' = i + j + x)
     (Q := fun c st2 => st2 = st' /\ ((∃ x d, c = (some x, d) /\ Res less a b x) \/ ∃ o' i' j' d, c = (none, o', i', j', d) /\ JL less a b o' i' j' /\ i + j + 1 <= i' + j')) ?_ ?_ ⟨rfl, o, i, j, _, rfl, J, rfl⟩) ?_)
   · rintro x c st2 _ hx ⟨rfl, o', i', j', ⟨ac, bc⟩, rfl, J', hN'⟩
     dsimp only
     refine wp_one1 O L T hk' J' (fun x c hr => ⟨rfl, .inl ⟨x, c, rfl, hr⟩⟩) fun o2 i2 j2 c J2 h2 => ⟨⟨rfl, .inr ⟨o2, i2, j2, c, rfl, J2, by lia⟩⟩, ⟨rfl, o2, i2, j2, c, rfl, J2, by lia⟩⟩
   · rintro c st2 ⟨rfl, o', i', j', d, rfl, J', hN'⟩
     exact ⟨rfl, .inr ⟨o', i', j', d, rfl, J', by lia⟩⟩
   · rintro c st2 ⟨rfl, ⟨x, d, rfl, hr⟩ | ⟨o', i', j', ⟨ac, bc⟩, rfl, J', hN'⟩⟩
     · exact wpS_pure ⟨hg, x, _, rfl, hr⟩
     · dsimp only
       refine wpS_bind (wpS_lift (wpAny_rule ⟨rfl, ?_⟩))
       refine wpS_bind (wpS_mono (wpS_forRange (I := fun x c st3 => (∃ g, st3 = setGal st g) /\ ∃ o' i' j' d, c = (none, o', i', j', d) /\ JL less a b o' i' j' /\ i + j + 1 <= i' + j')
         (Q := fun c st3 => (∃ g, st3 = setGal st g) /\ ((∃ x d, c = (some x, d) /\ Res less a b x) \/ ∃ o' i' j' d, c = (none, o', i', j', d) /\ JL less a b o' i' j' /\ i + j + 1 <= i' + j')) ?_ ?_ ⟨hg, o', i', j', _, rfl, J', hN'⟩) ?_)
       · rintro x c st3 _ hx ⟨hg3, o3, i3, j3, ⟨mg3, ac3, bc3⟩, rfl, J3, hN3⟩
         dsimp only
         split
         all_goals
           refine wpS_mono (wp_p1L O L T hk hg3 J3 hN3) ?_
           rintro r st4 ⟨hg4, ⟨x, c, rfl, hr⟩ | ⟨o, i, j, c, rfl | rfl, J4, h4⟩⟩
           · exact ⟨hg4, .inl ⟨x, c, rfl, hr⟩⟩
           · exact ⟨hg4, .inr ⟨o, i, j, c, rfl, J4, h4⟩⟩
           · exact ⟨hg4, o, i, j, c, rfl, J4, h4⟩
       · rintro c st3 ⟨hg3, o3, i3, j3, d, rfl, J3, hN3⟩
         exact ⟨hg3, .inr ⟨o3, i3, j3, d, rfl, J3, hN3⟩⟩
       · rintro c st3 ⟨hg3, ⟨x, d, rfl, hr⟩ | ⟨o3, i3, j3, ⟨mg3, ac3, bc3⟩, rfl, J3, hN3⟩⟩
         · exact wpS_pure ⟨hg3, x, _, rfl, hr⟩
         · dsimp only
           refine wpS_bind (wpS_modify (wpS_pure ⟨?_, o3, i3, j3, _, rfl, J3, by lia⟩))
           obtain ⟨g, rfl⟩ := hg3
           exact ⟨_, rfl⟩
 · rintro c st' ⟨hg, o, i, j, mg, rfl, J, hN⟩
   have := J.hi
   have := J.hj
   lia
 · rintro c st' ⟨⟨g, rfl⟩, x, d, rfl, hr⟩
   exact wpS_pure (h x g hr)
end
end TS
namespace TS
open PySem PyProof.Rows
theorem tk_at {xs : Array Keyed} {i : Nat} {y : Keyed} (h : y ∈ xs.toList.take i) : ∃ n, n < i /\ n < xs.size /\ y = ath xs n := by
 obtain ⟨n, hn⟩ := List.mem_iff_getElem?.mp h
 rw [List.getElem?_take] at hn
 split at hn
 · have hl := (List.getElem?_eq_some_iff.mp hn).1
   have hl' : n < xs.size := by simpa using hl
   rw [ath_list hl'] at hn
   exact ⟨n, by lia, hl', (Option.some.inj hn).symm⟩
 · cases hn
theorem td_at {xs : Array Keyed} {i k : Nat} {y : Keyed} (h : y ∈ (xs.toList.take i).drop k) : ∃ n, k <= n /\ n < i /\ n < xs.size /\ y = ath xs n := by
 rw [List.drop_take] at h
 obtain ⟨n, h1, h2, h3, e⟩ := take_at h
 exact ⟨n, h1, by lia, h3, e⟩
theorem td1 {xs : Array Keyed} {i : Nat} (h0 : 1 <= i) (h : i <= xs.size) : (xs.toList.take i).drop (i - 1) = [ath xs (i - 1)] := by
 rw [List.drop_take, show i - (i - 1) = 1 by lia, take1 (by lia)]
theorem ext_td (xs : Array Keyed) (k i : Nat) : (xs.extract k i).toList = (xs.toList.take i).drop k := by
 rw [Array.toList_extract, List.extract_eq_take_drop, List.drop_take]
theorem ext_0 (xs : Array Keyed) (i : Nat) : (xs.extract 0 i).toList = xs.toList.take i := by
 rw [ext_td, List.drop_zero]
section
variable {prog : Program} {w : World} {A : Around} {E : Value -> Shared -> Prop} {s : Shared} {kd : SortKind} {a₀ : Array Keyed} {less : Keyed -> Keyed -> Bool}
structure JH (less : Keyed -> Keyed -> Bool) (a b o : Array Keyed) (i j : Nat) : Prop where
 mi : MH less a.toList b.toList o.toList.reverse i j
 hi : 1 <= i
 hj : 2 <= j
 ia : i <= a.size
 jb : j <= b.size
variable {a b : Array Keyed}
theorem resH_dn (T : Two less a₀ a b) {o : Array Keyed} {i j : Nat} (h : MH less a.toList b.toList o.toList.reverse i j) (hj : i = 0 \/ j = 0) : Res less a b (dnH a b o i j) := by
 unfold Res dnH
 rw [Array.toList_append, Array.toList_append, ext_0, ext_0, Array.toList_reverse]
 refine h.fin T.sa T.sb fun x hx y hy => ?_
 rcases hj with hj | hj
 · subst hj; simp at hx
 · subst hj; simp at hy
theorem resH_fb (O : Ord less) (T : Two less a₀ a b) {o : Array Keyed} {i j : Nat} (h : MH less a.toList b.toList o.toList.reverse i j) (hj : j = 1) : Res less a b (fbH a b o i j) := by
 unfold Res fbH
 rw [Array.toList_append, Array.toList_append, ext_0, ext_0, Array.toList_reverse]
 have := h.swap.fin T.sb T.sa fun x hx y hy => by
   obtain ⟨n, n1, n2, rfl⟩ := tk_at hx
   obtain ⟨k, k1, k2, rfl⟩ := tk_at hy
   rw [show n = 0 by lia]
   exact O.trans _ _ _ (O.le T.h0) (pw_at O T.sa (Nat.zero_le _) k2)
 exact ⟨this.1.trans List.perm_append_comm, this.2⟩
theorem pushH_a (O : Ord less) (T : Two less a₀ a b) {o : Array Keyed} {i j : Nat} (h : MH less a.toList b.toList o.toList.reverse i j) (h1 : 1 <= i) (hi : i <= a.size) (hj : j <= b.size) (hc : 1 <= j -> LE less (ath b (j - 1)) (ath a (i - 1))) : MH less a.toList b.toList (o.push (ath a (i - 1))).toList.reverse (i - 1) j := by
 have := h.blk T.sa (k := i - 1) (by lia) fun x hx y hy => by
   rw [td1 h1 hi] at hx
   rw [List.mem_singleton.mp hx]
   obtain ⟨k, k1, k2, rfl⟩ := tk_at hy
   exact O.trans _ _ _ (pw_at O T.sb (show k <= j - 1 by lia) (by lia)) (hc (by lia))
 rw [td1 h1 hi] at this
 rw [Array.toList_push, List.reverse_append]
 exact this
theorem pushH_b (O : Ord less) (T : Two less a₀ a b) {o : Array Keyed} {i j : Nat} (h : MH less a.toList b.toList o.toList.reverse i j) (h1 : 1 <= j) (hi : i <= a.size) (hj : j <= b.size) (hc : 1 <= i -> LE less (ath a (i - 1)) (ath b (j - 1))) : MH less a.toList b.toList (o.push (ath b (j - 1))).toList.reverse i (j - 1) := by
 have := (h.swap.blk T.sb (k := j - 1) (by lia) fun x hx y hy => by
   rw [td1 h1 hj] at hx
   rw [List.mem_singleton.mp hx]
   obtain ⟨k, k1, k2, rfl⟩ := tk_at hy
   exact O.trans _ _ _ (pw_at O T.sa (show k <= i - 1 by lia) (by lia)) (hc (by lia))).swap
 rw [td1 h1 hj] at this
 rw [Array.toList_push, List.reverse_append]
 exact this
theorem rev_blk (o x : Array Keyed) : (o ++ x.reverse).toList.reverse = x.toList ++ o.toList.reverse := by
 rw [Array.toList_append, Array.toList_reverse, List.reverse_append, List.reverse_reverse]
noncomputable def EndH (less : Keyed -> Keyed -> Bool) (a b : Array Keyed) (st : SortSt) (N : Nat) (r : ForInStep S7) (st' : SortSt) : Prop :=
 (∃ g, st' = setGal st g) /\ ((∃ x c, r = .done (some x, c) /\ Res less a b x) \/ (∃ i j o c, (r = .done (none, i, j, o, c) \/ r = .yield (none, i, j, o, c)) /\ JH less a b o i j /\ i + j <= N))
theorem wp_p3H (O : Ord less) (T : Two less a₀ a b) {st st' : SortSt} {mg ac bc N : Nat} {o : Array Keyed} {i j : Nat} (hg : ∃ g, st' = setGal st g) (J : JH less a b o i j) (hc : LE less (ath b (j - 1)) (ath a (i - 1))) (hN : i + j <= N) : wpS (model prog w) A E s (p3H a b mg ac bc i j o) (EndH less a b st N) st' := by
 unfold p3H
 have hi := J.hi
 have ia := J.ia
 refine wpS_bind (wp_elem (by lia) ?_)
 have m := pushH_a O T J.mi J.hi J.ia J.jb fun _ => hc
 by_cases c : i - 1 = 0
 · rw [if_pos (by simpa using c)]
   exact wpS_pure ⟨hg, .inl ⟨_, _, rfl, resH_dn T m (.inl c)⟩⟩
 · rw [if_neg (by simpa using c)]
   have J' : JH less a b (o.push (ath a (i - 1))) (i - 1) j := ⟨m, by lia, J.hj, by lia, J.jb⟩
   split
   · exact wpS_pure ⟨hg, .inr ⟨_, _, _, _, .inl rfl, J', by lia⟩⟩
   · exact wpS_pure ⟨hg, .inr ⟨_, _, _, _, .inr rfl, J', by lia⟩⟩
theorem wp_p2H (O : Ord less) (L : LtOk prog w A E s kd a₀ less) (T : Two less a₀ a b) {st st' : SortSt} {mg ac bc N : Nat} {o : Array Keyed} {i j : Nat} (hk : kindOf st' = kd) (hg : ∃ g, st' = setGal st g) (J : JH less a b o i j) (hc : LE less (ath a (i - 1)) (ath b (j - 1))) (hN : i + j <= N) : wpS (model prog w) A E s (p2H a b mg ac bc i j o) (EndH less a b st N) st' := by
 unfold p2H
 have hi := J.hi
 have hj := J.hj
 have ia := J.ia
 have jb := J.jb
 refine wpS_bind (wp_elem (by lia) ?_)
 have m := pushH_b O T J.mi (by lia) ia jb fun _ => hc
 by_cases c : j - 1 = 1
 · rw [if_pos (by simpa using c)]
   exact wpS_pure ⟨hg, .inl ⟨_, _, rfl, resH_fb O T m c⟩⟩
 · rw [if_neg (by simpa using c)]
   refine wpS_bind (wp_elem (by lia) ?_)
   have sg := sg_all O T.sb (i := 0) (n := j - 1) (by lia)
   refine wpS_bind (wp_galL O L hk (T.ma (i - 1) (by lia)) (fun k hk => ⟨by lia, T.mb _ (by lia)⟩) (by lia) sg fun k h1 h2 h3 => ?_)
   dsimp only
   simp only [Nat.zero_add] at h2 h3
   by_cases ck : j - 1 - k > 0
   · rw [if_pos ck]
     have m2 : MH less a.toList b.toList (o.push (ath b (j - 1)) ++ (b.extract k (j - 1)).reverse).toList.reverse i k := by
       rw [rev_blk, ext_td]
       refine (m.swap.blk T.sb (by lia) fun x hx y hy => ?_).swap
       obtain ⟨n, n1, n2, n3, rfl⟩ := td_at hx
       obtain ⟨k', k1, k2, rfl⟩ := tk_at hy
       exact O.trans _ _ _ (pw_at O T.sa (show k' <= i - 1 by lia) (by lia)) (h3 n n1 n2)
     by_cases c2 : k = 1
     · rw [if_pos (by simpa using c2)]
       exact wpS_pure ⟨hg, .inl ⟨_, _, rfl, resH_fb O T m2 c2⟩⟩
     rw [if_neg (by simpa using c2)]
     by_cases c3 : k = 0
     · rw [if_pos (by simpa using c3)]
       exact wpS_pure ⟨hg, .inl ⟨_, _, rfl, resH_dn T m2 (.inr c3)⟩⟩
     · rw [if_neg (by simpa using c3)]
       exact wp_p3H O T hg ⟨m2, hi, by lia, ia, by lia⟩ (O.le (h2 (k - 1) (by lia))) (by lia)
   · rw [if_neg ck]
     exact wp_p3H O T hg ⟨m, hi, by lia, ia, by lia⟩ (O.le (h2 (j - 1 - 1) (by lia))) (by lia)
theorem wp_p1H (O : Ord less) (L : LtOk prog w A E s kd a₀ less) (T : Two less a₀ a b) {st st' : SortSt} {mg ac bc N : Nat} {o : Array Keyed} {i j : Nat} (hk : kindOf st = kd) (hg : ∃ g, st' = setGal st g) (J : JH less a b o i j) (hN : i + j <= N) : wpS (model prog w) A E s (p1H a b mg ac bc i j o) (EndH less a b st N) st' := by
 unfold p1H
 have hi := J.hi
 have hj := J.hj
 have ia := J.ia
 have jb := J.jb
 refine wpS_bind (wpS_modify ?_)
 have hg' : ∃ g, setGal st' mg = setGal st g := by obtain ⟨g, rfl⟩ := hg; exact ⟨mg, rfl⟩
 have hk' : kindOf (setGal st' mg) = kd := by obtain ⟨g, rfl⟩ := hg; exact hk
 refine wpS_bind (wp_elem (by lia) ?_)
 have sg := sg_all O T.sa (i := 0) (n := i) (by lia)
 refine wpS_bind (wp_galR O L hk' (T.mb (j - 1) (by lia)) (fun k hk => ⟨by lia, T.ma _ (by lia)⟩) (by lia) sg fun k h1 h2 h3 => ?_)
 dsimp only
 simp only [Nat.zero_add] at h2 h3
 by_cases ck : i - k > 0
 · rw [if_pos ck]
   have m2 : MH less a.toList b.toList (o ++ (a.extract k i).reverse).toList.reverse k j := by
     rw [rev_blk, ext_td]
     refine J.mi.blk T.sa (by lia) fun x hx y hy => ?_
     obtain ⟨n, n1, n2, n3, rfl⟩ := td_at hx
     obtain ⟨k', k1, k2, rfl⟩ := tk_at hy
     exact O.trans _ _ _ (pw_at O T.sb (show k' <= j - 1 by lia) (by lia)) (O.le (h3 n n1 n2))
   by_cases c2 : k = 0
   · rw [if_pos (by simpa using c2)]
     exact wpS_pure ⟨hg', .inl ⟨_, _, rfl, resH_dn T m2 (.inl c2)⟩⟩
   · rw [if_neg (by simpa using c2)]
     exact wp_p2H O L T hk' hg' ⟨m2, by lia, hj, by lia, jb⟩ (h2 (k - 1) (by lia)) (by lia)
 · rw [if_neg ck]
   exact wp_p2H O L T hk' hg' J (h2 (i - 1) (by lia)) hN
theorem wp_two1 (O : Ord less) (L : LtOk prog w A E s kd a₀ less) (T : Two less a₀ a b) {st' : SortSt} {mg ac bc : Nat} {o : Array Keyed} {i j : Nat} {Q : ForInStep (Option (Array Keyed) × Nat × Nat × Array Keyed × Nat × Nat) -> SortSt -> Prop} (hk : kindOf st' = kd) (J : JH less a b o i j)
   (h1 : ∀ x c, Res less a b x -> Q (.done (some x, c)) st') (h2 : ∀ i' j' o c, JH less a b o i' j' -> i' + j' + 1 = i + j -> Q (.done (none, i', j', o, c)) st' /\ Q (.yield (none, i', j', o, c)) st') :
   wpS (model prog w) A E s (two1 a b mg i j o ac bc) Q st' := by
 unfold two1
 have hi := J.hi
 have hj := J.hj
 have ia := J.ia
 have jb := J.jb
 refine wpS_bind (wp_elem (by lia) (wpS_bind (wp_elem (by lia) (wpS_bind (L _ _ _ _ (T.mb (j - 1) (by lia)) (T.ma (i - 1) (by lia)) hk ?_)))))
 dsimp only
 cases e : less (ath b (j - 1)) (ath a (i - 1)) with
 | true =>
   simp only [if_true]
   refine wpS_bind (wp_elem (by lia) ?_)
   have m := pushH_a O T J.mi hi ia jb fun _ => O.le e
   by_cases c : i - 1 = 0
   · rw [if_pos (by simpa using c)]
     exact wpS_pure (h1 _ _ (resH_dn T m (.inl c)))
   · rw [if_neg (by simpa using c)]
     have := h2 (i - 1) j _ (ac + 1, 0) ⟨m, by lia, hj, by lia, jb⟩ (by lia)
     split
     · exact wpS_pure this.1
     · exact wpS_pure this.2
 | false =>
   simp only [Bool.false_eq_true, if_false]
   refine wpS_bind (wp_elem (by lia) ?_)
   have m := pushH_b O T J.mi (by lia) ia jb fun _ => e
   by_cases c : j - 1 = 1
   · rw [if_pos (by simpa using c)]
     exact wpS_pure (h1 _ _ (resH_fb O T m c))
   · rw [if_neg (by simpa using c)]
     have := h2 i (j - 1) _ (0, bc + 1) ⟨m, hi, by lia, ia, by lia⟩ (by lia)
     split
     · exact wpS_pure this.1
     · exact wpS_pure this.2
theorem wp_mHi (O : Ord less) (L : LtOk prog w A E s kd a₀ less) (T : Two less a₀ a b) {st : SortSt} {Q : Array Keyed -> SortSt -> Prop} (hk : kindOf st = kd) (h : ∀ r g, Res less a b r -> Q r (setGal st g)) : wpS (model prog w) A E s (mHi a b) Q st := by
 rw [mHi_parts]
 have na := T.na
 have nb := T.nb
 refine wpS_bind (wpS_lift (wpAny_rule ⟨rfl, ?_⟩))
 refine wpS_bind (wp_elem (by lia) ?_)
 have h' : ∀ r, Res less a b r -> Q r st := fun r hr => h r (gallopOf st) hr
 have m : MH less a.toList b.toList (#[ath a (a.size - 1)] : Array Keyed).toList.reverse (a.size - 1) b.size := by
   have m0 : MH less a.toList b.toList (#[] : Array Keyed).toList.reverse a.size b.size := ⟨by simp, by simp, by simp, by simp⟩
   exact pushH_a O T m0 (by lia) (Nat.le_refl _) (Nat.le_refl _) fun _ => O.le (T.hl _ (by lia))
 by_cases c : a.size - 1 = 0
 · rw [if_pos (by simpa using c)]
   exact wpS_pure (h' _ (resH_dn T m (.inl c)))
 rw [if_neg (by simpa using c)]
 by_cases c2 : b.size = 1
 · rw [if_pos (by simpa using c2)]
   exact wpS_pure (h' _ (resH_fb O T m c2))
 rw [if_neg (by simpa using c2)]
 refine wpS_bind (wpS_get ?_)
 refine wpS_bind (wpS_mono (wpS_forRange (I := fun n c st' => (∃ g, st' = setGal st g) /\ ∃ i j o mg, c = (none, i, j, o, mg) /\ JH less a b o i j /\ i + j + n < a.size + b.size)
   (Q := fun c st' => (∃ g, st' = setGal st g) /\ ∃ x d, c = (some x, d) /\ Res less a b x) ?_ ?_ ⟨⟨gallopOf st, rfl⟩, _, _, _, _, rfl, ⟨m, by lia, by lia, by lia, by lia⟩, by lia⟩) ?_)
 · rintro n c st' _ hn ⟨hg, i, j, o, mg, rfl, J, hN⟩
   unfold outH
   dsimp only
   have hk' : kindOf st' = kd := by obtain ⟨g, rfl⟩ := hg; exact hk
   refine wpS_bind (wpS_mono (wpS_forRange (I := fun x c st2 => st2 = st' /\ ∃ i' j' o' d, c = (none, i', j', o', d) /\ JH less a b o' i' j' /\ i' + j' + x = i + j)
     (Q := fun c st2 => st2 = st' /\ ((∃ x d, c = (some x, d) /\ Res less a b x) \/ ∃ i' j' o' d, c = (none, i', j', o', d) /\ JH less a b o' i' j' /\ i' + j' + 1 <= i + j)) ?_ ?_ ⟨rfl, i, j, o, _, rfl, J, rfl⟩) ?_)
   · rintro x c st2 _ hx ⟨rfl, i', j', o', ⟨ac, bc⟩, rfl, J', hN'⟩
     dsimp only
     refine wp_two1 O L T hk' J' (fun x c hr => ⟨rfl, .inl ⟨x, c, rfl, hr⟩⟩) fun i2 j2 o2 c J2 h2 => ⟨⟨rfl, .inr ⟨i2, j2, o2, c, rfl, J2, by lia⟩⟩, ⟨rfl, i2, j2, o2, c, rfl, J2, by lia⟩⟩
   · rintro c st2 ⟨rfl, i', j', o', d, rfl, J', hN'⟩
     exact ⟨rfl, .inr ⟨i', j', o', d, rfl, J', by lia⟩⟩
   · rintro c st2 ⟨rfl, ⟨x, d, rfl, hr⟩ | ⟨i', j', o', ⟨ac, bc⟩, rfl, J', hN'⟩⟩
     · exact wpS_pure ⟨hg, x, _, rfl, hr⟩
     · dsimp only
       refine wpS_bind (wpS_lift (wpAny_rule ⟨rfl, ?_⟩))
       refine wpS_bind (wpS_mono (wpS_forRange (I := fun x c st3 => (∃ g, st3 = setGal st g) /\ ∃ i' j' o' d, c = (none, i', j', o', d) /\ JH less a b o' i' j' /\ i' + j' + 1 <= i + j)
         (Q := fun c st3 => (∃ g, st3 = setGal st g) /\ ((∃ x d, c = (some x, d) /\ Res less a b x) \/ ∃ i' j' o' d, c = (none, i', j', o', d) /\ JH less a b o' i' j' /\ i' + j' + 1 <= i + j)) ?_ ?_ ⟨hg, i', j', o', _, rfl, J', hN'⟩) ?_)
       · rintro x c st3 _ hx ⟨hg3, i3, j3, o3, ⟨mg3, ac3, bc3⟩, rfl, J3, hN3⟩
         dsimp only
         split
         all_goals
           refine wpS_mono (wp_p1H O L T (N := i + j - 1) hk hg3 J3 (by lia)) ?_
           rintro r st4 ⟨hg4, ⟨x, c, rfl, hr⟩ | ⟨i4, j4, o4, c, rfl | rfl, J4, h4⟩⟩
           · exact ⟨hg4, .inl ⟨x, c, rfl, hr⟩⟩
           · exact ⟨hg4, .inr ⟨i4, j4, o4, c, rfl, J4, by lia⟩⟩
           · exact ⟨hg4, i4, j4, o4, c, rfl, J4, by lia⟩
       · rintro c st3 ⟨hg3, i3, j3, o3, d, rfl, J3, hN3⟩
         exact ⟨hg3, .inr ⟨i3, j3, o3, d, rfl, J3, hN3⟩⟩
       · rintro c st3 ⟨hg3, ⟨x, d, rfl, hr⟩ | ⟨i3, j3, o3, ⟨mg3, ac3, bc3⟩, rfl, J3, hN3⟩⟩
         · exact wpS_pure ⟨hg3, x, _, rfl, hr⟩
         · dsimp only
           refine wpS_bind (wpS_modify (wpS_pure ⟨?_, i3, j3, o3, _, rfl, J3, by lia⟩))
           obtain ⟨g, rfl⟩ := hg3
           exact ⟨_, rfl⟩
 · rintro c st' ⟨hg, i, j, o, mg, rfl, J, hN⟩
   have := J.hi
   have := J.hj
   lia
 · rintro c st' ⟨⟨g, rfl⟩, x, d, rfl, hr⟩
   exact wpS_pure (h x g hr)
end
end TS
namespace TS
open PySem PyProof.Rows
noncomputable def wrt (xs : Array Keyed) (at_ : Nat) (l : List (Keyed × Nat)) : Array Keyed := l.foldl (fun a (p, j) => a.setIfInBounds (at_ + j) p) xs
theorem wrt_at (at_ n : Nat) : ∀ (ms : List Keyed) (k : Nat) (xs : Array Keyed), at_ + k + ms.length <= xs.size -> (wrt xs at_ (ms.zipIdx k))[n]? = if at_ + k <= n /\ n < at_ + k + ms.length then ms[n - (at_ + k)]? else xs[n]?
 | [], k, xs, h => by
   rw [if_neg (by simp)]; rfl
 | p :: ms, k, xs, h => by
   rw [List.length_cons] at h
   show (wrt (xs.setIfInBounds (at_ + k) p) at_ (ms.zipIdx (k + 1)))[n]? = _
   rw [wrt_at at_ n ms (k + 1) _ (by rw [Array.size_setIfInBounds]; lia)]
   rw [List.length_cons]
   by_cases c : n = at_ + k
   · subst c
     rw [if_neg (by lia), if_pos (by lia), Array.getElem?_setIfInBounds_self_of_lt (by lia)]
     simp
   · rw [Array.getElem?_setIfInBounds_ne (Ne.symm c)]
     by_cases c2 : at_ + (k + 1) <= n /\ n < at_ + (k + 1) + ms.length
     · rw [if_pos c2, if_pos (by lia), show n - (at_ + k) = (n - (at_ + (k + 1))) + 1 by lia, List.getElem?_cons_succ]
     · rw [if_neg c2, if_neg (by lia)]
theorem wrt_list {xs : Array Keyed} {at_ : Nat} {ms : List Keyed} (h : at_ + ms.length <= xs.size) : (wrt xs at_ ms.zipIdx).toList = xs.toList.take at_ ++ (ms ++ xs.toList.drop (at_ + ms.length)) := by
 apply List.ext_getElem?
 intro n
 have e := wrt_at at_ n ms 0 xs (by lia)
 rw [Nat.add_zero] at e
 have e' : (wrt xs at_ ms.zipIdx).toList[n]? = (wrt xs at_ ms.zipIdx)[n]? := by simp
 rw [e', e]
 have hx : ∀ k : Nat, xs.toList[k]? = xs[k]? := fun k => Array.getElem?_toList ..
 by_cases c1 : n < at_
 · rw [if_neg (by lia), List.getElem?_append_left (by rw [List.length_take]; simp; lia), List.getElem?_take, if_pos c1, hx]
 · have lt : (xs.toList.take at_).length = at_ := by rw [List.length_take]; simp; lia
   rw [List.getElem?_append_right (by lia), lt]
   by_cases c2 : n < at_ + ms.length
   · rw [if_pos (by lia), List.getElem?_append_left (by lia)]
   · rw [if_neg (by lia), List.getElem?_append_right (by lia), List.getElem?_drop, hx]
     congr 1; lia
theorem three (l : List Keyed) (i j k : Nat) (hij : i <= j) (hjk : j <= k) (hk : k <= l.length) : l = l.take i ++ ((l.take j).drop i ++ ((l.take k).drop j ++ l.drop k)) := by
 have e1 : (l.take k).drop j ++ l.drop k = l.drop j := by
   rw [List.drop_take]
   have := List.take_append_drop (k - j) (l.drop j)
   rw [List.drop_drop, show j + (k - j) = k by lia] at this
   exact this
 have e2 : (l.take j).drop i ++ l.drop j = l.drop i := by
   rw [List.drop_take]
   have := List.take_append_drop (j - i) (l.drop i)
   rw [List.drop_drop, show i + (j - i) = j by lia] at this
   exact this
 rw [e1, e2, List.take_append_drop]
theorem ext_pw {less : Keyed -> Keyed -> Bool} (O : Ord less) {xs : Array Keyed} {i j lo hi : Nat} (h : Sg less xs lo hi) (h1 : lo <= i) (h2 : j <= hi) (h3 : hi <= xs.size) : (xs.extract i j).toList.Pairwise (LE less) := by
 rw [List.pairwise_iff_getElem]
 intro x y hx hy hxy
 have e : ∀ n (hn : n < (xs.extract i j).toList.length), (xs.extract i j).toList[n] = ath xs (i + n) := fun n hn => by
   have hn' : n < (xs.extract i j).size := by rw [Array.length_toList] at hn; exact hn
   rw [Array.size_extract] at hn'
   unfold ath
   rw [getElem?_pos xs (i + n) (by lia)]
   simp
 rw [e x hx, e y hy]
 have hy' : y < (xs.extract i j).size := by rw [Array.length_toList] at hy; exact hy
 rw [Array.size_extract] at hy'
 exact h _ _ (by lia) (by lia) (by lia)
theorem ath_ext {xs : Array Keyed} {i j n : Nat} (h : n < (xs.extract i j).size) : ath (xs.extract i j) n = ath xs (i + n) := by
 unfold ath
 rw [Array.size_extract] at h
 rw [Array.getElem?_extract, if_pos (by lia)]
section
variable {prog : Program} {w : World} {A : Around} {E : Value -> Shared -> Prop} {s : Shared} {kd : SortKind} {a₀ : Array Keyed} {less : Keyed -> Keyed -> Bool}
noncomputable abbrev Rn := Nat × Nat × Nat
theorem mAt_eq (i : Nat) : mergeAt' i = (do
 let s <- get
 let (some (sa, na, pw), some (sb, nb, _)) := ((pendingOf s)[i]?, (pendingOf s)[i + 1]?) | unsupported "internal:list.sort.pending"
 set (setPending s (((pendingOf s).setIfInBounds i (sa, na + nb, pw)).eraseIdxIfInBounds (i + 1)))
 let some k <- gal false (<- elem' (arrOf s) sb) (arrOf s) sa na 0 | return false
 let (sa, na) := (sa + k, na - k)
 if na == 0 then return true
 let some nb <- gal true (<- elem' (arrOf s) (sa + na - 1)) (arrOf s) sb nb (nb - 1) | return false
 if nb == 0 then return true
 let x := (arrOf s).extract sa sb
 let y := (arrOf s).extract sb (sb + nb)
 let r <- if na <= nb then mLo x y else mHi x y
 modify fun s => setArr s (wrt (arrOf s) sa r.toList.zipIdx)
 return (failedOf (<- get)).isNone) := rfl
theorem wpS_set {σ : Type} {M : Model} {v : σ} {Q : PUnit -> σ -> Prop} {st : σ} (h : Q ⟨⟩ v) : wpS M A E s (set v : StateT σ Sem PUnit) Q st := by
 unfold wpS; rw [StateT.run_set]; exact wpAny_pure ⟨rfl, h⟩
theorem wp_mAt (O : Ord less) (L : LtOk prog w A E s kd a₀ less) {st : SortSt} {Q : Bool -> SortSt -> Prop} {l1 l2 : List Rn} {sa na pw sb nb pw2 i : Nat} (B : SB kd a₀ st) (hp : pendingOf st = (l1 ++ (sa, na, pw) :: (sb, nb, pw2) :: l2).toArray) (hi : i = l1.length)
   (hsb : sb = sa + na) (h1 : 1 <= na) (h2 : 1 <= nb) (hz : sb + nb <= a₀.size) (s1 : Sg less (arrOf st) sa sb) (s2 : Sg less (arrOf st) sb (sb + nb))
   (h : ∀ st', SB kd a₀ st' -> pendingOf st' = (l1 ++ (sa, na + nb, pw) :: l2).toArray -> Sg less (arrOf st') sa (sb + nb) -> Out sa (sb + nb) (arrOf st) (arrOf st') -> Q true st') : wpS (model prog w) A E s (mergeAt' i) Q st := by
 subst hi
 rw [mAt_eq]
 refine wpS_bind (wpS_get ?_)
 have p1 : (pendingOf st)[l1.length]? = some (sa, na, pw) := by rw [hp]; simp
 have p2 : (pendingOf st)[l1.length + 1]? = some (sb, nb, pw2) := by
   rw [hp]; simp [List.getElem?_append_right]
 rw [p1, p2]
 dsimp only
 refine wpS_bind (wpS_set ?_)
 have hpd : ((pendingOf st).setIfInBounds l1.length (sa, na + nb, pw)).eraseIdxIfInBounds (l1.length + 1) = (l1 ++ (sa, na + nb, pw) :: l2).toArray := by
   rw [hp]
   simp only [List.setIfInBounds_toArray, List.eraseIdxIfInBounds_toArray]
   congr 1
   rw [List.set_append_right _ _ (Nat.le_refl _), Nat.sub_self, List.set_cons_zero]
   rw [List.eraseIdx_append_of_length_le (by lia), show l1.length + 1 - l1.length = 1 by lia]
   rfl
 rw [hpd]
 let st1 : SortSt := setPending st (l1 ++ (sa, na + nb, pw) :: l2).toArray
 have B1 : SB kd a₀ st1 := ⟨B.perm, B.kd, B.fl⟩
 have hsz := B.size
 show wpS _ _ _ _ _ Q st1
 refine wpS_bind (wp_elem (by lia) ?_)
 refine wpS_bind (wp_galR O L B.kd (B.mem (by lia)) (fun k hk => ⟨by lia, B.mem (by lia)⟩) (by lia) (by rw [<- hsb]; exact s1) fun k g1 g2 g3 => ?_)
 dsimp only
 by_cases c1 : na - k = 0
 · rw [if_pos (by simpa using c1)]
   refine wpS_pure (h st1 B1 rfl (fun i j hi hij hj => ?_) Out.refl)
   show LE less (ath (arrOf st) i) (ath (arrOf st) j)
   by_cases c2 : j < sb
   · exact s1 i j hi hij c2
   · by_cases c3 : sb <= i
     · exact s2 i j c3 hij hj
     · have := g2 (i - sa) (by lia)
       rw [show sa + (i - sa) = i by lia] at this
       exact O.trans _ _ _ this (s2 sb j (Nat.le_refl _) (by lia) hj)
 · rw [if_neg (by simpa using c1)]
   refine wpS_bind (wp_elem (by lia) ?_)
   rw [show sa + k + (na - k) - 1 = sb - 1 by lia]
   refine wpS_bind (wp_galL O L B.kd (B.mem (by lia)) (fun k hk => ⟨by lia, B.mem (by lia)⟩) (by lia) s2 fun m f1 f2 f3 => ?_)
   dsimp only
   by_cases c2 : m = 0
   · rw [if_pos (by simpa using c2)]
     refine wpS_pure (h st1 B1 rfl (fun i j hi hij hj => ?_) Out.refl)
     show LE less (ath (arrOf st) i) (ath (arrOf st) j)
     by_cases c2 : j < sb
     · exact s1 i j hi hij c2
     · by_cases c3 : sb <= i
       · exact s2 i j c3 hij hj
       · have := f3 (j - sb) (by lia) (by lia)
         rw [show sb + (j - sb) = j by lia] at this
         exact O.trans _ _ _ (s1 i (sb - 1) hi (by lia) (by lia)) this
   · rw [if_neg (by simpa using c2)]
     have hxs : ((arrOf st).extract (sa + k) sb).size = na - k := by rw [Array.size_extract]; lia
     have hys : ((arrOf st).extract sb (sb + m)).size = m := by rw [Array.size_extract]; lia
     have T : Two less a₀ ((arrOf st).extract (sa + k) sb) ((arrOf st).extract sb (sb + m)) := by
       refine ⟨ext_pw O s1 (by lia) (Nat.le_refl _) (by lia), ext_pw O s2 (Nat.le_refl _) (by lia) (by lia), fun i hi => ?_, fun i hi => ?_, by lia, by lia, ?_, fun j hj => ?_⟩
       · rw [ath_ext hi]; rw [hxs] at hi; exact B.mem (by lia)
       · rw [ath_ext hi]; rw [hys] at hi; exact B.mem (by lia)
       · rw [ath_ext (by lia), ath_ext (by lia)]
         exact g3 k (Nat.le_refl _) (by lia)
       · rw [ath_ext hj, ath_ext (by lia)]
         rw [hys] at hj
         rw [hxs, show sa + k + (na - k - 1) = sb - 1 by lia]
         exact f2 j hj
     have fin : ∀ (r : Array Keyed) (g : Nat), Res less ((arrOf st).extract (sa + k) sb) ((arrOf st).extract sb (sb + m)) r ->
         wpS (model prog w) A E s (do modify fun s => setArr s (wrt (arrOf s) (sa + k) r.toList.zipIdx); return (failedOf (<- get)).isNone) Q (setGal st1 g) := by
       rintro r g ⟨rp, rs⟩
       have rl : r.toList.length = sb + m - (sa + k) := by
         rw [rp.length_eq, List.length_append]
         have e1 : ((arrOf st).extract (sa + k) sb).toList.length = na - k := by rw [Array.length_toList]; exact hxs
         have e2 : ((arrOf st).extract sb (sb + m)).toList.length = m := by rw [Array.length_toList]; exact hys
         rw [e1, e2]; lia
       have wl := wrt_list (xs := arrOf st) (at_ := sa + k) (ms := r.toList) (by rw [rl, hsz]; lia)
       rw [rl, show sa + k + (sb + m - (sa + k)) = sb + m by lia] at wl
       have wa : ∀ n, ath (wrt (arrOf st) (sa + k) r.toList.zipIdx) n = if sa + k <= n /\ n < sb + m then (r.toList[n - (sa + k)]?).getD (.none, .none) else ath (arrOf st) n := fun n => by
         have e := wrt_at (sa + k) n r.toList 0 (arrOf st) (by rw [rl, hsz]; lia)
         rw [Nat.add_zero, rl, show sa + k + (sb + m - (sa + k)) = sb + m by lia] at e
         unfold ath
         rw [e]
         split <;> rfl
       have wm : ∀ n, sa + k <= n -> n < sb + m -> ∃ n', sa + k <= n' /\ n' < sb + m /\ ath (wrt (arrOf st) (sa + k) r.toList.zipIdx) n = ath (arrOf st) n' := fun n n1 n2 => by
         rw [wa, if_pos ⟨n1, n2⟩, List.getElem?_eq_getElem (by lia)]
         have hm := rp.mem_iff.mp (List.getElem_mem (l := r.toList) (n := n - (sa + k)) (by lia))
         rcases List.mem_append.mp hm with hm | hm
         · rw [ext_td] at hm
           obtain ⟨q, q1, q2, q3, e⟩ := td_at hm
           exact ⟨q, q1, by lia, e⟩
         · rw [ext_td] at hm
           obtain ⟨q, q1, q2, q3, e⟩ := td_at hm
           exact ⟨q, by lia, q2, e⟩
       refine wpS_bind (wpS_modify ?_)
       refine wpS_bind (wpS_get (wpS_pure ?_))
       have ef : (failedOf (setArr (setGal st1 g) (wrt (arrOf (setGal st1 g)) (sa + k) r.toList.zipIdx))).isNone = true := by
         show (failedOf st).isNone = true
         rw [B.fl]; rfl
       rw [ef]
       refine h _ ⟨?_, B.kd, B.fl⟩ rfl (fun i j hi hij hj => ?_) (fun n hn => ?_)
       · show (wrt (arrOf st) (sa + k) r.toList.zipIdx).Perm a₀
         refine Array.Perm.trans ?_ B.perm
         rw [Array.perm_iff_toList_perm, wl]
         have e3 := three (arrOf st).toList (sa + k) sb (sb + m) (by lia) (by lia) (by simp; lia)
         refine List.Perm.trans ?_ (List.Perm.of_eq e3.symm)
         refine List.Perm.append_left _ ?_
         rw [<- List.append_assoc]
         refine List.Perm.append_right _ ?_
         rw [ext_td, ext_td] at rp
         exact rp
       · show LE less (ath (wrt (arrOf st) (sa + k) r.toList.zipIdx) i) (ath (wrt (arrOf st) (sa + k) r.toList.zipIdx) j)
         have key1 : ∀ x y, sa <= x -> x < sa + k -> sa + k <= y -> y < sb + nb -> LE less (ath (arrOf st) x) (ath (arrOf st) y) := fun x y x1 x2 y1 y2 => by
           by_cases c : y < sb
           · exact s1 x y x1 (by lia) c
           · have := g2 (x - sa) (by lia)
             rw [show sa + (x - sa) = x by lia] at this
             exact O.trans _ _ _ this (s2 sb y (Nat.le_refl _) (by lia) y2)
         have key2 : ∀ x y, sa + k <= x -> x < sb + m -> sb + m <= y -> y < sb + nb -> LE less (ath (arrOf st) x) (ath (arrOf st) y) := fun x y x1 x2 y1 y2 => by
           by_cases c : x < sb
           · have := f3 (y - sb) (by lia) (by lia)
             rw [show sb + (y - sb) = y by lia] at this
             exact O.trans _ _ _ (s1 x (sb - 1) (by lia) (by lia) (by lia)) this
           · exact s2 x y (by lia) (by lia) y2
         by_cases i1 : i < sa + k
         · have ei := wa i
           rw [if_neg (by lia)] at ei
           rw [ei]
           by_cases j1 : j < sa + k
           · have ej := wa j
             rw [if_neg (by lia)] at ej
             rw [ej]; exact s1 i j hi hij (by lia)
           · by_cases j2 : j < sb + m
             · obtain ⟨n', n1, n2, e⟩ := wm j (by lia) j2
               rw [e]; exact key1 i n' hi i1 n1 (by lia)
             · have ej := wa j
               rw [if_neg (by lia)] at ej
               rw [ej]; exact key1 i j hi i1 (by lia) hj
         · by_cases i2 : i < sb + m
           · by_cases j2 : j < sb + m
             · rw [wa i, wa j, if_pos (by lia), if_pos (by lia), List.getElem?_eq_getElem (by lia), List.getElem?_eq_getElem (by lia)]
               by_cases cij : i = j
               · subst cij; exact O.refl _
               · exact List.pairwise_iff_getElem.mp rs _ _ (by lia) (by lia) (by lia)
             · obtain ⟨n', n1, n2, e⟩ := wm i (by lia) i2
               have ej := wa j
               rw [if_neg (by lia)] at ej
               rw [e, ej]; exact key2 n' j n1 n2 (by lia) hj
           · have ei := wa i
             have ej := wa j
             rw [if_neg (by lia)] at ei ej
             rw [ei, ej]; exact s2 i j (by lia) hij hj
       · show ath (wrt (arrOf st) (sa + k) r.toList.zipIdx) n = _
         rw [wa n, if_neg (by lia)]
     by_cases c3 : na - k <= m
     · rw [if_pos c3]
       exact wpS_bind (wp_mLo O L T B.kd fun r g hr => fin r g hr)
     · rw [if_neg c3]
       exact wpS_bind (wp_mHi O L T B.kd fun r g hr => fin r g hr)
end
end TS
namespace TS
open PySem PyProof.Rows
noncomputable def Runs (less : Keyed -> Keyed -> Bool) (xs : Array Keyed) : List Rn -> Nat -> Nat -> Prop
 | [], lo, hi => lo = hi
 | (a, n, _) :: r, lo, hi => a = lo /\ 1 <= n /\ Sg less xs lo (lo + n) /\ Runs less xs r (lo + n) hi
section
variable {less : Keyed -> Keyed -> Bool} {xs ys : Array Keyed}
theorem Runs.le : ∀ {l : List Rn} {lo hi : Nat}, Runs less xs l lo hi -> lo + l.length <= hi
 | [], lo, hi, h => Nat.le_of_eq h
 | (a, n, p) :: r, lo, hi, h => by
   have := Runs.le h.2.2.2
   have := h.2.1
   rw [List.length_cons]; lia
theorem Runs.app : ∀ {l1 l2 : List Rn} {lo hi : Nat}, Runs less xs (l1 ++ l2) lo hi ↔ ∃ m, Runs less xs l1 lo m /\ Runs less xs l2 m hi
 | [], l2, lo, hi => ⟨fun h => ⟨lo, rfl, h⟩, fun ⟨m, e, h⟩ => by cases e; exact h⟩
 | (a, n, p) :: r, l2, lo, hi => by
   constructor
   · rintro ⟨h1, h2, h3, h4⟩
     obtain ⟨m, a1, a2⟩ := Runs.app.mp h4
     exact ⟨m, ⟨h1, h2, h3, a1⟩, a2⟩
   · rintro ⟨m, ⟨h1, h2, h3, a1⟩, a2⟩
     exact ⟨h1, h2, h3, Runs.app.mpr ⟨m, a1, a2⟩⟩
theorem Runs.out {e1 e2 : Nat} (o : Out e1 e2 xs ys) : ∀ {l : List Rn} {lo hi : Nat}, (hi <= e1 \/ e2 <= lo) -> Runs less xs l lo hi -> Runs less ys l lo hi
 | [], lo, hi, _, h => h
 | (a, n, p) :: r, lo, hi, hc, ⟨h1, h2, h3, h4⟩ => by
   have := Runs.le h4
   refine ⟨h1, h2, fun i j hi hij hj => ?_, Runs.out o (by lia) h4⟩
   rw [o i (by lia), o j (by lia)]
   exact h3 i j hi hij hj
theorem sg_out {e1 e2 lo hi : Nat} (o : Out e1 e2 xs ys) (hc : hi <= e1 \/ e2 <= lo) (h : Sg less xs lo hi) : Sg less ys lo hi := fun i j hi hij hj => by
 rw [o i (by lia), o j (by lia)]
 exact h i j hi hij hj
theorem two_of {α : Type} {l : List α} (h : 2 <= l.length) : ∃ l1 x y, l = l1 ++ [x, y] := by
 refine ⟨l.take (l.length - 2), l[l.length - 2], l[l.length - 1], ?_⟩
 have := List.take_append_drop (l.length - 2) l
 rw [List.drop_eq_getElem_cons (by lia), List.drop_eq_getElem_cons (by lia), List.drop_eq_nil_of_le (by lia)] at this
 have e : l.length - 2 + 1 = l.length - 1 := by lia
 simp only [e] at this
 exact this.symm
theorem snoc_of {α : Type} {l : List α} (h : l ≠ []) : ∃ l1 x, l = l1 ++ [x] := ⟨l.dropLast, l.getLast h, (List.dropLast_concat_getLast h).symm⟩
end
section
variable {prog : Program} {w : World} {A : Around} {E : Value -> Shared -> Prop} {s : Shared} {kd : SortKind} {a₀ : Array Keyed} {less : Keyed -> Keyed -> Bool}
theorem mod_last (l1 : List Rn) (x : Rn) (f : Rn -> Rn) : (l1 ++ [x]).modify l1.length f = l1 ++ [f x] := by
 induction l1 with
 | nil => rfl
 | cons a l ih => rw [List.cons_append, List.length_cons, List.modify_succ_cons, ih]; rfl
theorem wp_mR (O : Ord less) (L : LtOk prog w A E s kd a₀ less) {st : SortSt} {Q : Bool -> SortSt -> Prop} {l1 l2 : List Rn} {x y : Rn} {i lo : Nat} (B : SB kd a₀ st) (hp : pendingOf st = (l1 ++ x :: y :: l2).toArray) (hi : i = l1.length) (hz : lo <= a₀.size) (R : Runs less (arrOf st) (l1 ++ x :: y :: l2) 0 lo)
   (h : ∀ st' z, SB kd a₀ st' -> pendingOf st' = (l1 ++ z :: l2).toArray -> Runs less (arrOf st') (l1 ++ z :: l2) 0 lo -> Out 0 lo (arrOf st) (arrOf st') -> Q true st') : wpS (model prog w) A E s (mergeAt' i) Q st := by
 obtain ⟨sa, na, pw⟩ := x
 obtain ⟨sb, nb, pw2⟩ := y
 obtain ⟨m, r1, rfl, h1, s1, rfl, h2, s2, r2⟩ := Runs.app.mp R
 have hle := r2.le
 refine wp_mAt O L B hp hi rfl h1 h2 (by lia) s1 s2 fun st' B' hp' s' o' => h st' _ B' hp' ?_ fun k hk => o' k (by lia)
 refine Runs.app.mpr ⟨_, r1.out o' (.inl (Nat.le_refl _)), rfl, by lia, ?_, ?_⟩
 · rw [<- Nat.add_assoc]; exact s'
 · rw [<- Nat.add_assoc]; exact r2.out o' (.inr (Nat.le_refl _))
theorem runs_pow {xs : Array Keyed} {l1 : List Rn} {a n p q lo hi : Nat} (h : Runs less xs (l1 ++ [(a, n, p)]) lo hi) : Runs less xs (l1 ++ [(a, n, q)]) lo hi := by
 obtain ⟨m, r1, h1, h2, h3, h4⟩ := Runs.app.mp h
 exact Runs.app.mpr ⟨m, r1, h1, h2, h3, h4⟩
theorem wp_sort (O : Ord less) (L : LtOk prog w A E s kd a₀ less) {st : SortSt} {Q : Unit -> SortSt -> Prop} (B : SB kd a₀ st) (hp0 : pendingOf st = #[]) (h2 : 2 <= a₀.size)
   (h : ∀ st', (arrOf st').Perm a₀ -> failedOf st' = none -> Sg less (arrOf st') 0 a₀.size -> Q () st') : wpS (model prog w) A E s sortRuns' Q st := by
 rw [sortRuns'_eq]
 refine wpS_bind (wpS_get ?_)
 dsimp only
 simp only [B.size]
 generalize minRun' a₀.size a₀.size 0 = mr
 refine wpS_bind (wpS_mono (wpS_forRange
   (I := fun x c st' => ∃ lo pl, c = (none, lo) /\ x <= lo /\ lo <= a₀.size /\ SB kd a₀ st' /\ pendingOf st' = pl.toArray /\ Runs less (arrOf st') pl 0 lo)
   (Q := fun c st' => ∃ pl, c = (none, a₀.size) /\ SB kd a₀ st' /\ pendingOf st' = pl.toArray /\ Runs less (arrOf st') pl 0 a₀.size) ?step ?fin ⟨0, [], rfl, Nat.le_refl _, Nat.zero_le _, B, hp0, rfl⟩) ?post)
 case fin =>
   rintro c st' ⟨lo, pl, rfl, h1, h2', B', hp, R⟩
   have : lo = a₀.size := by lia
   subst this
   exact ⟨pl, rfl, B', hp, R⟩
 case step =>
   rintro x c st' _ hx ⟨lo, pl, rfl, h1, h2', B', hp, R⟩
   dsimp only
   by_cases c1 : lo ≥ a₀.size
   · rw [if_pos c1]
     have : lo = a₀.size := by lia
     subst this
     exact wpS_pure ⟨pl, rfl, B', hp, R⟩
   rw [if_neg c1]
   refine wpS_bind (wp_run O L (by lia) (by lia) B' fun m st2 B2 m1 m2 s2 p2 o2 => ?_)
   dsimp only
   have R2 : Runs less (arrOf st2) pl 0 lo := R.out o2 (.inl (Nat.le_refl _))
   by_cases c2 : m < mr
   · rw [if_pos c2]
     refine wpS_bind (wpS_lift (wpAny_rule ⟨rfl, ?_⟩))
     refine wpS_bind (wp_bin O L (by lia) (by lia) B2 s2 fun st3 B3 s3 p3 o3 => ?_)
     simp only [Bool.not_true, Bool.false_eq_true, if_false]
     have R3 := R2.out o3 (.inl (Nat.le_refl _))
     have n1 : 1 <= min (a₀.size - lo) mr := by lia
     have n2 : lo + min (a₀.size - lo) mr <= a₀.size := by lia
     rw [p2, hp] at p3
     clear o3
     revert s3 n1 n2
     generalize min (a₀.size - lo) mr = n
     intro s3 n1 n2
     refine wpS_bind (wpS_get ?_)
     cases hb : (pendingOf st3).back? with
     | none =>
       dsimp only
       refine wpS_bind (wpS_modify (wpS_pure ⟨lo + n, pl ++ [(lo, n, 0)], rfl, by lia, n2, ⟨B3.perm, B3.kd, B3.fl⟩, ?_, Runs.app.mpr ⟨lo, R3, rfl, n1, s3, rfl⟩⟩))
       show (pendingOf st3).push (lo, n, 0) = _
       rw [p3]; simp
     | some q =>
       obtain ⟨s1, n1', p1⟩ := q
       dsimp only
       have hne : pl ≠ [] := fun e => by subst e; rw [p3] at hb; simp at hb
       refine wpS_bind (wpS_mono (wpS_forRange (I := fun _ c st4 => c = (none, ()) /\ ∃ pl, pl ≠ [] /\ SB kd a₀ st4 /\ Sg less (arrOf st4) lo (lo + n) /\ pendingOf st4 = pl.toArray /\ Runs less (arrOf st4) pl 0 lo)
         (Q := fun c st4 => c = (none, ()) /\ ∃ pl, pl ≠ [] /\ SB kd a₀ st4 /\ Sg less (arrOf st4) lo (lo + n) /\ pendingOf st4 = pl.toArray /\ Runs less (arrOf st4) pl 0 lo) ?_ (fun c st4 h => h) ⟨rfl, pl, hne, B3, s3, p3, R3⟩) ?_)
       · rintro y c st4 _ hy ⟨rfl, pl4, ne4, B4, s4, p4, R4⟩
         refine wpS_bind (wpS_get ?_)
         by_cases c2 : (pendingOf st4).size > 1
         · rw [if_pos c2]
           have hl : 2 <= pl4.length := by rw [p4] at c2; simp at c2; lia
           obtain ⟨l1, u, v, e4⟩ := two_of hl
           have e5 : (pendingOf st4).size - 2 = l1.length := by rw [p4, e4]; simp
           have e6 : (pendingOf st4)[(pendingOf st4).size - 2]? = some u := by rw [e5, p4, e4]; simp
           rw [e6]
           obtain ⟨u1, u2, u3⟩ := u
           dsimp only
           split
           · exact wpS_pure ⟨rfl, pl4, ne4, B4, s4, p4, R4⟩
           · subst e4
             refine wpS_bind (wp_mR O L (l2 := []) B4 p4 e5 (by lia) R4 fun st5 z B5 p5 R5 o5 => ?_)
             simp only [Bool.not_true, Bool.false_eq_true, if_false]
             exact wpS_pure ⟨rfl, _, by simp, B5, sg_out o5 (.inr (Nat.le_refl _)) s4, p5, R5⟩
         · rw [if_neg c2]
           exact wpS_pure ⟨rfl, pl4, ne4, B4, s4, p4, R4⟩
       · rintro c st4 ⟨rfl, pl4, ne4, B4, s4, p4, R4⟩
         dsimp only
         refine wpS_bind (wpS_modify (wpS_bind (wpS_modify (wpS_pure ?_))))
         obtain ⟨l1, ⟨u1, u2, u3⟩, rfl⟩ := snoc_of ne4
         refine ⟨lo + n, (l1 ++ [(u1, u2, power' a₀.size (2 * s1 + n1') (2 * s1 + n1' + n1' + n) a₀.size)]) ++ [(lo, n, 0)], rfl, by lia, n2, ⟨B4.perm, B4.kd, B4.fl⟩, ?_, Runs.app.mpr ⟨lo, runs_pow R4, rfl, n1, s4, rfl⟩⟩
         show ((pendingOf st4).modify ((pendingOf st4).size - 1) _).push (lo, n, 0) = _
         rw [p4]
         simp only [List.modify_toArray, List.push_toArray, List.size_toArray]
         congr 2
         rw [List.length_append, List.length_singleton, Nat.add_sub_cancel]
         exact mod_last l1 _ _
   · rw [if_neg c2]
     have s3 := s2
     have n1 := m1
     have n2 : lo + m <= a₀.size := by lia
     have p3 : pendingOf st2 = pl.toArray := by rw [p2, hp]
     have B3 := B2
     have R3 := R2
     clear p2 o2 B2 R2 s2 m1 m2 c2
     revert s3 n1 n2
     generalize m = n
     intro s3 n1 n2
     revert p3 B3 R3 s3
     generalize st2 = st3
     intro p3 B3 R3 s3
     refine wpS_bind (wpS_get ?_)
     cases hb : (pendingOf st3).back? with
     | none =>
       dsimp only
       refine wpS_bind (wpS_modify (wpS_pure ⟨lo + n, pl ++ [(lo, n, 0)], rfl, by lia, n2, ⟨B3.perm, B3.kd, B3.fl⟩, ?_, Runs.app.mpr ⟨lo, R3, rfl, n1, s3, rfl⟩⟩))
       show (pendingOf st3).push (lo, n, 0) = _
       rw [p3]; simp
     | some q =>
       obtain ⟨s1, n1', p1⟩ := q
       dsimp only
       have hne : pl ≠ [] := fun e => by subst e; rw [p3] at hb; simp at hb
       refine wpS_bind (wpS_mono (wpS_forRange (I := fun _ c st4 => c = (none, ()) /\ ∃ pl, pl ≠ [] /\ SB kd a₀ st4 /\ Sg less (arrOf st4) lo (lo + n) /\ pendingOf st4 = pl.toArray /\ Runs less (arrOf st4) pl 0 lo)
         (Q := fun c st4 => c = (none, ()) /\ ∃ pl, pl ≠ [] /\ SB kd a₀ st4 /\ Sg less (arrOf st4) lo (lo + n) /\ pendingOf st4 = pl.toArray /\ Runs less (arrOf st4) pl 0 lo) ?_ (fun c st4 h => h) ⟨rfl, pl, hne, B3, s3, p3, R3⟩) ?_)
       · rintro y c st4 _ hy ⟨rfl, pl4, ne4, B4, s4, p4, R4⟩
         refine wpS_bind (wpS_get ?_)
         by_cases c2 : (pendingOf st4).size > 1
         · rw [if_pos c2]
           have hl : 2 <= pl4.length := by rw [p4] at c2; simp at c2; lia
           obtain ⟨l1, u, v, e4⟩ := two_of hl
           have e5 : (pendingOf st4).size - 2 = l1.length := by rw [p4, e4]; simp
           have e6 : (pendingOf st4)[(pendingOf st4).size - 2]? = some u := by rw [e5, p4, e4]; simp
           rw [e6]
           obtain ⟨u1, u2, u3⟩ := u
           dsimp only
           split
           · exact wpS_pure ⟨rfl, pl4, ne4, B4, s4, p4, R4⟩
           · subst e4
             refine wpS_bind (wp_mR O L (l2 := []) B4 p4 e5 (by lia) R4 fun st5 z B5 p5 R5 o5 => ?_)
             simp only [Bool.not_true, Bool.false_eq_true, if_false]
             exact wpS_pure ⟨rfl, _, by simp, B5, sg_out o5 (.inr (Nat.le_refl _)) s4, p5, R5⟩
         · rw [if_neg c2]
           exact wpS_pure ⟨rfl, pl4, ne4, B4, s4, p4, R4⟩
       · rintro c st4 ⟨rfl, pl4, ne4, B4, s4, p4, R4⟩
         dsimp only
         refine wpS_bind (wpS_modify (wpS_bind (wpS_modify (wpS_pure ?_))))
         obtain ⟨l1, ⟨u1, u2, u3⟩, rfl⟩ := snoc_of ne4
         refine ⟨lo + n, (l1 ++ [(u1, u2, power' a₀.size (2 * s1 + n1') (2 * s1 + n1' + n1' + n) a₀.size)]) ++ [(lo, n, 0)], rfl, by lia, n2, ⟨B4.perm, B4.kd, B4.fl⟩, ?_, Runs.app.mpr ⟨lo, runs_pow R4, rfl, n1, s4, rfl⟩⟩
         show ((pendingOf st4).modify ((pendingOf st4).size - 1) _).push (lo, n, 0) = _
         rw [p4]
         simp only [List.modify_toArray, List.push_toArray, List.size_toArray]
         congr 2
         rw [List.length_append, List.length_singleton, Nat.add_sub_cancel]
         exact mod_last l1 _ _
 case post =>
   rintro c st' ⟨pl, rfl, B', hp, R⟩
   dsimp only
   have hle := R.le
   refine wpS_bind (wpS_mono (wpS_forRange (I := fun x c st4 => c = (none, ()) /\ ∃ pl, SB kd a₀ st4 /\ pendingOf st4 = pl.toArray /\ Runs less (arrOf st4) pl 0 a₀.size /\ (pl.length <= 1 \/ pl.length + x <= a₀.size))
     (Q := fun c st4 => c = (none, ()) /\ ∃ pl, SB kd a₀ st4 /\ Runs less (arrOf st4) pl 0 a₀.size /\ pl.length <= 1) ?_ ?_ ⟨rfl, pl, B', hp, R, .inr (by lia)⟩) ?_)
   · rintro x c st4 _ hx ⟨rfl, pl4, B4, p4, R4, hl⟩
     refine wpS_bind (wpS_get ?_)
     have esz : (pendingOf st4).size = pl4.length := by rw [p4]; simp
     by_cases c1 : (pendingOf st4).size <= 1
     · rw [if_pos c1]
       exact wpS_pure ⟨rfl, pl4, B4, R4, by lia⟩
     · rw [if_neg c1]
       generalize hcond : Option.any _ _ = cnd
       have mk : ∀ k, k + 2 <= pl4.length -> ∀ (Q' : ForInStep (Option Unit × Unit) -> SortSt -> Prop), (∀ st' pl, SB kd a₀ st' -> pendingOf st' = pl.toArray -> Runs less (arrOf st') pl 0 a₀.size -> (pl.length <= 1 \/ pl.length + (x + 1) <= a₀.size) -> Q' (.yield (none, ())) st') ->
           wpS (model prog w) A E s (do
           let b <- mergeAt' k
           if (!b) = true then pure (ForInStep.done ((some (), ()) : Option Unit × Unit)) else pure (ForInStep.yield (none, ()))) Q' st4 := by
         intro k hk Q' hQ
         have e := List.take_append_drop k pl4
         rw [List.drop_eq_getElem_cons (by lia), List.drop_eq_getElem_cons (by lia)] at e
         have hk' : (pl4.take k).length = k := by rw [List.length_take]; lia
         rw [<- e] at p4 R4
         refine wpS_bind (wp_mR O L B4 p4 hk'.symm (Nat.le_refl _) R4 fun st5 z B5 p5 R5 o5 => ?_)
         simp only [Bool.not_true, Bool.false_eq_true, if_false]
         refine wpS_pure (hQ _ _ B5 p5 R5 (.inr ?_))
         rw [List.length_append, hk', List.length_cons, List.length_drop]
         lia
       cases cnd with
       | true =>
         simp only [if_true]
         exact mk ((pendingOf st4).size - 2 - 1) (by lia) _ fun st' pl b1 b2 b3 b4 => ⟨rfl, pl, b1, b2, b3, b4⟩
       | false =>
         simp only [Bool.false_eq_true, if_false]
         exact mk ((pendingOf st4).size - 2) (by lia) _ fun st' pl b1 b2 b3 b4 => ⟨rfl, pl, b1, b2, b3, b4⟩
   · rintro c st4 ⟨rfl, pl4, B4, p4, R4, hl⟩
     exact ⟨rfl, pl4, B4, R4, by lia⟩
   · rintro c st4 ⟨rfl, pl4, B4, R4, hl⟩
     refine wpS_pure (h _ B4.perm B4.fl ?_)
     match pl4, R4, hl with
     | [], R4, _ => exact absurd R4 (by show ¬ (0 = a₀.size); lia)
     | [(u1, u2, u3)], ⟨_, _, h3, h4⟩, _ =>
       have h4 : 0 + u2 = a₀.size := h4
       rw [h4] at h3
       exact h3
     | _ :: _ :: _, _, hl => simp at hl
end
end TS
namespace TS
open PySem PyProof.Rows
noncomputable def midH (h : Heap) (a : Addr) (vs : List Value) : Heap := ((h.update a (Obj.mapSeq fun _ => #[])).push (seqObj "tuple" vs.toArray 0)).push (seqObj "list" #[] 0)
theorem midH_at {h : Heap} {a : Addr} {vs : List Value} {n : Nat} (ho : h.get? a = some (seqObj "list" vs.toArray n)) : (midH h a vs).get? a = some (seqObj "list" #[] (if ((#[] : Array Value)).size == vs.toArray.size then n else n + 1)) := by
 have ha := Heap.lt_size ho
 unfold midH
 rw [Heap.get?_push_ne _ _ _ (by rw [size_push', Heap.size_update]; exact Nat.ne_of_lt (Nat.lt_succ_of_lt ha)), Heap.get?_push_ne _ _ _ (by rw [Heap.size_update]; exact Nat.ne_of_lt ha)]
 exact get?_update_seq ho (fun _ => #[])
section
variable {prog : Program} {w : World} {A : Around} {E : Value -> Shared -> Prop} {s : Shared}
theorem sort_any {a : Addr} {vs : List Value} {n : Nat} {P : Fin -> Shared -> Prop} {kd : SortKind} {less : Keyed -> Keyed -> Bool} (O : Ord less) (ho : s.heap.get? a = some (seqObj "list" vs.toArray n)) (hsz : vs.length <= sizeLine)
   (hk : 2 <= vs.length -> ∀ (Q : SortKind -> Shared -> Prop), Q kd { s with heap := midH s.heap a vs } -> wpAny (model prog w) A (keyKind' vs.toArray) Q E { s with heap := midH s.heap a vs })
   (L : LtOk prog w A E { s with heap := midH s.heap a vs } kd (pairsOf vs) less)
   (h : ∀ (us : List Value), us.Perm vs -> us.Pairwise (fun x y => less (y, y) (x, x) = false) -> P (.done (.ret .none)) { s with heap := sortedHeap s.heap a vs us.toArray }) :
   wpAny (model prog w) A (Builtin.«list.sort» ⟨[.ref a], []⟩) P E s := by
 rw [list_sort_plain]
 refine wpAny_bind (listItems_at ho rfl ?_)
 refine wpAny_bind (listUpdate_at ho rfl ?_ (hsz := by simpa using hsz))
 refine wpAny_bind (seqEpoch_at (get?_update_seq ho (fun _ => #[])) rfl ?_)
 refine wpAny_bind (wpAny_newTuple ?_)
 refine wpAny_bind (wpAny_newList ?_)
 refine wpAny_holding ?_
 have ho6 := midH_at ho
 show wpAny (model prog w) A _ P E { s with heap := midH s.heap a vs }
 dsimp only
 have fin : ∀ xs : Array Keyed, xs.Perm (pairsOf vs) -> Sg less xs 0 (pairsOf vs).size ->
     P (.done (.ret .none)) { s with heap := sortedHeap s.heap a vs (xs.map (·.2)) } := by
   intro xs hp hs
   have hl : xs.toList.Perm (vs.zip vs) := by rw [<- pairsOf_toList]; exact Array.perm_iff_toList_perm.mp hp
   have hmem : ∀ p, p ∈ xs.toList -> p.1 = p.2 /\ p.1 ∈ vs := fun p hp' => mem_zip_self (hl.mem_iff.mp hp')
   have := h (xs.toList.map (·.2)) ?_ ?_
   · have e : (xs.toList.map (·.2)).toArray = xs.map (·.2) := by
       apply Array.toList_inj.mp; simp
     rwa [e] at this
   · have h1 := hl.map (fun p : Keyed => p.2)
     rwa [List.map_snd_zip (Nat.le_refl _)] at h1
   · rw [List.pairwise_iff_getElem]
     intro i j hi hj hij
     have hi' : i < xs.size := by simpa using hi
     have hj' : j < xs.size := by simpa using hj
     have h1 := hs i j (Nat.zero_le _) (Nat.le_of_lt hij) (by rw [<- hp.size_eq]; exact hj')
     have e1 : ath xs i = ((xs.toList.map (·.2))[i], (xs.toList.map (·.2))[i]) := by
       rw [List.getElem_map]
       have hm := ath_mem hi'
       have e := ath_list hi'
       rw [List.getElem?_eq_getElem (by simpa using hi')] at e
       have e := Option.some.inj e
       rw [e]
       exact Prod.ext (hmem _ hm).1 rfl
     have e2 : ath xs j = ((xs.toList.map (·.2))[j], (xs.toList.map (·.2))[j]) := by
       rw [List.getElem_map]
       have hm := ath_mem hj'
       have e := ath_list hj'
       rw [List.getElem?_eq_getElem (by simpa using hj')] at e
       have e := Option.some.inj e
       rw [e]
       exact Prod.ext (hmem _ hm).1 rfl
     rw [e1, e2] at h1
     exact h1
 have hsz' : vs.toArray.size = vs.length := by simp
 by_cases h2 : vs.toArray.size < 2
 · rw [if_pos h2, if_pos h2]
   refine wpAny_bind (wpAny_pure ?_)
   rw [StateT.run_pure]
   refine wpAny_bind (wpAny_pure ?_)
   dsimp only
   refine wpAny_bind (seqEpoch_at ho6 rfl ?_)
   refine wpAny_bind (listUpdate_at ho6 rfl ?_ (hsz2 := by rw [Array.size_map]; show (pairsOf vs).size <= _; rw [pairsOf_size]; lia))
   simp only [bne_self_eq_false, Bool.false_eq_true, if_false]
   refine wpAny_pure (fin (pairsOf vs) (Array.Perm.refl _) ?_)
   intro i j _ hij hj
   have : i = j := by rw [pairsOf_size] at hj; lia
   subst this; exact O.refl _
 · rw [if_neg h2, if_neg h2]
   refine wpAny_bind (hk (by lia) _ ?_)
   refine wpAny_bind (wpAny_mono (wp_sort O L (st := SortSt.mk' kd (vs.toArray.zip vs.toArray) #[] 7 none)
     (Q := fun _ st' => (arrOf st').Perm (pairsOf vs) /\ failedOf st' = none /\ Sg less (arrOf st') 0 (pairsOf vs).size)
     ⟨Array.Perm.refl _, rfl, rfl⟩ rfl (by rw [pairsOf_size]; lia) fun st' a1 a2 a3 => ⟨a1, a2, a3⟩) ?_ fun _ _ e => e)
   rintro ⟨⟨⟩, st'⟩ s' ⟨rfl, hp, hf, hs⟩
   dsimp only
   refine wpAny_bind (seqEpoch_at ho6 rfl ?_)
   refine wpAny_bind (listUpdate_at ho6 rfl ?_ (hsz2 := by refine Nat.le_trans (Nat.le_of_eq ((Array.size_map ..).trans (hp.size_eq.trans (pairsOf_size _)))) ?_; lia))
   rw [hf]
   simp only [bne_self_eq_false, Bool.false_eq_true, if_false]
   exact wpAny_pure (fin _ hp hs)
noncomputable def lessI (x y : Keyed) : Bool := decide (numOf x.1 < numOf y.1)
theorem ordI : Ord lessI := by
 refine ⟨fun x y h => ?_, fun x y z h1 h2 => ?_⟩
 · unfold lessI at *
   rw [decide_eq_true_eq] at h
   exact decide_eq_false (by lia)
 · unfold LE lessI at *
   rw [decide_eq_false_iff_not] at *
   lia
theorem ltI {a₀ : Array Keyed} (h0 : IntKeys a₀) : LtOk prog w A E s oneType' a₀ lessI := by
 intro x y st Q hx hy hk hq
 obtain ⟨n, t, e1⟩ := h0 x hx
 obtain ⟨m, u, e2⟩ := h0 y hy
 rw [lt'_eq]
 refine wpS_bind (wpS_get ?_)
 rw [hk, keyLt'_oneType, e1, e2]
 refine wpS_bind (wpS_lift (wpAny_attempt (oneLt_int ⟨rfl, ?_⟩)))
 have e : lessI x y = decide (n < m) := by unfold lessI; rw [e1, e2]; rfl
 rw [e] at hq
 exact wpS_pure hq
theorem sort_ints {a : Addr} {vs : List Value} {ns : List Int} {n : Nat} {P : Fin -> Shared -> Prop} (ho : s.heap.get? a = some (seqObj "list" vs.toArray n))
   (hI : IntsAre vs ns) (hsz : vs.length <= sizeLine)
   (h : ∀ (out : Array Value) (ns' : List Int), IntsAre out.toList ns' -> ns'.Perm ns -> ns'.Pairwise (· <= ·) -> P (.done (.ret .none)) { s with heap := sortedHeap s.heap a vs out }) :
   wpAny (model prog w) A (Builtin.«list.sort» ⟨[.ref a], []⟩) P E s := by
 refine sort_any ordI ho hsz (kd := oneType') (fun h2 Q hq => ?_) (ltI hI.intKeys) fun us hp hs => ?_
 · obtain ⟨v₁, v₂, rest, rfl⟩ : ∃ v₁ v₂ rest, vs = v₁ :: v₂ :: rest := by
     match vs, h2 with
     | [], h2 => simp at h2
     | [_], h2 => simp at h2
     | v₁ :: v₂ :: rest, _ => exact ⟨v₁, v₂, rest, rfl⟩
   rw [keyKind_ints hI]
   exact wpAny_pure hq
 · have hall : ∀ v, v ∈ us -> ∃ n t, v = .int n t := fun v hv => hI.all v (hp.mem_iff.mp hv)
   refine h us.toArray (us.map numOf) (by simpa using intsAre_map us hall) ?_ ?_
   · have := hp.map numOf
     rwa [hI.nums] at this
   · rw [List.pairwise_map]
     refine hs.imp fun {x y} e => ?_
     unfold lessI at e
     rw [decide_eq_false_iff_not] at e
     simp only at e
     lia
end
end TS
namespace L2
open PySem PySem.Spec PyProof.Rows
noncomputable abbrev Key := Sum Int Str
noncomputable def keyIs : Key -> Value -> Bool
 | .inl k, v => Value.isInt k v
 | .inr x, v => Value.isStrOf x v
noncomputable def keyH (w : World) : Key -> Int
 | .inl k => hashInt k
 | .inr x => hashStr w x
theorem keyIs_shape : ∀ {k : Key} {v : Value}, keyIs k v = true -> (∃ i t, k = Sum.inl i /\ v = Value.int i t) \/ (∃ x t, k = Sum.inr x /\ v = Value.str x t)
 | .inl i, v, h => by
   obtain ⟨t, e⟩ := Value.isInt_shape (k := i) (v := v) h
   exact .inl ⟨i, t, rfl, e⟩
 | .inr x, v, h => by
   obtain ⟨t, e⟩ := Value.isStrOf_shape (x := x) (v := v) h
   exact .inr ⟨x, t, rfl, e⟩
theorem keyIs_int (i : Int) (t : Tok) : keyIs (.inl i) (.int i t) = true := by simp [keyIs, Value.isInt]
theorem keyIs_str (x : Str) (t : Tok) : keyIs (.inr x) (.str x t) = true := by simp [keyIs, Value.isStrOf]
theorem key_ll (a b : Int) : decide ((Sum.inl a : Key) = Sum.inl b) = (a == b) := by
 by_cases e : a = b
 · subst e; simp
 · have h : ¬ (Sum.inl a : Key) = Sum.inl b := fun q => e (Sum.inl.inj q)
   rw [decide_eq_false h]
   exact (beq_eq_false_iff_ne.mpr e).symm
theorem key_rr (a b : Str) : decide ((Sum.inr a : Key) = Sum.inr b) = decide (a = b) := by
 by_cases e : a = b
 · subst e; simp
 · have h : ¬ (Sum.inr a : Key) = Sum.inr b := fun q => e (Sum.inr.inj q)
   rw [decide_eq_false h, decide_eq_false e]
theorem key_lr (a : Int) (b : Str) : decide ((Sum.inl a : Key) = Sum.inr b) = false := decide_eq_false (fun q => nomatch q)
theorem key_rl (a : Str) (b : Int) : decide ((Sum.inr a : Key) = Sum.inl b) = false := decide_eq_false (fun q => nomatch q)
noncomputable def mixKind (prog : Program) (w : World) : PySem.KeyKind prog w Key where
 is := keyIs
 hash := keyH w
 inj := fun v a b ha hb => by
   rcases keyIs_shape ha with ⟨i, t, rfl, rfl⟩ | ⟨x, t, rfl, rfl⟩
   · rcases keyIs_shape hb with ⟨j, u, rfl, e⟩ | ⟨y, u, rfl, e⟩
     · injection e with e1 _; rw [e1]
     · exact nomatch e
   · rcases keyIs_shape hb with ⟨j, u, rfl, e⟩ | ⟨y, u, rfl, e⟩
     · exact nomatch e
     · injection e with e1 _; rw [e1]
 byValue := fun k v h => by
   rcases keyIs_shape h with ⟨i, t, rfl, rfl⟩ | ⟨x, t, rfl, rfl⟩ <;> rfl
 pyHash := fun hv h => by
   rcases keyIs_shape hv with ⟨i, t, rfl, rfl⟩ | ⟨x, t, rfl, rfl⟩
   · exact wpAny_pyHash_int h
   · exact wpAny_pyHash_str h
 eqBool := fun hu hv h => by
   rcases keyIs_shape hu with ⟨i, t, rfl, rfl⟩ | ⟨x, t, rfl, rfl⟩
   · rcases keyIs_shape hv with ⟨j, u, rfl, rfl⟩ | ⟨y, u, rfl, rfl⟩
     · rw [key_ll] at h; exact wpAny_eqBool_int h
     · rw [key_lr] at h; exact SeqAt.EqAt.int_str i t y u _ _ _ _ h
   · rcases keyIs_shape hv with ⟨j, u, rfl, rfl⟩ | ⟨y, u, rfl, rfl⟩
     · rw [key_rl] at h; exact SeqAt.EqAt.str_int x t j u _ _ _ _ h
     · rw [key_rr] at h; exact wpAny_eqBool_str h
 «strs» := fun k x t v h => by
   rcases keyIs_shape h with ⟨i, u, rfl, e⟩ | ⟨y, u, rfl, e⟩
   · exact nomatch e
   · injection e with e1 _
     subst e1
     cases v <;> rfl
theorem mixKind_int (prog : Program) (w : World) (i : Int) (t : Tok) : (mixKind prog w).is (.inl i) (.int i t) = true := keyIs_int i t
theorem mixKind_str (prog : Program) (w : World) (x : Str) (t : Tok) : (mixKind prog w).is (.inr x) (.str x t) = true := keyIs_str x t
end L2
namespace L2
open PySem PySem.Spec PyProof.Rows
set_option genInjectivity true in
inductive V where
 | non | bl (b : Bool) | int (i : Int) | str (x : Str) | byt (b : Array UInt8) | flt (b : UInt64) | ref (a : Addr) | ty (n : String)
 deriving DecidableEq
noncomputable def RelV : V -> Value -> Prop
 | .non, u => u = Value.none
 | .bl b, u => u = Value.bool b
 | .int i, u => ∃ t, u = Value.int i t
 | .str x, u => ∃ t, u = Value.str x t
 | .byt b, u => ∃ t, u = Value.bytes b t
 | .flt b, u => ∃ t, u = Value.float b t
 | .ref a, u => u = Value.ref a
 | .ty n, u => u = Value.type n
noncomputable abbrev Vals : List V -> List Value -> Prop := Paired RelV
theorem Vals.length {xs : List V} {us : List Value} (r : Vals xs us) : xs.length = us.length := Paired.length r
theorem Vals.get : ∀ {xs : List V} {us : List Value} {i : Nat} {x : V}, Vals xs us -> xs[i]? = some x -> ∃ u, us[i]? = some u /\ RelV x u
 | _, _, _, _, .nil, e => by simp at e
 | _, _, 0, _, .cons r _, e => by simp at e; subst e; exact ⟨_, rfl, r⟩
 | _, _, i + 1, x, .cons _ t, e => by
   obtain ⟨u, h1, h2⟩ := Vals.get (i := i) (x := x) t (by simpa using e)
   exact ⟨u, by simpa using h1, h2⟩
theorem Vals.set {x : V} {u : Value} (r : RelV x u) : ∀ {xs : List V} {us : List Value} (i : Nat), Vals xs us -> Vals (xs.set i x) (us.set i u)
 | _, _, _, .nil => .nil
 | _, _, 0, .cons _ t => .cons r t
 | _, _, i + 1, .cons q t => .cons q (Vals.set r i t)
theorem Vals.append : ∀ {xs ys : List V} {us ws : List Value}, Vals xs us -> Vals ys ws -> Vals (xs ++ ys) (us ++ ws)
 | _, _, _, _, .nil, s => s
 | _, _, _, _, .cons r t, s => .cons r (Vals.append t s)
theorem Vals.take : ∀ {xs : List V} {us : List Value} (n : Nat), Vals xs us -> Vals (xs.take n) (us.take n)
 | _, _, 0, _ => .nil
 | _, _, _ + 1, .nil => .nil
 | _, _, n + 1, .cons r t => .cons r (Vals.take n t)
theorem Vals.drop : ∀ {xs : List V} {us : List Value} (n : Nat), Vals xs us -> Vals (xs.drop n) (us.drop n)
 | _, _, 0, r => r
 | _, _, _ + 1, .nil => .nil
 | _, _, n + 1, .cons _ t => Vals.drop n t
noncomputable def RelO : Option V -> Option Value -> Prop
 | some v, some u => RelV v u
 | none, none => True
 | _, _ => False
noncomputable def KV {κ : Type} : List (κ × V) -> List (κ × Value) -> Prop := Paired fun (p : κ × V) (q : κ × Value) => p.1 = q.1 /\ RelV p.2 q.2
noncomputable def kV : Key -> V
 | .inl i => .int i
 | .inr x => .str x
inductive HO where
 /-- a list -/
 | lst (xs : List V)
 /-- a tuple (never changes) -/
 | tup (xs : List V)
 /-- a dict whose keys are ints and texts; one whose keys are tuples of ints and texts (the empty one is both) -/
 | dK (kvs : List (Key × V)) | dT (kvs : List (List Key × V))
 /-- a set of ints: its members, its size -/
 | set (S : Int -> Bool) (n : Nat)
 /-- an instance of the class at C, its dict at dx, its attributes -/
 | ins (C dx : Addr) (fs : List (Str × V))
 /-- the dict of the instance at x -/
 | own (x : Addr)
 /-- the dict of an exception -/
 | xd (fs : List (Str × V))
 /-- a bound method, f of x -/
 | met (f x : Addr)
 /-- a range object lo, lo + 1, .. below hi -/
 | rng (lo hi : Int)
 /-- a thing that is known to the object (the script; a dict while a loop walks it): read, never written while it is so -/
 | frz (o : Obj) (u : HO)
 /-- a code object's table -/
 | tbl (ps : Array Value)
 /-- any other thing, by what is true of its one object (a def of one's own: SetO a S n := HO.ext fun h => ..) -/
 | ext (φ : Heap -> Prop)
noncomputable abbrev Hp := Addr -> Option HO
noncomputable def upd (H : Hp) (a : Addr) (o : HO) : Hp := fun b => if b = a then some o else H b
theorem upd_same {H : Hp} {a : Addr} {o : HO} : upd H a o a = some o := by unfold upd; rw [if_pos rfl]
theorem upd_ne {H : Hp} {a b : Addr} {o : HO} (h : b ≠ a) : upd H a o b = H b := by unfold upd; rw [if_neg h]
theorem ne_of {H : Hp} {a b : Addr} {o u : HO} (h : H a = some o) (h' : H b = some u) (d : o ≠ u) : a ≠ b := by
 intro e; subst e; rw [h] at h'; exact d (Option.some.inj h')
theorem ne_of_none {H : Hp} {a b : Addr} {o : HO} (h : H a = some o) (h' : H b = none) : a ≠ b := by
 intro e; subst e; rw [h] at h'; cases h'
noncomputable def IsTu (h : Heap) (a : Addr) (its : Array Value) : Prop := ∃ o, h.get? a = some o /\ o.cls = .type "tuple" /\ ∃ n, o.data = .seq its n /\ o.dict = none
theorem IsTu.t {h : Heap} {a : Addr} {its : Array Value} (x : IsTu h a its) : IsTup h a its := let ⟨o, e, c, n, d, _⟩ := x; ⟨o, e, c, n, d⟩
theorem IsTu.lt {h : Heap} {a : Addr} {its : Array Value} (x : IsTu h a its) : a < h.objs.size := let ⟨_, e, _⟩ := x; Heap.lt_size e
theorem IsTu.new (h : Heap) (its : Array Value) : IsTu (h.push { cls := .type "tuple", data := .seq its }) h.objs.size its := ⟨_, Heap.get?_push_size _ rfl, rfl, _, rfl, rfl⟩
section
variable (P : Program) (w : World)
noncomputable def ObjOk (H : Hp) (h : Heap) (a : Addr) : HO -> Prop
 | .lst xs => xs.length <= sizeLine /\ ∃ (its : List Value) (n : Nat), Vals xs its /\ h.get? a = some { cls := .type "list", data := .seq its.toArray n }
 | .tup xs => xs.length <= sizeLine /\ ∃ its : List Value, Vals xs its /\ IsTu h a its.toArray
 | .dK kvs => kvs.length <= sizeLine /\ (a == sysModules) = false /\ ∃ vs, KV kvs vs /\ h.DictOf (mixKind P w) a vs
 | .dT kvs => kvs.length <= sizeLine /\ (a == sysModules) = false /\ ∃ xs : List (List Key × Addr × Value),
     Paired (fun (p : List Key × V) (q : List Key × Addr × Value) => p.1 = q.1 /\ H q.2.1 = some (.tup (p.1.map kV)) /\ RelV p.2 q.2.2) kvs xs /\
     ∃ o es ep, h.get? a = some o /\ o.ExactDict /\ o.data = .dict es ep /\ es.toList = xs.map (entryOfKey (tupleKind (mixKind P w))) /\ (xs.map (·.1)).Nodup
 | .set S n => h.SetOf (intKind P w) a S n
 | .ins C dx fs => H dx = some (.own a) /\ fs.length <= 1000 /\ dx ≠ a /\ h.get? a = some (PySem.W.instObj C dx) /\
     ∃ mA, h.Ns1 dx mA /\ (∀ f, RelO (fs.lookup f) (mA f)) /\ PySem.Within mA (fs.map (·.1))
 | .own _ => ∃ o, h.get? a = some o
 | .xd fs => ∃ mA, h.Ns1 a mA /\ ∀ f, RelO (fs.lookup f) (mA f)
 | .rng lo hi => ∃ t u v, h.get? a = some { cls := .type "range", data := .fields #[.int lo t, .int hi u, .int 1 v] }
 | .frz o u => h.get? a = some o /\ ObjOk H h a u
 | .tbl ps => h.get? a = some { cls := .none, data := .fields ps }
 | .met f x => h.get? a = some (PySem.W.methodObj (.ref f) (.ref x))
 | .ext φ => φ h /\ (∃ o, h.get? a = some o) /\ ∀ h1 h2 : Heap, φ h1 -> (∀ o, h1.get? a = some o -> h2.get? a = some o) -> φ h2
noncomputable def HOk (H : Hp) (h : Heap) : Prop := ∀ a o, H a = some o -> ObjOk P w H h a o
end
section
variable {P : Program} {w : World} {H H' : Hp} {h h' : Heap} {a : Addr} {o : HO}
theorem ObjOk.lt (x : ObjOk P w H h a o) : a < h.objs.size := by
 cases o with
 | lst xs => obtain ⟨_, _, _, _, e⟩ := x; exact Heap.lt_size e
 | tup xs => obtain ⟨_, _, _, p⟩ := x; exact p.lt
 | dK kvs => obtain ⟨_, _, _, _, o, _, _, e, _⟩ := x; exact Heap.lt_size e
 | dT kvs => obtain ⟨_, _, _, _, o, _, _, e, _⟩ := x; exact Heap.lt_size e
 | set S n => obtain ⟨o, _, _, _, e, _⟩ := x; exact Heap.lt_size e
 | ins C dx fs => obtain ⟨_, _, _, e, _⟩ := x; exact Heap.lt_size e
 | own y => obtain ⟨_, e⟩ := x; exact Heap.lt_size e
 | xd fs => obtain ⟨_, ⟨_, _, _, e, _⟩, _⟩ := x; exact Heap.lt_size e
 | rng lo hi => obtain ⟨_, _, _, e⟩ := x; exact Heap.lt_size e
 | frz ob u => obtain ⟨e, _⟩ := x; exact Heap.lt_size e
 | tbl ps => exact Heap.lt_size (show h.get? a = some _ from x)
 | met f y => exact Heap.lt_size (show h.get? a = some _ from x)
 | ext φ => obtain ⟨_, ⟨_, e⟩, _⟩ := x; exact Heap.lt_size e
theorem Paired.mapP {α β : Type} {F G : α -> β -> Prop} : ∀ {l₁ : List α} {l₂ : List β}, Paired F l₁ l₂ -> (∀ a b, F a b -> G a b) -> Paired G l₁ l₂
 | _, _, .nil, _ => .nil
 | _, _, .cons r t, f => .cons (f _ _ r) (Paired.mapP t f)
theorem ObjOk.stay (x : ObjOk P w H h a o) (k : ∀ b u, (b = a \/ H b = some (.own a)) -> h.get? b = some u -> h'.get? b = some u)
   (ho : ∀ b, H b = some (.own a) -> H' b = some (.own a)) (ht : ∀ b xs, H b = some (.tup xs) -> H' b = some (.tup xs)) : ObjOk P w H' h' a o := by
 induction o with
 | lst xs => obtain ⟨z, its, n, r, e⟩ := x; exact ⟨z, its, n, r, k _ _ (.inl rfl) e⟩
 | tup xs => obtain ⟨z, its, r, ob, e, c⟩ := x; exact ⟨z, its, r, ob, k _ _ (.inl rfl) e, c⟩
 | dK kvs => obtain ⟨z, y, vs, r, ob, es, ep, e, c⟩ := x; exact ⟨z, y, vs, r, ob, es, ep, k _ _ (.inl rfl) e, c⟩
 | dT kvs =>
   obtain ⟨z, y, xs, r, ob, es, ep, e, c⟩ := x
   exact ⟨z, y, xs, Paired.mapP r fun p q z => ⟨z.1, ht _ _ z.2.1, z.2.2⟩, ob, es, ep, k _ _ (.inl rfl) e, c⟩
 | set S n => obtain ⟨ob, es, ep, t, e, c⟩ := x; exact ⟨ob, es, ep, t, k _ _ (.inl rfl) e, c⟩
 | ins C dx fs =>
   obtain ⟨d, z, ne, e, mA, ⟨od, es, ep, e2, c⟩, r⟩ := x
   exact ⟨ho _ d, z, ne, k _ _ (.inl rfl) e, mA, ⟨od, es, ep, k _ _ (.inr d) e2, c⟩, r⟩
 | own y => obtain ⟨ob, e⟩ := x; exact ⟨ob, k _ _ (.inl rfl) e⟩
 | xd fs => obtain ⟨mA, ⟨od, es, ep, e, c⟩, r⟩ := x; exact ⟨mA, ⟨od, es, ep, k _ _ (.inl rfl) e, c⟩, r⟩
 | rng lo hi => obtain ⟨t, u, v, e⟩ := x; exact ⟨t, u, v, k _ _ (.inl rfl) e⟩
 | frz ob u ih => obtain ⟨e, q⟩ := x; exact ⟨k _ _ (.inl rfl) e, ih q⟩
 | tbl ps =>
   have e : h.get? a = some { cls := .none, data := .fields ps } := x
   show h'.get? a = some { cls := .none, data := .fields ps }
   exact k a _ (.inl rfl) e
 | met f y =>
   have e : h.get? a = some (PySem.W.methodObj (.ref f) (.ref y)) := x
   show h'.get? a = some (PySem.W.methodObj (.ref f) (.ref y))
   exact k a _ (.inl rfl) e
 | ext φ => obtain ⟨p, ⟨o, e⟩, st⟩ := x; exact ⟨st _ _ p fun o q => k _ _ (.inl rfl) q, ⟨o, k _ _ (.inl rfl) e⟩, st⟩
theorem HOk.lt (x : HOk P w H h) (e : H a = some o) : a < h.objs.size := (x a o e).lt
theorem HOk.fresh (x : HOk P w H h) (e : h.objs.size <= a) : H a = none := by
 cases q : H a with
 | none => rfl
 | some u => exact absurd (Nat.lt_of_lt_of_le (x.lt q) e) (Nat.lt_irrefl _)
theorem HOk.kept (x : HOk P w H h) (k : ∀ b u, h.get? b = some u -> h'.get? b = some u) : HOk P w H h' := fun a o e =>
 (x a o e).stay (fun b u _ q => k b u q) (fun _ q => q) fun _ _ q => q
theorem HOk.laid (x : HOk P w H h) (k : ∀ b u, h.get? b = some u -> h'.get? b = some u) (hp : h.objs.size <= a) (new : ObjOk P w (upd H a o) h' a o) : HOk P w (upd H a o) h' := fun b u e => by
 have hn := x.fresh hp
 by_cases hb : b = a
 · subst hb; rw [upd_same] at e; cases e; exact new
 · rw [upd_ne hb] at e
   exact (x b u e).stay (fun c v _ q => k c v q) (fun c q => by rw [upd_ne (ne_of_none q hn)]; exact q) fun c xs q => by rw [upd_ne (ne_of_none q hn)]; exact q
end
noncomputable def Rd (H : Hp) (a : Addr) (u : HO) : Prop := H a = some u \/ ∃ o, H a = some (.frz o u)
theorem Rd.ok {P : Program} {w : World} {H : Hp} {h : Heap} {a : Addr} {u : HO} (r : Rd H a u) (x : HOk P w H h) : ObjOk P w H h a u := by
 rcases r with r | ⟨o, r⟩
 · exact x a u r
 · obtain ⟨_, q⟩ := x a _ r
   exact q
noncomputable def Mut : Option HO -> Prop
 | some (.lst _) => True
 | some (.dK _) => True
 | some (.dT _) => True
 | some (.set _ _) => True
 | some (.ins _ _ _) => True
 | some (.ext _) => True
 | _ => False
section
variable {P : Program} {w : World} {H : Hp} {h h' : Heap} {x e : Addr} {o' : HO}
theorem HOk.write (ok : HOk P w H h) (mu : Mut (H x)) (he : e = x \/ H e = some (.own x)) (k : ∀ b u, b ≠ e -> h.get? b = some u -> h'.get? b = some u) (heo : ∃ u, h'.get? e = some u)
   (new : ObjOk P w (upd H x o') h' x o') : HOk P w (upd H x o') h' := fun b u q => by
 have nown : ∀ c y, H c = some (.own y) -> c ≠ x := fun c y r z => by subst z; rw [r] at mu; exact mu
 have ntup : ∀ c xs, H c = some (.tup xs) -> c ≠ x := fun c xs r z => by subst z; rw [r] at mu; exact mu
 by_cases hb : b = x
 · subst hb; rw [upd_same] at q; cases q; exact new
 · rw [upd_ne hb] at q
   by_cases hbe : b = e
   · have q' : H b = some (.own x) := by
       rcases he with z | z
       · exact absurd (hbe.trans z) hb
       · rw [hbe]; exact z
     rw [q] at q'; cases q'
     obtain ⟨v, hv⟩ := heo
     exact ⟨v, by rw [hbe]; exact hv⟩
   · refine (ok b u q).stay (fun c v hc r => k c v ?_ r) (fun c r => by rw [upd_ne (nown c b r)]; exact r) fun c xs r => by rw [upd_ne (ntup c xs r)]; exact r
     rcases hc with rfl | hc
     · exact hbe
     · rintro rfl
       rcases he with z | z
       · exact nown c b hc z
       · rw [hc] at z; cases z; exact hb rfl
end
structure Un (fs ex : List Addr) (H H' : Hp) (h h' : Heap) : Prop where
 keep : ∀ b o, h.get? b = some o -> H b = none -> b ∉ fs -> b ∉ ex -> h'.get? b = some o
 slot : ∀ b o, h.get? b = some o -> H b = none -> b ∈ fs -> b ∉ ex -> ∃ sl, h'.get? b = some { o with slots := sl }
 free : ∀ b o, h.get? b = some o -> H b = none -> b ∉ ex -> H' b = none
 there : ∀ b o, h.get? b = some o -> b ∉ ex -> ∃ o', h'.get? b = some o'
 tups : ∀ b xs, H b = some (.tup xs) -> H' b = some (.tup xs)
 frzs : ∀ b o u, H b = some (.frz o u) -> H' b = some (.frz o u)
 tbls : ∀ b ps, H b = some (.tbl ps) -> ∃ more, H' b = some (.tbl (ps ++ more))
section
variable {fs fs' ex ex' : List Addr} {H H1 H2 : Hp} {h h1 h2 h' : Heap} {a x e : Addr} {o : HO}
theorem Un.any (u : Un fs ex H H1 h h1) {b : Addr} {ob : Obj} (q : h.get? b = some ob) (n : H b = none) (hx : b ∉ ex) : ∃ sl, h1.get? b = some { ob with slots := sl } := by
 by_cases hb : b ∈ fs
 · exact u.slot b ob q n hb hx
 · exact ⟨ob.slots, u.keep b ob q n hb hx⟩
theorem Un.kept (k : ∀ b u, h.get? b = some u -> h'.get? b = some u) : Un fs ex H H h h' :=
 ⟨fun b ob q _ _ _ => k b ob q, fun b ob q _ _ _ => ⟨ob.slots, k b ob q⟩, fun _ _ _ n _ => n, fun b ob q _ => ⟨ob, k b ob q⟩, fun _ _ q => q, fun _ _ _ q => q, fun _ ps q => ⟨#[], by rw [q]; simp⟩⟩
theorem Un.refl : Un fs ex H H h h := Un.kept fun _ _ q => q
theorem Un.laid (k : ∀ b u, h.get? b = some u -> h'.get? b = some u) (hp : h.objs.size <= a) (hn : H a = none) : Un fs ex H (upd H a o) h h' where
 keep := fun b u q _ _ _ => k b u q
 slot := fun b u q _ _ _ => ⟨u.slots, k b u q⟩
 free := fun b u q n _ => by rw [upd_ne (Nat.ne_of_lt (Nat.lt_of_lt_of_le (Heap.lt_size q) hp))]; exact n
 there := fun b u q _ => ⟨u, k b u q⟩
 tups := fun b xs q => by rw [upd_ne (ne_of_none q hn)]; exact q
 frzs := fun b u xs q => by rw [upd_ne (ne_of_none q hn)]; exact q
 tbls := fun b ps q => ⟨#[], by rw [upd_ne (ne_of_none q hn), q]; simp⟩
theorem Un.write (mu : Mut (H x)) (he : e = x \/ H e = some (.own x)) (k : ∀ b u, b ≠ e -> h.get? b = some u -> h'.get? b = some u) (heo : ∃ u, h'.get? e = some u) : Un fs ex H (upd H x o) h h' := by
 have hx : ∀ b, H b = none -> b ≠ x := fun b n z => by subst z; rw [n] at mu; exact mu
 have hb : ∀ b, H b = none -> b ≠ e := fun b n z => by
   subst z
   rcases he with r | r
   · exact hx b n r
   · rw [n] at r; cases r
 have hm : ∀ b u, H b = some u -> ¬ Mut (some u) -> b ≠ x := fun b u q nm z => by subst z; rw [q] at mu; exact nm mu
 refine ⟨fun b u q n _ _ => k b u (hb b n) q, fun b u q n _ _ => ⟨u.slots, k b u (hb b n) q⟩, fun b u q n _ => by rw [upd_ne (hx b n)]; exact n, fun b u q _ => ?_,
   fun b xs q => by rw [upd_ne (hm b _ q fun z => z)]; exact q, fun b u xs q => by rw [upd_ne (hm b _ q fun z => z)]; exact q, fun b ps q => ⟨#[], by rw [upd_ne (hm b _ q fun z => z), q]; simp⟩⟩
 by_cases hbe : b = e
 · subst hbe; exact heo
 · exact ⟨u, k b u hbe q⟩
end
noncomputable def trk (h : Heap) (H : Hp) : List Addr := (List.range h.objs.size).filter fun a => (H a).isSome
noncomputable def hidT (h : Heap) (H : Hp) : Heap := PySem.W.hideAll h (trk h H)
theorem hidT_size (h : Heap) (H : Hp) : (hidT h H).objs.size = h.objs.size := PySem.W.hideAll_size _ _
theorem hidT_get {h : Heap} {H : Hp} {b : Addr} {o : Obj} (e : h.get? b = some o) (n : H b = none) : (hidT h H).get? b = some o :=
 PySem.W.hideAll_get _ e fun hm => by
   have q : (H b).isSome = true := (List.mem_filter.mp hm).2
   rw [n] at q; simp at q
theorem of_hidT {h : Heap} {H : Hp} {b : Addr} {o : Obj} (e : (hidT h H).get? b = some o) : h.get? b = some o /\ H b = none := by
 have e' : h.get? b = some o := PySem.W.of_hideAll (trk h H) e
 refine ⟨e', ?_⟩
 cases q : H b with
 | none => rfl
 | some x =>
   have hm : b ∈ trk h H := List.mem_filter.mpr ⟨List.mem_range.mpr (Heap.lt_size e'), by simp [q]⟩
   have z : (hidT h H).get? b = none := PySem.W.hideAll_none (trk h H) hm
   rw [z] at e; cases e
noncomputable def allNews (g h : Heap) (L : Addr) : List (Addr × Obj) := (List.range h.objs.size).filterMap fun a => if a = L \/ (g.get? a).isSome = true then none else (h.get? a).map fun o => (a, o)
noncomputable def rest (g h : Heap) (L d : Addr) : List (Addr × Obj) := (allNews g h L).filter fun p => decide (p.1 ≠ d)
end L2
namespace L2
open PySem PySem.Spec PyProof.Rows
structure Mod (K : PySem.W.Frag) (mg : Str -> Option Value) (base : Heap) : Prop where
 kin : K.In base
 glob : base.Ns mainGlobals mg
 blt : ∃ mb, base.Ns builtinsNs mb /\ ∀ x : Str, x ≠ "__name__" -> mb x = bootBuiltins x
 nolimit : base.NoLimit
structure Cx where
 prog : Program
 w : World
 K : PySem.W.Frag
 mg : Str -> Option Value
 base : Heap
 A : Around
 N : List Str
 s₀ : Shared
 H₀ : Hp
 env : Env
 outer : List Env
 stack : List Env
 ex : List Addr
 fn : Str -> Bool
 calm : Bool
 pn : List (Addr × Obj)
 xe : Value -> Shared -> Prop
noncomputable def frs (l : List Env) : List Addr := l.filterMap (·.frame)
noncomputable abbrev Cx.fs (X : Cx) : List Addr := frs X.outer
noncomputable def Vis (sc : Scope) (x : Str) : Prop := sc.names.lookup x = some .local \/ sc.names.lookup x = some .cell \/ sc.names.lookup x = some .free
noncomputable def Loc (sc : Scope) (x : Str) : Prop := sc.names.lookup x = some .local \/ sc.names.lookup x = some .cell
noncomputable def Look (env : Env) (h : Heap) (m : Str -> Option Value) (x : Str) (u : Value) : Prop :=
 (env.kindOf x = some .local /\ m x = some u) \/ ((env.kindOf x = some .cell \/ env.kindOf x = some .free) /\ ∃ c, env.cells.lookup x = some c /\ h.IsCell c (some u))
structure Cx.Ok (X : Cx) : Prop where
 mod : Mod X.K X.mg X.base
 kind : X.env.scope.kind = .function
 glob : X.env.globals = mainGlobals
 blt : X.env.builtins = builtinsNs
 above : X.s₀.heap.objs.size <= X.env.locals
 inj : ∀ x y c, X.env.cells.lookup x = some c -> X.env.cells.lookup y = some c -> x = y
 has : ∀ x, (X.env.kindOf x = some .cell \/ X.env.kindOf x = some .free) -> ∃ c, X.env.cells.lookup x = some c
 cab : ∀ x c, X.fn x = true -> X.env.cells.lookup x = some c -> X.s₀.heap.objs.size <= c
 hd : X.calm = true -> X.A.handled = none
 frames : X.A.frames = some X.stack
 stk : X.stack = X.outer \/ (X.stack = X.env :: X.outer /\ X.env.frame = some X.env.locals)
 exf : ∀ b ∈ X.ex, b ≠ X.env.locals /\ ∀ x c, X.env.cells.lookup x = some c -> c ≠ b
 bs : ∀ b o, X.base.get? b = some o -> X.s₀.heap.get? b = some o /\ X.H₀ b = none
 bsz : X.base.objs.size <= X.s₀.heap.objs.size
 noex : ∀ b o, X.base.get? b = some o -> b ∉ X.ex
 exfs : ∀ b ∈ X.ex, b ∉ X.fs
 funs : X.s₀.heap.FunFrames X.base X.outer
 frf : ∀ b ∈ X.fs, X.H₀ b = none
structure Inv (X : Cx) (pins : List (Addr × Obj)) (σ : List (Option V)) (H : Hp) (s : Shared) : Prop where
 ok : X.Ok
 os : s.os = X.s₀.os
 bare : AllBare s.gens
 base : Un X.fs X.ex X.H₀ H X.s₀.heap s.heap
 loc : ∃ m, s.heap.Ns X.env.locals m /\ ∀ (i : Nat) (x : Str) (v : V), X.N[i]? = some x -> σ[i]? = some (some v) -> Vis X.env.scope x -> ∃ u, RelV v u /\ Look X.env s.heap m x u
 cell : ∀ x c, X.env.cells.lookup x = some c -> ∃ v, s.heap.IsCell c v
 free : H X.env.locals = none
 freeC : ∀ x c, X.env.cells.lookup x = some c -> H c = none
 pin : ∀ p ∈ X.pn ++ pins, s.heap.get? p.1 = some p.2 /\ H p.1 = none /\ p.1 ≠ X.env.locals /\ p.1 ∉ X.fs /\ ∀ v, p.2.data ≠ .cell v
 hok : HOk X.prog X.w H s.heap
 len : σ.length = X.N.length
section
variable {X : Cx} {pins : List (Addr × Obj)} {σ : List (Option V)} {H H' : Hp} {s : Shared} {h' : Heap}
theorem Cx.Ok.nofr (ok : X.Ok) {b : Addr} {o : Obj} (e : X.base.get? b = some o) : b ∉ X.fs := fun hb => by
 have := (ok.funs.mem hb).1
 rw [e] at this; cases this
theorem Inv.bs (I : Inv X pins σ H s) : ∀ b o, X.base.get? b = some o -> s.heap.get? b = some o /\ H b = none := fun b o e =>
 ⟨I.base.keep b o (I.ok.bs b o e).1 (I.ok.bs b o e).2 (I.ok.nofr e) (I.ok.noex b o e), I.base.free b o (I.ok.bs b o e).1 (I.ok.bs b o e).2 (I.ok.noex b o e)⟩
theorem Inv.bk (I : Inv X pins σ H s) : ∀ b o, X.base.get? b = some o -> s.heap.get? b = some o := fun b o e => (I.bs b o e).1
theorem Inv.mod (I : Inv X pins σ H s) : Mod X.K X.mg X.base := I.ok.mod
theorem Inv.kIn (I : Inv X pins σ H s) : X.K.In s.heap := I.ok.mod.kin.keeps I.bk
theorem Inv.fr (I : Inv X pins σ H s) : ∃ m, Fr X.base X.env.locals s.heap m :=
 let ⟨m, hn, _⟩ := I.loc
 ⟨m, hn, I.bk, Nat.le_trans I.ok.bsz I.ok.above⟩
theorem Inv.lt (I : Inv X pins σ H s) : X.env.locals < s.heap.objs.size := let ⟨_, hn, _⟩ := I.loc; hn.lt
theorem Inv.sz (I : Inv X pins σ H s) : X.s₀.heap.objs.size <= s.heap.objs.size := Nat.le_trans I.ok.above (Nat.le_of_lt I.lt)
theorem Inv.nofs (I : Inv X pins σ H s) {a : Addr} (h : s.heap.objs.size <= a) : a ∉ X.fs := fun hb => by
 obtain ⟨_, o, ho, _⟩ := I.ok.funs.mem hb
 exact absurd (Nat.lt_of_lt_of_le (Heap.lt_size ho) (Nat.le_trans I.sz h)) (Nat.lt_irrefl _)
theorem Inv.cne (I : Inv X pins σ H s) : ∀ x c, X.env.cells.lookup x = some c -> c ≠ X.env.locals := fun x c e z => by
 obtain ⟨v, o, ho, hd⟩ := I.cell x c e
 obtain ⟨m, ⟨o', es, ep, ho', hd', _⟩, _⟩ := I.loc
 rw [z, ho'] at ho; cases ho; rw [hd'] at hd; cases hd
theorem Inv.funs (I : Inv X pins σ H s) : s.heap.FunFrames X.base X.outer := by
 have all : ∀ (l : List Env), (∀ b ∈ frs l, b ∈ X.fs) -> X.s₀.heap.FunFrames X.base l -> s.heap.FunFrames X.base l := by
   intro l
   induction l with
   | nil => intro _ _; trivial
   | cons env r ih =>
     intro hs hl
     obtain ⟨hk, ⟨L, o, hf, hn, ho, hd⟩, hr⟩ := hl
     have hL : L ∈ X.fs := hs L (by unfold frs; rw [List.filterMap_cons, hf]; exact List.mem_cons_self)
     obtain ⟨sl, e⟩ := I.base.slot L o ho (I.ok.frf L hL) hL fun z => I.ok.exfs L z hL
     exact ⟨hk, ⟨L, _, hf, hn, e, hd⟩, ih (fun b hb => hs b (by unfold frs; rw [List.filterMap_cons, hf]; exact List.mem_cons_of_mem _ hb)) hr⟩
 exact all X.outer (fun _ hb => hb) I.ok.funs
theorem Inv.stack (I : Inv X pins σ H s) : s.heap.FunFrames X.base X.stack := by
 rcases I.ok.stk with e | ⟨e, hf⟩
 · rw [e]; exact I.funs
 · rw [e]
   obtain ⟨m, hn, _⟩ := I.loc
   refine .cons (by rw [I.ok.kind]; decide) hf hn ?_ I.funs
   exact Heap.get?_none_of_le (Nat.le_trans I.ok.bsz I.ok.above)
theorem Inv.stkSub (I : Inv X pins σ H s) : ∀ b ∈ frs X.stack, b ∈ X.env.locals :: X.fs := fun b hb => by
 rcases I.ok.stk with e | ⟨e, hf⟩
 · rw [e] at hb; exact List.mem_cons_of_mem _ hb
 · rw [e] at hb
   unfold frs at hb
   rw [List.filterMap_cons, hf] at hb
   exact hb
theorem Inv.stkFree (I : Inv X pins σ H s) : ∀ b ∈ frs X.stack, H b = none := fun b hb => by
 rcases List.mem_cons.mp (I.stkSub b hb) with e | hb
 · rw [e]; exact I.free
 · obtain ⟨_, o, ho, _⟩ := I.ok.funs.mem hb
   exact I.base.free b o ho (I.ok.frf b hb) fun z => I.ok.exfs b z hb
theorem Inv.step {g' : Array GenState} {t' : Nat} {d' : Drawn} {ch : List Addr} (I : Inv X pins σ H s)
   (hch : ∀ b ∈ ch, (b ∈ X.ex \/ X.s₀.heap.objs.size <= b) /\ b ≠ X.env.locals /\ (∀ x c, X.env.cells.lookup x = some c -> c ≠ b) /\ ∀ p ∈ X.pn ++ pins, p.1 ≠ b)
   (keep : ∀ b o, b ≠ X.env.locals -> b ∉ X.fs -> b ∉ ch -> s.heap.get? b = some o -> H b = none -> h'.get? b = some o)
   (slot : ∀ b o, b ≠ X.env.locals -> b ∈ X.fs -> b ∉ ch -> s.heap.get? b = some o -> H b = none -> ∃ sl, h'.get? b = some { o with slots := sl }) (free : ∀ b o, b ∉ ch -> s.heap.get? b = some o -> H b = none -> H' b = none)
   (there : ∀ b o, b ∉ ch -> s.heap.get? b = some o -> ∃ o', h'.get? b = some o')
   (tups : ∀ b xs, H b = some (.tup xs) -> H' b = some (.tup xs)) (frzs : ∀ b o u, H b = some (.frz o u) -> H' b = some (.frz o u)) (tbls : ∀ b ps, H b = some (.tbl ps) -> ∃ more, H' b = some (.tbl (ps ++ more)))
   (ns : ∀ m, s.heap.Ns X.env.locals m -> h'.Ns X.env.locals m) (hok : HOk X.prog X.w H' h') (hg : AllBare g') :
   Inv X pins σ H' { s with heap := h', gens := g', drawn := d', toks := t' } := by
 have neL : ∀ b o, X.s₀.heap.get? b = some o -> b ≠ X.env.locals := fun b o e => Nat.ne_of_lt (Nat.lt_of_lt_of_le (Heap.lt_size e) I.ok.above)
 have neC : ∀ b o, X.s₀.heap.get? b = some o -> b ∉ X.ex -> b ∉ ch := fun b o e hx hb => by
   rcases (hch b hb).1 with z | z
   · exact hx z
   · exact absurd (Nat.lt_of_lt_of_le (Heap.lt_size e) z) (Nat.lt_irrefl _)
 have cellK : ∀ x c, X.env.cells.lookup x = some c -> ∀ v, s.heap.IsCell c v -> h'.IsCell c v := fun x c e v ⟨o, ho, hd⟩ => by
   have nch : c ∉ ch := fun z => (hch c z).2.2.1 x c e rfl
   by_cases hc : c ∈ X.fs
   · obtain ⟨sl, q⟩ := slot c o (I.cne x c e) hc nch ho (I.freeC x c e)
     exact ⟨_, q, hd⟩
   · exact ⟨o, keep c o (I.cne x c e) hc nch ho (I.freeC x c e), hd⟩
 refine ⟨I.ok, I.os, hg, ⟨fun b o e n hb hx => ?_, fun b o e n hb hx => ?_, fun b o e n hx => ?_, fun b o e hx => ?_, fun b xs e => tups b xs (I.base.tups b xs e), fun b o xs e => frzs b o xs (I.base.frzs b o xs e), fun b ps e => ?_⟩, ?_, fun x c e => ?_, ?_, fun x c e => ?_, fun p hp => ?_, hok, I.len⟩
 · exact keep b o (neL b o e) hb (neC b o e hx) (I.base.keep b o e n hb hx) (I.base.free b o e n hx)
 · obtain ⟨sl, e1⟩ := I.base.slot b o e n hb hx
   obtain ⟨sl', e2⟩ := slot b _ (neL b o e) hb (neC b o e hx) e1 (I.base.free b o e n hx)
   exact ⟨sl', e2⟩
 · obtain ⟨o', e1⟩ := I.base.there b o e hx
   exact free b o' (neC b o e hx) e1 (I.base.free b o e n hx)
 · obtain ⟨o', e1⟩ := I.base.there b o e hx
   exact there b o' (neC b o e hx) e1
 · obtain ⟨m1, e1⟩ := I.base.tbls b ps e
   obtain ⟨m2, e2⟩ := tbls b _ e1
   exact ⟨m1 ++ m2, by rw [e2, Array.append_assoc]⟩
 · obtain ⟨m, hn, hl⟩ := I.loc
   refine ⟨m, ns m hn, fun i x v e1 e2 e3 => ?_⟩
   obtain ⟨u, r, l⟩ := hl i x v e1 e2 e3
   refine ⟨u, r, ?_⟩
   rcases l with l | ⟨k, c, e, z⟩
   · exact .inl l
   · exact .inr ⟨k, c, e, cellK x c e _ z⟩
 · obtain ⟨v, z⟩ := I.cell x c e
   exact ⟨v, cellK x c e v z⟩
 · obtain ⟨m, ⟨o, _, _, ho, _⟩, _⟩ := I.loc
   exact free _ o (fun z => (hch _ z).2.1 rfl) ho I.free
 · obtain ⟨v, o, ho, hd⟩ := I.cell x c e
   exact free c o (fun z => (hch c z).2.2.1 x c e rfl) ho (I.freeC x c e)
 · obtain ⟨e, n, ne, nf, d⟩ := I.pin p hp
   have nch : p.1 ∉ ch := fun z => (hch p.1 z).2.2.2 p hp rfl
   exact ⟨keep p.1 p.2 ne nf nch e n, free p.1 p.2 nch e n, ne, nf, d⟩
theorem Inv.un {t' : Nat} (I : Inv X pins σ H s) (u : Un X.fs [] H H' s.heap h') (hok : HOk X.prog X.w H' h') : Inv X pins σ H' { s with heap := h', toks := t' } := by
 obtain ⟨m, ⟨o, es, ep, ho, r⟩, _⟩ := id I.loc
 obtain ⟨sl, hL⟩ := u.any ho I.free (by simp)
 exact I.step (g' := s.gens) (d' := s.drawn) (ch := []) (fun _ z => nomatch z) (fun b o _ hb _ e n => u.keep b o e n hb (by simp)) (fun b o _ hb _ e n => u.slot b o e n hb (by simp)) (fun b o _ e n => u.free b o e n (by simp)) (fun b o _ e => u.there b o e (by simp)) u.tups u.frzs u.tbls (fun m' hm => by
   obtain ⟨o', es', ep', ho', r'⟩ := hm
   rw [ho] at ho'; cases ho'
   exact ⟨_, es', ep', hL, r'⟩) hok I.bare
theorem Inv.call {g' : Array GenState} {t' : Nat} {d' : Drawn} {ch : List Addr} (I : Inv X pins σ H s) (u : Un (frs X.stack) ch H H' s.heap h') (hok : HOk X.prog X.w H' h') (hg : AllBare g')
   (hch : ∀ b ∈ ch, (b ∈ X.ex \/ X.s₀.heap.objs.size <= b) /\ b ≠ X.env.locals /\ (∀ x c, X.env.cells.lookup x = some c -> c ≠ b) /\ ∀ p ∈ X.pn ++ pins, p.1 ≠ b) :
   Inv X pins σ H' { s with heap := h', gens := g', drawn := d', toks := t' } := by
 obtain ⟨m, ⟨o, es, ep, ho, r⟩, _⟩ := id I.loc
 obtain ⟨sl, hL⟩ := u.any ho I.free fun z => (hch _ z).2.1 rfl
 exact I.step (ch := ch) hch (fun b o hL hb hc e n => u.keep b o e n (fun z => (List.mem_cons.mp (I.stkSub b z)).elim hL hb) hc) (fun b o _ _ hc e n => u.any e n hc) (fun b o hc e n => u.free b o e n hc) (fun b o hc e => u.there b o e hc) u.tups u.frzs u.tbls (fun m' hm => by
   obtain ⟨o', es', ep', ho', r'⟩ := hm
   rw [ho] at ho'; cases ho'
   exact ⟨_, es', ep', hL, r'⟩) hok hg
theorem Inv.turned {t' : Nat} {it : Addr} (I : Inv X pins σ H s) (k : ∀ b o, b ≠ it -> s.heap.get? b = some o -> h'.get? b = some o) (hn : H it = none) (hL : it ≠ X.env.locals)
   (h1 : it ∈ X.ex \/ X.s₀.heap.objs.size <= it) (h2 : ∀ x c, X.env.cells.lookup x = some c -> c ≠ it) (h3 : ∀ p ∈ X.pn ++ pins, p.1 ≠ it) : Inv X pins σ H { s with heap := h', toks := t' } := by
 have nit : ∀ b u, H b = some u -> b ≠ it := fun b u e z => by rw [z, hn] at e; cases e
 refine I.step (g' := s.gens) (d' := s.drawn) (ch := [it]) (fun b hb => ?_) (fun b o _ _ hc e _ => k b o (fun z => hc (by simp [z])) e) (fun b o _ _ hc e _ => ⟨o.slots, k b o (fun z => hc (by simp [z])) e⟩) (fun _ _ _ _ n => n)
   (fun b o hc e => ⟨o, k b o (fun z => hc (by simp [z])) e⟩) (fun _ _ e => e) (fun _ _ _ e => e) (fun b ps e => ⟨#[], by rw [e]; simp⟩) (fun m hm => ?_) (fun b u e => ?_) I.bare
 · have e : b = it := by simpa using hb
   subst e
   exact ⟨h1, hL, h2, h3⟩
 · obtain ⟨o, es, ep, ho, r⟩ := hm
   exact ⟨o, es, ep, k _ o (Ne.symm hL) ho, r⟩
 · refine (I.hok b u e).stay (fun c v hc q => k c v ?_ q) (fun _ q => q) fun _ _ q => q
   rcases hc with z | z
   · rw [z]; exact nit b u e
   · exact nit c _ z
theorem Inv.tok (I : Inv X pins σ H s) (t : Nat) : Inv X pins σ H { s with toks := t } := I.un (h' := s.heap) (t' := t) Un.refl I.hok
theorem Inv.kept {t' : Nat} (I : Inv X pins σ H s) (k : ∀ b u, s.heap.get? b = some u -> h'.get? b = some u) : Inv X pins σ H { s with heap := h', toks := t' } := I.un (Un.kept k) (I.hok.kept k)
theorem Inv.laid {a : Addr} {o : HO} {t' : Nat} (I : Inv X pins σ H s) (k : ∀ b u, s.heap.get? b = some u -> h'.get? b = some u) (hp : s.heap.objs.size <= a) (new : ObjOk X.prog X.w (upd H a o) h' a o) :
   Inv X pins σ (upd H a o) { s with heap := h', toks := t' } := I.un (Un.laid k hp (I.hok.fresh hp)) (I.hok.laid k hp new)
theorem Inv.write {x e : Addr} {o : HO} {t' : Nat} (I : Inv X pins σ H s) (mu : Mut (H x)) (he : e = x \/ H e = some (.own x)) (k : ∀ b u, b ≠ e -> s.heap.get? b = some u -> h'.get? b = some u) (heo : ∃ u, h'.get? e = some u)
   (new : ObjOk X.prog X.w (upd H x o) h' x o) : Inv X pins σ (upd H x o) { s with heap := h', toks := t' } := I.un (Un.write mu he k heo) (I.hok.write mu he k heo new)
theorem Inv.weak {σ' : List (Option V)} (I : Inv X pins σ H s) (hl : σ'.length = σ.length) (w : ∀ (i : Nat) v, σ'[i]? = some (some v) -> σ[i]? = some (some v)) : Inv X pins σ' H s :=
 ⟨I.ok, I.os, I.bare, I.base, let ⟨m, hn, hl'⟩ := I.loc; ⟨m, hn, fun i x v e1 e2 e3 => hl' i x v e1 (w i v e2) e3⟩, I.cell, I.free, I.freeC, I.pin, I.hok, hl.trans I.len⟩
theorem Inv.pins_of {pins' : List (Addr × Obj)} (I : Inv X pins σ H s) (h : ∀ p ∈ pins', s.heap.get? p.1 = some p.2 /\ H p.1 = none /\ p.1 ≠ X.env.locals /\ p.1 ∉ X.fs /\ ∀ v, p.2.data ≠ .cell v) : Inv X pins' σ H s :=
 ⟨I.ok, I.os, I.bare, I.base, I.loc, I.cell, I.free, I.freeC, fun p hp => (List.mem_append.mp hp).elim (fun z => I.pin p (List.mem_append_left _ z)) (h p), I.hok, I.len⟩
theorem nodup_ix {N : List Str} (hN : N.Nodup) {i j : Nat} {x : Str} (a : N[i]? = some x) (b : N[j]? = some x) : i = j := by
 obtain ⟨h1, e1⟩ := List.getElem?_eq_some_iff.mp a
 obtain ⟨h2, e2⟩ := List.getElem?_eq_some_iff.mp b
 exact (List.getElem_inj hN).mp (e1.trans e2.symm)
theorem store_ok2 {M : Model} {A : Around} {E : Value -> Shared -> Prop} {i : Nat} {x : Str} {v : V} {u : Value} {Q : Unit -> Shared -> Prop} (I : Inv X pins σ H s) (hN : X.N.Nodup) (hi : X.N[i]? = some x) (hx : Loc X.env.scope x) (r : RelV v u)
   (h : ∀ s', Inv X pins (σ.set i (some v)) H s' -> (∃ a, Heap.SameBut a s.heap s'.heap /\ (a = X.env.locals \/ X.env.cells.lookup x = some a)) -> Q () s') (hf : X.fn x = true \/ X.env.scope.names.lookup x = some .local := by first | exact .inl rfl | exact .inr rfl | assumption) : wpAny M A (storeName X.env x u) Q E s := by
 obtain ⟨m, hn, hl⟩ := id I.loc
 have hcls : (X.env.scope.kind == .class || (X.env.scope.kind == .module && X.env.locals != X.env.globals)) = false := by rw [I.ok.kind]; rfl
 have hiσ : i < σ.length := by rw [I.len]; exact (List.getElem?_eq_some_iff.mp hi).1
 have cne := I.cne
 have tracked : ∀ {a : Addr} {h' : Heap}, (∃ o, s.heap.get? a = some o /\ H a = none) -> Heap.SameBut a s.heap h' -> HOk X.prog X.w H h' := fun {a h'} ha hs b ob e => by
   obtain ⟨_, _, hfree⟩ := ha
   refine (I.hok b ob e).stay (fun c w' hc q => (hs.2 c ?_).trans q) (fun _ q => q) fun _ _ q => q
   rintro rfl
   rcases hc with rfl | hc
   · rw [hfree] at e; cases e
   · rw [hfree] at hc; cases hc
 rcases hx with hk | hk
 · refine wpAny_storeName_local hk hn (fun h' hn' hs => ?_) hcls
   obtain ⟨oL, _, _, hoL, _⟩ := id hn
   refine h _ ⟨I.ok, I.os, I.bare, ⟨fun b o e n hb hx => ?_, fun b o e n hb hx => ?_, I.base.free, fun b o e hx => ?_, I.base.tups, I.base.frzs, I.base.tbls⟩, ⟨_, hn', fun j y v' e1 e2 e3 => ?_⟩, fun y c e => ?_, I.free, I.freeC, fun p hp => ?_, tracked ⟨oL, hoL, I.free⟩ hs, by simpa using I.len⟩ ⟨_, hs, .inl rfl⟩
   · exact (hs.2 b (Nat.ne_of_lt (Nat.lt_of_lt_of_le (Heap.lt_size e) I.ok.above))).trans (I.base.keep b o e n hb hx)
   · obtain ⟨sl, e1⟩ := I.base.slot b o e n hb hx
     exact ⟨sl, (hs.2 b (Nat.ne_of_lt (Nat.lt_of_lt_of_le (Heap.lt_size e) I.ok.above))).trans e1⟩
   · obtain ⟨o', e1⟩ := I.base.there b o e hx
     exact ⟨o', (hs.2 b (Nat.ne_of_lt (Nat.lt_of_lt_of_le (Heap.lt_size e) I.ok.above))).trans e1⟩
   · by_cases hj : j = i
     · subst hj
       rw [hi] at e1; cases e1
       rw [List.getElem?_set_self hiσ] at e2
       cases e2
       exact ⟨u, r, .inl ⟨hk, by simp⟩⟩
     · rw [List.getElem?_set_ne (Ne.symm hj)] at e2
       obtain ⟨u', r', q⟩ := hl j y v' e1 e2 e3
       refine ⟨u', r', ?_⟩
       rcases q with ⟨k, e⟩ | ⟨k, c, e, z⟩
       · refine .inl ⟨k, ?_⟩
         have : y ≠ x := fun e => hj (nodup_ix hN e1 (e ▸ hi))
         simp [this, e]
       · exact .inr ⟨k, c, e, z.sameBut hs (cne y c e)⟩
   · obtain ⟨w', z⟩ := I.cell y c e
     exact ⟨w', z.sameBut hs (cne y c e)⟩
   · obtain ⟨e, n, ne, nf, d⟩ := I.pin p hp
     exact ⟨(hs.2 p.1 ne).trans e, n, ne, nf, d⟩
 · have hfn : X.fn x = true := by
     rcases hf with z | z
     · exact z
     · rw [z] at hk; cases hk
   obtain ⟨c, hc⟩ := I.ok.has x (.inl hk)
   obtain ⟨w', z⟩ := I.cell x c hc
   refine wpAny_storeName_cell I.ok.kind hk hc z (fun h' hc' hs => ?_)
   obtain ⟨oc, hoc, hocd⟩ := id z
   refine h { s with heap := h' } ⟨I.ok, I.os, I.bare, ⟨fun b o e n hb hx => ?_, fun b o e n hb hx => ?_, I.base.free, fun b o e hx => ?_, I.base.tups, I.base.frzs, I.base.tbls⟩, ⟨m, hn.sameBut hs (Ne.symm (cne x c hc)), fun j y v' e1 e2 e3 => ?_⟩, fun y c' e => ?_, I.free, I.freeC, fun p hp => ?_, tracked ⟨oc, hoc, I.freeC x c hc⟩ hs, by simpa using I.len⟩ ⟨c, hs, .inr hc⟩
   · exact (hs.2 b (Nat.ne_of_lt (Nat.lt_of_lt_of_le (Heap.lt_size e) (I.ok.cab x c hfn hc)))).trans (I.base.keep b o e n hb hx)
   · obtain ⟨sl, e1⟩ := I.base.slot b o e n hb hx
     exact ⟨sl, (hs.2 b (Nat.ne_of_lt (Nat.lt_of_lt_of_le (Heap.lt_size e) (I.ok.cab x c hfn hc)))).trans e1⟩
   · obtain ⟨o', e1⟩ := I.base.there b o e hx
     exact ⟨o', (hs.2 b (Nat.ne_of_lt (Nat.lt_of_lt_of_le (Heap.lt_size e) (I.ok.cab x c hfn hc)))).trans e1⟩
   · by_cases hj : j = i
     · subst hj
       rw [hi] at e1; cases e1
       rw [List.getElem?_set_self hiσ] at e2
       cases e2
       exact ⟨u, r, .inr ⟨.inl hk, c, hc, hc'⟩⟩
     · rw [List.getElem?_set_ne (Ne.symm hj)] at e2
       obtain ⟨u', r', q⟩ := hl j y v' e1 e2 e3
       refine ⟨u', r', ?_⟩
       rcases q with q | ⟨k, c', e, z'⟩
       · exact .inl q
       · refine .inr ⟨k, c', e, z'.sameBut hs ?_⟩
         rintro rfl
         exact hj (nodup_ix hN e1 (I.ok.inj _ _ _ e hc ▸ hi))
   · by_cases hcc : c' = c
     · subst hcc; exact ⟨_, hc'⟩
     · obtain ⟨w2, z2⟩ := I.cell y c' e
       exact ⟨w2, z2.sameBut hs hcc⟩
   · obtain ⟨e, n, ne, nf, d⟩ := I.pin p hp
     refine ⟨(hs.2 p.1 ?_).trans e, n, ne, nf, d⟩
     intro q
     rw [q, hoc] at e
     have q' : oc = p.2 := Option.some.inj e
     exact d w' (by rw [<- q']; exact hocd)
theorem store_ok {M : Model} {A : Around} {E : Value -> Shared -> Prop} {i : Nat} {x : Str} {v : V} {u : Value} {Q : Unit -> Shared -> Prop} (I : Inv X pins σ H s) (hN : X.N.Nodup) (hi : X.N[i]? = some x) (hx : Loc X.env.scope x) (r : RelV v u)
   (h : ∀ s', Inv X pins (σ.set i (some v)) H s' -> Q () s') (hf : X.fn x = true \/ X.env.scope.names.lookup x = some .local := by first | exact .inl rfl | exact .inr rfl | assumption) : wpAny M A (storeName X.env x u) Q E s :=
 store_ok2 I hN hi hx r (fun s' I' _ => h s' I') hf
theorem Inv.call' {s' : Shared} {ch : List Addr} (I : Inv X pins σ H s) (ho : s'.os = s.os) (u : Un (frs X.stack) ch H H' s.heap s'.heap) (hok : HOk X.prog X.w H' s'.heap) (hg : AllBare s'.gens)
   (hch : ∀ b ∈ ch, (b ∈ X.ex \/ X.s₀.heap.objs.size <= b) /\ b ≠ X.env.locals /\ (∀ x c, X.env.cells.lookup x = some c -> c ≠ b) /\ ∀ p ∈ X.pn ++ pins, p.1 ≠ b) : Inv X pins σ H' s' := by
 obtain ⟨h', g', d', t', o'⟩ := s'
 have e : o' = s.os := ho
 subst e
 exact I.call (g' := g') (t' := t') (d' := d') u hok hg hch
end
noncomputable abbrev XK := Value -> Option Addr -> Hp -> Prop
noncomputable abbrev St := List (Option V)
noncomputable abbrev VK := V -> Hp -> Prop
noncomputable abbrev TE := St -> Hp -> VK -> Prop
noncomputable abbrev TT := St -> Hp -> (Bool -> Hp -> Prop) -> Prop
noncomputable abbrev TA := St -> Hp -> (List V -> Hp -> Prop) -> Prop
structure Ends where
 nx : St -> Hp -> Prop
 rt : VK
 bk : St -> Hp -> Prop := fun _ _ => False
 ct : St -> Hp -> Prop := fun _ _ => False
noncomputable abbrev TS := Ends -> St -> Hp -> Prop
noncomputable def EP (X : Cx) (pins : List (Addr × Obj)) (σ : St) (Q : VK) (u : Value) (s' : Shared) : Prop := ∃ v H', Inv X pins σ H' s' /\ RelV v u /\ Q v H'
noncomputable def TP (X : Cx) (pins : List (Addr × Obj)) (σ : St) (Q : Bool -> Hp -> Prop) (b : Bool) (s' : Shared) : Prop := ∃ H', Inv X pins σ H' s' /\ Q b H'
noncomputable def AP (X : Cx) (pins : List (Addr × Obj)) (σ : St) (Q : List V -> Hp -> Prop) (us : List Value) (s' : Shared) : Prop := ∃ vs H', Inv X pins σ H' s' /\ Vals vs us /\ Q vs H'
noncomputable def SP (X : Cx) (pins : List (Addr × Obj)) (D : Ends) (f : Flow) (s' : Shared) : Prop :=
 match f with
 | .next => ∃ σ' H', Inv X pins σ' H' s' /\ D.nx σ' H'
 | .brk => ∃ σ' H', Inv X pins σ' H' s' /\ D.bk σ' H'
 | .cont => ∃ σ' H', Inv X pins σ' H' s' /\ D.ct σ' H'
 | .ret u => ∃ v σ' H', Inv X pins σ' H' s' /\ RelV v u /\ D.rt v H'
noncomputable def PE (X : Cx) (e : Expr) (t : TE) : Prop :=
 ∀ (pins : List (Addr × Obj)) (s : Shared) (σ : St) (H : Hp) (Q : VK), Inv X pins σ H s -> t σ H Q -> wpAny (model X.prog X.w) X.A (eval e X.env) (EP X pins σ Q) X.xe s
noncomputable def PT (X : Cx) (e : Expr) (t : TT) : Prop :=
 ∀ (pins : List (Addr × Obj)) (s : Shared) (σ : St) (H : Hp) (Q : Bool -> Hp -> Prop), Inv X pins σ H s -> t σ H Q -> wpAny (model X.prog X.w) X.A (isTrue e X.env (eval e X.env)) (TP X pins σ Q) X.xe s
noncomputable def PW (X : Cx) (e : Expr) (t : TT) : Prop :=
 ∀ (whole : Sem Value) (pins : List (Addr × Obj)) (s : Shared) (σ : St) (H : Hp) (Q : Bool -> Hp -> Prop), Inv X pins σ H s -> t σ H Q -> wpAny (model X.prog X.w) X.A (isTrue e X.env whole) (TP X pins σ Q) X.xe s
theorem PW.pt {X : Cx} {e : Expr} {t : TT} (h : PW X e t) : PT X e t := h _
noncomputable def PA (X : Cx) (es : List Expr) (t : TA) : Prop :=
 ∀ (pos : Pos) (pins : List (Addr × Obj)) (s : Shared) (σ : St) (H : Hp) (Q : List V -> Hp -> Prop), Inv X pins σ H s -> t σ H Q -> wpAny (model X.prog X.w) X.A (spliced (backTo pos (starEach es X.env))) (AP X pins σ Q) X.xe s
noncomputable def PS (X : Cx) (st : Stmt) (t : TS) : Prop :=
 ∀ (pins : List (Addr × Obj)) (s : Shared) (σ : St) (H : Hp) (D : Ends), Inv X pins σ H s -> t D σ H -> wpAny (model X.prog X.w) X.A (exec st X.env) (SP X pins D) X.xe s
noncomputable def PSs (X : Cx) (st : List Stmt) (t : TS) : Prop :=
 ∀ (pins : List (Addr × Obj)) (s : Shared) (σ : St) (H : Hp) (D : Ends), Inv X pins σ H s -> t D σ H -> wpAny (model X.prog X.w) X.A (execs st X.env) (SP X pins D) X.xe s
theorem thn {α : Type} {t : Sem α} {Q Q' : α -> Shared -> Prop} {M : Model} {A : Around} {E : Value -> Shared -> Prop} {s : Shared} (h : wpAny M A t Q E s) (hQ : ∀ a s, Q a s -> Q' a s) : wpAny M A t Q' E s := wpAny_mono h hQ fun _ _ x => x
end L2
namespace L2
open PySem PySem.Spec PyProof.Rows
section
variable {X : Cx}
theorem bin {a b : Expr} {ta tb : TE} (ha : PE X a ta) (hb : PE X b tb) {pins : List (Addr × Obj)} {s : Shared} {σ : St} {H : Hp} {R : V -> V -> Hp -> Prop} (I : Inv X pins σ H s) (h : ta σ H fun x H1 => tb σ H1 fun y H2 => R x y H2)
   {α : Type} {Q : α -> Shared -> Prop} {f : Value -> Value -> Sem α}
   (hf : ∀ v u s2 x y H2, Inv X pins σ H2 s2 -> RelV x v -> RelV y u -> R x y H2 -> wpAny (model X.prog X.w) X.A (f v u) Q X.xe s2) :
   wpAny (model X.prog X.w) X.A (eval a X.env) (fun v s₁ => wpAny (model X.prog X.w) X.A (eval b X.env) (fun u s₂ => wpAny (model X.prog X.w) X.A (f v u) Q X.xe s₂) X.xe s₁) X.xe s := by
 refine thn (ha pins s σ H _ I h) fun v s1 z => z.elim fun x z => z.elim fun H1 z => z.elim fun I1 z => z.elim fun r1 q1 => ?_
 refine thn (hb pins s1 σ H1 _ I1 q1) fun u s2 z => z.elim fun y z => z.elim fun H2 z => z.elim fun I2 z => z.elim fun r2 q2 => ?_
 exact hf v u s2 x y H2 I2 r1 r2 q2
noncomputable def tVar (i : Nat) : TE := fun σ H Q => ∃ v, σ[i]? = some (some v) /\ Q v H
noncomputable def tC (v : V) : TE := fun _ H Q => Q v H
theorem pe_var {i : Nat} {x : Str} {pos : Pos} (hN : X.N[i]? = some x) (hv : Vis X.env.scope x) (hd : (x == ("__debug__" : Str)) = false := by decide) (hcd : (x == ("__classdict__" : Str)) = false := by decide) : PE X (.Name x pos) (tVar i) := by
 intro pins s σ H Q I h
 obtain ⟨v, e, h⟩ := h
 obtain ⟨m, hn, hl⟩ := I.loc
 obtain ⟨u, r, l⟩ := hl i x v hN e hv
 have fin : EP X pins σ Q u s := ⟨v, H, I, r, h⟩
 rcases l with ⟨hk, hm⟩ | ⟨hk, c, hc, hcell⟩
 · exact wpAny_Name (wpAny_loadName_local I.ok.kind hk hn hm fin) hd
 · rcases hk with hk | hk
   · exact wpAny_Name (wpAny_loadName_cell I.ok.kind hk hc hcell fin) hd
   · exact wpAny_Name (wpAny_loadName_free I.ok.kind hk hc hcell fin hcd) hd
theorem pe_int {i j pos} : PE X (.Constant (.int i) j pos) (tC (.int i)) := fun _ _ _ H _ I h => wpAny_Constant_int ⟨.int i, H, I.tok _, ⟨_, rfl⟩, h⟩
theorem pe_bl {b j pos} : PE X (.Constant (.bool b) j pos) (tC (.bl b)) := fun _ _ _ H _ I h => Constant_bool ⟨.bl b, H, I, rfl, h⟩
theorem pe_non {j pos} : PE X (.Constant .none j pos) (tC .non) := fun _ _ _ H _ I h => Constant_none ⟨.non, H, I, rfl, h⟩
theorem pe_str {x j pos} : PE X (.Constant (.str x) j pos) (tC (.str x)) := fun _ _ _ H _ I h => Calls.Constant_str ⟨.str x, H, I.tok _, ⟨_, rfl⟩, h⟩
noncomputable def Gl (X : Cx) (x : Str) : Prop := X.env.kindOf x = some .globalImplicit
theorem ld_glob {E : Value -> Shared -> Prop} {pins : List (Addr × Obj)} {s : Shared} {σ : St} {H : Hp} {x : Str} {u : Value} {pos : Pos} {Q : Value -> Shared -> Prop} (I : Inv X pins σ H s) (hg : Gl X x) (hm : X.mg x = some u) (h : Q u s)
   (hd : (x == ("__debug__" : Str)) = false := by decide) : wpAny (model X.prog X.w) X.A (eval (.Name x pos) X.env) Q E s :=
 Calls.Name_function_global I.ok.kind hg (Calls.loadGlobal_global (by rw [I.ok.glob]; exact I.mod.glob.keeps I.bk) hm h) hd
theorem ld_blt {E : Value -> Shared -> Prop} {pins : List (Addr × Obj)} {s : Shared} {σ : St} {H : Hp} {x : Str} {u : Value} {pos : Pos} {Q : Value -> Shared -> Prop} (I : Inv X pins σ H s) (hg : Gl X x) (hm : X.mg x = none) (hv : bootBuiltins x = some u) (h : Q u s)
   (hn : x ≠ "__name__" := by decide) (hd : (x == ("__debug__" : Str)) = false := by decide) : wpAny (model X.prog X.w) X.A (eval (.Name x pos) X.env) Q E s := by
 obtain ⟨mb, h1, h2⟩ := I.mod.blt
 exact Calls.Name_function_global I.ok.kind hg (Calls.loadGlobal_builtin (by rw [I.ok.glob]; exact I.mod.glob.keeps I.bk) hm (by rw [I.ok.blt]; exact h1.keeps I.bk) ((h2 x hn).trans hv) h) hd
theorem pe_glob {x : Str} {v : V} {u : Value} {pos : Pos} (hg : Gl X x) (hm : X.mg x = some u) (r : RelV v u) (hd : (x == ("__debug__" : Str)) = false := by decide) : PE X (.Name x pos) (tC v) :=
 fun _ _ _ H _ I h => ld_glob I hg hm ⟨v, H, I, r, h⟩ hd
theorem pe_bltn {x : Str} {v : V} {u : Value} {pos : Pos} (hg : Gl X x) (hm : X.mg x = none) (hv : bootBuiltins x = some u) (r : RelV v u) (hn : x ≠ "__name__" := by decide) (hd : (x == ("__debug__" : Str)) = false := by decide) : PE X (.Name x pos) (tC v) :=
 fun _ _ _ H _ I h => ld_blt I hg hm hv ⟨v, H, I, r, h⟩ hn hd
variable {a b : Expr} {ta tb : TE} {pos : Pos}
noncomputable def PC (X : Cx) (op : CmpOp) (a b : Expr) (t : TE) : Prop :=
 ∀ (pins : List (Addr × Obj)) (s : Shared) (σ : St) (H : Hp) (Q : VK), Inv X pins σ H s -> t σ H Q ->
   wpAny (model X.prog X.w) X.A (eval a X.env) (fun v s₁ => wpAny (model X.prog X.w) X.A (eval b X.env) (fun u s₂ => wpAny (model X.prog X.w) X.A (compareOp op v u) (EP X pins σ Q) X.xe s₂) X.xe s₁) X.xe s
theorem nobehind (b : Expr) {op : CmpOp} (h : op ≠ .In) (h2 : op ≠ .NotIn) : behindInMarks op b = false := by
 have e1 : (op == CmpOp.In) = false := by cases op <;> first | rfl | exact absurd rfl h
 have e2 : (op == CmpOp.NotIn) = false := by cases op <;> first | rfl | exact absurd rfl h2
 cases b <;> simp [behindInMarks, e1, e2]
noncomputable def tB (t : TE) : TT := fun σ H Q => t σ H fun x H1 => ∃ c, x = .bl c /\ Q c H1
theorem pt_cmp {op : CmpOp} {t : TE} (h : PC X op a b t) (h1 : behindInMarks op b = false := by first | exact nobehind _ (by decide) (by decide) | rfl) : PT X (.Compare a [op] [b] pos) (tB t) := by
 intro pins s σ H Q I hw
 refine wpAny_isTrue_Compare1 (thn (h pins s σ H _ I hw) fun v s1 h1 => thn h1 fun u s2 h2 => thn h2 fun c s3 z => z.elim fun x z => z.elim fun H1 z => z.elim fun I1 z => z.elim fun r1 q1 => ?_) h1
 obtain ⟨d, rfl, q⟩ := q1
 cases r1
 exact wpAny_truthy_bool ⟨H1, I1, q⟩
theorem pt_val {e : Expr} {t : TE} (h : PE X e t) (he : ∀ whole, isTrue e X.env whole = (do let v <- whole; standAt e.pos; holding [v] (truthy v)) := by intro _; rfl) : PT X e (tB t) := by
 intro pins s σ H Q I hw
 refine isTrue_plain (thn (h pins s σ H _ I hw) fun v s1 z => z.elim fun x z => z.elim fun H1 z => z.elim fun I1 z => z.elim fun r1 q1 => ?_) (he _)
 obtain ⟨d, rfl, q⟩ := q1
 cases r1
 exact wpAny_truthy_bool ⟨H1, I1, q⟩
variable {tA tB' : TT} {rest : List Expr}
noncomputable def tAnd (t u : TT) : TT := fun σ H Q => t σ H fun c H1 => if c = true then u σ H1 Q else Q false H1
noncomputable def tOr (t u : TT) : TT := fun σ H Q => t σ H fun c H1 => if c = true then Q true H1 else u σ H1 Q
noncomputable def tNot (t : TT) : TT := fun σ H Q => t σ H fun c H1 => Q (!c) H1
theorem pw_and1 (ha : PT X a tA) : PW X (.BoolOp .And [a] pos) tA := by
 intro wh pins s σ H Q I h
 refine isTrue_and (thn (ha pins s σ H Q I h) fun c s1 e => ?_)
 cases c with
 | true => exact isTrue_and_nil e
 | false => exact e
theorem pw_or1 (ha : PT X a tA) : PW X (.BoolOp .Or [a] pos) tA := by
 intro wh pins s σ H Q I h
 refine isTrue_or (thn (ha pins s σ H Q I h) fun c s1 e => ?_)
 cases c with
 | false => exact isTrue_or_nil e
 | true => exact e
theorem pw_and (ha : PT X a tA) (hb : PW X (.BoolOp .And (b :: rest) pos) tB') : PW X (.BoolOp .And (a :: b :: rest) pos) (tAnd tA tB') := by
 intro wh pins s σ H Q I h
 refine isTrue_and (thn (ha pins s σ H _ I h) fun c s1 z => z.elim fun H1 z => z.elim fun I1 q1 => ?_)
 cases c with
 | true => exact hb wh pins s1 σ H1 Q I1 q1
 | false => exact ⟨H1, I1, q1⟩
theorem pw_or (ha : PT X a tA) (hb : PW X (.BoolOp .Or (b :: rest) pos) tB') : PW X (.BoolOp .Or (a :: b :: rest) pos) (tOr tA tB') := by
 intro wh pins s σ H Q I h
 refine isTrue_or (thn (ha pins s σ H _ I h) fun c s1 z => z.elim fun H1 z => z.elim fun I1 q1 => ?_)
 cases c with
 | true => exact ⟨H1, I1, q1⟩
 | false => exact hb wh pins s1 σ H1 Q I1 q1
theorem pt_not (ha : PT X a tA) : PT X (.UnaryOp .Not a pos) (tNot tA) := by
 intro pins s σ H Q I h
 exact isTrue_not (ha pins s σ H (fun c H1 => Q (!c) H1) I h)
noncomputable def tAndV (ta tb : TE) : TE := fun σ H Q => ta σ H fun x H1 => ∃ c, x = .bl c /\ if c = true then tb σ H1 Q else Q (.bl false) H1
noncomputable def tNotV (ta : TE) : TE := fun σ H Q => ta σ H fun x H1 => ∃ c, x = .bl c /\ Q (.bl (!c)) H1
theorem pe_one {op} {t : TE} (h : PE X a t) : PE X (.BoolOp op [a] pos) t := fun pins s σ H Q I hw => BoolOp_one (h pins s σ H Q I hw)
theorem pe_and (ha : PE X a ta) (hb : PE X (.BoolOp .And (b :: rest) pos) tb) : PE X (.BoolOp .And (a :: b :: rest) pos) (tAndV ta tb) := by
 intro pins s σ H Q I h
 refine BoolOp_and (thn (ha pins s σ H _ I h) fun v s1 z => z.elim fun x z => z.elim fun H1 z => z.elim fun I1 z => z.elim fun r1 q1 => ?_)
 obtain ⟨c, rfl, q1⟩ := q1
 cases r1
 refine wpAny_truthy_bool ?_
 cases c with
 | true => exact hb pins s1 σ H1 Q I1 q1
 | false => exact ⟨.bl false, H1, I1, rfl, q1⟩
theorem pe_not (ha : PE X a ta) : PE X (.UnaryOp .Not a pos) (tNotV ta) := by
 intro pins s σ H Q I h
 refine UnaryOp_ (thn (ha pins s σ H _ I h) fun v s1 z => z.elim fun x z => z.elim fun H1 z => z.elim fun I1 z => z.elim fun r1 q1 => ?_)
 obtain ⟨c, rfl, q1⟩ := q1
 cases r1
 exact not_of (wpAny_truthy_bool ⟨.bl (!c), H1, I1, rfl, q1⟩)
end
end L2
namespace L2
open PySem PySem.Spec PyProof.Rows
noncomputable def SqL (K : PySem.W.Frag) (H : Hp) (a : Addr) (xs : List V) : Prop :=
 Rd H a (.lst xs) \/
   ∃ (o : Obj) (its : Array Value) (n : Nat), K.lookup a = some o /\ o.cls = .type "list" /\ o.dict = none /\ o.data = .seq its n /\ its.size <= sizeLine /\ Vals xs its.toList
noncomputable def SqT (K : PySem.W.Frag) (H : Hp) (a : Addr) (xs : List V) : Prop :=
 Rd H a (.tup xs) \/
   ∃ (o : Obj) (its : Array Value) (n : Nat), K.lookup a = some o /\ o.cls = .type "tuple" /\ o.dict = none /\ o.data = .seq its n /\ its.size <= sizeLine /\ Vals xs its.toList
noncomputable def absV : Value -> Option V
 | .none => some .non
 | .bool b => some (.bl b)
 | .int i _ => some (.int i)
 | .str x _ => some (.str x)
 | .bytes b _ => some (.byt b)
 | .float b _ => some (.flt b)
 | .ref a => some (.ref a)
 | .type n => some (.ty n)
 | _ => none
theorem RelV.abs {x : V} {u : Value} (r : RelV x u) : absV u = some x := by
 cases x with
 | non => cases r; rfl
 | bl _ => cases r; rfl
 | int _ => obtain ⟨t, rfl⟩ := r; rfl
 | str _ => obtain ⟨t, rfl⟩ := r; rfl
 | byt _ => obtain ⟨t, rfl⟩ := r; rfl
 | flt _ => obtain ⟨t, rfl⟩ := r; rfl
 | ref _ => cases r; rfl
 | ty _ => cases r; rfl
theorem RelV.inj {x y : V} {u : Value} (r : RelV x u) (q : RelV y u) : x = y := Option.some.inj (r.abs.symm.trans q.abs)
theorem Vals.inj : ∀ {xs ys : List V} {us : List Value}, Vals xs us -> Vals ys us -> xs = ys
 | _, _, _, .nil, .nil => rfl
 | _, _, _, .cons r t, .cons r' t' => by rw [r.inj r', Vals.inj t t']
section
variable {X : Cx} {pins : List (Addr × Obj)} {σ : St} {H : Hp} {s : Shared} {a : Addr} {xs ys : List V}
theorem SqL.of {K : PySem.W.Frag} (h : H a = some (.lst xs)) : SqL K H a xs := .inl (.inl h)
theorem SqT.of {K : PySem.W.Frag} (h : H a = some (.tup xs)) : SqT K H a xs := .inl (.inl h)
theorem Inv.list (I : Inv X pins σ H s) (h : SqL X.K H a xs) : ∃ its : List Value, Vals xs its /\ PlainL s.heap a its.toArray /\ xs.length <= sizeLine := by
 rcases h with h | ⟨o, its, n, hk, hc, hd, hs, hz, r⟩
 · obtain ⟨z, its, n, r, e⟩ := h.ok I.hok
   exact ⟨its, r, ⟨_, n, e, rfl, rfl, rfl⟩, z⟩
 · refine ⟨its.toList, r, ⟨o, n, I.kIn a o hk, hc, hd, by simpa using hs⟩, ?_⟩
   have e := r.length
   simp only [Array.length_toList] at e
   lia
theorem Inv.tuple (I : Inv X pins σ H s) (h : SqT X.K H a xs) : ∃ its : List Value, Vals xs its /\ IsTup s.heap a its.toArray /\ xs.length <= sizeLine := by
 rcases h with h | ⟨o, its, n, hk, hc, _, hs, hz, r⟩
 · obtain ⟨z, its, r, p⟩ := h.ok I.hok
   exact ⟨its, r, p.t, z⟩
 · refine ⟨its.toList, r, ⟨o, I.kIn a o hk, hc, n, by simpa using hs⟩, ?_⟩
   have e := r.length
   simp only [Array.length_toList] at e
   lia
theorem Inv.list_inj (I : Inv X pins σ H s) (h : SqL X.K H a xs) (h' : SqL X.K H a ys) : xs = ys := by
 obtain ⟨its, r, ⟨o, n, e, _, _, d⟩, _⟩ := I.list h
 obtain ⟨its', r', ⟨o', n', e', _, _, d'⟩, _⟩ := I.list h'
 rw [e] at e'; cases e'
 rw [d] at d'
 injection d' with d1 _
 have : its = its' := by simpa using congrArg Array.toList d1
 subst this
 exact r.inj r'
theorem Inv.tuple_inj (I : Inv X pins σ H s) (h : SqT X.K H a xs) (h' : SqT X.K H a ys) : xs = ys := by
 obtain ⟨its, r, ⟨o, e, _, n, d⟩, _⟩ := I.tuple h
 obtain ⟨its', r', ⟨o', e', _, n', d'⟩, _⟩ := I.tuple h'
 rw [e] at e'; cases e'
 rw [d] at d'
 injection d' with d1 _
 have : its = its' := by simpa using congrArg Array.toList d1
 subst this
 exact r.inj r'
end
noncomputable abbrev Cx.wish (X : Cx) (E : Value -> Shared -> Prop) : Cx := { X with xe := E }
noncomputable abbrev Cx.nox (X : Cx) : Cx := X.wish fun _ _ => False
theorem Cx.Ok.wish {X : Cx} (ok : X.Ok) (E : Value -> Shared -> Prop) : (X.wish E).Ok :=
 ⟨ok.mod, ok.kind, ok.glob, ok.blt, ok.above, ok.inj, ok.has, ok.cab, ok.hd, ok.frames, ok.stk, ok.exf, ok.bs, ok.bsz, ok.noex, ok.exfs, ok.funs, ok.frf⟩
theorem Cx.Ok.unwish {X : Cx} {E : Value -> Shared -> Prop} (ok : (X.wish E).Ok) : X.Ok :=
 ⟨ok.mod, ok.kind, ok.glob, ok.blt, ok.above, ok.inj, ok.has, ok.cab, ok.hd, ok.frames, ok.stk, ok.exf, ok.bs, ok.bsz, ok.noex, ok.exfs, ok.funs, ok.frf⟩
section
variable {X : Cx} {pins : List (Addr × Obj)} {σ : St} {H : Hp} {s : Shared} {E : Value -> Shared -> Prop}
theorem Inv.wish (I : Inv X pins σ H s) (E : Value -> Shared -> Prop) : Inv (X.wish E) pins σ H s := ⟨I.ok.wish E, I.os, I.bare, I.base, I.loc, I.cell, I.free, I.freeC, I.pin, I.hok, I.len⟩
theorem Inv.unwish (I : Inv (X.wish E) pins σ H s) : Inv X pins σ H s := ⟨I.ok.unwish, I.os, I.bare, I.base, I.loc, I.cell, I.free, I.freeC, I.pin, I.hok, I.len⟩
theorem SP.unwish {D : Ends} {f : Flow} {s' : Shared} (h : SP (X.wish E) pins D f s') : SP X pins D f s' := by
 cases f with
 | next => obtain ⟨σ', H', I, q⟩ := h; exact ⟨σ', H', I.unwish, q⟩
 | brk => obtain ⟨σ', H', I, q⟩ := h; exact ⟨σ', H', I.unwish, q⟩
 | cont => obtain ⟨σ', H', I, q⟩ := h; exact ⟨σ', H', I.unwish, q⟩
 | ret u => obtain ⟨v, σ', H', I, r, q⟩ := h; exact ⟨v, σ', H', I.unwish, r, q⟩
theorem PSs.nox {st : List Stmt} {t : TS} (h : PSs X.nox st t) : PSs X st t := fun pins s σ H D I hw =>
 wpAny_mono (h pins s σ H D (I.wish _) hw) (fun _ _ q => q.unwish) fun _ _ z => False.elim z
end
section
variable {X : Cx} {st : Stmt} {rest : List Stmt} {t u : TS} {e : Expr} {te : TE} {pos : Pos}
noncomputable def tNext : TS := fun D σ H => D.nx σ H
noncomputable def tSeq (t u : TS) : TS := fun D σ H => t { D with nx := u D } σ H
theorem pss_nil : PSs X [] tNext := fun _ _ σ H _ I h => wpAny_execs_nil ⟨σ, H, I, h⟩
theorem pss_cons (h1 : PS X st t) (h2 : PSs X rest u) : PSs X (st :: rest) (tSeq t u) := by
 intro pins s σ H D I h
 refine wpAny_execs_cons (thn (h1 pins s σ H { D with nx := u D } I h) fun f s1 q => ?_)
 cases f with
 | next =>
   obtain ⟨σ', H', I', q⟩ := q
   exact h2 pins s1 σ' H' D I' q
 | ret v => exact q
 | brk => exact q
 | cont => exact q
theorem pss_one (h1 : PS X st t) : PSs X [st] t := by
 intro pins s σ H D I h
 refine wpAny_execs_cons (thn (h1 pins s σ H D I h) fun f s1 q => ?_)
 cases f with
 | next => exact wpAny_execs_nil q
 | ret v => exact q
 | brk => exact q
 | cont => exact q
theorem Inv.quiet {pins : List (Addr × Obj)} {σ : St} {H : Hp} {s : Shared} (I : Inv X pins σ H s) : interactive X.env = false := by simp [interactive, I.ok.kind]
noncomputable def tDrop (te : TE) : TS := fun D σ H => te σ H fun _ H1 => D.nx σ H1
theorem ps_expr (he : PE X e te) (hs : swapsWith e none pos.line X.env = pure false := by rfl) : PS X (.Expr e pos) (tDrop te) := by
 intro pins s σ H D I h
 exact wpAny_Expr_any (thn (he pins s σ H _ I h) fun v s1 z => z.elim fun x z => z.elim fun H1 z => z.elim fun I1 z => z.elim fun r1 q1 => ⟨σ, H1, I1, q1⟩) I.quiet hs
noncomputable def tRet (te : TE) : TS := fun D σ H => te σ H D.rt
theorem ps_ret (he : PE X e te) : PS X (.Return (some e) pos) (tRet te) := by
 intro pins s σ H D I h
 exact wpAny_Return_some (thn (he pins s σ H _ I h) fun v s1 z => z.elim fun x z => z.elim fun H1 z => z.elim fun I1 z => z.elim fun r1 q1 => ⟨x, σ, H1, I1, r1, q1⟩)
noncomputable def tIfS (c : TT) (t u : TS) : TS := fun D σ H => c σ H fun b H1 => if b = true then t D σ H1 else u D σ H1
theorem ps_if {c : Expr} {a b : List Stmt} {tc : TT} (hc : PT X c tc) (ha : PSs X a t) (hb : PSs X b u) : PS X (.If c a b pos) (tIfS tc t u) := by
 intro pins s σ H D I h
 refine wpAny_If (thn (hc pins s σ H _ I h) fun d s1 z => z.elim fun H1 z => z.elim fun I1 q1 => ?_)
 cases d with
 | true => exact ha pins s1 σ H1 D I1 q1
 | false => exact hb pins s1 σ H1 D I1 q1
end
noncomputable abbrev TG := V -> St -> Hp -> (St -> Hp -> Prop) -> Prop
noncomputable abbrev TGs := List V -> St -> Hp -> (St -> Hp -> Prop) -> Prop
noncomputable def PG (X : Cx) (target : Expr) (t : TG) : Prop :=
 ∀ (pins : List (Addr × Obj)) (s : Shared) (σ : St) (H : Hp) (v : V) (u : Value) (Q : St -> Hp -> Prop), Inv X pins σ H s -> RelV v u -> t v σ H Q ->
   wpAny (model X.prog X.w) X.A (assign target X.env u) (fun _ s' => ∃ σ' H', Inv X pins σ' H' s' /\ Q σ' H') X.xe s
noncomputable def PGs (X : Cx) (ts : List Expr) (t : TGs) : Prop :=
 ∀ (pins : List (Addr × Obj)) (s : Shared) (σ : St) (H : Hp) (vs : List V) (us : List Value) (Q : St -> Hp -> Prop), Inv X pins σ H s -> Vals vs us -> t vs σ H Q ->
   wpAny (model X.prog X.w) X.A (assignInOrder ((assignEach ts X.env).map (·.2)) us) (fun _ s' => ∃ σ' H', Inv X pins σ' H' s' /\ Q σ' H') X.xe s
noncomputable abbrev TSet := V -> V -> V -> Hp -> (Hp -> Prop) -> Prop
noncomputable def PSet (X : Cx) (t : TSet) : Prop :=
 ∀ (pins : List (Addr × Obj)) (s : Shared) (σ : St) (H : Hp) (o i v : V) (ov iv u : Value) (Q : Hp -> Prop), Inv X pins σ H s -> RelV o ov -> RelV i iv -> RelV v u -> t o i v H Q ->
   wpAny (model X.prog X.w) X.A (setItem ov iv u) (fun _ s' => ∃ H', Inv X pins σ H' s' /\ Q H') X.xe s
section
variable {X : Cx} {pos : Pos}
noncomputable def gName (i : Nat) : TG := fun v σ H Q => Q (σ.set i (some v)) H
theorem pg_name {i : Nat} {x : Str} (hN : X.N.Nodup) (hi : X.N[i]? = some x) (hx : Loc X.env.scope x) (hf : X.fn x = true \/ X.env.scope.names.lookup x = some .local := by first | exact .inl rfl | exact .inr rfl | assumption) : PG X (.Name x pos) (gName i) := by
 intro pins s σ H v u Q I r h
 exact wpAny_assign_Name (store_ok I hN hi hx r (fun s' I' => ⟨_, H, I', h⟩) hf)
noncomputable def gNil : TGs := fun vs σ H Q => vs = [] /\ Q σ H
noncomputable def gCons (t : TG) (u : TGs) : TGs := fun vs σ H Q => ∃ v r, vs = v :: r /\ t v σ H fun σ' H' => u r σ' H' Q
theorem pgs_nil : PGs X [] gNil := by
 intro pins s σ H vs us Q I r h
 obtain ⟨e, h⟩ := h
 subst e
 cases r
 exact assignInOrder_nil ⟨σ, H, I, h⟩
theorem pgs_cons {e : Expr} {es : List Expr} {t : TG} {u : TGs} (h1 : PG X e t) (h2 : PGs X es u)
   (hs : (assignEach (e :: es) X.env).map (·.2) = assign e X.env :: (assignEach es X.env).map (·.2) := by rfl) : PGs X (e :: es) (gCons t u) := by
 intro pins s σ H vs us Q I r h
 obtain ⟨v, vr, e1, h⟩ := h
 subst e1
 cases r with
 | cons r rr =>
   rw [hs]
   refine assignInOrder_cons (thn (h1 pins s σ H _ _ _ I r h) fun _ s1 z => z.elim fun σ1 z => z.elim fun H1 z => z.elim fun I1 q1 => ?_)
   exact h2 pins s1 σ1 H1 _ _ Q I1 rr q1
noncomputable def gTup (K : PySem.W.Frag) (n : Nat) (t : TGs) : TG := fun v σ H Q => ∃ a xs, v = .ref a /\ SqT K H a xs /\ xs.length = n /\ t xs σ H Q
theorem pg_tup {es : List Expr} {k : Nat} {t : TGs} {n : Nat} (hc : X.calm = true) (h : PGs X es t)
   (hn : (assignEach es X.env).length = n := by rfl) (hst : (assignEach es X.env).findIdx? (·.1) = none := by rfl) : PG X (.Tuple es k pos) (gTup X.K n t) := by
 intro pins s σ H v u Q I r hw
 obtain ⟨a, xs, e1, hq, hl, hw⟩ := hw
 subst e1
 cases r
 obtain ⟨its, rv, ht, hz⟩ := I.tuple hq
 refine assign_Tuple_tuple (I.ok.hd hc) ht (by simp [hn, <- hl, rv.length]) hst fun h' hx => ?_
 have I1 : Inv X pins σ H { s with heap := h' } := I.kept (t' := s.toks) fun b o e => hx b o (Nat.ne_of_lt (Heap.lt_size e)) e
 exact h pins _ σ H xs _ Q I1 (by simpa using rv) hw
noncomputable def gSub (to ti : TE) (t : TSet) : TG := fun v σ H Q => to σ H fun o H1 => ti σ H1 fun i H2 => t o i v H2 fun H3 => Q σ H3
theorem pg_sub {o i : Expr} {to ti : TE} {t : TSet} (ho : PE X o to) (hi : PE X i ti) (hs : PSet X t)
   (ha : ∀ v, assign (.Subscript o i pos) X.env v = (do
     let ov <- holding [v] (eval o X.env)
     let iv <- holding [v, ov] (eval i X.env)
     standAt pos
     holding [v, ov, iv] (setItem ov iv v)
     release [v, ov, iv] []) := by intro _; rfl) : PG X (.Subscript o i pos) (gSub to ti t) := by
 intro pins s σ H v u Q I r h
 rw [ha]
 refine wpAny_bind (wpAny_holding (thn (ho pins s σ H _ I h) fun ov s1 z => z.elim fun x z => z.elim fun H1 z => z.elim fun I1 z => z.elim fun r1 q1 => ?_))
 refine wpAny_bind (wpAny_holding (thn (hi pins s1 σ H1 _ I1 q1) fun iv s2 z => z.elim fun y z => z.elim fun H2 z => z.elim fun I2 z => z.elim fun r2 q2 => ?_))
 refine wpAny_bind (wpAny_standAt (wpAny_bind (wpAny_holding (thn (hs pins s2 σ H2 x y v ov iv u _ I2 r1 r2 r q2) fun _ s3 z => z.elim fun H3 z => z.elim fun I3 q3 => ?_))))
 exact wpAny_release ⟨σ, H3, I3, q3⟩
noncomputable def tAsg (te : TE) (g : TG) : TS := fun D σ H => te σ H fun x H1 => g x σ H1 D.nx
theorem ps_asg {tg e : Expr} {te : TE} {g : TG} (he : PE X e te) (hg : PG X tg g) (hs : swapsWithSole [tg] e pos.line X.env = pure false := by rfl) (hw : swappedStores [tg] e X.env = pure none := by rfl)
   (h1 : (assignEach [tg] X.env).map (·.2) = [assign tg X.env] := by rfl) : PS X (.Assign [tg] e pos) (tAsg te g) := by
 intro pins s σ H D I h
 refine wpAny_Assign_stores (thn (he pins s σ H _ I h) fun v s1 z => z.elim fun x z => z.elim fun H1 z => z.elim fun I1 z => z.elim fun r1 q1 => ?_) hs hw
 rw [h1]
 exact thn (hg pins s1 σ H1 x v _ I1 r1 q1) fun _ s2 q => q
theorem ps_set {i : Nat} {x : Str} {e : Expr} {te : TE} {pos' : Pos} (hN : X.N.Nodup) (hi : X.N[i]? = some x) (hx : Loc X.env.scope x) (he : PE X e te) (hs : swapsWith e (some (.Name x pos')) pos.line X.env = pure false := by rfl) (hf : X.fn x = true \/ X.env.scope.names.lookup x = some .local := by first | exact .inl rfl | exact .inr rfl | assumption) :
   PS X (.Assign [.Name x pos'] e pos) (tAsg te (gName i)) := by
 intro pins s σ H D I h
 refine wpAny_Assign_Name (thn (he pins s σ H _ I h) fun v s1 z => z.elim fun y z => z.elim fun H1 z => z.elim fun I1 z => z.elim fun r1 q1 => ?_) hs
 exact store_ok I1 hN hi hx r1 (fun s2 I2 => ⟨_, H1, I2, q1⟩) hf
end
structure It where
 go : Nat -> Hp -> Prop
 yld : Nat -> Hp -> V -> Hp -> Prop
 stop : Nat -> Hp -> Prop
noncomputable def FpOk (X : Cx) (pins : List (Addr × Obj)) (H : Hp) (b : Addr) : Prop :=
 H b = none /\ b ≠ X.env.locals /\ b ∉ X.fs /\ (b ∈ X.ex \/ X.s₀.heap.objs.size <= b) /\ (∀ x c, X.env.cells.lookup x = some c -> c ≠ b) /\ ∀ p ∈ X.pn ++ pins, p.1 ≠ b
theorem Inv.fpOk {X : Cx} {pins : List (Addr × Obj)} {σ : St} {H H' : Hp} {s : Shared} {b : Addr} (I : Inv X pins σ H s) (hb : s.heap.objs.size <= b) (hn : H' b = none) : FpOk X pins H' b := by
 refine ⟨hn, Nat.ne_of_gt (Nat.lt_of_lt_of_le I.lt hb), I.nofs hb, .inr (Nat.le_trans I.sz hb), fun x c e z => ?_, fun p hp z => ?_⟩
 · obtain ⟨v, q⟩ := I.cell x c e
   exact absurd (Nat.lt_of_lt_of_le q.lt (by rw [z]; exact hb)) (Nat.lt_irrefl _)
 · exact absurd (Nat.lt_of_lt_of_le (Heap.lt_size (I.pin p hp).1) (by rw [z]; exact hb)) (Nat.lt_irrefl _)
structure Turn (P : Program) (w : World) (K : PySem.W.Frag) (tg : Expr) (J : It) (fp : List Addr) (it : Addr) (tn : Nat -> Heap -> Prop) : Prop where
 mem : it ∈ fp
 obj : ∀ i h, tn i h -> ∀ b ∈ fp, ∃ o, h.get? b = some o /\ ∀ v, o.data ≠ .cell v
 keep : ∀ i h h', tn i h -> (∀ b ∈ fp, ∀ o, h.get? b = some o -> h'.get? b = some o) -> tn i h'
 item : ∀ (X : Cx), X.prog = P -> X.w = w -> X.K = K -> X.calm = true -> ∀ (i : Nat) (pins : List (Addr × Obj)) (s : Shared) (σ : St) (H : Hp) (E : Value -> Shared -> Prop), Inv X pins σ H s -> (∀ b ∈ fp, FpOk X pins H b) -> tn i s.heap -> J.go i H ->
   wpAny (model P w) X.A (pyNext (.ref it)) (fun r s1 => ∃ u, r = some u /\
     wpAny (model P w) X.A (letOwnedTupleGo tg (.ref it) u) (fun _ s2 => ∃ x H', Inv X pins σ H' s2 /\ RelV x u /\ J.yld i H x H' /\ tn (i + 1) s2.heap /\ ∀ b ∈ fp, H' b = none) E s1) E s
 done : ∀ (X : Cx), X.prog = P -> X.w = w -> X.K = K -> X.calm = true -> ∀ (i : Nat) (pins : List (Addr × Obj)) (s : Shared) (σ : St) (H : Hp) (E : Value -> Shared -> Prop), Inv X pins σ H s -> (∀ b ∈ fp, FpOk X pins H b) -> tn i s.heap -> J.stop i H ->
   wpAny (model P w) X.A (pyNext (.ref it)) (fun r s1 => r = none /\ Inv X pins σ H s1) E s
 self : ∀ (A : Around) (i : Nat) (s : Shared) (Q : Value -> Shared -> Prop) (E : Value -> Shared -> Prop), tn i s.heap -> Q (.ref it) s -> wpAny (model P w) A (pyIter (.ref it)) Q E s
noncomputable abbrev TI := St -> Hp -> (It -> Hp -> Prop) -> Prop
noncomputable def PIE (X : Cx) (pins : List (Addr × Obj)) (σ : St) (tg : Expr) (R : It -> Hp -> Prop) (itv : Value) (s2 : Shared) : Prop :=
 ∃ (it : Addr) (fp : List Addr) (tn : Nat -> Heap -> Prop) (J : It) (H' : Hp), itv = .ref it /\ Inv X pins σ H' s2 /\ Turn X.prog X.w X.K tg J fp it tn /\ tn 0 s2.heap /\ (∀ b ∈ fp, FpOk X pins H' b) /\ R J H'
noncomputable def PI (X : Cx) (tg iter : Expr) (wi : TI) : Prop :=
 ∀ (pins : List (Addr × Obj)) (s : Shared) (σ : St) (H : Hp) (R : It -> Hp -> Prop), Inv X pins σ H s -> wi σ H R ->
   wpAny (model X.prog X.w) X.A (eval iter X.env) (fun v s1 => wpAny (model X.prog X.w) X.A (pyIter v) (PIE X pins σ tg R) X.xe s1) X.xe s
theorem go_of {M : Model} {A : Around} {E : Value -> Shared -> Prop} {s : Shared} {tg : Expr} {it : Addr} {u : Value} {o : Obj} {n : String} {vs : Array Value} {Q : Unit -> Shared -> Prop} (ho : s.heap.get? it = some o) (hc : o.cls = .type n) (hd : o.data = .fields vs)
   (hn : ["enumerate", "zip", "dict_itemiterator", "dict_reverseitemiterator", "odict_iterator", "itertools.zip_longest", "itertools.pairwise"].contains n = false) (hQ : Q () s) : wpAny M A (letOwnedTupleGo tg (.ref it) u) Q E s := by
 unfold letOwnedTupleGo
 cases tg <;> first
   | exact wpAny_pure hQ
   | (cases u <;> first
       | exact wpAny_pure hQ
       | (refine wpAny_bind (wpAny_load ho ?_)
          rw [hc, hd]
          show wpAny M A (if (["enumerate", "zip", "dict_itemiterator", "dict_reverseitemiterator", "odict_iterator", "itertools.zip_longest", "itertools.pairwise"].contains n && vs[0]? == some (rawInt _)) = true then _ else _) Q E s
          rw [if_neg (by intro h; rw [hn, Bool.false_and] at h; cases h)]
          exact wpAny_pure hQ))
noncomputable def Itl (K : PySem.W.Frag) (a : Addr) : It :=
 ⟨fun i H => ∃ xs x, SqL K H a xs /\ xs[i]? = some x, fun i H x H' => H' = H /\ ∀ xs, SqL K H a xs -> xs[i]? = some x, fun i H => ∃ xs, SqL K H a xs /\ xs.length <= i⟩
noncomputable def Itt (K : PySem.W.Frag) (a : Addr) : It :=
 ⟨fun i H => ∃ xs x, SqT K H a xs /\ xs[i]? = some x, fun i H x H' => H' = H /\ ∀ xs, SqT K H a xs -> xs[i]? = some x, fun i H => ∃ xs, SqT K H a xs /\ xs.length <= i⟩
noncomputable def Itr (lo : Int) (n : Nat) : It := ⟨fun i _ => i < n, fun i H x H' => H' = H /\ x = .int (lo + i), fun i _ => n <= i⟩
theorem turn_list {P : Program} {w : World} {K : PySem.W.Frag} {tg : Expr} (a it : Addr) : Turn P w K tg (Itl K a) [it] it (fun i h => h.IsListIter it a i) where
 mem := by simp
 obj := fun i h st b hb => by
   have e : b = it := by simpa using hb
   subst e
   obtain ⟨o, e, c, d⟩ := st
   exact ⟨o, e, fun v z => by rw [d] at z; cases z⟩
 keep := fun i h h' st k => st.at fun o e => k it (by simp) o e
 item := by
   intro X hP hw hK hc i pins s σ H E I hf st hg
   subst hP hw hK
   obtain ⟨xs, x, hq, hx⟩ := hg
   obtain ⟨its, rv, p, hz⟩ := I.list hq
   obtain ⟨u, hu, ru⟩ := rv.get hx
   obtain ⟨f0, f1, f2, f3, f4, f5⟩ := hf it (by simp)
   refine wpAny_pyNext_list_item st p.isList (x := u) (by simpa using hu) fun h' st' sb => ?_
   have I1 : Inv X pins σ H { s with heap := h' } := I.turned (t' := s.toks) (fun b o hb e => (sb.2 b hb).trans e) f0 f1 f3 f4 f5
   obtain ⟨o, e, c, d⟩ := id st'
   exact ⟨u, rfl, go_of (s := { s with heap := h' }) e c d (by decide) ⟨x, H, I1, ru, ⟨rfl, fun ys hy => by rw [I.list_inj hy hq]; exact hx⟩, st', fun b hb => (hf b hb).1⟩⟩
 done := by
   intro X hP hw hK hc i pins s σ H E I hf st hg
   subst hP hw hK
   obtain ⟨xs, hq, hx⟩ := hg
   obtain ⟨its, rv, p, hz⟩ := I.list hq
   obtain ⟨f0, f1, f2, f3, f4, f5⟩ := hf it (by simp)
   have hl := rv.length
   exact wpAny_pyNext_list_end (I.ok.hd hc) st p.isList (by simp; lia) fun h' eb => ⟨rfl, I.turned (t' := s.toks) (fun b o hb e => eb b o hb e) f0 f1 f3 f4 f5⟩
 self := fun _ _ _ _ _ st h => wpAny_pyIter_listiter st h
theorem turn_tuple {P : Program} {w : World} {K : PySem.W.Frag} {tg : Expr} (a it : Addr) : Turn P w K tg (Itt K a) [it] it (fun i h => h.IsTupleIter it a i) where
 mem := by simp
 obj := fun i h st b hb => by
   have e : b = it := by simpa using hb
   subst e
   obtain ⟨o, e, c, d⟩ := st
   exact ⟨o, e, fun v z => by rw [d] at z; cases z⟩
 keep := fun i h h' st k => st.at fun o e => k it (by simp) o e
 item := by
   intro X hP hw hK hc i pins s σ H E I hf st hg
   subst hP hw hK
   obtain ⟨xs, x, hq, hx⟩ := hg
   obtain ⟨its, rv, p, hz⟩ := I.tuple hq
   obtain ⟨u, hu, ru⟩ := rv.get hx
   obtain ⟨f0, f1, f2, f3, f4, f5⟩ := hf it (by simp)
   refine wpAny_pyNext_tuple_item st (show s.heap.IsTuple a its.toArray from p) (x := u) (by simpa using hu) fun h' st' sb => ?_
   have I1 : Inv X pins σ H { s with heap := h' } := I.turned (t' := s.toks) (fun b o hb e => (sb.2 b hb).trans e) f0 f1 f3 f4 f5
   obtain ⟨o, e, c, d⟩ := id st'
   exact ⟨u, rfl, go_of (s := { s with heap := h' }) e c d (by decide) ⟨x, H, I1, ru, ⟨rfl, fun ys hy => by rw [I.tuple_inj hy hq]; exact hx⟩, st', fun b hb => (hf b hb).1⟩⟩
 done := by
   intro X hP hw hK hc i pins s σ H E I hf st hg
   subst hP hw hK
   obtain ⟨xs, hq, hx⟩ := hg
   obtain ⟨its, rv, p, hz⟩ := I.tuple hq
   obtain ⟨f0, f1, f2, f3, f4, f5⟩ := hf it (by simp)
   have hl := rv.length
   exact wpAny_pyNext_tuple_end (I.ok.hd hc) st (show s.heap.IsTuple a its.toArray from p) (by simp; lia) fun h' eb => ⟨rfl, I.turned (t' := s.toks) (fun b o hb e => eb b o hb e) f0 f1 f3 f4 f5⟩
 self := fun _ _ _ _ _ st h => wpAny_pyIter_tupleiter st h
theorem turn_range {P : Program} {w : World} {K : PySem.W.Frag} {tg : Expr} (it : Addr) (lo : Int) (n : Nat) : Turn P w K tg (Itr lo n) [it] it (fun i h => IsRangeIter h it (lo + (i : Nat) * 1) ((n : Int) - (i : Nat)) 1) where
 mem := by simp
 obj := fun i h st b hb => by
   have e : b = it := by simpa using hb
   subst e
   exact ⟨_, st, fun v z => by
     have z' : Data.fields _ = Data.cell v := z
     cases z'⟩
 keep := fun i h h' st k => k it (by simp) _ st
 item := by
   intro X hP hw hK hc i pins s σ H E I hf st hg
   subst hP hw hK
   obtain ⟨f0, f1, f2, f3, f4, f5⟩ := hf it (by simp)
   have W := Walks.range (prog := X.prog) (w := X.w) (I.ok.hd hc) it lo 1 n
   refine W.item i s _ _ hg st fun v h' tk hv st' kk => ?_
   obtain ⟨t, rfl⟩ := hv
   have I1 : Inv X pins σ H { s with heap := h', toks := tk } := I.turned (fun b o hb e => kk b o (by simpa using hb) e) f0 f1 f3 f4 f5
   refine ⟨_, rfl, go_of (s := { s with heap := h', toks := tk }) (n := "range_iterator") st' rfl rfl (by decide) ⟨.int (lo + i), H, I1, ⟨t, ?_⟩, ⟨rfl, rfl⟩, st', fun b hb => (hf b hb).1⟩⟩
   rw [Int.mul_one]
 done := by
   intro X hP hw hK hc i pins s σ H E I hf st hg
   subst hP hw hK
   obtain ⟨f0, f1, f2, f3, f4, f5⟩ := hf it (by simp)
   exact wpAny_pyNext_range_end (I.ok.hd hc) st (by have : n <= i := hg; lia) fun h' eb => ⟨rfl, I.turned (t' := s.toks) (fun b o hb e => eb b o hb e) f0 f1 f3 f4 f5⟩
 self := fun _ _ _ _ _ st h => wpAny_pyIter_rangeiter st h
end L2
namespace L2
open PySem PySem.Spec PyProof.Rows
section
variable {X : Cx} {tg : Expr}
noncomputable def iList (K : PySem.W.Frag) (tl : TE) : TI := fun σ H R => tl σ H fun x H1 => ∃ a, x = .ref a /\ (∃ xs, SqL K H1 a xs) /\ R (Itl K a) H1
noncomputable def iTup (K : PySem.W.Frag) (tl : TE) : TI := fun σ H R => tl σ H fun x H1 => ∃ a, x = .ref a /\ (∃ xs, SqT K H1 a xs) /\ R (Itt K a) H1
theorem pi_list {l : Expr} {tl : TE} (hl : PE X l tl) : PI X tg l (iList X.K tl) := by
 intro pins s σ H R I h
 refine thn (hl pins s σ H _ I h) fun v s1 z => z.elim fun x z => z.elim fun H1 z => z.elim fun I1 z => z.elim fun r1 q1 => ?_
 obtain ⟨a, e, ⟨xs, hq⟩, q⟩ := q1
 subst e
 cases r1
 obtain ⟨its, rv, p, hz⟩ := I1.list hq
 refine wpAny_pyIter_list p.isList ?_
 refine ⟨s1.heap.objs.size, [s1.heap.objs.size], _, _, H1, rfl, I1.kept (t' := s1.toks) fun b o e => Heap.get?_push_of_some _ e, turn_list a _, ⟨_, Heap.get?_push_size _ rfl, rfl, rfl⟩, fun b hb => ?_, q⟩
 have e : b = s1.heap.objs.size := by simpa using hb
 subst e
 exact I1.fpOk (Nat.le_refl _) (I1.hok.fresh (Nat.le_refl _))
theorem pi_tup {l : Expr} {tl : TE} (hl : PE X l tl) : PI X tg l (iTup X.K tl) := by
 intro pins s σ H R I h
 refine thn (hl pins s σ H _ I h) fun v s1 z => z.elim fun x z => z.elim fun H1 z => z.elim fun I1 z => z.elim fun r1 q1 => ?_
 obtain ⟨a, e, ⟨xs, hq⟩, q⟩ := q1
 subst e
 cases r1
 obtain ⟨its, rv, p, hz⟩ := I1.tuple hq
 refine wpAny_pyIter_tuple (show s1.heap.IsTuple a its.toArray from p) ?_
 refine ⟨s1.heap.objs.size, [s1.heap.objs.size], _, _, H1, rfl, I1.kept (t' := s1.toks) fun b o e => Heap.get?_push_of_some _ e, turn_tuple a _, ⟨_, Heap.get?_push_size _ rfl, rfl, rfl⟩, fun b hb => ?_, q⟩
 have e : b = s1.heap.objs.size := by simpa using hb
 subst e
 exact I1.fpOk (Nat.le_refl _) (I1.hok.fresh (Nat.le_refl _))
theorem range_it {pins : List (Addr × Obj)} {σ : St} {H : Hp} {s : Shared} {R : It -> Hp -> Prop} {E : Value -> Shared -> Prop} {lo hi : Int} {t u v : Tok} {tk : Nat} (I : Inv X pins σ H s) (h1 : -(2 ^ 62) <= lo) (h2 : lo < 2 ^ 62) (h3 : -(2 ^ 62) <= hi) (h4 : hi < 2 ^ 62)
   (q : R (Itr lo (hi - lo).toNat) H) : wpAny (model X.prog X.w) X.A (pyIter (.ref s.heap.objs.size)) (PIE X pins σ tg R) E { s with heap := s.heap.push { cls := .type "range", data := .fields #[.int lo t, .int hi u, .int 1 v] }, toks := tk } := by
 refine wpAny_pyIter_range (IsRange.new ..) (small_one h1 h2 h3 h4) ?_
 have I1 : Inv X pins σ H { s with heap := s.heap.push { cls := .type "range", data := .fields #[.int lo t, .int hi u, .int 1 v] }, toks := tk } := I.kept fun b o e => Heap.get?_push_of_some _ e
 refine ⟨(s.heap.push { cls := .type "range", data := .fields #[.int lo t, .int hi u, .int 1 v] }).objs.size, [(s.heap.push { cls := .type "range", data := .fields #[.int lo t, .int hi u, .int 1 v] }).objs.size], _, _, H, rfl,
   I1.kept (t' := tk) fun b o e => Heap.get?_push_of_some _ e, turn_range _ lo (hi - lo).toNat, ?_, fun b hb => ?_, q⟩
 · have e1 : lo + ((0 : Nat) : Int) * 1 = lo := by simp
   have e2 : (((hi - lo).toNat : Nat) : Int) - ((0 : Nat) : Int) = Builtin.Range.rangeSize lo hi 1 := by rw [rangeSize_one]; split <;> lia
   show IsRangeIter _ _ (lo + ((0 : Nat) : Int) * 1) ((((hi - lo).toNat : Nat) : Int) - ((0 : Nat) : Int)) 1
   rw [e1, e2]
   exact Heap.get?_push_size _ rfl
 · have e : b = (s.heap.push { cls := .type "range", data := .fields #[.int lo t, .int hi u, .int 1 v] }).objs.size := by simpa using hb
   subst e
   exact I1.fpOk (Nat.le_refl _) (I1.hok.fresh (Nat.le_refl _))
noncomputable def iRng1 (ta : TA) : TI := fun σ H R => ta σ H fun vs H1 => ∃ j : Int, vs = [.int j] /\ -(2 ^ 62) <= j /\ j < 2 ^ 62 /\ R (Itr 0 j.toNat) H1
theorem pi_range1 {a : Expr} {ta : TA} {p pos : Pos} (hg : Gl X "range") (hm : X.mg "range" = none) (ha : PA X [a] ta) (hs : starEach [a] X.env = [(false, eval a X.env)] := by rfl) : PI X tg (.Call (.Name "range" p) [a] [] pos) (iRng1 ta) := by
 intro pins s σ H R I h
 refine Call_ (ld_blt I hg hm boot_range (PyProof.Rows.callWith_type1 (thn (ha pos pins s σ H _ I h) fun us s1 z => z.elim fun vs z => z.elim fun H1 z => z.elim fun I1 z => z.elim fun r1 q1 => ?_) hs rfl))
 obtain ⟨j, e, q1, q2, q⟩ := q1
 subst e
 cases r1 with
 | cons r rr =>
   cases rr
   obtain ⟨t, rfl⟩ := r
   exact call_range_1 (range_it I1 (by lia) (by lia) q1 q2 (by simpa using q))
noncomputable def tFor (wi : TI) (g : TG) (tb : TS) : TS := fun D σ H => wi σ H fun J H1 => ∃ W : Nat -> Nat -> St -> Hp -> Prop, (∃ m, W 0 m σ H1) /\ ∀ i m σ H, W i m σ H ->
 (J.stop i H /\ D.nx σ H) \/ (J.go i H /\ ∃ N : St -> Hp -> Prop, (∀ σ' H', N σ' H' -> ∃ m', m' < m /\ W (i + 1) m' σ' H') /\ ∀ x H', J.yld i H x H' -> g x σ H' fun σ2 H2 => tb { D with nx := N, ct := N, bk := D.nx } σ2 H2)
noncomputable def pinsAt (fp : List Addr) (h : Heap) : List (Addr × Obj) := fp.filterMap fun b => (h.get? b).map fun o => (b, o)
theorem mem_pinsAt {fp : List Addr} {h : Heap} {b : Addr} {o : Obj} (hb : b ∈ fp) (e : h.get? b = some o) : (b, o) ∈ pinsAt fp h := List.mem_filterMap.mpr ⟨b, hb, by rw [e]; rfl⟩
theorem of_pinsAt {fp : List Addr} {h : Heap} {p : Addr × Obj} (hp : p ∈ pinsAt fp h) : p.1 ∈ fp /\ h.get? p.1 = some p.2 := by
 obtain ⟨b, hb, e⟩ := List.mem_filterMap.mp hp
 cases q : h.get? b with
 | none => rw [q] at e; cases e
 | some o =>
   rw [q] at e
   have e' : (b, o) = p := Option.some.inj e
   subst e'
   exact ⟨hb, q⟩
theorem Inv.pinned {pins : List (Addr × Obj)} {σ : St} {H : Hp} {s : Shared} {fp : List Addr} (I : Inv X pins σ H s) (hf : ∀ b ∈ fp, FpOk X pins H b) (ho : ∀ b ∈ fp, ∃ o, s.heap.get? b = some o /\ ∀ v, o.data ≠ .cell v) : Inv X (pins ++ pinsAt fp s.heap) σ H s :=
 I.pins_of fun p hp => (List.mem_append.mp hp).elim (fun z => I.pin p (List.mem_append_right _ z)) fun z => by
   obtain ⟨hb, e⟩ := of_pinsAt z
   obtain ⟨f0, f1, f2, _⟩ := hf p.1 hb
   obtain ⟨o, e', d⟩ := ho p.1 hb
   rw [e] at e'; cases e'
   exact ⟨e, f0, f1, f2, d⟩
theorem Inv.unpinned {pins pl : List (Addr × Obj)} {σ : St} {H : Hp} {s : Shared} (I : Inv X (pins ++ pl) σ H s) : Inv X pins σ H s := I.pins_of fun p hp => I.pin p (List.mem_append_right _ (List.mem_append_left _ hp))
theorem ps_for {iter : Expr} {body : List Stmt} {wi : TI} {g : TG} {tb : TS} {pos : Pos} (hp : PassesOwn (model X.prog X.w) X.A X.env X.xe) (hc : X.calm = true) (hi : PI X tg iter wi) (hg : PG X tg g) (hb : PSs X body tb)
   (hs : ∀ x, foldedSetIterable iter X.env x = pure x := by intro _; rfl) : PS X (.For tg iter body [] pos) (tFor wi g tb) := by
 intro pins s σ H D I h
 refine wpAny_For (thn (hi pins s σ H _ I h) fun v s1 h1 => thn h1 fun itv s2 h2 => ?_) hs
 obtain ⟨it, fp, tn, J, H2, e, I2, T, st2, f2, W, ⟨m0, w0⟩, turn⟩ := h2
 subst e
 have stat : ∀ {H' : Hp}, (∀ b ∈ fp, H' b = none) -> ∀ b ∈ fp, FpOk X pins H' b := fun hn b hb => ⟨hn b hb, (f2 b hb).2⟩
 refine codeAny_forLoop_any (fun n s' => ∃ i σ' H', Inv X pins σ' H' s' /\ tn i s'.heap /\ (∀ b ∈ fp, H' b = none) /\ W i n σ' H') ?_ m0 ⟨0, σ, H2, I2, st2, fun b hb => (f2 b hb).1, w0⟩
 rintro n s3 ⟨i, σ3, H3, I3, st3, fr3, w3⟩
 rcases turn i n σ3 H3 w3 with ⟨stop, qn⟩ | ⟨go, N, hN, step⟩
 · refine wpAny_passesOwn hp (thn (T.done X rfl rfl rfl hc i pins s3 σ3 H3 X.xe I3 (stat fr3) st3 stop) fun r s4 z => z.elim fun hr I4 => ?_)
   subst hr
   exact wpAny_execs_nil ⟨σ3, H3, I4, qn⟩
 · refine wpAny_passesOwn hp (thn (T.item X rfl rfl rfl hc i pins s3 σ3 H3 X.xe I3 (stat fr3) st3 go) fun r s4 z => z.elim fun u z => z.elim fun hr h4 => ?_)
   subst hr
   refine wpAny_passesOwn hp (thn h4 fun _ s5 z => z.elim fun x z => z.elim fun H5 z => z.elim fun I5 z => z.elim fun r5 z => z.elim fun y5 z => z.elim fun st5 fr5 => ?_)
   have I5' := I5.pinned (stat fr5) (T.obj _ _ st5)
   refine wpAny_passesOwn hp (thn (hg _ s5 σ3 H5 x u _ I5' r5 (step x H5 y5)) fun _ s6 z => z.elim fun σ6 z => z.elim fun H6 z => z.elim fun I6 q6 => ?_)
   refine wpAny_passesOwn hp (thn (hb _ s6 σ6 H6 _ I6 q6) fun f s7 q7 => ?_)
   have again : ∀ {σ7 : St} {H7 : Hp}, Inv X (pins ++ pinsAt fp s5.heap) σ7 H7 s7 -> N σ7 H7 -> ∃ m, m < n /\ ∃ i σ' H', Inv X pins σ' H' s7 /\ tn i s7.heap /\ (∀ b ∈ fp, H' b = none) /\ W i m σ' H' := fun {σ7 H7} I7 n7 => by
     obtain ⟨m', hm, w7⟩ := hN σ7 H7 n7
     refine ⟨m', hm, i + 1, σ7, H7, I7.unpinned, T.keep _ _ _ st5 fun b hb o e => (I7.pin (b, o) (List.mem_append_right _ (List.mem_append_right _ (mem_pinsAt hb e)))).1, fun b hb => ?_, w7⟩
     obtain ⟨o, e, d⟩ := T.obj _ _ st5 b hb
     exact (I7.pin (b, o) (List.mem_append_right _ (List.mem_append_right _ (mem_pinsAt hb e)))).2.1
   cases f with
   | next => obtain ⟨σ7, H7, I7, n7⟩ := q7; exact again I7 n7
   | cont => obtain ⟨σ7, H7, I7, n7⟩ := q7; exact again I7 n7
   | brk => obtain ⟨σ7, H7, I7, q7⟩ := q7; exact ⟨σ7, H7, I7.unpinned, q7⟩
   | ret v => obtain ⟨x7, σ7, H7, I7, r7, q7⟩ := q7; exact ⟨x7, σ7, H7, I7.unpinned, r7, q7⟩
end
end L2
namespace L2
open PySem PySem.Spec PyProof.Rows
noncomputable abbrev R2 := V -> V -> Hp -> VK -> Prop
noncomputable def OpR (X : Cx) (f : Value -> Value -> Sem Value) (r : R2) : Prop :=
 ∀ (pins : List (Addr × Obj)) (s : Shared) (σ : St) (H : Hp) (x y : V) (v u : Value) (Q : VK), Inv X pins σ H s -> RelV x v -> RelV y u -> r x y H Q ->
   wpAny (model X.prog X.w) X.A (f v u) (EP X pins σ Q) X.xe s
noncomputable def UnR (X : Cx) (f : Value -> Sem Value) (r : V -> Hp -> VK -> Prop) : Prop :=
 ∀ (pins : List (Addr × Obj)) (s : Shared) (σ : St) (H : Hp) (x : V) (v : Value) (Q : VK), Inv X pins σ H s -> RelV x v -> r x H Q ->
   wpAny (model X.prog X.w) X.A (f v) (EP X pins σ Q) X.xe s
noncomputable def CallR (X : Cx) (f : Value) (r : List V -> Hp -> VK -> Prop) : Prop :=
 ∀ (pins : List (Addr × Obj)) (s : Shared) (σ : St) (H : Hp) (xs : List V) (us : List Value) (Q : VK), Inv X pins σ H s -> Vals xs us -> r xs H Q ->
   wpAny (model X.prog X.w) X.A (call f us) (EP X pins σ Q) X.xe s
noncomputable def tOp (r : R2) (ta tb : TE) : TE := fun σ H Q => ta σ H fun x H1 => tb σ H1 fun y H2 => r x y H2 Q
noncomputable def tUn (r : V -> Hp -> VK -> Prop) (ta : TE) : TE := fun σ H Q => ta σ H fun x H1 => r x H1 Q
noncomputable def rI (C : Int -> Int -> Prop) (g : Int -> Int -> V) : R2 := fun x y H Q => ∃ i j, x = .int i /\ y = .int j /\ C i j /\ Q (g i j) H
noncomputable def rI0 (g : Int -> Int -> V) : R2 := fun x y H Q => ∃ i j, x = .int i /\ y = .int j /\ Q (g i j) H
noncomputable def rU (g : Int -> V) : V -> Hp -> VK -> Prop := fun x H Q => ∃ i, x = .int i /\ Q (g i) H
section
variable {X : Cx} {a b c : Expr} {ta tb tc : TE} {pos : Pos}
theorem binT (ha : PE X a ta) (hb : PE X b tb) {pins : List (Addr × Obj)} {s : Shared} {σ : St} {H : Hp} {R : V -> V -> Hp -> Prop} (I : Inv X pins σ H s)
   (h : ta σ H fun x H1 => tb σ H1 fun y H2 => R x y H2) {Q : Value -> Shared -> Prop} {f : Value -> Value -> Sem Value}
   (hf : ∀ v u s2 x y H2, Inv X pins σ H2 s2 -> RelV x v -> RelV y u -> R x y H2 -> wpAny (model X.prog X.w) X.A (f v u) Q X.xe s2) :
   wpAny (model X.prog X.w) X.A (eval a X.env) (fun v s₁ => wpAny (model X.prog X.w) X.A (eval b X.env) (fun u s₂ => wpAny (model X.prog X.w) X.A (f v u) Q X.xe s₂) X.xe s₁) X.xe s := by
 refine thn (ha pins s σ H _ I h) fun v s1 z => z.elim fun x z => z.elim fun H1 z => z.elim fun I1 z => z.elim fun r1 q1 => ?_
 refine thn (hb pins s1 σ H1 _ I1 q1) fun u s2 z => z.elim fun y z => z.elim fun H2 z => z.elim fun I2 z => z.elim fun r2 q2 => ?_
 exact hf v u s2 x y H2 I2 r1 r2 q2
theorem pe_op {op : Operator} {r : R2} (ho : OpR X (binaryOp op) r) (ha : PE X a ta) (hb : PE X b tb) : PE X (.BinOp a op b pos) (tOp r ta tb) := by
 intro pins s σ H Q I h
 exact wpAny_BinOp (binT ha hb I h fun v u s2 x y H2 I2 rx ry q => ho pins s2 σ H2 x y v u Q I2 rx ry q)
theorem pe_un {op : UnaryOp} {r : V -> Hp -> VK -> Prop} (ho : UnR X (unaryOp op) r) (ha : PE X a ta) : PE X (.UnaryOp op a pos) (tUn r ta) := by
 intro pins s σ H Q I h
 exact UnaryOp_ (thn (ha pins s σ H _ I h) fun v s1 z => z.elim fun x z => z.elim fun H1 z => z.elim fun I1 z => z.elim fun r1 q1 => ho pins s1 σ H1 x v Q I1 r1 q1)
theorem opI {f : Value -> Value -> Sem Value} {C : Int -> Int -> Prop} {g : Int -> Int -> Int}
   (rule : ∀ (i j : Int) (t u : Tok) (s : Shared) (Q : Value -> Shared -> Prop) (E : Value -> Shared -> Prop), C i j -> Q (.int (g i j) s.toks) { s with toks := s.toks + 1 } -> wpAny (model X.prog X.w) X.A (f (.int i t) (.int j u)) Q E s) :
   OpR X f (rI C fun i j => .int (g i j)) := by
 intro pins s σ H x y v u Q I rx ry h
 obtain ⟨i, j, rfl, rfl, hc, q⟩ := h
 obtain ⟨t, rfl⟩ := rx
 obtain ⟨t', rfl⟩ := ry
 exact rule i j t t' s _ _ hc ⟨.int (g i j), H, I.tok _, ⟨_, rfl⟩, q⟩
theorem opI0 {f : Value -> Value -> Sem Value} {g : Int -> Int -> Int}
   (rule : ∀ (i j : Int) (t u : Tok) (s : Shared) (Q : Value -> Shared -> Prop) (E : Value -> Shared -> Prop), Q (.int (g i j) s.toks) { s with toks := s.toks + 1 } -> wpAny (model X.prog X.w) X.A (f (.int i t) (.int j u)) Q E s) :
   OpR X f (rI0 fun i j => .int (g i j)) := by
 intro pins s σ H x y v u Q I rx ry h
 obtain ⟨i, j, rfl, rfl, q⟩ := h
 obtain ⟨t, rfl⟩ := rx
 obtain ⟨t', rfl⟩ := ry
 exact rule i j t t' s _ _ ⟨.int (g i j), H, I.tok _, ⟨_, rfl⟩, q⟩
theorem opB0 {f : Value -> Value -> Sem Value} {g : Int -> Int -> Bool}
   (rule : ∀ (i j : Int) (t u : Tok) (s : Shared) (Q : Value -> Shared -> Prop) (E : Value -> Shared -> Prop), Q (.bool (g i j)) s -> wpAny (model X.prog X.w) X.A (f (.int i t) (.int j u)) Q E s) :
   OpR X f (rI0 fun i j => .bl (g i j)) := by
 intro pins s σ H x y v u Q I rx ry h
 obtain ⟨i, j, rfl, rfl, q⟩ := h
 obtain ⟨t, rfl⟩ := rx
 obtain ⟨t', rfl⟩ := ry
 exact rule i j t t' s _ _ ⟨.bl (g i j), H, I, rfl, q⟩
noncomputable def CDiv (i j : Int) : Prop := 0 < j /\ j < 1073741824
noncomputable def CPow (i j : Int) : Prop := 0 <= j /\ j <= 1000000 /\ i.natAbs < 2 ^ 64
noncomputable def CMul (i j : Int) : Prop := (-(2 ^ 64) < i /\ i < 2 ^ 64) \/ (-(2 ^ 64) < j /\ j < 2 ^ 64)
theorem CMul.ok {i j : Int} (h : CMul i j) : IntMulOk i j := by
 rcases h with ⟨h1, h2⟩ | ⟨h1, h2⟩
 · exact .of_left (intBits_le_64 h1 h2)
 · exact .of_right (intBits_le_64 h1 h2)
theorem op_add : OpR X (binaryOp .Add) (rI0 fun i j => .int (i + j)) := opI0 fun _ _ _ _ _ _ _ q => add_int q
theorem op_sub : OpR X (binaryOp .Sub) (rI0 fun i j => .int (i - j)) := opI0 fun _ _ _ _ _ _ _ q => sub_int q
theorem op_mul : OpR X (binaryOp .Mult) (rI CMul fun i j => .int (i * j)) := opI fun _ _ _ _ _ _ _ hc q => mul_int q hc.ok
theorem op_fdiv : OpR X (binaryOp .FloorDiv) (rI CDiv fun i j => .int (i / j)) := opI fun i j _ _ _ _ _ hc q => by
 have h1 : (0 : Int) < j := hc.1
 have h2 : j < 1073741824 := hc.2
 exact floordiv_int (by lia) (by rw [Int.fdiv_eq_ediv_of_nonneg i (by lia)]; exact q) (.inl (PyProof.noPylong_small (by lia)))
theorem op_mod : OpR X (binaryOp .Mod) (rI (fun _ j => 0 < j) fun i j => .int (i % j)) := opI fun i j _ _ _ _ _ hc q => by
 have h1 : (0 : Int) < j := hc
 exact mod_int' (by lia) (by rw [Int.fmod_eq_emod_of_nonneg i (by lia)]; exact q)
theorem op_pow : OpR X (binaryOp .Pow) (rI CPow fun i j => .int (i ^ j.toNat)) := opI fun _ _ _ _ _ _ _ hc q => pow_int_small hc.1 hc.2.1 hc.2.2 q
theorem unI {f : Value -> Sem Value} {g : Int -> Int}
   (rule : ∀ (i : Int) (t : Tok) (s : Shared) (Q : Value -> Shared -> Prop) (E : Value -> Shared -> Prop), Q (.int (g i) s.toks) { s with toks := s.toks + 1 } -> wpAny (model X.prog X.w) X.A (f (.int i t)) Q E s) :
   UnR X f (rU fun i => .int (g i)) := by
 intro pins s σ H x v Q I rx h
 obtain ⟨i, rfl, q⟩ := h
 obtain ⟨t, rfl⟩ := rx
 exact rule i t s _ _ ⟨.int (g i), H, I.tok _, ⟨_, rfl⟩, q⟩
theorem un_neg : UnR X (unaryOp .USub) (rU fun i => .int (-i)) := unI fun _ _ _ _ _ q => neg_int q
end
noncomputable def scal : V -> V -> Bool
 | .non, .non => true | .non, .int _ => true | .int _, .non => true | .non, .bl _ => true | .bl _, .non => true | .non, .str _ => true | .str _, .non => true
 | .int _, .int _ => true | .bl _, .bl _ => true | .str _, .str _ => true | .byt _, .byt _ => true
 | .int _, .str _ => true | .str _, .int _ => true | .bl _, .str _ => true | .str _, .bl _ => true
 | _, _ => false
noncomputable def rEq : R2 := fun x y H Q => scal x y = true /\ Q (.bl (decide (x = y))) H
noncomputable def rNe : R2 := fun x y H Q => scal x y = true /\ Q (.bl (!decide (x = y))) H
theorem dec_int {i j : Int} : decide (V.int i = V.int j) = (i == j) := by
 rw [Bool.eq_iff_iff]
 simp
theorem dec_bl {i j : Bool} : decide (V.bl i = V.bl j) = (i == j) := by
 rw [Bool.eq_iff_iff]
 simp
theorem dec_str {i j : Str} : decide (V.str i = V.str j) = (i == j) := by
 rw [Bool.eq_iff_iff]
 simp
theorem dec_byt {i j : Array UInt8} : decide (V.byt i = V.byt j) = (i.toList == j.toList) := by
 rw [Bool.eq_iff_iff]
 cases i
 cases j
 simp
section
variable {X : Cx} {a b c : Expr} {ta tb tc : TE} {pos : Pos}
theorem fin_bl {pins : List (Addr × Obj)} {σ : St} {H : Hp} {s : Shared} {Q : VK} {k k' : Bool} (I : Inv X pins σ H s) (q : Q (.bl k) H) (e : k = k') : EP X pins σ Q (.bool k') s := by
 subst e
 exact ⟨.bl k, H, I, rfl, q⟩
theorem op_eq : OpR X (compareOp .Eq) rEq := by
 intro pins s σ H x y v u Q I rx ry h
 obtain ⟨hs, q⟩ := h
 cases x with
 | non =>
   cases rx
   cases y with
   | non => cases ry; exact PySem.EqNone.eq_none_none (fin_bl I q (by simp))
   | bl j => cases ry; exact PySem.EqNone.eq_none_bool (fin_bl I q (by simp))
   | int j => obtain ⟨t', rfl⟩ := ry; exact PySem.EqNone.eq_none_int (fin_bl I q (by simp))
   | str j => obtain ⟨t', rfl⟩ := ry; exact PySem.EqNone.eq_none_str (fin_bl I q (by simp))
   | _ => exact absurd (show false = true from hs) Bool.false_ne_true
 | bl i =>
   cases rx
   cases y with
   | non => cases ry; exact PySem.EqNone.eq_bool_none (fin_bl I q (by simp))
   | bl j => cases ry; exact eq_bool (fin_bl I q dec_bl)
   | str j => obtain ⟨t', rfl⟩ := ry; exact PySem.EqMixed.eq_bool_str (fin_bl I q (by simp))
   | _ => exact absurd (show false = true from hs) Bool.false_ne_true
 | int i =>
   obtain ⟨t, rfl⟩ := rx
   cases y with
   | non => cases ry; exact PySem.EqNone.eq_int_none (fin_bl I q (by simp))
   | int j => obtain ⟨t', rfl⟩ := ry; exact eq_int (fin_bl I q dec_int)
   | str j => obtain ⟨t', rfl⟩ := ry; exact PySem.EqMixed.eq_int_str (fin_bl I q (by simp))
   | _ => exact absurd (show false = true from hs) Bool.false_ne_true
 | str i =>
   obtain ⟨t, rfl⟩ := rx
   cases y with
   | non => cases ry; exact PySem.EqNone.eq_str_none (fin_bl I q (by simp))
   | bl j => cases ry; exact PySem.EqMixed.eq_str_bool (fin_bl I q (by simp))
   | int j => obtain ⟨t', rfl⟩ := ry; exact PySem.EqMixed.eq_str_int (fin_bl I q (by simp))
   | str j => obtain ⟨t', rfl⟩ := ry; exact eq_str (fin_bl I q dec_str)
   | _ => exact absurd (show false = true from hs) Bool.false_ne_true
 | byt i =>
   obtain ⟨t, rfl⟩ := rx
   cases y with
   | byt j => obtain ⟨t', rfl⟩ := ry; exact PySem.W.eq_bytes (fin_bl I q dec_byt)
   | _ => exact absurd (show false = true from hs) Bool.false_ne_true
 | _ => cases y <;> exact absurd (show false = true from hs) Bool.false_ne_true
theorem op_ne : OpR X (compareOp .NotEq) rNe := by
 intro pins s σ H x y v u Q I rx ry h
 obtain ⟨hs, q⟩ := h
 cases x with
 | non =>
   cases rx
   cases y with
   | non => cases ry; exact PySem.EqNone.ne_none_none (fin_bl I q (by simp))
   | bl j => cases ry; exact PySem.EqNone.ne_none_bool (fin_bl I q (by simp))
   | int j => obtain ⟨t', rfl⟩ := ry; exact PySem.EqNone.ne_none_int (fin_bl I q (by simp))
   | str j => obtain ⟨t', rfl⟩ := ry; exact PySem.EqNone.ne_none_str (fin_bl I q (by simp))
   | _ => exact absurd (show false = true from hs) Bool.false_ne_true
 | bl i =>
   cases rx
   cases y with
   | non => cases ry; exact PySem.EqNone.ne_bool_none (fin_bl I q (by simp))
   | bl j => cases ry; exact ne_bool (fin_bl I q (congrArg not dec_bl))
   | str j => obtain ⟨t', rfl⟩ := ry; exact PySem.EqMixed.ne_bool_str (fin_bl I q (by simp))
   | _ => exact absurd (show false = true from hs) Bool.false_ne_true
 | int i =>
   obtain ⟨t, rfl⟩ := rx
   cases y with
   | non => cases ry; exact PySem.EqNone.ne_int_none (fin_bl I q (by simp))
   | int j => obtain ⟨t', rfl⟩ := ry; exact ne_int (fin_bl I q (congrArg not dec_int))
   | str j => obtain ⟨t', rfl⟩ := ry; exact PySem.EqMixed.ne_int_str (fin_bl I q (by simp))
   | _ => exact absurd (show false = true from hs) Bool.false_ne_true
 | str i =>
   obtain ⟨t, rfl⟩ := rx
   cases y with
   | non => cases ry; exact PySem.EqNone.ne_str_none (fin_bl I q (by simp))
   | bl j => cases ry; exact PySem.EqMixed.ne_str_bool (fin_bl I q (by simp))
   | int j => obtain ⟨t', rfl⟩ := ry; exact PySem.EqMixed.ne_str_int (fin_bl I q (by simp))
   | str j => obtain ⟨t', rfl⟩ := ry; exact ne_str (fin_bl I q (congrArg not dec_str))
   | _ => exact absurd (show false = true from hs) Bool.false_ne_true
 | byt i =>
   obtain ⟨t, rfl⟩ := rx
   cases y with
   | byt j => obtain ⟨t', rfl⟩ := ry; exact PySem.W.ne_bytes (fin_bl I q (congrArg not dec_byt))
   | _ => exact absurd (show false = true from hs) Bool.false_ne_true
 | _ => cases y <;> exact absurd (show false = true from hs) Bool.false_ne_true
theorem op_lt : OpR X (compareOp .Lt) (rI0 fun i j => .bl (decide (i < j))) := opB0 fun _ _ _ _ _ _ _ q => lt_int q
theorem op_le : OpR X (compareOp .LtE) (rI0 fun i j => .bl (decide (i <= j))) := opB0 fun _ _ _ _ _ _ _ q => le_int q
theorem op_gt : OpR X (compareOp .Gt) (rI0 fun i j => .bl (decide (j < i))) := opB0 fun _ _ _ _ _ _ _ q => gt_int q
theorem op_ge : OpR X (compareOp .GtE) (rI0 fun i j => .bl (decide (j <= i))) := opB0 fun _ _ _ _ _ _ _ q => ge_int q
theorem op_isN : OpR X (compareOp .Is) (fun x y H Q => y = .non /\ Q (.bl (decide (x = .non))) H) := by
 intro pins s σ H x y v u Q I rx ry h
 obtain ⟨rfl, q⟩ := h
 cases ry
 refine is_none_gen (fin_bl I q ?_)
 cases x <;> first
   | (cases rx; rfl)
   | (obtain ⟨t, rfl⟩ := rx; rfl)
theorem op_notN : OpR X (compareOp .IsNot) (fun x y H Q => y = .non /\ Q (.bl (!decide (x = .non))) H) := by
 intro pins s σ H x y v u Q I rx ry h
 obtain ⟨rfl, q⟩ := h
 cases ry
 refine isnot_none_gen (fin_bl I q ?_)
 cases x <;> first
   | (cases rx; rfl)
   | (obtain ⟨t, rfl⟩ := rx; rfl)
theorem nomark (b : Expr) {op : CmpOp} (h : op ≠ .In := by decide) (h2 : op ≠ .NotIn := by decide) : behindInMarks op b = false := by
 have e1 : (op == CmpOp.In) = false := by cases op <;> first | rfl | exact absurd rfl h
 have e2 : (op == CmpOp.NotIn) = false := by cases op <;> first | rfl | exact absurd rfl h2
 cases b <;> simp [behindInMarks, e1, e2]
theorem pe_cmpR {op : CmpOp} {r : R2} (ho : OpR X (compareOp op) r) (ha : PE X a ta) (hb : PE X b tb) (hm : behindInMarks op b = false) : PE X (.Compare a [op] [b] pos) (tOp r ta tb) := by
 intro pins s σ H Q I h
 exact wpAny_Compare1 (binT ha hb I h fun v u s2 x y H2 I2 rx ry q => ho pins s2 σ H2 x y v u Q I2 rx ry q) hm
noncomputable def tTest (t : TE) : TT := fun σ H Q => t σ H fun x H' => ∃ k, x = .bl k /\ Q k H'
theorem pt_cmpR {op : CmpOp} {r : R2} (ho : OpR X (compareOp op) r) (ha : PE X a ta) (hb : PE X b tb) (hm : behindInMarks op b = false) : PT X (.Compare a [op] [b] pos) (tTest (tOp r ta tb)) := by
 intro pins s σ H Q I h
 refine wpAny_isTrue_Compare1 (thn (ha pins s σ H _ I h) fun v s1 z => z.elim fun x z => z.elim fun H1 z => z.elim fun I1 z => z.elim fun r1 q1 => thn (hb pins s1 σ H1 _ I1 q1) fun u s2 z => z.elim fun y z => z.elim fun H2 z => z.elim fun I2 z => z.elim fun r2 q2 =>
   thn (ho pins s2 σ H2 x y v u _ I2 r1 r2 q2) fun c s3 z => z.elim fun z z => z.elim fun H3 z => z.elim fun I3 z => z.elim fun r3 z => z.elim fun k z => z.elim fun e q3 => ?_) hm
 subst e
 cases r3
 exact wpAny_truthy_bool ⟨H3, I3, q3⟩
noncomputable def tChain (r r' : R2) (ta tb tc : TE) : TE := fun σ H Q => ta σ H fun x H1 => tb σ H1 fun y H2 => r x y H2 fun z H3 => ∃ k, z = .bl k /\
 (if k = true then tc σ H3 fun w' H4 => r' y w' H4 Q else Q (.bl false) H3)
theorem pt_chain {op op' : CmpOp} {r r' : R2} (ho : OpR X (compareOp op) r) (ho' : OpR X (compareOp op') r') (ha : PE X a ta) (hb : PE X b tb) (hc : PE X c tc)
   (hm : lastMarks [op, op'] [b, c] = false := by with_unfolding_all rfl) : PT X (.Compare a [op, op'] [b, c] pos) (tTest (tChain r r' ta tb tc)) := by
 intro pins s σ H Q I h
 refine isTrue_chain (thn (ha pins s σ H _ I h) fun v s1 z => z.elim fun x z => z.elim fun H1 z => z.elim fun I1 z => z.elim fun r1 q1 => test_link (thn (hb pins s1 σ H1 _ I1 q1) fun u s2 z => z.elim fun y z => z.elim fun H2 z => z.elim fun I2 z => z.elim fun r2 q2 =>
   thn (ho pins s2 σ H2 x y v u _ I2 r1 r2 q2) fun d s3 z => z.elim fun z z => z.elim fun H3 z => z.elim fun I3 z => z.elim fun r3 z => z.elim fun k z => z.elim fun e q3 => ?_)) hm
 subst e
 cases r3
 refine wpAny_truthy_bool ?_
 cases k with
 | false =>
   obtain ⟨k', e', q'⟩ := q3
   cases e'
   exact ite_ff ⟨H3, I3, q'⟩
 | true =>
   refine ite_tt (test_last (thn (hc pins s3 σ H3 _ I3 q3) fun w' s4 ⟨z', H4, I4, r4, q4⟩ => thn (ho' pins s4 σ H4 y z' u w' _ I4 r2 r4 q4) fun d' s5 ⟨z2, H5, I5, r5, k2, e2, q5⟩ => ?_))
   subst e2
   cases r5
   exact wpAny_truthy_bool ⟨H5, I5, q5⟩
theorem line63 : (sizeLine : Nat) < 2 ^ 63 := by rw [sizeLine_eq]; decide
theorem vals1 {x : V} {us : List Value} (r : Vals [x] us) : ∃ u, us = [u] /\ RelV x u := by
 cases r with
 | cons r1 r2 => cases r2; exact ⟨_, rfl, r1⟩
theorem vals2 {x y : V} {us : List Value} (r : Vals [x, y] us) : ∃ u w', us = [u, w'] /\ RelV x u /\ RelV y w' := by
 cases r with
 | cons r1 r2 =>
   cases r2 with
   | cons r3 r4 => cases r4; exact ⟨_, _, rfl, r1, r3⟩
theorem call_abs : CallR X (.builtin "abs") (fun xs H Q => ∃ i, xs = [.int i] /\ Q (.int (if i < 0 then -i else i)) H) := by
 intro pins s σ H xs us Q I r h
 obtain ⟨i, rfl, q⟩ := h
 obtain ⟨u, rfl, t, rfl⟩ := vals1 r
 exact call_abs_int fun u tk => ⟨.int (if i < 0 then -i else i), H, I.tok _, ⟨_, rfl⟩, q⟩
theorem call_max2 (hc : X.calm = true) : CallR X (.builtin "max") (fun xs H Q => ∃ i j, xs = [.int i, .int j] /\ Q (.int (if j > i then j else i)) H) := by
 intro pins s σ H xs us Q I r h
 obtain ⟨i, j, rfl, q⟩ := h
 obtain ⟨u, w', rfl, ⟨t, rfl⟩, ⟨t', rfl⟩⟩ := vals2 r
 refine max_two_ints (I.ok.hd hc) fun h' tk k => ⟨_, H, I.kept k, ?_, q⟩
 by_cases hj : j > i
 · rw [if_pos hj, if_pos hj]; exact ⟨_, rfl⟩
 · rw [if_neg hj, if_neg hj]; exact ⟨_, rfl⟩
end
end L2
namespace L2
open PySem PySem.Spec PyProof.Rows
structure ObjM (h : Heap) (x dx C : Addr) (mA : Str -> Option Value) : Prop where
 obj : h.get? x = some (PySem.W.instObj C dx)
 ns : h.Ns1 dx mA
 ne : dx ≠ x
theorem lookIn_ns {h : Heap} {dx : Addr} {mA : Str -> Option Value} (n : h.Ns1 dx mA) : ∃ od, h.get? dx = some od /\ ∀ name, PySem.W.lookIn name od = some (mA name) := by
 obtain ⟨o, es, ep, ho, hd, hk, _, hm⟩ := n
 refine ⟨o, ho, fun name => ?_⟩
 have e := hm name
 unfold nsFind findBy at e
 rw [<- Array.find?_toList] at e
 unfold PySem.W.lookIn
 rw [hd]
 dsimp only
 split
 · rename_i y q
   rw [q] at e
   exact congrArg some e
 · rename_i q
   rw [q] at e
   have a : es.toList.any (·.refKey) = false := by
     rw [List.any_eq_false]
     intro y hy
     obtain ⟨z, t, hkey⟩ := hk y (Array.mem_toList_iff.mp hy)
     simp [DictEntry.refKey, hkey]
   have a' : ¬ es.toList.any (·.refKey) = true := by rw [a]; exact Bool.false_ne_true
   rw [if_neg a']
   exact congrArg some e
theorem ObjM.look {h : Heap} {x dx C : Addr} {mA : Str -> Option Value} (I : ObjM h x dx C mA) : ∃ od, PySem.W.InstAt h x (PySem.W.instObj C dx) C (some od) /\ ∀ name, PySem.W.lookIn name od = some (mA name) :=
 let ⟨od, ho, hl⟩ := lookIn_ns I.ns
 ⟨od, ⟨I.obj, rfl, rfl, ho⟩, hl⟩
theorem RelO.some_of {v : V} {o : Option Value} (r : RelO (some v) o) : ∃ u, o = some u /\ RelV v u := by
 cases o with
 | none => exact (show False from r).elim
 | some u => exact ⟨u, rfl, r⟩
section
variable {P : Program} {w : World} {H H' : Hp} {h h' : Heap} {a C dx : Addr} {fs fs' : List (Str × V)}
theorem ins_get (hok : HOk P w H h) (e : H a = some (.ins C dx fs)) : ∃ mA, ObjM h a dx C mA /\ (∀ f, RelO (fs.lookup f) (mA f)) /\ PySem.Within mA (fs.map (·.1)) /\ fs.length <= 1000 /\ H dx = some (.own a) := by
 obtain ⟨d, z, ne, ob, mA, n, r, q⟩ := (show ObjOk P w H h a (.ins C dx fs) from hok a _ e)
 exact ⟨mA, ⟨ob, n, ne⟩, r, q, z, d⟩
end
structure Cls (K : PySem.W.Frag) (C : Addr) : Prop where
 pg : PySem.W.plainGet K C Str.empty = true
 hd : PySem.W.hasDictIn K C = true
 po : PySem.W.plainOver K C = true
 sa : PySem.W.findIn K (.ref C) "__setattr__" = some (some (.builtin "object.__setattr__"))
theorem Cls.get {K : PySem.W.Frag} {C : Addr} (c : Cls K C) (f : Str) : PySem.W.plainGet K C f = true := c.pg
section
variable {X : Cx} {pins : List (Addr × Obj)} {σ : St} {H : Hp} {s : Shared} {A : Around} {E : Value -> Shared -> Prop} {Q : Value -> Shared -> Prop} {c : Value} {b : Bool}
inductive TyOf (K : PySem.W.Frag) (H : Hp) : V -> Value -> Prop where
 | non : TyOf K H .non (.type "NoneType")
 | bl (x : Bool) : TyOf K H (.bl x) (.type "bool")
 | int (i : Int) : TyOf K H (.int i) (.type "int")
 | str (x : Str) : TyOf K H (.str x) (.type "str")
 | flt (x : UInt64) : TyOf K H (.flt x) (.type "float")
 | lst {a : Addr} {xs : List V} (e : H a = some (.lst xs)) : TyOf K H (.ref a) (.type "list")
 | frz {a : Addr} {o : Obj} {xs : List V} (e : H a = some (.frz o (.lst xs))) : TyOf K H (.ref a) (.type "list")
 | tup {a : Addr} {xs : List V} (e : H a = some (.tup xs)) : TyOf K H (.ref a) (.type "tuple")
 | dK {a : Addr} {kvs : List (Key × V)} (e : H a = some (.dK kvs)) : TyOf K H (.ref a) (.type "dict")
 | dT {a : Addr} {kvs : List (List Key × V)} (e : H a = some (.dT kvs)) : TyOf K H (.ref a) (.type "dict")
 | ins {a C dx : Addr} {fs : List (Str × V)} (e : H a = some (.ins C dx fs)) (cl : Cls K C) (ha : PySem.W.findIn K (.ref C) "__class__" = some (some (.builtin "object.__class__")))
     (hn : PySem.W.specialIn K (.builtin "object.__class__") "__get__" = some (some (.builtin "getset_descriptor.__get__"))) (htk : PySem.W.takesIn K (.builtin "object.__class__") = some true)
     (hm : PySem.W.mroIn K C (.type "object") = some true) : TyOf K H (.ref a) (.ref C)
theorem isinst_ok {x : V} {u t : Value} (I : Inv X pins σ H s) (rx : RelV x u) (ty : TyOf X.K H x t) (e : PySem.W.kitOne X.K t c = some b) (h : ∀ tk, Q (.bool b) { s with toks := tk }) :
   wpAny (model X.prog X.w) A (call (.builtin "isinstance") [u, c]) Q E s := by
 cases ty with
 | non => cases (show u = Value.none from rx); exact PySem.W.kia_one PySem.W.kitx_none I.kIn True.intro e (fun z => nomatch z) h
 | bl y => cases (show u = Value.bool y from rx); exact PySem.W.kia_one PySem.W.kitx_bool I.kIn True.intro e (fun z => nomatch z) h
 | int i => obtain ⟨t, q⟩ := (show ∃ t, u = Value.int i t from rx); cases q; exact PySem.W.kia_one PySem.W.kitx_int I.kIn True.intro e (fun z => nomatch z) h
 | str y => obtain ⟨t, q⟩ := (show ∃ t, u = Value.str y t from rx); cases q; exact PySem.W.kia_one PySem.W.kitx_str I.kIn True.intro e (fun z => nomatch z) h
 | flt y => obtain ⟨t, q⟩ := (show ∃ t, u = Value.float y t from rx); cases q; exact PySem.W.kia_one PySem.W.kitx_float I.kIn True.intro e (fun z => nomatch z) h
 | @lst a xs ea =>
   cases (show u = Value.ref a from rx)
   obtain ⟨_, _, n, _, h1⟩ := (show ObjOk X.prog X.w H s.heap a (.lst xs) from I.hok a _ ea)
   exact PySem.W.kia_one PySem.W.kitx_list I.kIn ⟨_, h1, rfl⟩ e (fun z => nomatch z) h
 | @frz a ob xs ea =>
   cases (show u = Value.ref a from rx)
   obtain ⟨_, _, _, n, _, h1⟩ := (show ObjOk X.prog X.w H s.heap a (.frz ob (.lst xs)) from I.hok a _ ea)
   exact PySem.W.kia_one PySem.W.kitx_list I.kIn ⟨_, h1, rfl⟩ e (fun z => nomatch z) h
 | @tup a xs ea =>
   cases (show u = Value.ref a from rx)
   obtain ⟨_, _, _, p⟩ := (show ObjOk X.prog X.w H s.heap a (.tup xs) from I.hok a _ ea)
   obtain ⟨o, h1, h2, _⟩ := p
   exact PySem.W.kia_one PySem.W.kitx_tuple I.kIn ⟨o, h1, h2⟩ e (fun z => nomatch z) h
 | @dK a kvs ea =>
   cases (show u = Value.ref a from rx)
   obtain ⟨_, _, vs, _, p⟩ := (show ObjOk X.prog X.w H s.heap a (.dK kvs) from I.hok a _ ea)
   obtain ⟨o, es, ep, h1, h2, _⟩ := p
   exact PySem.W.kia_one PySem.W.kitx_dict I.kIn ⟨o, h1, h2.1⟩ e (fun z => nomatch z) h
 | @dT a kvs ea =>
   cases (show u = Value.ref a from rx)
   obtain ⟨_, _, xs, _, o, es, ep, h1, h2, _⟩ := (show ObjOk X.prog X.w H s.heap a (.dT kvs) from I.hok a _ ea)
   exact PySem.W.kia_one PySem.W.kitx_dict I.kIn ⟨o, h1, h2.1⟩ e (fun z => nomatch z) h
 | @ins a C dx fs ea cl ha hn htk hm =>
   cases (show u = Value.ref a from rx)
   obtain ⟨mA, O, _⟩ := ins_get I.hok ea
   obtain ⟨od, J, _⟩ := O.look
   exact PySem.W.kia_one (PySem.W.kitx_own (cl.get _) cl.hd ha hn htk hm) I.kIn J e (fun z => nomatch z) h
end
end L2
namespace L2
open PySem PySem.Spec PyProof.Rows
structure Room (k : Nat) (A : Around) : Prop where
 hd : A.handled = none
 dp : A.depth + 3 * k + 5 < recursionLimit
 un : A.units + 16 * k + 200 < cLine
theorem Room.mono {j k : Nat} {A : Around} (r : Room k A) (h : j <= k) : Room j A := ⟨r.hd, by have := r.dp; lia, by have := r.un; lia⟩
theorem Room.deeper {k : Nat} {A : Around} (r : Room (k + 1) A) (env : Env) : Room k (A.deeper env) :=
 ⟨r.hd, by have := r.dp; show A.depth + 1 + 3 * k + 5 < _; lia, by have := r.un; show A.units + 3 + 16 * k + 200 < _; lia⟩
theorem Room.depth {k : Nat} {A : Around} (r : Room k A) : A.depth < recursionLimit := by have := r.dp; lia
theorem Room.units {k : Nat} {A : Around} (r : Room k A) : A.units + 64 < cLine := by have := r.un; lia
noncomputable def tNil : TA := fun _ H Q => Q [] H
noncomputable def tCons (ta : TE) (tr : TA) : TA := fun σ H Q => ta σ H fun x H1 => tr σ H1 fun xs H2 => Q (x :: xs) H2
section
variable {X : Cx} {e : Expr} {es : List Expr} {te : TE} {t : TA} {pos : Pos}
theorem pa_nil : PA X [] tNil := fun _ _ _ _ H Q I h => Calls.spliced_nil ⟨[], H, I, .nil, h⟩
theorem pa_cons (ha : PE X e te) (hr : PA X es t) (hs : starEach (e :: es) X.env = (false, eval e X.env) :: starEach es X.env := by rfl) : PA X (e :: es) (tCons te t) := by
 intro pos pins s σ H Q I h
 rw [hs]
 show wpAny _ _ (spliced ((false, eval e X.env) :: backTo pos (starEach es X.env))) _ _ s
 refine Calls.spliced_cons (thn (ha pins s σ H _ I h) fun u s1 z => z.elim fun x z => z.elim fun H1 z => z.elim fun I1 z => z.elim fun r1 q1 => ?_)
 exact thn (hr pos pins s1 σ H1 _ I1 q1) fun us s2 z => z.elim fun xs z => z.elim fun H2 z => z.elim fun I2 z => z.elim fun r2 q2 => ⟨x :: xs, H2, I2, .cons r1 r2, q2⟩
noncomputable def tTup (t : TA) : TE := fun σ H Q => t σ H fun xs H1 => xs.length <= sizeLine /\ ∀ p, H1 p = none -> Q (.ref p) (upd H1 p (.tup xs))
noncomputable def tLst (t : TA) : TE := fun σ H Q => t σ H fun xs H1 => xs.length <= sizeLine /\ ∀ p, H1 p = none -> Q (.ref p) (upd H1 p (.lst xs))
theorem pe_tup {x1} (h : PA X es t) : PE X (.Tuple es x1 pos) (tTup t) := by
 intro pins s σ H Q I hq
 refine wpAny_Tuple_spliced (thn (h pos pins s σ H _ I hq) fun us s1 z => z.elim fun xs z => z.elim fun H1 z => z.elim fun I1 z => z.elim fun r z => z.elim fun z q => ⟨by rw [<- r.length]; exact z, ?_⟩)
 have hf : H1 s1.heap.objs.size = none := I1.hok.fresh (Nat.le_refl _)
 refine ⟨.ref s1.heap.objs.size, upd H1 s1.heap.objs.size (.tup xs), I1.laid (t' := s1.toks) (fun b u e => Heap.get?_push_of_some _ e) (Nat.le_refl _) ?_, rfl, q _ hf⟩
 exact ⟨z, us, r, ⟨_, Heap.get?_push_size _ rfl, rfl, _, rfl, rfl⟩⟩
theorem pe_lst (h : PA X es t) : PE X (.List es pos) (tLst t) := by
 intro pins s σ H Q I hq
 refine wpAny_List_spliced (thn (h pos pins s σ H _ I hq) fun us s1 z => z.elim fun xs z => z.elim fun H1 z => z.elim fun I1 z => z.elim fun r z => z.elim fun z q => ⟨by rw [<- r.length]; exact z, ?_⟩)
 have hf : H1 s1.heap.objs.size = none := I1.hok.fresh (Nat.le_refl _)
 refine ⟨.ref s1.heap.objs.size, upd H1 s1.heap.objs.size (.lst xs), I1.laid (t' := s1.toks) (fun b u e => Heap.get?_push_of_some _ e) (Nat.le_refl _) ?_, rfl, q _ hf⟩
 exact ⟨z, us, 0, r, Heap.get?_push_size _ rfl⟩
end
noncomputable abbrev Sp := List V -> Hp -> VK -> XK -> Prop
noncomputable abbrev CXT := List Env -> Hp -> Shared -> XK -> Value -> Shared -> Prop
structure Env0 (P : Program) (w : World) (K : PySem.W.Frag) (mg : Str -> Option Value) (base : Heap) (A : Around) (outer : List Env) (s : Shared) (H : Hp) : Prop where
 frames : A.frames = some outer
 mod : Mod K mg base
 bs : ∀ b o, base.get? b = some o -> s.heap.get? b = some o /\ H b = none
 bsz : base.objs.size <= s.heap.objs.size
 funs : s.heap.FunFrames base outer
 frf : ∀ b ∈ frs outer, H b = none
 hok : HOk P w H s.heap
 bare : AllBare s.gens
noncomputable def CE (outer : List Env) (P : Program) (w : World) (H : Hp) (s : Shared) (Q : VK) (u : Value) (s' : Shared) : Prop :=
 ∃ v H', s'.os = s.os /\ AllBare s'.gens /\ Un (frs outer) [] H H' s.heap s'.heap /\ HOk P w H' s'.heap /\ RelV v u /\ Q v H'
noncomputable def CR (CX : CXT) (outer : List Env) (P : Program) (w : World) (H : Hp) (s : Shared) (Q : VK) (E : XK) (r : Result) (s' : Shared) : Prop :=
 match r with
 | .ok (.ret u) => CE outer P w H s Q u s'
 | .ok _ => False
 | .error e => CX outer H s E e s'
structure FnOk (P : Program) (w : World) (K : PySem.W.Frag) (mg : Str -> Option Value) (base : Heap) (CX : CXT) (k : Nat) (f : Addr) (fd : FuncData) (ps : List Str) (sp : Sp) : Prop where
 len : ∀ vs H Q E, sp vs H Q E -> vs.length = ps.length
 run : ∀ (A : Around) (outer : List Env) (s : Shared) (H : Hp) (args : Args) (us : List Value) (vs : List V) (Q : VK) (E : XK), Room k A -> Env0 P w K mg base A outer s H -> BindsTo s fd args (ps.zip us) -> Vals vs us -> sp vs H Q E ->
   codeAny (model P w) A (.call (.ref f) args) (CR CX outer P w H s Q E) s
theorem FnOk.imp {P : Program} {w : World} {K : PySem.W.Frag} {mg : Str -> Option Value} {base : Heap} {CX : CXT} {k : Nat} {f : Addr} {fd : FuncData} {ps : List Str} {sp sp' : Sp} (F : FnOk P w K mg base CX k f fd ps sp)
   (h : ∀ vs H Q E, sp' vs H Q E -> sp vs H Q E) : FnOk P w K mg base CX k f fd ps sp' :=
 ⟨fun vs H Q E q => F.len vs H Q E (h _ _ _ _ q), fun A outer s H args us vs Q E hr he hb hv hs => F.run A outer s H args us vs Q E hr he hb hv (h _ _ _ _ hs)⟩
section
variable {X : Cx} {pins : List (Addr × Obj)} {σ : St} {H : Hp} {s s' : Shared}
theorem Inv.env0 (I : Inv X pins σ H s) : Env0 X.prog X.w X.K X.mg X.base X.A X.stack s H :=
 ⟨I.ok.frames, I.ok.mod, I.bs, Nat.le_trans I.ok.bsz I.sz, I.stack, I.stkFree, I.hok, I.bare⟩
theorem Inv.after {Q : VK} {u : Value} (I : Inv X pins σ H s) (h : CE X.stack X.prog X.w H s Q u s') : EP X pins σ Q u s' := by
 obtain ⟨v, H', os, bare, un, hok, r, q⟩ := h
 obtain ⟨hh, g, d, t, os'⟩ := s'
 obtain rfl : os' = s.os := os
 exact ⟨v, H', I.call (h' := hh) (g' := g) (d' := d) (t' := t) (ch := []) un hok bare (fun b z => absurd z (by simp)), r, q⟩
end
noncomputable def tCall (sp : Sp) (dvs : List V) (E : XK) (t : TA) : TE := fun σ H Q => t σ H fun vs H1 => sp (vs ++ dvs) H1 Q E
noncomputable def Binds (K : PySem.W.Frag) (fd : FuncData) (ps : List Str) (ds : List Value) : Prop :=
 ∀ (s : Shared) (us : List Value), K.In s.heap -> (us ++ ds).length = ps.length -> BindsTo s fd ⟨us, []⟩ (ps.zip (us ++ ds))
theorem Binds.all {K : PySem.W.Frag} {fd : FuncData} {ps : List Str} (h : ∀ us : List Value, us.length = ps.length -> bindArgs fd ⟨us, []⟩ = pure (ps.zip us)) : Binds K fd ps [] := fun s us _ hl => by
 rw [List.append_nil] at hl ⊢
 exact .of_eq (h us hl)
noncomputable def Passes (CX : CXT) (X : Cx) (E : XK) : Prop := ∀ (pins : List (Addr × Obj)) (σ : St) (H : Hp) (s : Shared) (e : Value) (s' : Shared), Inv X pins σ H s -> CX X.stack H s E e s' -> X.xe e s'
section
variable {X : Cx} {CX : CXT} {k : Nat} {f C : Addr} {fd : FuncData} {ps : List Str} {sp : Sp} {dvs : List V} {ds : List Value} {E : XK} {x m : Str} {p pos apos : Pos} {e o : Expr} {es : List Expr} {ta : TE} {t : TA}
theorem run_fn {pins : List (Addr × Obj)} {σ : St} {H : Hp} {s : Shared} {Q : VK} {us : List Value} {vs : List V} (F : FnOk X.prog X.w X.K X.mg X.base CX k f fd ps sp) (hr : Room k X.A) (hb : Binds X.K fd ps ds) (hd : Vals dvs ds) (hx : Passes CX X E)
   (I : Inv X pins σ H s) (r : Vals vs us) (h : sp (vs ++ dvs) H Q E) : wpAny (model X.prog X.w) X.A (call (.ref f) us) (EP X pins σ Q) X.xe s := by
 have r2 : Vals (vs ++ dvs) (us ++ ds) := r.append hd
 have hl : (us ++ ds).length = ps.length := by rw [<- r2.length]; exact F.len _ _ _ _ h
 refine wpAny_call (codeAny_mono (F.run X.A X.stack s H ⟨us, []⟩ (us ++ ds) (vs ++ dvs) Q E hr I.env0 (hb s us I.kIn hl) r2 h) fun r s' hq => ?_)
 cases r with
 | error e => exact hx pins σ H s e s' I hq
 | ok fl =>
   cases fl with
   | ret u => exact I.after hq
   | next => exact False.elim hq
   | brk => exact False.elim hq
   | cont => exact False.elim hq
theorem pe_call (F : FnOk X.prog X.w X.K X.mg X.base CX k f fd ps sp) (hr : Room k X.A) (hg : Gl X x) (hm : X.mg x = some (.ref f)) (hk : PySem.W.keepIn X.K (.ref f) = true) (hb : Binds X.K fd ps ds) (hd : Vals dvs ds) (hx : Passes CX X E)
   (ha : PA X (e :: es) t) (hdb : (x == ("__debug__" : Str)) = false := by decide) (he : starEach (e :: es) X.env = (false, eval e X.env) :: starEach es X.env := by rfl) (hpl : (backTo pos (starEach es X.env)).any (·.1) = false := by rfl) :
   PE X (.Call (.Name x p) (e :: es) [] pos) (tCall sp dvs E t) := by
 intro pins s σ H Q I h
 refine wpAny_Call_Name_kw (ld_glob I hg hm ?_ hdb)
 refine PySem.W.callWith_K (h₀ := X.base) I.ok.mod.kin hk (thn (ha pos pins s σ H _ I h) fun us s1 z => z.elim fun vs z => z.elim fun H1 z => z.elim fun I1 z => z.elim fun r q => ⟨I1.kIn, ?_⟩) he hpl
 exact run_fn F hr hb hd hx I1 r q
theorem pe_call0 (F : FnOk X.prog X.w X.K X.mg X.base CX k f fd ps sp) (hr : Room k X.A) (hg : Gl X x) (hm : X.mg x = some (.ref f)) (hk : PySem.W.keepIn X.K (.ref f) = true) (hb : Binds X.K fd ps ds) (hd : Vals dvs ds) (hx : Passes CX X E)
   (hdb : (x == ("__debug__" : Str)) = false := by decide) : PE X (.Call (.Name x p) [] [] pos) (tCall sp dvs E tNil) := by
 intro pins s σ H Q I h
 refine wpAny_Call_Name_kw (ld_glob I hg hm ?_ hdb)
 exact PySem.W.callWith_K0 I.kIn hk (run_fn (us := []) F hr hb hd hx I .nil h)
end
structure FnScope (N P : List Str) (sc : Scope) : Prop where
 kind : sc.kind = .function
 co : sc.isCoroutine = false
 gen : sc.isGenerator = false
 nd : N.Nodup
 pre : N.take P.length = P
 par : ∀ x ∈ P, sc.names.lookup x = some .local \/ sc.names.lookup x = some .cell
 nofree : ∀ y ∈ sc.names, y.2 ≠ .free
theorem bindL_out {kindOf : Str -> Option NameKind} {x : Str} : ∀ {binds : List (Str × Value)} {m : Str -> Option Value}, (∀ v, (x, v) ∉ binds) -> bindL kindOf binds m x = m x
 | [], _, _ => rfl
 | (n, v) :: r, m, h => by
   unfold bindL
   rw [bindL_out fun w hw => h w (List.mem_cons_of_mem _ hw)]
   split
   · have : x ≠ n := by rintro rfl; exact h v List.mem_cons_self
     simp [this]
   · rfl
theorem bindC_out {kindOf : Str -> Option NameKind} {x : Str} : ∀ {binds : List (Str × Value)} {m : Str -> Option Value}, (∀ v, (x, v) ∉ binds) -> bindC kindOf binds m x = m x
 | [], _, _ => rfl
 | (n, v) :: r, m, h => by
   unfold bindC
   rw [bindC_out fun w hw => h w (List.mem_cons_of_mem _ hw)]
   split
   · rfl
   · have : x ≠ n := by rintro rfl; exact h v List.mem_cons_self
     simp [this]
theorem bindL_get {kindOf : Str -> Option NameKind} {x : Str} {v : Value} : ∀ {P : List Str} {vs : List Value} {i : Nat} {m : Str -> Option Value}, P.Nodup -> P[i]? = some x -> vs[i]? = some v -> kindOf x = some .local ->
   bindL kindOf (P.zip vs) m x = some v
 | [], _, _, _, _, h, _, _ => by simp at h
 | _ :: _, [], _, _, _, _, h, _ => by simp at h
 | p :: P, w :: vs, 0, m, nd, h1, h2, hk => by
   simp at h1 h2; subst h1; subst h2
   show bindL kindOf ((p, w) :: P.zip vs) m p = _
   unfold bindL
   rw [bindL_out fun v hv => (List.nodup_cons.mp nd).1 (List.of_mem_zip hv).1, if_pos hk]
   simp
 | p :: P, w :: vs, i + 1, m, nd, h1, h2, hk => by
   show bindL kindOf ((p, w) :: P.zip vs) m x = _
   unfold bindL
   exact bindL_get (i := i) (List.nodup_cons.mp nd).2 (by simpa using h1) (by simpa using h2) hk
theorem bindC_get {kindOf : Str -> Option NameKind} {x : Str} {v : Value} : ∀ {P : List Str} {vs : List Value} {i : Nat} {m : Str -> Option Value}, P.Nodup -> P[i]? = some x -> vs[i]? = some v -> kindOf x ≠ some .local ->
   bindC kindOf (P.zip vs) m x = some v
 | [], _, _, _, _, h, _, _ => by simp at h
 | _ :: _, [], _, _, _, _, h, _ => by simp at h
 | p :: P, w :: vs, 0, m, nd, h1, h2, hk => by
   simp at h1 h2; subst h1; subst h2
   show bindC kindOf ((p, w) :: P.zip vs) m p = _
   unfold bindC
   rw [bindC_out fun v hv => (List.nodup_cons.mp nd).1 (List.of_mem_zip hv).1, if_neg hk]
   simp
 | p :: P, w :: vs, i + 1, m, nd, h1, h2, hk => by
   show bindC kindOf ((p, w) :: P.zip vs) m x = _
   unfold bindC
   exact bindC_get (i := i) (List.nodup_cons.mp nd).2 (by simpa using h1) (by simpa using h2) hk
noncomputable def start (N : List Str) (vs : List V) : St := vs.map some ++ List.replicate (N.length - vs.length) none
noncomputable def cxOf (CX : CXT) (P : Program) (w : World) (K : PySem.W.Frag) (mg : Str -> Option Value) (base : Heap) (N : List Str) (qual : Str) (scope : Scope) (f : Addr) (cd : Value) (A : Around) (outer : List Env) (s : Shared) (H : Hp) (E : XK) : Cx where
 prog := P
 w := w
 K := K
 mg := mg
 base := base
 A := A.deeper (envOfC qual scope s.heap.objs.size f cd)
 N := N
 s₀ := s
 H₀ := H
 env := envOfC qual scope s.heap.objs.size f cd
 outer := outer
 stack := envOfC qual scope s.heap.objs.size f cd :: outer
 ex := []
 calm := true
 fn := fun _ => true
 pn := []
 xe := fun e s' => wpAny (model P w) (A.deeper (envOfC qual scope s.heap.objs.size f cd)) (leaving (envOfC qual scope s.heap.objs.size f cd) e) (fun _ s'' => CX outer H s E e s'') (fun e' s'' => CX outer H s E e' s'') s'
theorem cell_has {sc : Scope} {n : Nat} {x : Str} (h : sc.names.lookup x = some .cell) : ∃ c, (cellsFrom n sc.names []).lookup x = some c := by
 have q := PySem.W.cellsFrom_some sc.names n [] (.inl h)
 exact Option.isSome_iff_exists.mp q
theorem inv_start {CX : CXT} {P : Program} {w : World} {K : PySem.W.Frag} {mg : Str -> Option Value} {base : Heap} {N ps : List Str} {qual : Str} {scope : Scope} {f : Addr} {cd : Value} {A : Around} {outer : List Env} {s s1 : Shared} {H : Hp} {E : XK} {us : List Value} {vs : List V}
   (S : FnScope N ps scope) (hd : A.handled = none) (e0 : Env0 P w K mg base A outer s H) (hl : vs.length = ps.length) (r : Vals vs us)
   (x : InCallC s s.heap.objs.size (bindL (envOfC qual scope s.heap.objs.size f cd).kindOf (ps.zip us) fun _ => none) (cellsFrom (s.heap.objs.size + 1) scope.names []) (bindC (envOfC qual scope s.heap.objs.size f cd).kindOf (ps.zip us) fun _ => none) s1) :
   Inv (cxOf CX P w K mg base N qual scope f cd A outer s H E) [] (start N vs) H s1 := by
 have hpl : ps.length <= N.length := by have := congrArg List.length S.pre; rw [List.length_take] at this; lia
 obtain ⟨h1, tk, rfl, hk⟩ := x.done
 have noA : ∀ b : Addr, b ∉ (cxOf CX P w K mg base N qual scope f cd A outer s H E).ex := fun b z => absurd (show b ∈ ([] : List Addr) from z) (by simp)
 refine ⟨⟨e0.mod, S.kind, rfl, rfl, Nat.le_refl _, fun y z c h1 h2 => ?_, fun y hy => ?_, fun y c _ h => ?_, fun _ => hd, Around.frames_deeper e0.frames, .inr ⟨rfl, rfl⟩, fun b z => absurd z (noA b), e0.bs, e0.bsz, fun b _ _ => noA b, fun b z => absurd z (noA b), e0.funs, e0.frf⟩,
   rfl, e0.bare, Un.kept hk, ⟨_, x.toInCall.ns, fun i y v h1 h2 h3 => ?_⟩, fun y c h => ⟨_, x.cell y c h⟩, e0.hok.fresh (Nat.le_refl _), fun y c h => ?_, fun p hp => absurd (show p ∈ ([] : List (Addr × Obj)) from hp) (by simp), e0.hok.kept hk, ?_⟩
 · exact name_of_addr x.apart (PySem.mem_of_lookup h1) (PySem.mem_of_lookup h2)
 · have hy : scope.names.lookup y = some .cell \/ scope.names.lookup y = some .free := hy
   rcases hy with hy | hy
   · exact cell_has hy
   · exact absurd rfl (S.nofree _ (PySem.mem_of_lookup hy))
 · exact Nat.le_of_lt (x.above y c (PySem.mem_of_lookup h))
 · have hi : i < vs.length := by
     unfold start at h2
     by_cases hi : i < vs.length
     · exact hi
     · rw [List.getElem?_append_right (by simpa using hi)] at h2
       rw [List.getElem?_replicate] at h2
       split at h2 <;> cases h2
   have ha : vs[i]? = some v := by
     unfold start at h2
     rw [List.getElem?_append_left (by simpa using hi), List.getElem?_map] at h2
     cases e : vs[i]? with
     | none => rw [e] at h2; cases h2
     | some a => rw [e] at h2; cases h2; rfl
   obtain ⟨u, hu, rv⟩ := r.get ha
   have hp : ps[i]? = some y := by
     rw [<- S.pre, List.getElem?_take_of_lt (by lia)]; exact h1
   have ndP : ps.Nodup := by rw [<- S.pre]; exact S.nd.sublist (List.take_sublist _ _)
   refine ⟨u, rv, ?_⟩
   rcases S.par y (List.mem_of_getElem? hp) with k | k
   · exact .inl ⟨k, bindL_get ndP hp hu k⟩
   · obtain ⟨c, e⟩ := cell_has (n := s.heap.objs.size + 1) k
     refine .inr ⟨.inl k, c, e, ?_⟩
     have q := x.cell y c e
     rw [bindC_get ndP hp hu (by show scope.names.lookup y ≠ _; rw [k]; decide)] at q
     exact q
 · exact e0.hok.fresh (Nat.le_of_lt (x.above y c (PySem.mem_of_lookup h)))
 · unfold start
   show _ = N.length
   rw [List.length_append, List.length_map, List.length_replicate]
   lia
theorem fn_of {CX : CXT} {P : Program} {w : World} {K : PySem.W.Frag} {mg : Str -> Option Value} {base : Heap} {k : Nat} {f : Addr} {name qual : Str} {params : Arguments} {body : List Stmt} {scope : Scope} {dV kV doc pm cdv ct oc : Value} {an od : Option Addr}
   {osl : Array (Option Value)} {N ps : List Str} {sp : Sp} (lk : K.lookup f = some ⟨oc, od, .func (PySem.W.fnOf name qual params body scope dV kV doc pm an cdv ct), osl⟩) (hcd : PySem.W.codeIn K cdv qual = true) (S : FnScope N ps scope)
   (len : ∀ vs H Q E, sp vs H Q E -> vs.length = ps.length)
   (hbody : ∀ (A : Around) (outer : List Env) (s : Shared) (H : Hp) (vs : List V) (Q : VK) (E : XK), Room k (A.deeper (envOfC qual scope s.heap.objs.size f cdv)) -> sp vs H Q E ->
     ∃ t, PSs (cxOf CX P w K mg base N qual scope f cdv A outer s H E) body t /\ t { nx := fun _ H' => Q .non H', rt := Q } (start N vs) H) :
   FnOk P w K mg base CX (k + 1) f (PySem.W.fnOf name qual params body scope dV kV doc pm an cdv ct) ps sp := by
 refine ⟨len, fun A outer s H args us vs Q E hr e0 hb r hsp => ?_⟩
 have hl := len _ _ _ _ hsp
 have KX : K.In s.heap := e0.mod.kin.keeps fun b o e => (e0.bs b o e).1
 have lim : s.heap.NoLimit := e0.mod.nolimit.keeps fun b o e => (e0.bs b o e).1
 have hkind : ∀ y ∈ ps.zip us, scope.names.lookup y.1 = some .local \/ (scope.names.lookup y.1 = some .cell /\ ((cellsFrom (s.heap.objs.size + 1) scope.names []).lookup y.1).isSome = true) := fun ⟨n, v⟩ hy => by
   rcases S.par n (List.of_mem_zip hy).1 with q | q
   · exact .inl q
   · exact .inr ⟨q, PySem.W.cellsFrom_some _ _ _ (.inl q)⟩
 refine codeAny_call_function hr.depth (KX _ _ lk) rfl S.co S.gen rfl (PySem.W.codeRec_of KX hcd) (hb _ _ _ _ ?_)
 refine wpAny_newFunctionEnv_cells S.kind hkind fun env he s1 x => ?_
 subst he
 refine ⟨lim.keeps x.toInCall.keep, codeAny_func ?_⟩
 obtain ⟨t, ht, hq⟩ := hbody A outer s H vs Q E (hr.deeper _) hsp
 have I : Inv (cxOf CX P w K mg base N qual scope f cdv A outer s H E) [] (start N vs) H s1 := inv_start S hr.hd e0 hl r x
 refine wpAny_mono (ht [] s1 (start N vs) H _ I hq) (fun fl s' hs => ?_) fun e s' hs => hs
 have fin : ∀ {σ' : St} {H' : Hp} {v : V} {u : Value}, Inv (cxOf CX P w K mg base N qual scope f cdv A outer s H E) [] σ' H' s' -> RelV v u -> Q v H' -> CE outer P w H s Q u s' :=
   fun {σ' H' v u} J rv q => ⟨v, H', J.os, J.bare, J.base, J.hok, rv, q⟩
 cases fl with
 | ret u =>
   obtain ⟨v, σ', H', J, rv, q⟩ := hs
   exact fin J rv q
 | next =>
   obtain ⟨σ', H', J, q⟩ := hs
   exact fin (v := V.non) (u := Value.none) J rfl q
 | brk =>
   obtain ⟨_, _, _, q⟩ := hs
   exact False.elim q
 | cont =>
   obtain ⟨_, _, _, q⟩ := hs
   exact False.elim q
end L2
namespace L2
open PySem PySem.Spec PyProof.Rows
section
variable {X : Cx} {x : Str} {p pos : Pos} {e : Expr} {es : List Expr} {t : TA} {id T : String} {r : List V -> Hp -> VK -> Prop}
noncomputable def tCB (r : List V -> Hp -> VK -> Prop) (t : TA) : TE := fun σ H Q => t σ H fun vs H1 => r vs H1 Q
theorem pe_callB (hc : CallR X (.builtin id) r) (hg : Gl X x) (hm : X.mg x = none) (hv : bootBuiltins x = some (.builtin id)) (ha : PA X (e :: es) t) (hn : x ≠ "__name__" := by decide) (hdb : (x == ("__debug__" : Str)) = false := by decide)
   (he : starEach (e :: es) X.env = (false, eval e X.env) :: starEach es X.env := by rfl) (hpl : (backTo pos (starEach es X.env)).any (·.1) = false := by rfl) : PE X (.Call (.Name x p) (e :: es) [] pos) (tCB r t) := by
 intro pins s σ H Q I h
 refine wpAny_Call_Name_kw (ld_blt I hg hm hv ?_ hn hdb)
 exact PyProof.Rows.callWith_builtin1 (thn (ha pos pins s σ H _ I h) fun us s1 z => z.elim fun vs z => z.elim fun H1 z => z.elim fun I1 z => z.elim fun r1 q1 => hc pins s1 σ H1 vs us Q I1 r1 q1) he hpl
theorem pe_callTy (hc : CallR X (.type T) r) (hg : Gl X x) (hm : X.mg x = none) (hv : bootBuiltins x = some (.type T)) (ha : PA X (e :: es) t) (hn : x ≠ "__name__" := by decide) (hdb : (x == ("__debug__" : Str)) = false := by decide)
   (he : starEach (e :: es) X.env = (false, eval e X.env) :: starEach es X.env := by rfl) (hpl : (backTo pos (starEach es X.env)).any (·.1) = false := by rfl) : PE X (.Call (.Name x p) (e :: es) [] pos) (tCB r t) := by
 intro pins s σ H Q I h
 refine wpAny_Call_Name_kw (ld_blt I hg hm hv ?_ hn hdb)
 exact PyProof.Rows.callWith_type1 (thn (ha pos pins s σ H _ I h) fun us s1 z => z.elim fun vs z => z.elim fun H1 z => z.elim fun I1 z => z.elim fun r1 q1 => hc pins s1 σ H1 vs us Q I1 r1 q1) he hpl
end
end L2
namespace HT
open PySem PyProof.Rows
section
variable {prog : Program} {w : World} {A : Around} {E : Value -> Shared -> Prop} {s : Shared}
noncomputable def sIx (n d : Nat) : Option Int -> Nat
 | none => d
 | some v => if v < 0 then (v + (n : Int)).toNat else min v.toNat n
theorem sIx_le (n d : Nat) (hd : d <= n) (o : Option Int) : sIx n d o <= n := by
 cases o with
 | none => exact hd
 | some v =>
   show (if v < 0 then (v + (n : Int)).toNat else min v.toNat n) <= n
   by_cases hv : v < 0
   · rw [if_pos hv]; lia
   · rw [if_neg hv]; exact Nat.min_le_right _ _
theorem clip_eq (v : Int) (n d : Nat) : (if v < 0 then max (v + (n : Int)) 0 else min v (n : Int)) = ((sIx n d (some v) : Nat) : Int) := by
 show (if v < 0 then max (v + (n : Int)) 0 else min v (n : Int)) = (((if v < 0 then (v + (n : Int)).toNat else min v.toNat n) : Nat) : Int)
 by_cases hv : v < 0
 · simp only [if_pos hv]; lia
 · simp only [if_neg hv]; lia
theorem adjust_gen (lo hi : Option Int) (n : Nat) : Builtin.Slice.sliceAdjust lo hi 1 (n : Int) = (((sIx n 0 lo : Nat) : Int), ((sIx n n hi : Nat) : Int)) := by
 have h1 : ¬ ((1 : Int) < 0) := by lia
 unfold Builtin.Slice.sliceAdjust
 simp only [h1, if_false]
 refine Prod.ext ?_ ?_
 · cases lo with
   | none => rfl
   | some v => exact clip_eq v n 0
 · cases hi with
   | none => rfl
   | some v => exact clip_eq v n n
theorem places_gen (i j : Nat) : Builtin.Slice.slicePlaces (i : Int) (j : Int) 1 = j - i := by
 unfold Builtin.Slice.slicePlaces
 have h1 : (1 : Int) > 0 := by lia
 simp only [h1, if_true, Int.ediv_one]
 split <;> lia
theorem slicePart_ {v : Value} {o : Option Int} {Q : Option Int -> Shared -> Prop} (p : IsPart v o) (h : Q o s) : wpAny (model prog w) A (Builtin.Slice.slicePartIndex v) Q E s := by
 cases p with
 | none => exact slicePart_none h
 | int i t => exact slicePart_int h
theorem sliceApplied_gen {sl : Addr} {vl vu : Value} {lo hi : Option Int} {n : Nat} {Q : Int × Int × Nat -> Shared -> Prop} (hs : s.heap.IsSliceOf sl vl vu .none) (pl : IsPart vl lo) (pu : IsPart vu hi)
   (h : Q (((sIx n 0 lo : Nat) : Int), 1, sIx n n hi - sIx n 0 lo) s) : wpAny (model prog w) A (Builtin.Slice.sliceApplied (.ref sl) (pure (n : Int))) Q E s := by
 obtain ⟨os, hos, hcs, hds⟩ := id hs
 unfold Builtin.Slice.sliceApplied Builtin.Slice.sliceFields
 refine wpAny_bind (wpAny_bind (wpAny_field hos hds (x := vl) rfl (wpAny_bind (wpAny_field hos hds (x := vu) rfl (wpAny_bind (wpAny_field hos hds (x := .none) rfl (wpAny_pure ?_)))))))
 refine wpAny_bind (slicePart_none ?_)
 show wpAny _ _ (if ((1 : Int) == 0) = true then _ else _) _ _ s
 rw [if_neg (by decide)]
 refine wpAny_bind (slicePart_ pl (wpAny_bind (slicePart_ pu (wpAny_bind (wpAny_pure ?_)))))
 show wpAny _ _ (match Builtin.Slice.sliceAdjust lo hi 1 (n : Int) with | (lo, hi) => pure (lo, (1 : Int), Builtin.Slice.slicePlaces lo hi 1)) _ _ s
 rw [adjust_gen lo hi n]
 show wpAny _ _ (pure (((sIx n 0 lo : Nat) : Int), (1 : Int), Builtin.Slice.slicePlaces ((sIx n 0 lo : Nat) : Int) ((sIx n n hi : Nat) : Int) 1)) _ _ s
 rw [places_gen]
 exact wpAny_pure h
theorem pick_gen (xs : Array Value) (i k : Nat) : ((List.range k).filterMap fun (m : Nat) => xs[((i : Int) + (m : Int) * 1).toNat]?).toArray = ((xs.toList.drop i).take k).toArray := by
 have e : (fun (m : Nat) => xs[((i : Int) + (m : Int) * 1).toNat]?) = fun m => xs[i + m]? := by
   funext m
   have : ((i : Int) + (m : Int) * 1).toNat = i + m := by lia
   rw [this]
 rw [e]
 have := pick_run xs i k
 rw [List.filterMap_map] at this
 have e2 : ((fun x => xs[x]?) ∘ fun x => i + x) = fun m => xs[i + m]? := rfl
 rw [e2] at this
 rw [this]
theorem getItem_tuple_cut {t sl : Addr} {items : Array Value} {vl vu : Value} {lo hi : Option Int} {Q : Value -> Shared -> Prop} (ht : IsTup s.heap t items) (hs : s.heap.IsSliceOf sl vl vu .none) (pl : IsPart vl lo) (pu : IsPart vu hi)
   (hw : ¬ (sIx items.size 0 lo = 0 /\ sIx items.size items.size hi = items.size))
   (h : Q (.ref s.heap.objs.size) { s with heap := s.heap.push { cls := .type "tuple", data := .seq ((items.toList.drop (sIx items.size 0 lo)).take (sIx items.size items.size hi - sIx items.size 0 lo)).toArray } })
   (hsz : items.size <= sizeLine) : wpAny (model prog w) A (getItem (.ref t) (.ref sl)) Q E s := by
 have htake : sizeOk (.seq ((items.toList.drop (sIx items.size 0 lo)).take (sIx items.size items.size hi - sIx items.size 0 lo)).toArray) := by
   show ((items.toList.drop (sIx items.size 0 lo)).take (sIx items.size items.size hi - sIx items.size 0 lo)).toArray.size <= sizeLine
   rw [List.size_toArray, List.length_take, List.length_drop, Array.length_toList]
   lia
 have hj : sIx items.size items.size hi <= items.size := sIx_le _ _ (Nat.le_refl _) hi
 obtain ⟨os, hos, hcs, hds⟩ := id hs
 have hTs : s.TypeIs (.ref sl) "slice" := ⟨os, hos, hcs⟩
 unfold getItem
 try with_reducible refine wpAny_holding ?_
 first | refine wpAny_bind (wpAny_pure ?_) | skip
 refine wpAny_bind (wpAny_sequenceKey ht.typeIs (by decide) ?_)
 refine wpAny_bind (wpAny_callSpecial?_slot (name := Str.ofString "__getitem__") ht.typeIs PyProof.Rows.slot_tuple_getitem
   (wpAny_call_entry PyProof.Rows.slot_tuple_getitem ht.typeIs entry_tuple_getitem ?_ (args_tuple_getitem _ _)))
 show wpAny _ _ (Builtin.Tuple.tupleItemsOf (.ref t) >>= _) _ _ s
 refine wpAny_bind (tupleItemsOf_ ht ?_)
 refine wpAny_bind (wpAny_typeOf hTs ?_)
 rw [if_pos (by decide)]
 refine wpAny_bind (sliceApplied_gen hs pl pu ?_)
 have hno : ¬ ((((sIx items.size 0 lo : Nat) : Int) == 0 && (1 : Int) == 1 && (sIx items.size items.size hi - sIx items.size 0 lo) == items.size) = true) := by
   intro q
   rw [Bool.and_eq_true, Bool.and_eq_true] at q
   have q1 : ((sIx items.size 0 lo : Nat) : Int) = 0 := eq_of_beq q.1.1
   have q2 : sIx items.size items.size hi - sIx items.size 0 lo = items.size := eq_of_beq q.2
   exact hw ⟨by lia, by lia⟩
 show wpAny _ _ (if (((sIx items.size 0 lo : Nat) : Int) == 0 && (1 : Int) == 1 && (sIx items.size items.size hi - sIx items.size 0 lo) == items.size) = true then _ else _) _ _ s
 rw [if_neg hno, pick_gen]
 first
   | exact wpAny_bind (m := Builtin.Tuple.tupleExact _) (wpAny_newObj_type (wpAny_pure ⟨_, rfl, wpAny_pure h⟩) htake)
   | exact wpAny_bind (m := Builtin.Tuple.tupleExact _) (wpAny_newObj_type (wpAny_bind (wpAny_pure (wpAny_pure ⟨_, rfl, wpAny_pure h⟩))) htake)
   | exact wpAny_bind (wpAny_bind (m := Builtin.Tuple.tupleExact _) (wpAny_newObj_type (wpAny_pure (wpAny_pure ⟨_, rfl, wpAny_pure h⟩)) htake))
   | exact wpAny_bind (wpAny_bind (m := Builtin.Tuple.tupleExact _) (wpAny_newObj_type (wpAny_pure ⟨_, rfl, wpAny_pure h⟩) htake))
end
end HT
namespace L2
open PySem PySem.Spec PyProof.Rows
noncomputable abbrev TO := St -> Hp -> (Option Int -> Hp -> Prop) -> Prop
noncomputable def PO (X : Cx) (e : Option Expr) (t : TO) : Prop :=
 ∀ (pins : List (Addr × Obj)) (s : Shared) (σ : St) (H : Hp) (Q : Option Int -> Hp -> Prop), Inv X pins σ H s -> t σ H Q ->
   wpAny (model X.prog X.w) X.A (evalPart e X.env) (fun u s' => ∃ o H', Inv X pins σ H' s' /\ IsPart u o /\ Q o H') X.xe s
noncomputable def tNoPart : TO := fun _ H Q => Q none H
noncomputable def tPart (t : TE) : TO := fun σ H Q => t σ H fun x H1 => ∃ i, x = .int i /\ Q (some i) H1
section
variable {X : Cx} {e : Expr} {te : TE} {lo hi : Option Expr} {tl th : TO} {pos p2 : Pos}
theorem po_none : PO X none tNoPart := by
 intro pins s σ H Q I h
 rw [evalPart_none]
 exact wpAny_pure ⟨none, H, I, .none, h⟩
theorem po_some (h : PE X e te) : PO X (some e) (tPart te) := by
 intro pins s σ H Q I hw
 rw [evalPart_some]
 refine thn (h pins s σ H _ I hw) fun u s1 z => z.elim fun x z => z.elim fun H1 z => z.elim fun I1 z => z.elim fun r1 q1 => ?_
 obtain ⟨i, rfl, q⟩ := q1
 obtain ⟨t, rfl⟩ := r1
 exact ⟨some i, H1, I1, .int i t, q⟩
noncomputable def SlR (X : Cx) (r : V -> Option Int -> Option Int -> Hp -> VK -> Prop) : Prop :=
 ∀ (pins : List (Addr × Obj)) (s : Shared) (σ : St) (H : Hp) (x : V) (v vl vu : Value) (lo hi : Option Int) (sl : Addr) (Q : VK), Inv X pins σ H s -> RelV x v -> s.heap.IsSliceOf sl vl vu .none -> IsPart vl lo -> IsPart vu hi -> r x lo hi H Q ->
   ∃ T id, typeLookup (.type T) "__getitem__" = pure (some (.builtin id)) /\ s.TypeIs v T /\ wpAny (model X.prog X.w) X.A (getItem v (.ref sl)) (EP X pins σ Q) X.xe s
noncomputable def tSl (r : V -> Option Int -> Option Int -> Hp -> VK -> Prop) (te : TE) (tl th : TO) : TE := fun σ H Q => te σ H fun x H1 => tl σ H1 fun l H2 => th σ H2 fun u H3 => r x l u H3 Q
theorem pe_slice {r : V -> Option Int -> Option Int -> Hp -> VK -> Prop} (hr : SlR X r) (he : PE X e te) (hl : PO X lo tl) (hu : PO X hi th) : PE X (.Subscript e (.Slice lo hi none p2) pos) (tSl r te tl th) := by
 intro pins s σ H Q I h
 refine Subscript_ (thn (he pins s σ H _ I h) fun v s1 z => z.elim fun x z => z.elim fun H1 z => z.elim fun I1 z => z.elim fun r1 q1 => ?_)
 refine wpAny_Slice (thn (hl pins s1 σ H1 _ I1 q1) fun vl s2 z => z.elim fun l z => z.elim fun H2 z => z.elim fun I2 z => z.elim fun pl q2 => thn (hu pins s2 σ H2 _ I2 q2) fun vu s3 z => z.elim fun u z => z.elim fun H3 z => z.elim fun I3 z => z.elim fun pu q3 => ?_)
 rw [evalPart_none]
 refine wpAny_pure ?_
 have I4 : Inv X pins σ H3 { s3 with heap := s3.heap.push { cls := .type "slice", data := .fields #[vl, vu, .none] } } := I3.kept (t' := s3.toks) fun b ob q => Heap.get?_push_of_some _ q
 obtain ⟨T, id, hT, ht, hg⟩ := hr pins { s3 with heap := s3.heap.push { cls := .type "slice", data := .fields #[vl, vu, .none] } } σ H3 x v vl vu l u s3.heap.objs.size Q I4 r1 (Heap.IsSliceOf.new ..) pl pu q3
 show wpAny (model X.prog X.w) X.A (subscriptTail e (.Slice lo hi none p2) v (.ref s3.heap.objs.size)) (EP X pins σ Q) X.xe { s3 with heap := s3.heap.push { cls := .type "slice", data := .fields #[vl, vu, .none] } }
 exact tail_any (ops := [.ref s3.heap.objs.size, v]) ht hT hg (by with_unfolding_all rfl)
noncomputable def cutV (xs : List V) (lo hi : Option Int) : List V := (xs.drop (HT.sIx xs.length 0 lo)).take (HT.sIx xs.length xs.length hi - HT.sIx xs.length 0 lo)
theorem cutV_length (xs : List V) (lo hi : Option Int) : (cutV xs lo hi).length <= xs.length := by
 unfold cutV
 rw [List.length_take, List.length_drop]
 lia
noncomputable def rSlT (K : PySem.W.Frag) : V -> Option Int -> Option Int -> Hp -> VK -> Prop := fun x lo hi H Q => ∃ a xs, x = .ref a /\ SqT K H a xs /\
 ¬ (HT.sIx xs.length 0 lo = 0 /\ HT.sIx xs.length xs.length hi = xs.length) /\ ∀ p, H p = none -> Q (.ref p) (upd H p (.tup (cutV xs lo hi)))
theorem sl_tup : SlR X (rSlT X.K) := by
 intro pins s σ H x v vl vu lo hi sl Q I rx hs pl pu h
 obtain ⟨a, xs, rfl, hx, hw, q⟩ := h
 cases rx
 obtain ⟨its, r, ht, hz⟩ := I.tuple hx
 have hlen : its.toArray.size = xs.length := by rw [List.size_toArray]; exact r.length.symm
 refine ⟨"tuple", _, PyProof.Rows.slot_tuple_getitem.lookup, ht.typeIs, ?_⟩
 refine HT.getItem_tuple_cut ht hs pl pu (by rw [hlen]; exact hw) ?_ (by rw [hlen]; exact hz)
 rw [hlen]
 refine ⟨.ref s.heap.objs.size, _, I.laid (t' := s.toks) (o := .tup (cutV xs lo hi)) (fun b ob q => Heap.get?_push_of_some _ q) (Nat.le_refl _) ?_, rfl, q _ (I.hok.fresh (Nat.le_refl _))⟩
 exact ⟨Nat.le_trans (cutV_length xs lo hi) hz, _, (r.drop (HT.sIx xs.length 0 lo)).take (HT.sIx xs.length xs.length hi - HT.sIx xs.length 0 lo), IsTu.new _ _⟩
end
end L2
namespace L2
open PySem PySem.Spec PyProof.Rows
noncomputable def ixN (n : Nat) (i : Int) : Option Nat := if 0 <= i then (if i < n then some i.toNat else none) else if -(n : Int) <= i then some (i + n).toNat else none
noncomputable def atI {α : Type} (xs : List α) (i : Int) : Option α := (ixN xs.length i).bind fun j => xs[j]?
theorem ixN_seq {n : Nat} {i : Int} {j : Nat} (h : ixN n i = some j) : seqIndex? i n = some j /\ j < n /\ -(n : Int) <= i /\ i < n := by
 unfold ixN at h
 by_cases h0 : 0 <= i
 · rw [if_pos h0] at h
   by_cases h1 : i < n
   · rw [if_pos h1] at h
     have e : i.toNat = j := Option.some.inj h
     exact ⟨by rw [seqIndex_of h0 h1, e], by lia, by lia, h1⟩
   · rw [if_neg h1] at h; cases h
 · rw [if_neg h0] at h
   by_cases h1 : -(n : Int) <= i
   · rw [if_pos h1] at h
     have e : (i + n).toNat = j := Option.some.inj h
     exact ⟨by rw [seqIndex_neg (by lia) h1, e], by lia, h1, by lia⟩
   · rw [if_neg h1] at h; cases h
theorem atI_get {α : Type} {xs : List α} {i : Int} {v : α} (h : atI xs i = some v) : ∃ j, seqIndex? i xs.length = some j /\ xs[j]? = some v /\ j < xs.length /\ -(xs.length : Int) <= i /\ i < xs.length := by
 unfold atI at h
 cases e : ixN xs.length i with
 | none => rw [e] at h; cases h
 | some j =>
   rw [e] at h
   obtain ⟨h1, h2, h3, h4⟩ := ixN_seq e
   exact ⟨j, h1, h, h2, h3, h4⟩
theorem atI_nat {α : Type} {xs : List α} {j : Nat} {v : α} (h : xs[j]? = some v) : atI xs (j : Int) = some v := by
 have hj : j < xs.length := (List.getElem?_eq_some_iff.mp h).1
 have e : ixN xs.length (j : Int) = some j := by
   unfold ixN
   rw [if_pos (by lia), if_pos (by lia)]; simp
 unfold atI; rw [e]; exact h
noncomputable def PlainIx (b : Expr) : Prop := ∀ o i, subscripted b false o i = operate [o, i] (getItem o i)
noncomputable def IxR (X : Cx) (r : R2) : Prop :=
 ∀ (value slice : Expr) (pins : List (Addr × Obj)) (s : Shared) (σ : St) (H : Hp) (x y : V) (v u : Value) (Q : VK), Inv X pins σ H s -> RelV x v -> RelV y u -> r x y H Q ->
   subscripted slice false v u = operate [v, u] (getItem v u) -> wpAny (model X.prog X.w) X.A (subscriptTail value slice v u) (EP X pins σ Q) X.xe s
noncomputable def MtR (X : Cx) (id : String) (r : V -> List V -> Hp -> VK -> Prop) : Prop :=
 ∀ (pins : List (Addr × Obj)) (s : Shared) (σ : St) (H : Hp) (x : V) (xs : List V) (v : Value) (us : List Value) (Q : VK), Inv X pins σ H s -> RelV x v -> Vals xs us -> r x xs H Q ->
   wpAny (model X.prog X.w) X.A (call (.builtin id) (v :: us)) (EP X pins σ Q) X.xe s
section
variable {X : Cx} {a b : Expr} {ta tb : TE} {pos : Pos}
theorem pe_ix {r : R2} (hr : IxR X r) (ha : PE X a ta) (hb : PE X b tb) (hs : PlainIx b) : PE X (.Subscript a b pos) (tOp r ta tb) := by
 intro pins s σ H Q I h
 exact Subscript_ (binT ha hb I h fun v u s2 x y H2 I2 rx ry q => hr a b pins s2 σ H2 x y v u Q I2 rx ry q (hs _ _))
noncomputable def rIxL (K : PySem.W.Frag) : R2 := fun x y H Q => ∃ p xs i v, x = .ref p /\ y = .int i /\ SqL K H p xs /\ atI xs i = some v /\ Q v H
noncomputable def rIxT (K : PySem.W.Frag) : R2 := fun x y H Q => ∃ p xs i v, x = .ref p /\ y = .int i /\ SqT K H p xs /\ atI xs i = some v /\ Q v H
theorem ix_list : IxR X (rIxL X.K) := by
 intro value slice pins s σ H x y v u Q I rx ry h hs
 obtain ⟨p, xs, i, z, rfl, rfl, hq, he, q⟩ := h
 cases rx
 obtain ⟨t, rfl⟩ := ry
 obtain ⟨its, r, pl, hz⟩ := I.list hq
 obtain ⟨j, h1, h2, h3, h4, h5⟩ := atI_get he
 obtain ⟨w, ew, rw'⟩ := r.get h2
 have hl := r.length
 have hn := line63
 have fin : EP X pins σ Q w s := ⟨z, H, I, rw', q⟩
 by_cases h0 : 0 <= i
 · have hj : i.toNat = j := by
     rw [seqIndex_of h0 h5] at h1
     exact Option.some.inj h1
   exact item_listR pl.isList h0 (by lia) (by rw [hj]; simpa using ew) fin hs
 · have hj : (i + (its.toArray.size : Int)).toNat = j := by
     rw [seqIndex_neg (by lia) h4] at h1
     rw [List.size_toArray, <- hl]
     exact Option.some.inj h1
   exact subscriptTail_builtinR (x := w) pl.isList.typeIs slot_list_getitem.lookup
     (wpAny_getItem_list_neg (Q := fun r s' => r = w /\ EP X pins σ Q r s') pl.isList (by lia) (by rw [List.size_toArray] <;> lia) (by lia) (by rw [hj]; simpa using ew) ⟨rfl, fin⟩) hs
theorem ix_tup : IxR X (rIxT X.K) := by
 intro value slice pins s σ H x y v u Q I rx ry h hs
 obtain ⟨p, xs, i, z, rfl, rfl, hq, he, q⟩ := h
 cases rx
 obtain ⟨t, rfl⟩ := ry
 obtain ⟨its, r, pl, hz⟩ := I.tuple hq
 obtain ⟨j, h1, h2, h3, h4, h5⟩ := atI_get he
 obtain ⟨w, ew, rw'⟩ := r.get h2
 have hl := r.length
 have hn := line63
 have fin : EP X pins σ Q w s := ⟨z, H, I, rw', q⟩
 exact subscriptTail_builtinR (x := w) pl.typeIs slot_tuple_getitem.lookup
   (getItem_tuple (j := j) (Q := fun r s' => r = w /\ EP X pins σ Q r s') pl (by lia) (by lia) (by rw [List.size_toArray, <- hl]; exact h1) (by simpa using ew) ⟨rfl, fin⟩) hs
theorem mapSeq_set (its : List Value) (n j : Nat) (u : Value) : Obj.mapSeq (·.setIfInBounds j u) { cls := .type "list", data := .seq its.toArray n } = { cls := .type "list", data := .seq (its.set j u).toArray n } := by
 simp [Obj.mapSeq]
theorem Inv.lst {pins : List (Addr × Obj)} {σ : St} {H : Hp} {s : Shared} {p : Addr} {xs : List V} (I : Inv X pins σ H s) (h : H p = some (.lst xs)) :
   ∃ (its : List Value) (n : Nat), Vals xs its /\ s.heap.get? p = some { cls := .type "list", data := .seq its.toArray n } /\ xs.length <= sizeLine := by
 obtain ⟨z, its, n, r, e⟩ := I.hok p _ h
 exact ⟨its, n, r, e, z⟩
theorem Inv.lstUpd {pins : List (Addr × Obj)} {σ : St} {H : Hp} {s : Shared} {p : Addr} {xs ys : List V} {its its' : List Value} {n n' : Nat} {f : Obj -> Obj} (I : Inv X pins σ H s) (h : H p = some (.lst xs))
   (ho : s.heap.get? p = some { cls := .type "list", data := .seq its.toArray n }) (hf : f { cls := .type "list", data := .seq its.toArray n } = { cls := .type "list", data := .seq its'.toArray n' }) (r : Vals ys its') (hz : ys.length <= sizeLine) (t : Nat) :
   Inv X pins σ (upd H p (.lst ys)) { s with heap := s.heap.update p f, toks := t } := by
 have e : (s.heap.update p f).get? p = some { cls := .type "list", data := .seq its'.toArray n' } := by
   rw [Heap.get?_update_self f ho (by rw [hf] <;> rfl), hf]
 refine I.write (x := p) (e := p) (by rw [h]; trivial) (.inl rfl) (fun b u hb q => (Heap.get?_update_other _ _ (Ne.symm hb)).trans q) ⟨_, e⟩ ?_
 exact ⟨hz, its', n', r, e⟩
noncomputable def rSetL : V -> V -> V -> Hp -> (Hp -> Prop) -> Prop := fun o i v H Q => ∃ p xs k j, o = .ref p /\ i = .int k /\ H p = some (.lst xs) /\ ixN xs.length k = some j /\ Q (upd H p (.lst (xs.set j v)))
theorem set_list : PSet X rSetL := by
 intro pins s σ H o i v ov iv u Q I ro ri rv h
 obtain ⟨p, xs, k, j, rfl, rfl, hp, hj, q⟩ := h
 cases ro
 obtain ⟨t, rfl⟩ := ri
 obtain ⟨its, n, r, ho, hz⟩ := I.lst hp
 obtain ⟨h1, h2, h3, h4⟩ := ixN_seq hj
 have hl := r.length
 have hn := line63
 have I' : Inv X pins σ (upd H p (.lst (xs.set j v))) { s with heap := s.heap.update p (Obj.mapSeq (·.setIfInBounds j u)) } :=
   I.lstUpd hp ho (mapSeq_set its n j u) (r.set rv j) (by rw [List.length_set]; exact hz) s.toks
 by_cases h0 : 0 <= k
 · have hk : k.toNat = j := by
     rw [seqIndex_of h0 h4] at h1
     exact Option.some.inj h1
   exact PySem.W.ki_setAt ho h0 (by lia) (by rw [List.size_toArray, <- hl]; exact h4) (by rw [hk]; exact ⟨_, I', q⟩)
 · have hk : (k + (its.toArray.size : Int)).toNat = j := by
     rw [seqIndex_neg (by lia) h3] at h1
     rw [List.size_toArray, <- hl]
     exact Option.some.inj h1
   exact PySem.W.ki_setBack ho (by lia) (by rw [List.size_toArray, <- hl]; exact h3) (by lia) (by rw [hk]; exact ⟨_, I', q⟩)
theorem slice_bounds (lo hi : Option Int) (n : Nat) : (sliceBounds lo hi none n).1 = ((HT.sIx n 0 lo : Nat) : Int) /\ (sliceBounds lo hi none n).2.1 = ((HT.sIx n n hi : Nat) : Int) /\ (sliceBounds lo hi none n).2.2 = 1 := by
 refine ⟨?_, ?_, rfl⟩
 · cases lo with
   | none => simp [sliceBounds, HT.sIx]
   | some i =>
     simp only [sliceBounds, HT.sIx, Option.getD_none, show (1 : Int) > 0 by decide, if_true]
     by_cases h : i < 0
     · simp only [h, if_true] <;> lia
     · simp only [h, if_false] <;> lia
 · cases hi with
   | none => simp [sliceBounds, HT.sIx]
   | some i =>
     simp only [sliceBounds, HT.sIx, Option.getD_none, show (1 : Int) > 0 by decide, if_true]
     by_cases h : i < 0
     · simp only [h, if_true] <;> lia
     · simp only [h, if_false] <;> lia
theorem slicePick_cut (its : List Value) (lo hi : Option Int) : slicePick its.toArray lo hi none = ((its.drop (HT.sIx its.length 0 lo)).take (HT.sIx its.length its.length hi - HT.sIx its.length 0 lo)).toArray := by
 obtain ⟨h1, h2, h3⟩ := slice_bounds lo hi its.toArray.size
 unfold slicePick
 rw [h1, h2, h3]
 simp only [sliceRange_one, pick_run, List.size_toArray] <;> rfl
noncomputable def rSlL (K : PySem.W.Frag) : V -> Option Int -> Option Int -> Hp -> VK -> Prop := fun x lo hi H Q => ∃ a xs, x = .ref a /\ SqL K H a xs /\ ∀ p, H p = none -> Q (.ref p) (upd H p (.lst (cutV xs lo hi)))
theorem sl_list : SlR X (rSlL X.K) := by
 intro pins s σ H x v vl vu lo hi sl Q I rx hs pl pu h
 obtain ⟨a, xs, rfl, hx, q⟩ := h
 cases rx
 obtain ⟨its, r, ht, hz⟩ := I.list hx
 have hlen := r.length
 refine ⟨"list", _, slot_list_getitem.lookup, ht.isList.typeIs, ?_⟩
 refine wpAny_getItem_list_slice ht.isList hs pl pu .none (by simp) ?_ (by rw [List.size_toArray] <;> lia)
 rw [slicePick_cut, <- hlen]
 refine ⟨.ref s.heap.objs.size, _, I.laid (t' := s.toks) (o := .lst (cutV xs lo hi)) (fun b ob q => Heap.get?_push_of_some _ q) (Nat.le_refl _) ?_, rfl, q _ (I.hok.fresh (Nat.le_refl _))⟩
 exact ⟨Nat.le_trans (cutV_length xs lo hi) hz, _, 0, (r.drop (HT.sIx xs.length 0 lo)).take (HT.sIx xs.length xs.length hi - HT.sIx xs.length 0 lo), Heap.get?_push_size _ rfl⟩
noncomputable def flatV : V -> Bool
 | .non => true
 | .bl _ => true
 | .int _ => true
 | .str _ => true
 | _ => false
noncomputable def eqV : V -> V -> Bool
 | .non, .non => true
 | .bl a, .bl b => a == b
 | .bl a, .int b => (if a then 1 else 0) == b
 | .int a, .bl b => a == (if b then 1 else 0)
 | .int a, .int b => a == b
 | .str a, .str b => a == b
 | _, _ => false
theorem eqAt_V {A : Around} {s : Shared} {y x : V} {u v : Value} (ry : RelV y u) (rx : RelV x v) (fy : flatV y = true) (fx : flatV x = true) : SeqAt.EqAt A s u v (eqV y x) := by
 cases y with
 | non =>
   cases ry
   cases x with
   | non => cases rx; exact SeqAt.EqAt.same _
   | bl b => cases rx; exact SeqAt.EqAt.none_bool b
   | int b => obtain ⟨t, rfl⟩ := rx; exact SeqAt.EqAt.none_int b t
   | str b => obtain ⟨t, rfl⟩ := rx; exact SeqAt.EqAt.none_str b t
   | _ => exact absurd (show false = true from fx) Bool.false_ne_true
 | bl a =>
   cases ry
   cases x with
   | non => cases rx; exact SeqAt.EqAt.bool_none a
   | bl b => cases rx; exact SeqAt.EqAt.bool_bool a b
   | int b => obtain ⟨t, rfl⟩ := rx; exact SeqAt.EqAt.bool_int a b t
   | str b => obtain ⟨t, rfl⟩ := rx; exact SeqAt.EqAt.bool_str a b t
   | _ => exact absurd (show false = true from fx) Bool.false_ne_true
 | int a =>
   obtain ⟨t', rfl⟩ := ry
   cases x with
   | non => cases rx; exact SeqAt.EqAt.int_none a t'
   | bl b => cases rx; exact SeqAt.EqAt.int_bool a t' b
   | int b => obtain ⟨t, rfl⟩ := rx; exact SeqAt.EqAt.int_int a t' b t
   | str b => obtain ⟨t, rfl⟩ := rx; exact SeqAt.EqAt.int_str a t' b t
   | _ => exact absurd (show false = true from fx) Bool.false_ne_true
 | str a =>
   obtain ⟨t', rfl⟩ := ry
   cases x with
   | non => cases rx; exact SeqAt.EqAt.str_none a t'
   | bl b => cases rx; exact SeqAt.EqAt.str_bool a t' b
   | int b => obtain ⟨t, rfl⟩ := rx; exact SeqAt.EqAt.str_int a t' b t
   | str b => obtain ⟨t, rfl⟩ := rx; exact SeqAt.EqAt.str_str a t' b t
   | _ => exact absurd (show false = true from fx) Bool.false_ne_true
 | _ => exact absurd (show false = true from fy) Bool.false_ne_true
theorem call_len_seq : CallR X (.builtin "len") (fun xs H Q => ∃ p ys, xs = [.ref p] /\ (SqL X.K H p ys \/ SqT X.K H p ys) /\ Q (.int ys.length) H) := by
 intro pins s σ H xs us Q I r h
 obtain ⟨p, ys, rfl, hq, q⟩ := h
 obtain ⟨u, rfl, rx⟩ := vals1 r
 cases rx
 have hn := line63
 rcases hq with hq | hq
 · obtain ⟨its, r', pl, hz⟩ := I.list hq
   have hlen := r'.length
   exact Calls.call_len_list pl.isList (by simp only [List.size_toArray] <;> lia) ⟨.int ys.length, H, I.tok _, ⟨s.toks + 1, by rw [List.size_toArray, hlen]⟩, q⟩
 · obtain ⟨its, r', pl, hz⟩ := I.tuple hq
   have hlen := r'.length
   exact len_tuple pl (by simp only [List.size_toArray] <;> lia) ⟨.int ys.length, H, I.tok _, ⟨s.toks + 1, by rw [List.size_toArray, hlen]⟩, q⟩
theorem call_list_of : CallR X (.type "list") (fun xs H Q => ∃ p ys, xs = [.ref p] /\ (SqL X.K H p ys \/ SqT X.K H p ys) /\ ∀ l, H l = none -> Q (.ref l) (upd H l (.lst ys))) := by
 intro pins s σ H xs us Q I r h
 obtain ⟨p, ys, rfl, hq, q⟩ := h
 obtain ⟨u, rfl, rx⟩ := vals1 r
 cases rx
 have fin : ∀ (its : List Value), Vals ys its -> ys.length <= sizeLine -> ∀ (h' : Heap) (c' : Nat), (∀ b o', s.heap.get? b = some o' -> h'.get? b = some o') ->
     h'.get? s.heap.objs.size = some { cls := .type "list", dict := none, data := .seq its.toArray c', slots := #[] } -> EP X pins σ Q (.ref s.heap.objs.size) { s with heap := h' } := fun its r' hz h' c' kp e =>
   ⟨.ref s.heap.objs.size, _, I.laid (t' := s.toks) kp (Nat.le_refl _) (show ObjOk X.prog X.w _ h' _ (.lst ys) from ⟨hz, its, c', r', e⟩), rfl, q _ (I.hok.fresh (Nat.le_refl _))⟩
 rcases hq with hq | hq
 · obtain ⟨its, r', pl, hz⟩ := I.list hq
   have hlen := r'.length
   obtain ⟨o, ho, hc, n, hd⟩ := pl.isList
   exact call_list_seq p (.inl rfl) ho hc hd (fun h' c' kp e => fin its r' hz h' c' kp e) (by simp only [List.size_toArray] <;> lia)
 · obtain ⟨its, r', pl, hz⟩ := I.tuple hq
   have hlen := r'.length
   obtain ⟨o, ho, hc, n, hd⟩ := pl
   exact call_list_seq p (.inr rfl) ho hc hd (fun h' c' kp e => fin its r' hz h' c' kp e) (by simp only [List.size_toArray] <;> lia)
theorem call_tuple_of : CallR X (.type "tuple") (fun xs H Q => ∃ p ys, xs = [.ref p] /\ ((SqL X.K H p ys /\ ∀ l, H l = none -> Q (.ref l) (upd H l (.tup ys))) \/ (SqT X.K H p ys /\ Q (.ref p) H))) := by
 intro pins s σ H xs us Q I r h
 obtain ⟨p, ys, rfl, h⟩ := h
 obtain ⟨u, rfl, rx⟩ := vals1 r
 cases rx
 rcases h with ⟨hq, q⟩ | ⟨hq, q⟩
 · obtain ⟨its, r', pl, hz⟩ := I.list hq
   have hlen := r'.length
   refine call_tuple_list pl.isList (fun h' kp => ?_) (by simp only [List.size_toArray] <;> lia)
   have I1 : Inv X pins σ H { s with heap := h' } := I.kept (t' := s.toks) kp
   have I2 : Inv X pins σ (upd H h'.objs.size (.tup ys)) { s with heap := h'.push { cls := .type "tuple", data := .seq its.toArray } } :=
     I1.laid (t' := s.toks) (fun b o e => Heap.get?_push_of_some _ e) (Nat.le_refl _) (show ObjOk X.prog X.w _ _ _ (.tup ys) from ⟨hz, its, r', IsTu.new _ _⟩)
   exact ⟨.ref h'.objs.size, _, I2, rfl, q _ (I1.hok.fresh (Nat.le_refl _))⟩
 · obtain ⟨its, r', pl, hz⟩ := I.tuple hq
   exact call_tuple_same pl ⟨.ref p, H, I, rfl, q⟩
noncomputable def tyV (K : PySem.W.Frag) (T : String) (x : V) (H : Hp) : Prop := match x with
 | .str _ => T = "str"
 | .int _ => T = "int"
 | .ref p => (T = "list" /\ ∃ xs, SqL K H p xs) \/ (T = "tuple" /\ ∃ o, K.lookup p = some o /\ o.cls = .type "tuple" /\ o.dict = none) \/
     (T = "dict" /\ ((∃ kvs, H p = some (.dK kvs)) \/ ∃ kvs, H p = some (.dT kvs))) \/ (T = "set" /\ ∃ S n, H p = some (.set S n))
 | _ => False
theorem tyV_is {pins : List (Addr × Obj)} {σ : St} {H : Hp} {s : Shared} {T : String} {x : V} {v : Value} (I : Inv X pins σ H s) (r : RelV x v) (ty : tyV X.K T x H) :
   s.TypeIs v T /\ ∀ a, v = .ref a -> ∃ ob, s.heap.get? a = some ob /\ ob.dict = none := by
 cases x with
 | str z =>
   obtain ⟨t, rfl⟩ := r
   cases (show T = "str" from ty)
   exact ⟨typeIs_str s z t, fun _ e => nomatch e⟩
 | int i =>
   obtain ⟨t, rfl⟩ := r
   cases (show T = "int" from ty)
   exact ⟨typeIs_int s i t, fun _ e => nomatch e⟩
 | ref p =>
   cases r
   rcases ty with ⟨rfl, xs, hq⟩ | ⟨rfl, o, hk, hc, hd⟩ | ⟨rfl, hk⟩ | ⟨rfl, S, n, hk⟩
   · obtain ⟨its, _, pl, _⟩ := I.list hq
     refine ⟨pl.isList.typeIs, fun a e => ?_⟩
     cases e
     obtain ⟨o, n, e, c, hd, _⟩ := pl
     exact ⟨o, e, hd⟩
   · refine ⟨⟨o, I.kIn p o hk, hc⟩, fun a e => ?_⟩
     cases e
     exact ⟨o, I.kIn _ o hk, hd⟩
   · have z : ∃ o, s.heap.get? p = some o /\ o.ExactDict := by
       rcases hk with ⟨kvs, hk⟩ | ⟨kvs, hk⟩
       · obtain ⟨_, _, _, _, o, _, _, e, ex, _⟩ := I.hok p _ hk
         exact ⟨o, e, ex⟩
       · obtain ⟨_, _, _, _, o, _, _, e, ex, _⟩ := I.hok p _ hk
         exact ⟨o, e, ex⟩
     obtain ⟨o, e, ex⟩ := z
     refine ⟨⟨o, e, ex.1⟩, fun a e2 => ?_⟩
     cases e2
     exact ⟨o, e, ex.2.1⟩
   · obtain ⟨o, _, _, _, e, ex, _⟩ := I.hok p _ hk
     refine ⟨⟨o, e, ex.1⟩, fun a e2 => ?_⟩
     cases e2
     exact ⟨o, e, ex.2.1⟩
 | _ => exact False.elim ty
noncomputable def tBM (K : PySem.W.Frag) (T : String) (r : V -> List V -> Hp -> VK -> Prop) (to : TE) (t : TA) : TE := fun σ H Q => to σ H fun x H1 => tyV K T x H1 /\ t σ H1 fun xs H2 => r x xs H2 Q
variable {o e : Expr} {es : List Expr} {to : TE} {t : TA} {name : Str} {apos cpos : Pos} {T id : String} {r : V -> List V -> Hp -> VK -> Prop}
theorem pe_bm (pa : PlainAttrs T) (slot : Slot T name id) (hty : typeOf (.builtin id) = pure (.type "method_descriptor")) (hm : MtR X id r) (ho : PE X o to) (ha : PA X (e :: es) t)
   (hbase : attributeBase o name X.env (eval o X.env) = eval o X.env := by rfl)
   (hfew : ((backTo cpos (starEach (e :: es) X.env)).all (fun x => !x.1) && (backToKw cpos (keywordEach [] X.env)).all (fun x => x.1.isSome)
     && decide ((e :: es).length + ([] : List Keyword).length + (if ([] : List Keyword).isEmpty then 0 else 1) < 30)) = true := by rfl)
   (hline : (apos.endLine == cpos.line) = true := by rfl) (hs : starEach (e :: es) X.env = (false, eval e X.env) :: starEach es X.env := by rfl) (hplain : (backTo cpos (starEach es X.env)).any (·.1) = false := by rfl) :
   PE X (.Call (.Attribute o name apos) (e :: es) [] cpos) (tBM X.K T r to t) := by
 intro pins s σ H Q I h
 refine wpAny_Call_method_late hbase hfew hline rfl (thn (ho pins s σ H _ I h) fun v s1 z => z.elim fun x z => z.elim fun H1 z => z.elim fun I1 z => z.elim fun r1 z => z.elim fun ty q1 => ?_)
 obtain ⟨h1, h2⟩ := tyV_is I1 r1 ty
 refine ⟨T, id, pa, slot, hty, h1, h2, ?_⟩
 have hA := ha cpos pins s1 σ H1 _ I1 q1
 rw [hs] at hA ⊢
 refine Calls.callWith_builtin (by show (false || (backTo cpos (starEach es X.env)).any (·.1)) = false; rw [hplain] <;> rfl) (Calls.evalArgs_plain ?_)
 exact thn hA fun us s2 z => z.elim fun vs z => z.elim fun H2 z => z.elim fun I2 z => z.elim fun r2 q2 => hm pins s2 σ H2 x vs v us Q I2 r1 r2 q2
/- xs.append(e), list.index on a module's tuple .. are MtR facts of 06m -/
end
end L2
namespace L2
open PySem PySem.Spec PyProof.Rows
noncomputable def MtM (X : Cx) (id : String) (r : V -> List V -> Hp -> VK -> Prop) : Prop :=
 ∀ (pins : List (Addr × Obj)) (s : Shared) (σ : St) (H : Hp) (x : V) (xs : List V) (v : Value) (us : List Value) (Q : VK), Inv X pins σ H s -> RelV x v -> Vals xs us -> r x xs H Q ->
   wpAny (model X.prog X.w) X.A (call (.builtin id) (v :: us)) (EP X pins σ Q) X.xe s
theorem Vals.one : ∀ {x : V} {us : List Value}, Vals [x] us -> ∃ u, us = [u] /\ RelV x u
 | _, _, .cons r .nil => ⟨_, rfl, r⟩
section
variable {X : Cx} {pins : List (Addr × Obj)} {σ : St} {H : Hp} {s : Shared} {l b : Addr} {xs ys zs : List V}
theorem Inv.lset {its its' : List Value} {n : Nat} {f : Array Value -> Array Value} {t' : Nat} (I : Inv X pins σ H s) (hH : H l = some (.lst xs))
   (e : s.heap.get? l = some { cls := .type "list", data := .seq its.toArray n }) (hf : f its.toArray = its'.toArray) (hv : Vals ys its') (hz : ys.length <= sizeLine) :
   Inv X pins σ (upd H l (.lst ys)) { s with heap := s.heap.update l (Obj.mapSeq f), toks := t' } := by
 have q := PySem.IsL.update e f
 rw [hf] at q
 refine I.write (x := l) (e := l) (by rw [hH]; exact trivial) (.inl rfl) (fun b' u hb hu => (Heap.get?_update_other s.heap (Obj.mapSeq f) (Ne.symm hb)).trans hu) ⟨_, q⟩ ?_
 exact ⟨hz, its', _, hv, q⟩
theorem Inv.lnew {its : List Value} {t' : Nat} (I : Inv X pins σ H s) (hv : Vals ys its) (hz : ys.length <= sizeLine) :
   Inv X pins σ (upd H s.heap.objs.size (.lst ys)) { s with heap := s.heap.push { cls := .type "list", data := .seq its.toArray }, toks := t' } :=
 I.laid (fun _ _ q => Heap.get?_push_of_some _ q) (Nat.le_refl _) ⟨hz, its, 0, hv, Heap.get?_push_size _ rfl⟩
theorem Inv.fresh (I : Inv X pins σ H s) : H s.heap.objs.size = none := I.hok.fresh (Nat.le_refl _)
theorem Inv.lstM (I : Inv X pins σ H s) (hH : H l = some (.lst xs)) : xs.length <= sizeLine /\ ∃ (its : List Value) (n : Nat), Vals xs its /\ xs.length = its.length /\ s.heap.get? l = some { cls := .type "list", data := .seq its.toArray n } := by
 obtain ⟨z, its, n, r, e⟩ := I.hok l _ hH
 exact ⟨z, its, n, r, r.length, e⟩
theorem notLongL {n : Nat} (h : n <= sizeLine) : Builtin.List.listTooLong n = false := by
 unfold Builtin.List.listTooLong
 exact decide_eq_false (by lia)
end
section
variable {X : Cx}
noncomputable def rAppend : V -> List V -> Hp -> VK -> Prop := fun x vs H Q => ∃ l xs y, x = .ref l /\ vs = [y] /\ H l = some (.lst xs) /\ xs.length < sizeLine /\ Q .non (upd H l (.lst (xs ++ [y])))
theorem mt_append : MtM X "list.append" rAppend := by
 intro pins s σ H x vs v us Q I rx rv h
 obtain ⟨l, xs, y, rfl, rfl, hH, hz, q⟩ := h
 cases rx
 obtain ⟨u, rfl, ru⟩ := rv.one
 obtain ⟨z, its, n, r, hl, e⟩ := I.lstM hH
 refine call_meets F.slot_list_append ⟨_, e, rfl⟩ F.entry_list_append (F.args_list_append_2 _ _) (PySem.list_append l its.toArray n u (by rw [List.size_toArray]; lia)) ⟨e, ?_⟩
 refine ⟨.non, _, I.lset (its' := its ++ [u]) hH e (by simp) (r.append (.cons ru .nil)) ?_, rfl, q⟩
 rw [List.length_append, List.length_singleton]
 lia
noncomputable def rExtend : V -> List V -> Hp -> VK -> Prop := fun x vs H Q => ∃ l b xs zs, x = .ref l /\ vs = [.ref b] /\ H l = some (.lst xs) /\ H b = some (.lst zs) /\ xs.length + zs.length <= sizeLine /\ Q .non (upd H l (.lst (xs ++ zs)))
theorem mt_extend : MtM X "list.extend" rExtend := by
 intro pins s σ H x vs v us Q I rx rv h
 obtain ⟨l, b, xs, zs, rfl, rfl, hH, hB, hz, q⟩ := h
 cases rx
 obtain ⟨u, rfl, ru⟩ := rv.one
 cases ru
 obtain ⟨z, its, n, r, hl, e⟩ := I.lstM hH
 obtain ⟨z2, its2, n2, r2, hl2, e2⟩ := I.lstM hB
 have hsz : its.toArray.size + its2.toArray.size <= sizeLine := by rw [List.size_toArray, List.size_toArray]; lia
 have hlong : ¬ (!its.toArray.isEmpty && Builtin.List.listTooLong (its.toArray.size + its2.toArray.size)) = true := by
   rw [notLongL hsz, Bool.and_false]
   exact Bool.false_ne_true
 refine call_meets F.slot_list_extend ⟨_, e, rfl⟩ F.entry_list_extend (F.args_list_extend_2 _ _)
   (AutoSeq1.list_extend_list_list_0 l its.toArray n b its2.toArray n2 hlong (by rw [List.size_toArray]; lia) (by lia)) ⟨e, e2, ?_⟩
 refine ⟨.non, _, I.lset (its' := its ++ its2) hH e (by simp) (r.append r2) ?_, rfl, q⟩
 rw [List.length_append]
 lia
noncomputable def rCat : R2 := fun x y H Q => ∃ l b xs zs, x = .ref l /\ y = .ref b /\ H l = some (.lst xs) /\ H b = some (.lst zs) /\ xs.length + zs.length <= sizeLine /\ ∀ p, H p = none -> Q (.ref p) (upd H p (.lst (xs ++ zs)))
theorem op_cat : OpR X (binaryOp .Add) rCat := by
 intro pins s σ H x y v u Q I rx ry h
 obtain ⟨l, b, xs, zs, rfl, rfl, hH, hB, hz, q⟩ := h
 cases rx
 cases ry
 obtain ⟨z, its, n, r, hl, e⟩ := I.lstM hH
 obtain ⟨z2, its2, n2, r2, hl2, e2⟩ := I.lstM hB
 refine PySem.P.add_list e e2 ?_ (by rw [List.size_toArray, List.size_toArray]; lia)
 have ea : its.toArray ++ its2.toArray = (its ++ its2).toArray := by simp
 rw [ea]
 exact ⟨.ref _, _, I.lnew (t' := s.toks) (r.append r2) (by rw [List.length_append]; lia), rfl, q _ I.fresh⟩
end
end L2
namespace L2
open PySem PySem.Spec PyProof.Rows
section
variable {κ : Type} [DecidableEq κ]
noncomputable def valV (kvs : List (κ × V)) (k : κ) : Option V := (kvs.find? fun kv => decide (kv.1 = k)).map (·.2)
noncomputable def putK (kvs : List (κ × V)) (k : κ) (v : V) : List (κ × V) :=
 if (kvs.any fun kv => decide (kv.1 = k)) = true then kvs.map (fun kv => if kv.1 = k then (kv.1, v) else kv) else kvs ++ [(k, v)]
theorem valV_pos {p : κ × V} {r : List (κ × V)} {k : κ} (e : p.1 = k) : valV (p :: r) k = some p.2 := by simp [valV, List.find?_cons, e]
theorem valV_neg {p : κ × V} {r : List (κ × V)} {k : κ} (e : ¬ p.1 = k) : valV (p :: r) k = valV r k := by simp [valV, List.find?_cons, e]
theorem valV_any (k : κ) : ∀ kvs : List (κ × V), (kvs.any fun kv => decide (kv.1 = k)) = (valV kvs k).isSome
 | [] => rfl
 | p :: r => by
   rw [List.any_cons]
   by_cases e : p.1 = k
   · simp only [valV_pos e, decide_eq_true e, Bool.true_or, Option.isSome_some]
   · rw [valV_neg e, decide_eq_false e, Bool.false_or]; exact valV_any k r
theorem length_putK (kvs : List (κ × V)) (k : κ) (v : V) : (putK kvs k v).length <= kvs.length + 1 := by
 unfold putK
 split
 · rw [List.length_map]; lia
 · rw [List.length_append, List.length_cons, List.length_nil]; lia
theorem RelO.isSome_eq {o : Option V} {u : Option Value} (r : RelO o u) : o.isSome = u.isSome := by
 cases o with
 | none => cases u with
   | none => rfl
   | some _ => exact (show False from r).elim
 | some _ => cases u with
   | none => exact (show False from r).elim
   | some _ => rfl
theorem RelO.getD {o : Option V} {u : Option Value} {d : V} {d' : Value} (r : RelO o u) (rd : RelV d d') : RelV (o.getD d) (u.getD d') := by
 cases o with
 | none => cases u with
   | none => exact rd
   | some _ => exact (show False from r).elim
 | some _ => cases u with
   | none => exact (show False from r).elim
   | some _ => exact r
theorem KV.val {kvs : List (κ × V)} {vs : List (κ × Value)} (r : KV kvs vs) (k : κ) : RelO (valV kvs k) (valueAt vs k) := by
 unfold KV at r
 induction r with
 | nil => exact True.intro
 | @cons p q ps qs h t ih =>
   obtain ⟨h1, h2⟩ := h
   by_cases e : p.1 = k
   · have e' : q.1 = k := h1.symm.trans e
     have b : valueAt (q :: qs) k = some q.2 := by simp [valueAt, List.find?_cons, e']
     rw [valV_pos e, b]; exact h2
   · have e' : ¬ q.1 = k := fun z => e (h1.trans z)
     have b : valueAt (q :: qs) k = valueAt qs k := by simp [valueAt, List.find?_cons, e']
     rw [valV_neg e, b]; exact ih
theorem KV.any {kvs : List (κ × V)} {vs : List (κ × Value)} (r : KV kvs vs) (k : κ) : (kvs.any fun kv => decide (kv.1 = k)) = vs.any fun kv => decide (kv.1 = k) := by
 unfold KV at r
 induction r with
 | nil => rfl
 | cons h t ih => rw [List.any_cons, List.any_cons, ih, h.1]
theorem KV.repl {kvs : List (κ × V)} {vs : List (κ × Value)} (r : KV kvs vs) (k : κ) {y : V} {u : Value} (ry : RelV y u) :
   KV (kvs.map fun kv => if kv.1 = k then (kv.1, y) else kv) (vs.map fun kv => if kv.1 = k then (kv.1, u) else kv) := by
 unfold KV at r ⊢
 induction r with
 | nil => exact .nil
 | @cons p q ps qs h t ih =>
   rw [List.map_cons, List.map_cons]
   refine .cons ?_ ih
   obtain ⟨h1, h2⟩ := h
   by_cases e : p.1 = k
   · rw [if_pos e, if_pos (h1.symm.trans e)]; exact ⟨h1, ry⟩
   · rw [if_neg e, if_neg (fun z => e (h1.trans z))]; exact ⟨h1, h2⟩
theorem KV.put {kvs : List (κ × V)} {vs : List (κ × Value)} (r : KV kvs vs) (k : κ) {y : V} {u : Value} (ry : RelV y u) : KV (putK kvs k y) (stored vs k u) := by
 unfold putK stored
 rw [r.any k]
 by_cases e : (vs.any fun kv => decide (kv.1 = k)) = true
 · rw [if_pos e, if_pos e]; exact r.repl k ry
 · rw [if_neg e, if_neg e]; exact Paired.snoc r ⟨rfl, ry⟩
theorem KV.keys {kvs : List (κ × V)} {vs : List (κ × Value)} (r : KV kvs vs) : kvs.map (·.1) = vs.map (·.1) := by
 unfold KV at r
 induction r with
 | nil => rfl
 | cons h t ih => rw [List.map_cons, List.map_cons, ih, h.1]
theorem KV.length {kvs : List (κ × V)} {vs : List (κ × Value)} (r : KV kvs vs) : kvs.length = vs.length := Paired.length r
end
theorem kV_is {P : Program} {w : World} {k : Key} {u : Value} (r : RelV (kV k) u) : (mixKind P w).is k u = true := by
 cases k with
 | inl i => obtain ⟨t, e⟩ := (show ∃ t, u = Value.int i t from r); subst e; exact mixKind_int P w i t
 | inr x => obtain ⟨t, e⟩ := (show ∃ t, u = Value.str x t from r); subst e; exact mixKind_str P w x t
theorem items_are {P : Program} {w : World} : ∀ {ks : List Key} {us : List Value}, Vals (ks.map kV) us -> ItemsAre (mixKind P w) ks us
 | [], _, r => by rw [List.map_nil] at r; cases r; exact .nil
 | k :: ks, _, r => by
   rw [List.map_cons] at r
   cases r with
   | cons h t => exact .cons (kV_is h) (items_are t)
noncomputable abbrev KT (H : Hp) : List (List Key × V) -> List (List Key × Addr × Value) -> Prop := Paired fun p q => p.1 = q.1 /\ H q.2.1 = some (.tup (p.1.map kV)) /\ RelV p.2 q.2.2
theorem KT.val {H : Hp} {kvs : List (List Key × V)} {xs : List (List Key × Addr × Value)} (r : KT H kvs xs) (k : List Key) : RelO (valV kvs k) ((atKey xs k).map (·.2)) := by
 induction r with
 | nil => exact True.intro
 | @cons p q ps qs h t ih =>
   obtain ⟨h1, _, h2⟩ := h
   by_cases e : p.1 = k
   · have e' : q.1 = k := h1.symm.trans e
     have b : atKey (q :: qs) k = some q.2 := by simp [atKey, List.find?_cons, e']
     rw [valV_pos e, b]; exact h2
   · have e' : ¬ q.1 = k := fun z => e (h1.trans z)
     have b : atKey (q :: qs) k = atKey qs k := by simp [atKey, List.find?_cons, e']
     rw [valV_neg e, b]; exact ih
theorem KT.repl {H : Hp} {kvs : List (List Key × V)} {xs : List (List Key × Addr × Value)} (r : KT H kvs xs) (k : List Key) {y : V} {u : Value} (ry : RelV y u) :
   KT H (kvs.map fun kv => if kv.1 = k then (kv.1, y) else kv) (xs.map (putAt k u)) := by
 induction r with
 | nil => exact .nil
 | @cons p q ps qs h t ih =>
   rw [List.map_cons, List.map_cons]
   refine .cons ?_ ih
   obtain ⟨h1, h2, h3⟩ := h
   unfold putAt
   by_cases e : p.1 = k
   · rw [if_pos e, if_pos (h1.symm.trans e)]; exact ⟨h1, h2, ry⟩
   · rw [if_neg e, if_neg (fun z => e (h1.trans z))]; exact ⟨h1, h2, h3⟩
theorem KT.put {H : Hp} {kvs : List (List Key × V)} {xs : List (List Key × Addr × Value)} (r : KT H kvs xs) (k : List Key) {b : Addr} {y : V} {u : Value} (hb : H b = some (.tup (k.map kV))) (ry : RelV y u) :
   KT H (putK kvs k y) (storedH xs k b u) := by
 have e : (kvs.any fun kv => decide (kv.1 = k)) = (atKey xs k).isSome := by
   rw [valV_any, (r.val k).isSome_eq, Option.isSome_map]
 unfold putK storedH
 rw [e]
 by_cases q : (atKey xs k).isSome = true
 · rw [if_pos q, if_pos q]; exact r.repl k ry
 · rw [if_neg q, if_neg q]; exact Paired.snoc r ⟨rfl, hb, ry⟩
theorem KT.keeps {H H' : Hp} {kvs : List (List Key × V)} {xs : List (List Key × Addr × Value)} (r : KT H kvs xs) (ht : ∀ b ys, H b = some (.tup ys) -> H' b = some (.tup ys)) : KT H' kvs xs :=
 Paired.mapP r fun _ _ z => ⟨z.1, ht _ _ z.2.1, z.2.2⟩
section
variable {P : Program} {w : World} {H : Hp} {h : Heap} {a : Addr}
theorem rd_of {u : HO} (ok : HOk P w H h) (e : Rd H a u) : ObjOk P w H h a u := e.ok ok
theorem dk_rd {kvs : List (Key × V)} (ok : HOk P w H h) (e : Rd H a (.dK kvs)) : kvs.length <= sizeLine /\ (a == sysModules) = false /\ ∃ vs, KV kvs vs /\ h.DictOf (mixKind P w) a vs :=
 show ObjOk P w H h a (.dK kvs) from rd_of ok e
theorem dk_of {kvs : List (Key × V)} (ok : HOk P w H h) (e : H a = some (.dK kvs)) : kvs.length <= sizeLine /\ (a == sysModules) = false /\ ∃ vs, KV kvs vs /\ h.DictOf (mixKind P w) a vs := dk_rd ok (.inl e)
theorem key_of {ks : List Key} (ok : HOk P w H h) (e : H a = some (.tup (ks.map kV))) : (tupleKind (mixKind P w)).is h ks a := by
 obtain ⟨_, its, r, o, h1, h2, n, h3, _⟩ := (show ObjOk P w H h a (.tup (ks.map kV)) from ok a _ e)
 exact ⟨o, its.toArray, n, h1, h2, h3, by simpa using items_are r⟩
theorem dt_rd {kvs : List (List Key × V)} (ok : HOk P w H h) (e : Rd H a (.dT kvs)) : kvs.length <= sizeLine /\ (a == sysModules) = false /\
   ∃ xs, KT H kvs xs /\ h.DictOfH (tupleKind (mixKind P w)) a xs := by
 obtain ⟨z, y, xs, r, o, es, ep, h1, h2, h3, h4, h5⟩ := (show ObjOk P w H h a (.dT kvs) from rd_of ok e)
 refine ⟨z, y, xs, r, o, es, ep, h1, h2, h3, h4, fun x hx => ?_, h5⟩
 have all : ∀ {l : List (List Key × V)} {m : List (List Key × Addr × Value)}, KT H l m -> ∀ x ∈ m, (tupleKind (mixKind P w)).is h x.1 x.2.1 := by
   intro l m q
   induction q with
   | nil => intro x hx; exact nomatch hx
   | @cons p q ps qs hq t ih =>
     intro x hx
     rcases List.mem_cons.mp hx with e | hx
     · subst e
       exact key_of ok (by rw [<- hq.1]; exact hq.2.1)
     · exact ih x hx
 exact all r x hx
theorem dt_of {kvs : List (List Key × V)} (ok : HOk P w H h) (e : H a = some (.dT kvs)) : kvs.length <= sizeLine /\ (a == sysModules) = false /\
   ∃ xs, KT H kvs xs /\ h.DictOfH (tupleKind (mixKind P w)) a xs := dt_rd ok (.inl e)
end
noncomputable def DGet (H : Hp) (a : Addr) (y : V) (r : Option V) : Prop :=
 (∃ kvs k, Rd H a (.dK kvs) /\ y = kV k /\ r = valV kvs k) \/ ∃ kvs k b, Rd H a (.dT kvs) /\ y = .ref b /\ H b = some (.tup (k.map kV)) /\ r = valV kvs k
noncomputable def DPut (H : Hp) (a : Addr) (y v : V) (H' : Hp) : Prop :=
 (∃ kvs k, H a = some (.dK kvs) /\ y = kV k /\ kvs.length < sizeLine /\ H' = upd H a (.dK (putK kvs k v))) \/
 ∃ kvs k b, H a = some (.dT kvs) /\ y = .ref b /\ H b = some (.tup (k.map kV)) /\ kvs.length < sizeLine /\ H' = upd H a (.dT (putK kvs k v))
theorem DGet.k {H : Hp} {a : Addr} {kvs : List (Key × V)} {k : Key} (e : H a = some (.dK kvs)) : DGet H a (kV k) (valV kvs k) := .inl ⟨kvs, k, .inl e, rfl, rfl⟩
theorem DPut.k {H : Hp} {a : Addr} {kvs : List (Key × V)} {k : Key} {v : V} (e : H a = some (.dK kvs)) (hl : kvs.length < sizeLine) : DPut H a (kV k) v (upd H a (.dK (putK kvs k v))) := .inl ⟨kvs, k, e, rfl, hl, rfl⟩
section
variable {X : Cx} {pins : List (Addr × Obj)} {σ : St} {H : Hp} {s : Shared} {a : Addr} {y v : V} {u r : Value} {o : Option V} {A : Around} {E : Value -> Shared -> Prop}
theorem Inv.big (I : Inv X pins σ H s) : sysModules < s.heap.objs.size := by
 have h : mainGlobals < s.heap.objs.size := (I.mod.glob.keeps I.bk).lt
 exact Nat.lt_trans (by decide) h
theorem d_getItem {Q : Value -> Shared -> Prop} (hu : A.units + 1 < cLine) (I : Inv X pins σ H s) (g : DGet H a y (some v)) (ry : RelV y u) (h : ∀ w' s', Inv X pins σ H s' -> RelV v w' -> Q w' s') :
   wpAny (model X.prog X.w) A (getItem (.ref a) u) Q E s := by
 rcases g with ⟨kvs, k, e, ey, l⟩ | ⟨kvs, k, b, e, ey, eb, l⟩
 · subst ey
   obtain ⟨z, hd, vs, rel, dd⟩ := dk_rd I.hok e
   obtain ⟨w', hw, rw'⟩ := RelO.some_of (v := v) (o := valueAt vs k) (by rw [l]; exact rel.val k)
   exact wpAny_getItem_of (kV_is ry) dd.mapOf hw (h w' _ (I.tok _) rw')
 · subst ey
   cases (show u = Value.ref b from ry)
   obtain ⟨z, hd, xs, rel, dd⟩ := dt_rd I.hok e
   obtain ⟨w', hw, rw'⟩ := RelO.some_of (v := v) (o := (atKey xs k).map (·.2)) (by rw [l]; exact rel.val k)
   obtain ⟨p, hp, hp2⟩ := Option.map_eq_some_iff.mp hw
   refine wpAny_getItem_heap (tupleKind_room_in1 hu) (key_of I.hok eb) dd hp ?_
   rw [hp2]
   exact h w' _ (I.tok _) rw'
theorem d_write {h' : Heap} {t' : Nat} {ob : HO} (I : Inv X pins σ H s) (mu : Mut (H a)) (hs : Heap.SameBut a s.heap h') (he : ∃ q, h'.get? a = some q) (new : ObjOk X.prog X.w (upd H a ob) h' a ob) :
   Inv X pins σ (upd H a ob) { s with heap := h', toks := t' } :=
 I.write (x := a) (e := a) mu (.inl rfl) (fun b q hb z => (hs.2 b hb).trans z) he new
theorem dk_new {P : Program} {w : World} {H' : Hp} {h' : Heap} {kvs : List (Key × V)} {vs : List (Key × Value)} (z : kvs.length <= sizeLine) (hd : (a == sysModules) = false) (rel : KV kvs vs) (dd : h'.DictOf (mixKind P w) a vs) :
   ObjOk P w H' h' a (.dK kvs) := ⟨z, hd, vs, rel, dd⟩
theorem d_setItem {H' : Hp} {Q : Unit -> Shared -> Prop} (hu : A.units + 1 < cLine) (I : Inv X pins σ H s) (g : DPut H a y v H') (ry : RelV y u) (rv : RelV v r) (h : ∀ s', Inv X pins σ H' s' -> Q () s') :
   wpAny (model X.prog X.w) A (setItem (.ref a) u r) Q E s := by
 rcases g with ⟨kvs, k, e, ey, l, eH⟩ | ⟨kvs, k, b, e, ey, eb, l, eH⟩
 · subst ey eH
   obtain ⟨z, hd, vs, rel, dd⟩ := dk_of I.hok e
   have hz : vs.length <= sizeLine := by rw [<- rel.length]; exact z
   have hl : (putK kvs k v).length <= sizeLine := by have := length_putK kvs k v; lia
   refine wpAny_setItem_pairs (hsz := hz) (kV_is ry) dd fun h' dd' hs => h _ ?_
   have he : ∃ q, h'.get? a = some q := let ⟨q, _, _, hq, _⟩ := dd'; ⟨q, hq⟩
   exact d_write I (by rw [e]; exact True.intro) hs he (dk_new hl hd (rel.put k rv) dd')
 · subst ey eH
   cases (show u = Value.ref b from ry)
   obtain ⟨z, hd, xs, rel, dd⟩ := dt_of I.hok e
   have hz : xs.length <= sizeLine := by rw [<- Paired.length rel]; exact z
   have hl : (putK kvs k v).length <= sizeLine := by have := length_putK kvs k v; lia
   refine wpAny_setItem_heap (hsz := hz) (tupleKind_room_in1 hu) (key_of I.hok eb) dd fun h' dd' hs => h _ ?_
   obtain ⟨q, es, ep, hq, h2, h3, h4, _, h5⟩ := dd'
   refine d_write I (by rw [e]; exact True.intro) hs ⟨q, hq⟩ ⟨hl, hd, _, (rel.put k eb rv).keeps fun c ys ec => ?_, q, es, ep, hq, h2, h3, h4, h5⟩
   rw [upd_ne (ne_of ec e (fun z => nomatch z))]
   exact ec
end
noncomputable def NoSl (i : Expr) : Prop := ∀ ov iv, subscripted i false ov iv = operate [ov, iv] (getItem ov iv)
theorem subD_of {prog : Program} {w : World} {A : Around} {E : Value -> Shared -> Prop} {s : Shared} {env : Env} {value slice : Expr} {pos : Pos} {T id : String} {Q : Value -> Shared -> Prop}
   (hl : typeLookup (.type T) "__getitem__" = pure (some (.builtin id))) (hs : NoSl slice)
   (h : wpAny (model prog w) A (eval value env) (fun o s₁ => wpAny (model prog w) A (eval slice env) (fun i s₂ => s₂.TypeIs o T /\ wpAny (model prog w) A (getItem o i) Q E s₂) E s₁) E s) :
   wpAny (model prog w) A (eval (.Subscript value slice pos) env) Q E s := by
 refine Subscript_ (wpAny_mono h (fun o s₁ h₁ => wpAny_mono h₁ (fun i s₂ h₂ => ?_) fun _ _ x => x) fun _ _ x => x)
 obtain ⟨hT, h₂⟩ := h₂
 unfold subscriptTail
 refine wpAny_bind ?_
 rw [getitemInPython_of_ne hT.not_modules]
 refine wpAny_bind (wpAny_specialOf hT hl ?_)
 have fin : wpAny (model prog w) A (subscripted slice false o i) (fun r s₃ => wpAny (model prog w) A (letTemporaryGo value o r >>= fun _ => pure r) Q E s₃) E s₂ := by
   rw [hs o i]
   exact wpAny_operating (wpAny_mono h₂ (fun r s₃ h₃ => wpAny_bind (wpAny_letTemporaryGo (wpAny_pure h₃))) fun _ _ x => x)
 first
   | exact wpAny_pure (wpAny_bind fin)
   | exact wpAny_bind (wpAny_pure (wpAny_bind fin))
   | exact wpAny_bind fin
theorem dict_typeIs {X : Cx} {pins : List (Addr × Obj)} {σ : St} {H : Hp} {s : Shared} {a : Addr} {y : V} {o : Option V} (I : Inv X pins σ H s) (g : DGet H a y o) : s.TypeIs (.ref a) "dict" := by
 rcases g with ⟨kvs, k, e, _, _⟩ | ⟨kvs, k, b, e, _, _, _⟩
 · obtain ⟨_, _, vs, _, dd⟩ := dk_rd I.hok e
   exact dd.typeIs
 · obtain ⟨_, _, xs, _, dd⟩ := dt_rd I.hok e
   exact dd.typeIs
noncomputable def tDGet (td ty : TE) : TE := fun σ H Q => td σ H fun x H1 => ty σ H1 fun y H2 => ∃ a v, x = .ref a /\ DGet H2 a y (some v) /\ Q v H2
noncomputable def sDPut (td ty tv : TE) : TS := fun D σ H => tv σ H fun v H1 => td σ H1 fun x H2 => ty σ H2 fun y H3 => ∃ a H4, x = .ref a /\ DPut H3 a y v H4 /\ D.nx σ H4
section
variable {X : Cx} {o i e value : Expr} {pos pos' tpos : Pos} {td ty tv : TE}
theorem pe_dget (hu : X.A.units + 1 < cLine) (ho : PE X o td) (hi : PE X i ty) (hs : NoSl i) : PE X (.Subscript o i pos) (tDGet td ty) := by
 intro pins s σ H Q I h
 refine subD_of PySem.F.slot_dict_getitem.lookup hs (thn (ho pins s σ H _ I h) fun u s1 z => z.elim fun x z => z.elim fun H1 z => z.elim fun I1 z => z.elim fun rx q1 => thn (hi pins s1 σ H1 _ I1 q1) fun iv s2 z => z.elim fun y z => z.elim fun H2 z => z.elim fun I2 z => z.elim fun ry z => z.elim fun a z => z.elim fun v z => z.elim fun ex z => z.elim fun g q2 => ?_)
 subst ex
 obtain rfl : u = Value.ref a := rx
 exact ⟨dict_typeIs I2 g, d_getItem hu I2 g ry fun w' s3 I3 rw' => ⟨v, H2, I3, rw', q2⟩⟩
theorem ps_dput (hu : X.A.units + 1 < cLine) (ho : PE X o td) (hi : PE X i ty) (hv : PE X value tv) (hs : swapsWith value (some (.Subscript o i pos')) pos.line X.env = pure false) :
   PS X (.Assign [.Subscript o i pos'] value pos) (sDPut td ty tv) := by
 intro pins s σ H D I h
 refine wpAny_Assign_Subscript (thn (hv pins s σ H _ I h) fun r s1 z => z.elim fun v z => z.elim fun H1 z => z.elim fun I1 z => z.elim fun rv q1 => thn (ho pins s1 σ H1 _ I1 q1) fun u s2 z => z.elim fun x z => z.elim fun H2 z => z.elim fun I2 z => z.elim fun rx q2 => thn (hi pins s2 σ H2 _ I2 q2) fun iv s3 z => z.elim fun y z => z.elim fun H3 z => z.elim fun I3 z => z.elim fun ry z => z.elim fun a z => z.elim fun H4 z => z.elim fun ex z => z.elim fun g q3 => ?_) hs
 subst ex
 obtain rfl : u = Value.ref a := rx
 exact d_setItem hu I3 g ry rv fun s4 I4 => ⟨σ, H4, I4, q3⟩
end
theorem dk_empty {P : Program} {w : World} {H : Hp} (h : Heap) (hb : sysModules < h.objs.size) : ObjOk P w H (h.push { cls := .type "dict", data := .dict #[] }) h.objs.size (.dK []) :=
 ⟨Nat.zero_le _, beq_eq_false_iff_ne.mpr (Ne.symm (Nat.ne_of_lt hb)), [], .nil, Heap.DictOf.new h⟩
noncomputable def tDNewK : TE := fun _ H Q => ∀ p, H p = none -> Q (.ref p) (upd H p (.dK []))
section
variable {X : Cx} {pos : Pos}
theorem pe_dnewK : PE X (.Dict [] [] pos) tDNewK := fun pins s σ H Q I h =>
 wpAny_Dict_empty ⟨.ref s.heap.objs.size, _, I.laid (a := s.heap.objs.size) (o := .dK []) (t' := s.toks) (fun _ _ q => Heap.get?_push_of_some _ q) (Nat.le_refl _) (dk_empty s.heap I.big), rfl, h _ (I.hok.fresh (Nat.le_refl _))⟩
end
structure M1 (X : Cx) (o : Expr) (m : Str) (apos : Pos) (e : Expr) (cpos : Pos) : Prop where
 base : attributeBase o m X.env (eval o X.env) = eval o X.env
 few : ((backTo cpos (starEach [e] X.env)).all (fun x => !x.1) && (backToKw cpos (keywordEach [] X.env)).all (fun x => x.1.isSome)
   && decide (([e] : List Expr).length + ([] : List Keyword).length + (if ([] : List Keyword).isEmpty then 0 else 1) < 30)) = true
 line : (apos.endLine == cpos.line) = true
 trees : backTo cpos (starEach [e] X.env) = [(false, eval e X.env)]
structure M2 (X : Cx) (o : Expr) (m : Str) (apos : Pos) (e f : Expr) (cpos : Pos) : Prop where
 base : attributeBase o m X.env (eval o X.env) = eval o X.env
 few : ((backTo cpos (starEach [e, f] X.env)).all (fun x => !x.1) && (backToKw cpos (keywordEach [] X.env)).all (fun x => x.1.isSome)
   && decide (([e, f] : List Expr).length + ([] : List Keyword).length + (if ([] : List Keyword).isEmpty then 0 else 1) < 30)) = true
 line : (apos.endLine == cpos.line) = true
 trees : backTo cpos (starEach [e, f] X.env) = [(false, eval e X.env), (false, eval f X.env)]
noncomputable def IsD (H : Hp) (a : Addr) : Prop := (∃ kvs, Rd H a (.dK kvs)) \/ ∃ kvs, Rd H a (.dT kvs)
theorem isD_at {X : Cx} {pins : List (Addr × Obj)} {σ : St} {H : Hp} {s : Shared} {a : Addr} (I : Inv X pins σ H s) (d : IsD H a) :
   s.TypeIs (.ref a) "dict" /\ (∀ b, Value.ref a = .ref b -> ∃ ob, s.heap.get? b = some ob /\ ob.dict = none) /\ (a == sysModules) = false := by
 rcases d with ⟨kvs, e⟩ | ⟨kvs, e⟩
 · obtain ⟨_, hd, vs, _, dd⟩ := dk_rd I.hok e
   refine ⟨dd.typeIs, fun b q => ?_, hd⟩
   cases q
   obtain ⟨ob, _, _, h1, h2, _⟩ := dd
   exact ⟨ob, h1, h2.2.1⟩
 · obtain ⟨_, hd, xs, _, dd⟩ := dt_rd I.hok e
   refine ⟨dd.typeIs, fun b q => ?_, hd⟩
   cases q
   obtain ⟨ob, _, _, h1, h2, _⟩ := dd
   exact ⟨ob, h1, h2.2.1⟩
section
variable {X : Cx} {pins : List (Addr × Obj)} {σ : St} {H : Hp} {s : Shared} {a : Addr} {y d : V} {u r : Value} {o : Option V} {A : Around} {E : Value -> Shared -> Prop}
theorem d_get2 {Q : Value -> Shared -> Prop} (hu : A.units + 1 < cLine) (I : Inv X pins σ H s) (g : DGet H a y o) (ry : RelV y u) (rd : RelV d r) (h : ∀ w' s', Inv X pins σ H s' -> RelV (o.getD d) w' -> Q w' s') :
   wpAny (model X.prog X.w) A (call (.builtin "dict.get") [.ref a, u, r]) Q E s := by
 rcases g with ⟨kvs, k, e, ey, l⟩ | ⟨kvs, k, b, e, ey, eb, l⟩
 · subst ey
   obtain ⟨z, hd, vs, rel, dd⟩ := dk_rd I.hok e
   refine call_meetsIn PySem.F.slot_dict_get dd.typeIs PySem.F.entry_dict_get (PySem.F.args_dict_get_3 _ _ _) (meets_dict_get_default (mixKind X.prog X.w) a (kV_is ry) hd r) ⟨_, dd.mapOf, h _ _ (I.tok _) ?_⟩
   rw [l]
   exact (rel.val k).getD rd
 · subst ey
   cases (show u = Value.ref b from ry)
   obtain ⟨z, hd, xs, rel, dd⟩ := dt_rd I.hok e
   refine call_meetsIn PySem.F.slot_dict_get dd.typeIs PySem.F.entry_dict_get (PySem.F.args_dict_get_3 _ _ _) (meetsH_dict_get_default (tupleKind (mixKind X.prog X.w)) a b hd r) ⟨tupleKind_room_in1 hu, k, xs, key_of I.hok eb, dd, h _ _ (I.tok _) ?_⟩
   rw [l]
   exact (rel.val k).getD rd
end
noncomputable def tDGet2 (td ty tx : TE) : TE := fun σ H Q => td σ H fun x H1 => ∃ a, x = .ref a /\ IsD H1 a /\ ty σ H1 fun y H2 => tx σ H2 fun z H3 => ∃ o, DGet H3 a y o /\ Q (o.getD z) H3
section
variable {X : Cx} {o e f : Expr} {apos cpos : Pos} {td ty tx : TE}
theorem pe_dget2 (hu : X.A.units + 1 < cLine) (ho : PE X o td) (he : PE X e ty) (hf : PE X f tx) (m : M2 X o "get" apos e f cpos) : PE X (.Call (.Attribute o "get" apos) [e, f] [] cpos) (tDGet2 td ty tx) := by
 intro pins s σ H Q I h
 refine wpAny_Call_method m.base m.few m.line PySem.F.plainAttrs_dict PySem.F.slot_dict_get PySem.F.type_dict_get (thn (ho pins s σ H _ I h) fun u s1 z => z.elim fun x z => z.elim fun H1 z => z.elim fun I1 z => z.elim fun rx z => z.elim fun a z => z.elim fun ex z => z.elim fun d q1 => ?_)
 subst ex
 obtain rfl : u = Value.ref a := rx
 obtain ⟨t1, t2, _⟩ := isD_at I1 d
 refine ⟨t1, t2, ?_⟩
 rw [m.trees]
 refine Calls.callWith_builtin rfl (Calls.evalArgs_plain (Calls.spliced_cons (thn (he pins s1 σ H1 _ I1 q1) fun iv s2 z => z.elim fun y z => z.elim fun H2 z => z.elim fun I2 z => z.elim fun ry q2 =>
   Calls.spliced_cons (thn (hf pins s2 σ H2 _ I2 q2) fun fv s3 z => z.elim fun z z => z.elim fun H3 z => z.elim fun I3 z => z.elim fun rz z => z.elim fun ov z => z.elim fun g q3 => Calls.spliced_nil ?_))))
 exact d_get2 hu I3 g ry rz fun w' s4 I4 rw' => ⟨_, H3, I4, rw', q3⟩
end
end L2
namespace Att
open PySem PySem.W PySem.Calls PyProof.Rows
theorem ints_of_wellAll {P : Params} {h : Heap} : ∀ (ns : List Int) (vs : List Value), WellAll P h vs (ns.map WData.int) -> IntsAre vs ns := by
 intro ns
 induction ns with
 | nil =>
   intro vs w
   rw [List.map_nil] at w
   cases w
   exact .nil
 | cons n ns ih =>
   intro vs w
   rw [List.map_cons] at w
   cases w with
   | cons a b =>
     cases a
     exact .cons _ _ (ih _ b)
theorem script_of {l : OpenLaw} {n : Nat} (hn : l.most = some n) {P : Params} {h : Heap} {args : List WData} {vals : List Value}
   (hpre : l.row.toRowW.claim.pre args = true) (hwl : WellAll P h vals args) :
   ∃ a vs ns, vals = [Value.ref a] /\ args = [WData.list (ns.map WData.int)] /\ h.get? a = some { cls := .type "list", data := .seq vs.toArray } /\ IntsAre vs ns /\ ns.length <= n := by
 have hsh : WShape.hasAll [] args [.list .int] = true := (pre_splitW hpre).1
 have hc : l.pre.holds [] { args := args } = true := (pre_splitW hpre).2
 obtain ⟨d, r, rfl, h1, h2⟩ := hasAllW_cons hsh
 obtain rfl := hasAllW_nil h2
 obtain ⟨xs, rfl, h3⟩ := hasW_list h1
 obtain ⟨ns, rfl⟩ := items_int h3
 have hlen : ns.length <= n := by
   unfold OpenLaw.pre at hc
   have h4 : (WTm.not (.lt (.lit (.int (n : Int))) (.len (.arg 0)))).holds [] { args := [.list (ns.map .int)] } = true := by
     have h4 := (holds_andW hc).1
     rw [hn] at h4
     exact h4
   have h5 := condW_of h4 (w_not (w_lt w_lit (w_len_list (w_arg rfl))))
   rw [List.length_map] at h5
   refine Nat.le_of_not_lt fun q => ?_
   have q' : (n : Int) < ((ns.length : Nat) : Int) := by lia
   first
     | (rw [decide_eq_true q'] at h5; exact absurd h5 (by decide))
     | (simp at h5; lia)
 cases hwl with
 | cons w1 w2 =>
   cases w2
   cases w1 with
   | list ho hall => exact ⟨_, _, ns, rfl, rfl, ho, ints_of_wellAll ns _ hall, hlen⟩
theorem post_true (l : OpenLaw) (args : List WData) : l.row.toRowW.claim.post args (.bool true) args = true :=
 postW_of (r := l.row.toRowW) (X := (true == true))
   (show WShape.has [] (.bool true) .bool = true by first | rfl | decide | simp [WShape.has, WShape.arms, WShape.armsAll])
   (show (WTm.eq .res (.lit (.bool true))).value [] { args := args, res := some (.bool true), after := args } = some (.bool (true == true)) from w_eq_bool (w_res rfl) w_lit) rfl
theorem attach_call {l : OpenLaw} {n : Nat} {q : Program} {loose : List Str} {XP : (Str -> Option Value) -> Heap -> Prop} {YP : World -> Heap -> Prop} {d : DefRec}
   (hn : l.most = some n) (hdf : d.params.defaults = [])
   (call : ∀ (w : World) (s₀ s₁ : Shared) (mg mb : Str -> Option Value) (fa : Addr) (o : Obj) (pm cd doc : Value) (a : Addr) (vs : List Value) (ns : List Int),
     Ground q loose [] XP w s₀ mg mb s₁.heap -> YP w s₁.heap ->
     s₁.heap.get? fa = some o -> o.data = .func (docDef d.name d.params d.body d.scope pm cd doc) -> s₁.heap.CodeRec cd d.name -> mg d.name = some (.ref fa) ->
     s₁.heap.get? a = some { cls := .type "list", data := .seq vs.toArray } -> IntsAre vs ns -> ns.length <= n -> s₁.gens = #[] ->
     codeAny (model l.prog w) callerA (.call (.ref fa) ⟨[.ref a], []⟩) (fun r s' => r = .ok (.ret (.bool true)) /\ OldK s₁.heap s'.heap /\ s'.os = s₁.os /\ AllBare s'.gens) s₁) :
   WalkO q loose XP YP l.row.toRowW d [] (fun f vs => PySem.call f vs) := by
 intro w s₀ s₁ mg mb G Y fa o pm cd doc dV kV ho hd hcd hD hmg hg args vals as hpre hlay hrd hwl hlo
 obtain rfl : dV = .none := Dflts.none hD hdf
 obtain rfl : kV = .none := Dflts.noKw hD
 obtain ⟨a, vs, ns, rfl, rfl, hobj, hints, hlen⟩ := script_of hn hpre hwl
 refine enter_call (codeAny_mono (call w s₀ s₁ mg mb fa o pm cd doc a vs ns G Y ho (fd_plain hd) hcd hmg hobj hints hlen hg) fun r s' hq => ?_)
 obtain ⟨rfl, h2, h3, h4⟩ := hq
 exact ⟨.inl ⟨.bool true, .bool true, [], rfl, fun _ => rfl, .bool true, post_true l _, fun _ => ⟨List.Pairwise.nil, fun _ hm => (nomatch hm)⟩⟩, h2, h3, h4⟩
end Att
namespace L2
open PySem PySem.Spec PyProof.Rows
theorem vals_ints : ∀ {vs : List Value} {ns : List Int}, IntsAre vs ns -> Vals (ns.map V.int) vs
 | _, _, .nil => .nil
 | _, _, .cons n t h => .cons ⟨t, rfl⟩ (vals_ints h)
noncomputable def Only (H : Hp) : Prop := ∀ b, H b = none \/ ∃ o xs, H b = some (.frz o (.lst xs))
theorem law_call {P : Program} {w : World} {K : PySem.W.Frag} {mg mb : Str -> Option Value} {CX : CXT} {k : Nat} {fa a : Addr} {fd : FuncData} {x : Str} {sp : Sp} {s₁ : Shared} {vs : List Value} {ns : List Int}
   (KX : K.In s₁.heap) (hns : s₁.heap.Ns mainGlobals mg) (hb : s₁.heap.Ns builtinsNs mb) (hbb : ∀ x : Str, x ≠ "__name__" -> mb x = bootBuiltins x) (hlim : s₁.heap.NoLimit) (hg : s₁.gens = #[])
   (ha : s₁.heap.get? a = some { cls := .type "list", data := .seq vs.toArray }) (hi : IntsAre vs ns) (hl : ns.length <= sizeLine) (hr : Room k callerA)
   (F : ∀ base : Heap, K.In base -> base.Ns mainGlobals mg -> FnOk P w K mg base CX k fa fd [x] sp) (hbind : ∀ (s : Shared) (u : Value), BindsTo s fd ⟨[u], []⟩ [(x, u)])
   (hsp : ∀ H : Hp, Only H -> SqL K H a (ns.map V.int) -> sp [.ref a] H (fun v _ => v = .bl true) fun _ _ _ => False)
   (hCX : ∀ H e s', CX [] H s₁ (fun _ _ _ => False) e s' -> False) :
   codeAny (model P w) callerA (.call (.ref fa) ⟨[.ref a], []⟩) (fun r s' => r = .ok (.ret (.bool true)) /\ OldK s₁.heap s'.heap /\ s'.os = s₁.os /\ AllBare s'.gens) s₁ := by
 have rv := vals_ints hi
 have lenV := hi.length
 have core : ∀ H : Hp, Only H -> SqL K H a (ns.map V.int) -> HOk P w H s₁.heap -> (∀ b, H b ≠ none -> b = a) -> (H a ≠ none -> K.lookup a = none) ->
     codeAny (model P w) callerA (.call (.ref fa) ⟨[.ref a], []⟩) (fun r s' => r = .ok (.ret (.bool true)) /\ OldK s₁.heap s'.heap /\ s'.os = s₁.os /\ AllBare s'.gens) s₁ := by
   intro H hO hS hok hA hK
   have base_of : ∀ {b : Addr} {o : Obj}, s₁.heap.get? b = some o -> H b = none -> (hidT s₁.heap H).get? b = some o := fun e n => hidT_get e n
   have noA : ∀ {b : Addr} {o : Obj} {es : Array DictEntry} {ep : Nat}, s₁.heap.get? b = some o -> o.data = .dict es ep -> H b = none := fun {b o es ep} e d => by
     cases q : H b with
     | none => rfl
     | some u =>
       have e' : b = a := hA b (by rw [q]; simp)
       subst e'
       rw [ha] at e; cases e
       have d' : Data.seq vs.toArray _ = Data.dict es ep := d
       cases d'
   have nsK : ∀ {b : Addr} {m : Str -> Option Value}, s₁.heap.Ns b m -> (hidT s₁.heap H).Ns b m := fun {b m} ⟨o, es, ep, e, d, r⟩ => ⟨o, es, ep, base_of e (noA e d), d, r⟩
   have hKb : K.In (hidT s₁.heap H) := fun b o e => base_of (KX b o e) (by
     cases q : H b with
     | none => rfl
     | some u =>
       have e' : b = a := hA b (by rw [q]; simp)
       subst e'
       rw [hK (by rw [q]; simp)] at e; cases e)
   have hM : Mod K mg (hidT s₁.heap H) := ⟨hKb, nsK hns, ⟨mb, nsK hb, hbb⟩, let ⟨mc, h1, h2⟩ := hlim; ⟨mc, nsK h1, h2⟩⟩
   have e0 : Env0 P w K mg (hidT s₁.heap H) callerA [] s₁ H := ⟨rfl, hM, fun b o e => of_hidT e, Nat.le_of_eq (hidT_size _ _), trivial, fun b hb => absurd (show b ∈ ([] : List Addr) from hb) (by simp), hok, .of_eq hg⟩
   refine codeAny_mono ((F _ hKb (nsK hns)).run callerA [] s₁ H ⟨[.ref a], []⟩ [.ref a] [.ref a] _ _ hr e0 (hbind s₁ (.ref a)) (.cons rfl .nil) (hsp H hO hS)) fun r s' h => ?_
   cases r with
   | error e => exact (hCX H e s' h).elim
   | ok fl =>
     cases fl with
     | next => exact False.elim h
     | brk => exact False.elim h
     | cont => exact False.elim h
     | ret u =>
       obtain ⟨v, H', os, bare, un, hok', r', q⟩ := h
       have q' : v = .bl true := q
       subst q'
       obtain rfl : u = Value.bool true := r'
       refine ⟨rfl, OldK.of_keep fun b o e => ?_, os, bare⟩
       cases q : H b with
       | none => exact un.keep b o e q (by intro z; exact absurd (show b ∈ ([] : List Addr) from z) (by simp)) (by simp)
       | some u =>
         rcases hO b with z | ⟨ob, xs, z⟩
         · rw [q] at z; cases z
         · have z2 := un.frzs b ob _ z
           obtain ⟨e1, _⟩ := hok b _ z
           obtain ⟨e2, _⟩ := hok' b _ z2
           rw [e] at e1; cases e1
           exact e2
 cases hk : K.lookup a with
 | some o =>
   have e := KX a o hk
   rw [ha] at e
   cases e
   refine core (fun _ => none) (fun _ => .inl rfl) (.inr ⟨_, vs.toArray, _, hk, rfl, rfl, rfl, by rw [List.size_toArray, lenV]; exact hl, by simpa using rv⟩) (fun b u z => by have z' : (none : Option HO) = some u := z; cases z') (fun b z => absurd rfl z) fun z => absurd rfl z
 | none =>
   refine core (fun b => if b = a then some (.frz { cls := .type "list", data := .seq vs.toArray } (.lst (ns.map V.int))) else none) (fun b => ?_) (.inl (.inr ⟨{ cls := .type "list", data := .seq vs.toArray }, if_pos rfl⟩)) (fun b u z => ?_) (fun b z => ?_) fun _ => hk
   · by_cases hb : b = a
     · exact .inr ⟨_, _, if_pos hb⟩
     · exact .inl (if_neg hb)
   · by_cases hb : b = a
     · have z' := (if_pos hb).symm.trans z
       cases z'
       subst hb
       exact ⟨ha, by rw [List.length_map]; exact hl, vs, _, rv, ha⟩
     · have z' := (if_neg hb).symm.trans z
       cases z'
   · by_cases hb : b = a
     · exact hb
     · exact absurd (if_neg hb) z
end L2
namespace L2
open PySem PySem.Spec PyProof.Rows
theorem walk_of {l : PySem.W.OpenLaw} {n k : Nat} {q : Program} {loose : List Str} {XP : (Str -> Option Value) -> Heap -> Prop} {YP : World -> Heap -> Prop} {d : DefRec} {K : Params -> PySem.W.Frag} {CX : World -> CXT} {sp : World -> Sp} {x : Str}
   (hn : l.most = some n) (hn2 : n <= sizeLine) (hdf : d.params.defaults = []) (hr : Room k callerA)
   (hY : ∀ (w : World) (h : Heap), YP w h -> (K w.params).In h)
   (F : ∀ (w : World) (mg : Str -> Option Value) (fa : Addr) (h : Heap), (K w.params).In h -> h.Ns mainGlobals mg -> mg d.name = some (.ref fa) ->
     ∃ fd : FuncData, (∀ (s : Shared) (u : Value), BindsTo s fd ⟨[u], []⟩ [(x, u)]) /\
       ∀ base : Heap, (K w.params).In base -> base.Ns mainGlobals mg -> FnOk l.prog w (K w.params) mg base (CX w) k fa fd [x] (sp w))
   (hsp : ∀ (w : World) (H : Hp) (a : Addr) (ns : List Int), ns.length <= n -> Only H -> SqL (K w.params) H a (ns.map V.int) -> sp w [.ref a] H (fun v _ => v = .bl true) fun _ _ _ => False)
   (hCX : ∀ (w : World) (H : Hp) (s : Shared) (e : Value) (s' : Shared), CX w [] H s (fun _ _ _ => False) e s' -> False) :
   PySem.W.WalkO q loose XP YP l.row.toRowW d [] (fun f vs => PySem.call f vs) := by
 refine Att.attach_call hn hdf fun w s₀ s₁ mg mb fa o pm cd doc a vs ns G Y ho hd hcd hmg hobj hints hlen hg => ?_
 have KX := hY w _ Y
 obtain ⟨fd, hb, hF⟩ := F w mg fa _ KX G.T.g hmg
 exact law_call KX G.T.g G.T.b G.T.builtins G.T.nolimit hg hobj hints (Nat.le_trans hlen hn2) hr hF hb (fun H hO hS => hsp w H a ns hlen hO hS) fun H e s' => hCX w H s₁ e s'
end L2
namespace L2
open PySem PySem.Spec PyProof.Rows
noncomputable def defArgs (s : Stmt) : Arguments := match s with
 | .FunctionDef _ a _ _ _ _ _ _ _ _ => a
 | _ => { posonlyargs := [], args := [], vararg := none, kwonlyargs := [], kw_defaults := [], kwarg := none, defaults := [] }
noncomputable def defBody (s : Stmt) : List Stmt := match s with
 | .FunctionDef _ _ b _ _ _ _ _ _ _ => b
 | _ => []
noncomputable def defScope (s : Stmt) : Scope := match s with
 | .FunctionDef _ _ _ _ _ _ sc _ _ _ => sc
 | _ => { kind := .function, names := [], isGenerator := false, isCoroutine := false }
noncomputable abbrev CX0 : CXT := fun _ _ _ _ _ _ => False
noncomputable abbrev E0 : XK := fun _ _ _ => False
theorem pass0 {X : Cx} : Passes CX0 X E0 := fun _ _ _ _ _ _ _ h => h.elim
structure Fun (K : PySem.W.Frag) (x qual : Str) (st : Stmt) (f : Addr) (fd : FuncData) : Prop where
 ex : ∃ (oc : Value) (od : Option Addr) (kV doc pm : Value) (an : Option Addr) (cdv ct : Value) (osl : Array (Option Value)),
   fd = PySem.W.fnOf x qual (defArgs st) (defBody st) (defScope st) .none kV doc pm an cdv ct /\ K.lookup f = some ⟨oc, od, .func fd, osl⟩ /\ PySem.W.codeIn K cdv qual = true
 kp : PySem.W.keepIn K (.ref f) = true
section
variable {P : Program} {w : World} {K : PySem.W.Frag} {mg : Str -> Option Value} {base : Heap}
theorem Fun.ok {x qual : Str} {st : Stmt} {f : Addr} {fd : FuncData} {N ps : List Str} {k : Nat} {sp : Sp} (F : Fun K x qual st f fd) (S : FnScope N ps (defScope st)) (len : ∀ vs H Q E, sp vs H Q E -> vs.length = ps.length)
   (hbody : ∀ (cdv : Value) (A : Around) (outer : List Env) (s : Shared) (H : Hp) (vs : List V) (Q : VK) (E : XK), Room k (A.deeper (envOfC qual (defScope st) s.heap.objs.size f cdv)) -> sp vs H Q E ->
     ∃ t, PSs (cxOf CX0 P w K mg base N qual (defScope st) f cdv A outer s H E).nox (defBody st) t /\ t { nx := fun _ H' => Q .non H', rt := Q } (start N vs) H) : FnOk P w K mg base CX0 (k + 1) f fd ps sp := by
 obtain ⟨oc, od, kV, doc, pm, an, cdv, ct, osl, rfl, lk, hcd⟩ := F.ex
 refine fn_of lk hcd S len fun A outer s H vs Q E hr hsp => ?_
 obtain ⟨t, h, q⟩ := hbody cdv A outer s H vs Q E hr hsp
 exact ⟨t, h.nox, q⟩
theorem Fun.binds {x qual : Str} {st : Stmt} {f : Addr} {fd : FuncData} {ps : List Str} (F : Fun K x qual st f fd)
   (h : ∀ (kV doc pm : Value) (an : Option Addr) (cdv ct : Value) (us : List Value), us.length = ps.length -> bindArgs (PySem.W.fnOf x qual (defArgs st) (defBody st) (defScope st) .none kV doc pm an cdv ct) ⟨us, []⟩ = pure (ps.zip us)) : Binds K fd ps [] := by
 obtain ⟨oc, od, kV, doc, pm, an, cdv, ct, osl, rfl, lk, hcd⟩ := F.ex
 exact .all (h kV doc pm an cdv ct)
theorem fun_mk {x qual : Str} {st : Stmt} {f : Addr} {oc : Value} {od an : Option Addr} {osl : Array (Option Value)} {kV doc pm cdv ct : Value} (l : K.lookup f = some ⟨oc, od, .func (PySem.W.fnOf x qual (defArgs st) (defBody st) (defScope st) .none kV doc pm an cdv ct), osl⟩)
   (c : PySem.W.codeIn K cdv qual = true) (k : PySem.W.keepIn K (.ref f) = true) : Fun K x qual st f (PySem.W.fnOf x qual (defArgs st) (defBody st) (defScope st) .none kV doc pm an cdv ct) := ⟨⟨oc, od, kV, doc, pm, an, cdv, ct, osl, rfl, l, c⟩, k⟩
end
theorem hu_of {A : Around} {k : Nat} (hr : Room k A) : A.units + 1 < cLine := Nat.lt_of_le_of_lt (Nat.add_le_add_left (by decide : 1 <= 64) _) hr.units
section
variable {X : Cx}
theorem pv (i : Nat) {x : Str} {pos : Pos} (hN : X.N[i]? = some x := by rfl) (hv : Vis X.env.scope x := by first | exact Or.inl rfl | exact Or.inr (Or.inl rfl) | exact Or.inr (Or.inr rfl)) (hd : (x == ("__debug__" : Str)) = false := by decide)
   (hcd : (x == ("__classdict__" : Str)) = false := by decide) : PE X (.Name x pos) (tVar i) := pe_var hN hv hd hcd
end
noncomputable def Same (H H' : Hp) : Prop := ∀ b o, H b = some o -> H' b = some o
section
variable {κ : Type} [DecidableEq κ]
theorem nd_snoc : ∀ {l : List κ} {k : κ}, l.Nodup -> ¬ k ∈ l -> (l ++ [k]).Nodup
 | [], k, _, _ => by simp
 | a :: r, k, h, hk => by
   obtain ⟨h1, h2⟩ := List.nodup_cons.mp h
   show (a :: (r ++ [k])).Nodup
   refine List.nodup_cons.mpr ⟨fun m => ?_, nd_snoc h2 fun m => hk (List.mem_cons.mpr (Or.inr m))⟩
   rcases List.mem_append.mp m with q | q
   · exact h1 q
   · exact hk (List.mem_cons.mpr (Or.inl (List.mem_singleton.mp q).symm))
end
end L2
namespace L2
open PySem PySem.Spec PyProof.Rows
theorem lookup_cons_if {α : Type} {x y : Str} {c : α} {l : List (Str × α)} : ((y, c) :: l).lookup x = if x = y then some c else l.lookup x := by
 by_cases h : x = y
 · subst h; simp [List.lookup_cons]
 · rw [if_neg h, List.lookup_cons]
   have : (x == y) = false := by simpa using h
   rw [this]
theorem closure_loop {env : Env} : ∀ (names : List (Str × NameKind)) (acc : List (Str × Addr)), (∀ y ∈ names, y.2 = .free -> ∃ c, env.cells.lookup y.1 = some c) -> (∀ x c, acc.lookup x = some c -> env.cells.lookup x = some c) ->
   ∃ cl, (forIn names acc fun x s => if (x.snd == NameKind.free) = true then (do let c <- cellOf env x.fst; pure (ForInStep.yield ((x.fst, c) :: s)) : Sem _) else pure (ForInStep.yield s)) = (pure cl : Sem (List (Str × Addr))) /\
     (∀ x c, cl.lookup x = some c -> env.cells.lookup x = some c) /\ (∀ x, (acc.lookup x).isSome = true -> (cl.lookup x).isSome = true) /\ ∀ y ∈ names, y.2 = .free -> (cl.lookup y.1).isSome = true
 | [], acc, _, h2 => ⟨acc, rfl, h2, fun _ h => h, fun _ h => absurd h (by simp)⟩
 | (n, k) :: r, acc, h1, h2 => by
   by_cases hk : k = NameKind.free
   · subst hk
     obtain ⟨c, hc⟩ := h1 (n, .free) List.mem_cons_self rfl
     have h2' : ∀ x c', ((n, c) :: acc).lookup x = some c' -> env.cells.lookup x = some c' := fun x c' e => by
       rw [lookup_cons_if] at e
       by_cases hx : x = n
       · rw [if_pos hx] at e; cases e; rw [hx]; exact hc
       · rw [if_neg hx] at e; exact h2 x c' e
     obtain ⟨cl, e1, e2, e3, e4⟩ := closure_loop r ((n, c) :: acc) (fun y hy => h1 y (List.mem_cons_of_mem _ hy)) h2'
     refine ⟨cl, ?_, e2, fun x hx => e3 x ?_, fun y hy hf => ?_⟩
     · rw [List.forIn_cons]
       have : cellOf env n = pure c := by unfold cellOf; rw [hc]
       simp only [beq_self_eq_true, if_true, this, pure_bind]
       exact e1
     · rw [lookup_cons_if]
       by_cases hx' : x = n
       · rw [if_pos hx']; rfl
       · rw [if_neg hx']; exact hx
     · rcases List.mem_cons.mp hy with rfl | hy
       · refine e3 n ?_
         rw [lookup_cons_if, if_pos rfl]; rfl
       · exact e4 y hy hf
   · obtain ⟨cl, e1, e2, e3, e4⟩ := closure_loop r acc (fun y hy => h1 y (List.mem_cons_of_mem _ hy)) h2
     refine ⟨cl, ?_, e2, e3, fun y hy hf => ?_⟩
     · rw [List.forIn_cons]
       have : (k == NameKind.free) = false := by simpa using hk
       simp only [this, Bool.false_eq_true, if_false, pure_bind]
       exact e1
     · rcases List.mem_cons.mp hy with rfl | hy
       · exact absurd hf hk
       · exact e4 y hy hf
theorem closure_of {scope : Scope} {env : Env} (h : ∀ y ∈ scope.names, y.2 = .free -> ∃ c, env.cells.lookup y.1 = some c) :
   ∃ cl, closureFor scope env = pure cl /\ (∀ x c, cl.lookup x = some c -> env.cells.lookup x = some c) /\ ∀ y ∈ scope.names, y.2 = .free -> (cl.lookup y.1).isSome = true := by
 obtain ⟨cl, e1, e2, _, e4⟩ := closure_loop scope.names [] h (fun _ _ e => by simp at e)
 refine ⟨cl, ?_, e2, e4⟩
 simp only [closureFor]
 rw [e1, pure_bind]
theorem relabel_lookup {env : Env} : ∀ {names : List (Str × NameKind)} {x : Str} {k : NameKind},
   (names.map fun (n, k) => if (k == NameKind.free && env.scope.kind == .function && env.kindOf n == some .cell) then (n, NameKind.cell) else (n, k)).lookup x = some k ->
   names.lookup x = some k \/ (k = .cell /\ names.lookup x = some .free)
 | [], _, _, h => by simp at h
 | (n, j) :: r, x, k, h => by
   have ih := @relabel_lookup env r x k
   rw [List.map_cons] at h
   by_cases hc : (j == NameKind.free && env.scope.kind == .function && env.kindOf n == some .cell) = true
   · simp only [hc, if_true] at h
     rw [lookup_cons_if] at h
     rw [lookup_cons_if]
     by_cases hx : x = n
     · rw [if_pos hx] at h ⊢
       cases h
       have hj : j = NameKind.free := by
         rw [Bool.and_eq_true, Bool.and_eq_true] at hc
         exact eq_of_beq hc.1.1
       exact .inr ⟨rfl, by rw [hj]⟩
     · rw [if_neg hx] at h ⊢; exact ih h
   · simp only [hc, Bool.false_eq_true, if_false] at h
     rw [lookup_cons_if] at h
     rw [lookup_cons_if]
     by_cases hx : x = n
     · rw [if_pos hx] at h ⊢; exact .inl h
     · rw [if_neg hx] at h ⊢; exact ih h
theorem lookup_relabel_free {env : Env} : ∀ {names : List (Str × NameKind)} {x : Str}, names.lookup x = some .free ->
   (names.map fun (n, k) => if (k == NameKind.free && env.scope.kind == .function && env.kindOf n == some .cell) then (n, NameKind.cell) else (n, k)).lookup x = some .cell \/
   (names.map fun (n, k) => if (k == NameKind.free && env.scope.kind == .function && env.kindOf n == some .cell) then (n, NameKind.cell) else (n, k)).lookup x = some .free
 | [], _, h => by simp at h
 | (n, j) :: r, x, h => by
   have ih := @lookup_relabel_free env r x
   rw [List.map_cons]
   rw [lookup_cons_if] at h
   by_cases hc : (j == NameKind.free && env.scope.kind == .function && env.kindOf n == some .cell) = true
   · simp only [hc, if_true]
     rw [lookup_cons_if]
     by_cases hx : x = n
     · rw [if_pos hx]; exact .inl rfl
     · rw [if_neg hx] at h ⊢; exact ih h
   · simp only [hc, Bool.false_eq_true, if_false]
     rw [lookup_cons_if]
     by_cases hx : x = n
     · rw [if_pos hx] at h ⊢; cases h; exact .inr rfl
     · rw [if_neg hx] at h ⊢; exact ih h
noncomputable abbrev compCx (X : Cx) (N' : List Str) (scope : Scope) (cl : List (Str × Addr)) (fp : List Addr) (s3 : Shared) (H3 : Hp) : Cx :=
 { X with N := N', s₀ := s3, H₀ := H3, env := compEnvC scope cl s3.heap.objs.size X.env, outer := X.stack, stack := X.stack, ex := fp, fn := fun _ => false, pn := [], xe := fun _ _ => False }
noncomputable def capσ (own : Nat) (fr : List Nat) (σ : St) : St := List.replicate own none ++ fr.map fun j => (σ[j]?).join
structure CScope (X : Cx) (own : List Str) (fr : List Nat) (N' : List Str) (scope : Scope) : Prop where
 kind : scope.kind = .function
 names : N' = own ++ fr.filterMap (fun j => X.N[j]?)
 len : N'.length = own.length + fr.length
 nd : N'.Nodup
 nocell : ∀ y ∈ scope.names, y.2 ≠ .cell
 loc : ∀ y ∈ scope.names, y.2 = .local -> scope.names.lookup y.1 = some .local
 cap : ∀ x ∈ fr.filterMap (fun j => X.N[j]?), scope.names.lookup x = some .free
 free : ∀ y ∈ scope.names, y.2 = .free -> X.env.kindOf y.1 = some .cell \/ X.env.kindOf y.1 = some .free
theorem filterMap_at {N : List Str} : ∀ {fr : List Nat} {k : Nat} {x : Str}, (fr.filterMap (fun j => N[j]?)).length = fr.length -> (fr.filterMap (fun j => N[j]?))[k]? = some x -> ∃ j, fr[k]? = some j /\ N[j]? = some x
 | [], _, _, _, e => by simp at e
 | j :: r, k, x, hl, e => by
   cases hj : N[j]? with
   | none =>
     rw [List.filterMap_cons, hj] at hl
     have := List.length_filterMap_le (fun j => N[j]?) r
     simp only [List.length_cons] at hl
     lia
   | some y =>
     rw [List.filterMap_cons, hj] at hl e
     simp only [List.length_cons, Nat.add_right_cancel_iff] at hl
     cases k with
     | zero => simp at e; exact ⟨j, by simp, by rw [hj, e]⟩
     | succ k => exact filterMap_at (k := k) hl (by simpa using e)
section
variable {X : Cx} {pins : List (Addr × Obj)} {σ : St} {H : Hp} {s s3 : Shared}
theorem inv_comp {own N' : List Str} {fr : List Nat} {scope : Scope} {cl : List (Str × Addr)} {fp : List Addr} {h' : Heap} {t : Nat} (S : CScope X own fr N' scope) (I : Inv X pins σ H s)
   (hcl : ∀ x c, cl.lookup x = some c -> X.env.cells.lookup x = some c) (hcl2 : ∀ y ∈ scope.names, y.2 = .free -> (cl.lookup y.1).isSome = true)
   (hfp : ∀ b ∈ fp, FpOk X pins H b) (hft : ∀ b ∈ fp, b < s.heap.objs.size)
   (hns : h'.Ns s.heap.objs.size (fun _ => none)) (hk : ∀ b o, s.heap.get? b = some o -> h'.get? b = some o) :
   Inv (compCx X N' scope cl fp s H) [] (capσ own.length fr σ) H { s with heap := h', toks := t } := by
 have look : ∀ x, (compEnvC scope cl s.heap.objs.size X.env).kindOf x = (relabel scope X.env).names.lookup x := fun _ => rfl
 have frlen : (fr.filterMap (fun j => X.N[j]?)).length = fr.length := by
   have := S.len
   rw [S.names, List.length_append] at this
   lia
 refine ⟨⟨I.ok.mod, ?_, I.ok.glob, I.ok.blt, Nat.le_refl _, fun x y c e1 e2 => I.ok.inj x y c (hcl _ _ e1) (hcl _ _ e2), fun x hx => ?_, (fun x c z _ => nomatch z), I.ok.hd, I.ok.frames, .inl rfl, fun b hb => ⟨?_, fun x c e => (hfp b hb).2.2.2.2.1 x c (hcl x c e)⟩,
     I.bs, Nat.le_trans I.ok.bsz I.sz, fun b o e hb => ?_, fun b hb hz => ?_, I.stack, I.stkFree⟩,
   rfl, I.bare, Un.kept hk, ⟨_, hns, fun i x v e1 e2 e3 => ?_⟩, fun x c e => ?_, I.hok.fresh (Nat.le_refl _), fun x c e => I.freeC x c (hcl x c e), fun p hp => absurd (show p ∈ ([] : List (Addr × Obj)) from hp) (by simp), I.hok.kept hk, ?_⟩
 · show (relabel scope X.env).kind = _
   exact S.kind
 · have hx' : scope.names.lookup x = some .free := by
     rcases hx with hx | hx
     · rcases relabel_lookup hx with q | ⟨_, q⟩
       · exact absurd rfl (S.nocell _ (PySem.mem_of_lookup q))
       · exact q
     · rcases relabel_lookup hx with q | ⟨q, _⟩
       · exact q
       · cases q
   exact Option.isSome_iff_exists.mp (hcl2 _ (PySem.mem_of_lookup hx') rfl)
 · exact Nat.ne_of_lt (hft b hb)
 · rcases (hfp b hb).2.2.2.1 with z | z
   · exact I.ok.noex b o e z
   · exact absurd (Nat.lt_of_lt_of_le (Heap.lt_size e) (Nat.le_trans I.ok.bsz z)) (Nat.lt_irrefl _)
 · rcases List.mem_cons.mp (I.stkSub b hz) with q | q
   · exact (hfp b hb).2.1 q
   · exact (hfp b hb).2.2.1 q
 · -- a name's value
   have e1 : (own ++ fr.filterMap (fun j => X.N[j]?))[i]? = some x := by rw [<- S.names]; exact e1
   unfold capσ at e2
   by_cases hi : i < own.length
   · rw [List.getElem?_append_left (by simpa using hi), List.getElem?_replicate, if_pos hi] at e2
     cases e2
   · rw [List.getElem?_append_right (by simpa using hi), List.length_replicate] at e2
     rw [List.getElem?_append_right (by simpa using hi)] at e1
     obtain ⟨j, ej, ex⟩ := filterMap_at frlen e1
     rw [List.getElem?_map, ej] at e2
     have e2 : (σ[j]?).join = some v := by simpa using e2
     have e2' : σ[j]? = some (some v) := by
       cases q : σ[j]? with
       | none => rw [q] at e2; cases e2
       | some w => rw [q] at e2; simp at e2; rw [e2]
     have hf := S.cap x (List.mem_of_getElem? e1)
     have hm := PySem.mem_of_lookup hf
     obtain ⟨m, _, hl⟩ := I.loc
     have vis : Vis X.env.scope x := by
       rcases S.free _ hm rfl with q | q
       · exact .inr (.inl q)
       · exact .inr (.inr q)
     obtain ⟨u, r, l⟩ := hl j x v ex e2' vis
     refine ⟨u, r, .inr ⟨?_, ?_⟩⟩
     · exact lookup_relabel_free hf
     · rcases l with ⟨k, _⟩ | ⟨_, c, ec, z⟩
       · rcases S.free _ hm rfl with q | q
         · rw [k] at q; cases q
         · rw [k] at q; cases q
       · obtain ⟨c', ec'⟩ := Option.isSome_iff_exists.mp (hcl2 _ hm rfl)
         have := hcl _ _ ec'
         rw [ec] at this
         cases this
         exact ⟨c, ec', z.keeps hk⟩
 · obtain ⟨v, z⟩ := I.cell x c (hcl x c e)
   exact ⟨v, z.keeps hk⟩
 · show (capσ own.length fr σ).length = N'.length
   unfold capσ
   rw [List.length_append, List.length_replicate, List.length_map, S.len]
end
noncomputable def PTs (X : Cx) (cs : List Expr) (t : TT) : Prop :=
 ∀ (pins : List (Addr × Obj)) (s : Shared) (σ : St) (H : Hp) (Q : Bool -> Hp -> Prop), Inv X pins σ H s -> t σ H Q ->
   wpAny (model X.prog X.w) X.A (forIn cs true fun c r => if r = true then do let ok <- isTrue c X.env (eval c X.env); pure (ForInStep.yield ok) else pure (ForInStep.yield r)) (TP X pins σ Q) X.xe s
noncomputable def tYes : TT := fun _ H Q => Q true H
theorem pts_nil {X : Cx} : PTs X [] tYes := fun pins s σ H Q I h => wpAny_tests_nil ⟨H, I, h⟩
theorem pts_one {X : Cx} {c : Expr} {t : TT} (h : PT X c t) : PTs X [c] t := fun pins s σ H Q I q => wpAny_tests_one (h pins s σ H Q I q)
section
variable {prog : Program} {w : World} {A : Around} {R : Result -> Shared -> Prop} {s : Shared}
theorem comp_loop {elt target iter : Expr} {ifs : List Expr} {scope : Scope} {pos : Pos} {it acc : Value} {env : Env} (I : Nat -> Shared -> Prop)
   (turn : ∀ n s, I n s -> wpAny (model prog w) A (pyNext it) (fun r s₁ => match r with
     | none => R (.ok .next) s₁
     | some v => wpAny (model prog w) A (letOwnedTupleGo target it v) (fun _ s₀ => wpAny (model prog w) A (assign target env v) (fun _ s₂ =>
         wpAny (model prog w) A (forIn ifs true fun c r => if r = true then do let ok <- isTrue c env (eval c env); pure (ForInStep.yield ok) else pure (ForInStep.yield r)) (fun ok s₃ => if ok = true then wpAny (model prog w) A (eval elt env) (fun x s₄ =>
           wpAny (model prog w) A (call (.builtin "list.append") [acc, x]) (fun _ s₅ => ∃ m, m < n /\ I m s₅) (fun _ _ => False) s₄) (fun _ _ => False) s₃
           else ∃ m, m < n /\ I m s₃) (fun _ _ => False) s₂)
         (fun _ _ => False) s₀) (fun _ _ => False) s₁) (fun _ _ => False) s)
   (n : Nat) (h : I n s) : codeAny (model prog w) A (.compLoop (.ListComp elt [⟨target, iter, ifs, 0⟩] scope pos) 0 it acc env) R s := by
 refine codeAny_loop rfl I (fun n s hI => ?_) n h
 show wpAny _ A ((compTurn (.ListComp elt [⟨target, iter, ifs, 0⟩] scope pos) 0 it acc env).onRaise (fun x => do noteFrame x env; theTreesLotGoes x)) _ _ s
 refine wpAny_noted ?_
 rw [compTurn_list]
 refine wpAny_bind (wpAny_standAt (wpAny_bind (wpAny_mono (turn n s hI) (fun r s₁ h₁ => ?_) fun _ _ h' => h'.elim)))
 cases r with
 | none => exact wpAny_pure h₁
 | some v =>
   refine wpAny_bind (wpAny_mono h₁ (fun _ s₀ h₀' => ?_) fun _ _ h' => h'.elim)
   refine wpAny_bind (wpAny_mono h₀' (fun _ s₂ h₂ => ?_) fun _ _ h' => h'.elim)
   refine wpAny_bind (wpAny_mono h₂ (fun okb s₃ h₃ => ?_) fun _ _ h' => h'.elim)
   cases okb with
   | false => exact wpAny_pure ⟨rfl, h₃⟩
   | true => exact wpAny_bind (wpAny_bind (wpAny_mono h₃ (fun x s₄ h₄ => wpAny_bind (wpAny_mono h₄ (fun _ s₅ h₅ => wpAny_pure (wpAny_pure ⟨rfl, h₅⟩)) fun _ _ h' => h'.elim)) fun _ _ h' => h'.elim))
end
end L2
namespace L2
open PySem PySem.Spec PyProof.Rows
noncomputable def Wk (σ0 σ2 : St) : Prop := σ2.length = σ0.length /\ ∀ (i : Nat) v, σ0[i]? = some (some v) -> σ2[i]? = some (some v)
noncomputable def CapG (own : Nat) (g : TG) : Prop := ∀ (c : St) (v : V) (H : Hp) (Q : St -> Hp -> Prop), g v (List.replicate own none ++ c) H Q -> g v (List.replicate own none ++ c) H fun σ2 H2 => Wk (List.replicate own none ++ c) σ2 /\ Q σ2 H2
theorem capg_name : CapG 1 (gName 0) := by
 intro c v H Q h
 refine ⟨⟨by simp, fun i u e => ?_⟩, h⟩
 cases i with
 | zero => simp at e
 | succ i => simpa using e
theorem capg_two {K : PySem.W.Frag} : CapG 2 (gTup K 2 (gCons (gName 0) (gCons (gName 1) gNil))) := by
 rintro c v H Q ⟨a, xs, e, hs, hl, x, r, rfl, y, r', rfl, rfl, h⟩
 refine ⟨a, _, e, hs, hl, x, _, rfl, y, _, rfl, rfl, ⟨by simp, fun i u e => ?_⟩, h⟩
 match i with
 | 0 => simp at e
 | 1 => simp at e
 | i + 2 => simpa using e
noncomputable def compW (J : It) (own : Nat) (fr : List Nat) (g : TG) (tc : TT) (te : TE) (σ : St) (p : Addr) (H1 : Hp) (Q : VK) : Prop :=
 ∃ W : Nat -> Nat -> List V -> Hp -> Prop, (∃ m, W 0 m [] (upd H1 p (.lst []))) /\ ∀ i m ys H', W i m ys H' -> H' p = some (.lst ys) /\
   ((J.stop i H' /\ Q (.ref p) H') \/ (J.go i H' /\ ys.length < sizeLine /\ ∀ x H2, J.yld i H' x H2 -> g x (capσ own fr σ) H2 fun σ2 H3 => tc σ2 H3 fun b H4 =>
     if b = true then te σ2 H4 fun y H5 => ∃ zs, H5 p = some (.lst zs) /\ zs.length < sizeLine /\ ∃ m', m' < m /\ W (i + 1) m' (zs ++ [y]) (upd H5 p (.lst (zs ++ [y]))) else ∃ zs m', m' < m /\ W (i + 1) m' zs H4))
noncomputable def tComp (wi : TI) (own : Nat) (fr : List Nat) (g : TG) (tc : TT) (te : TE) : TE := fun σ H Q => wi σ H fun J H1 => ∀ p, H1 p = none -> compW J own fr g tc te σ p H1 Q
section
variable {X : Cx} {pins : List (Addr × Obj)} {σ : St} {H : Hp} {s s3 : Shared}
theorem comp_back {N' : List Str} {scope : Scope} {cl : List (Str × Addr)} {fp : List Addr} {pins' : List (Addr × Obj)} {σ' : St} {H' : Hp} {s' : Shared} (I3 : Inv X pins σ H s3) (hfp : ∀ b ∈ fp, FpOk X pins H b)
   (Ic : Inv (compCx X N' scope cl fp s3 H) pins' σ' H' s') : Inv X pins σ H' s' :=
 I3.call' (ch := fp) Ic.os Ic.base Ic.hok Ic.bare fun b hb => ⟨(hfp b hb).2.2.2.1, (hfp b hb).2.1, (hfp b hb).2.2.2.2.1, (hfp b hb).2.2.2.2.2⟩
theorem comp_drop {C : Addr} {σ' : St} {H' : Hp} {s' : Shared} {h' : Heap} (I3 : Inv X pins σ H s3) (hC : C = s3.heap.objs.size) (J : Inv X pins σ' H' s') (hn : H' C = none) (hs : Heap.SameBut C s'.heap h') : Inv X pins σ' H' { s' with heap := h' } := by
 subst hC
 refine J.turned (t' := s'.toks) (it := s3.heap.objs.size) (fun b o hb e => hs.extBut b o hb e) hn (Nat.ne_of_gt I3.lt) (.inr I3.sz) (fun x c e z => ?_) fun p hp z => ?_
 · obtain ⟨v, q⟩ := I3.cell x c e
   exact absurd q.lt (by rw [z]; exact Nat.lt_irrefl _)
 · exact absurd (Heap.lt_size (I3.pin p hp).1) (by rw [z]; exact Nat.lt_irrefl _)
theorem comp_block {tg iter elt : Expr} {ifs : List Expr} {pos : Pos} {own N' : List Str} {fr : List Nat} {scope : Scope} {cl : List (Str × Addr)} {fp : List Addr} {it : Addr} {tn : Nat -> Heap -> Prop} {J : It} {g : TG} {tc : TT} {te : TE} {Q : VK}
   {E : Value -> Shared -> Prop} {RR : Value -> Addr -> Result -> Shared -> Prop}
   (hcalm : X.calm = true) (S : CScope X own fr N' scope) (hg : ∀ s3 H3, PG (compCx X N' scope cl fp s3 H3) tg g) (hw : CapG own.length g) (hc : ∀ s3 H3, PTs (compCx X N' scope cl fp s3 H3) ifs tc) (he : ∀ s3 H3, PE (compCx X N' scope cl fp s3 H3) elt te)
   (hcl : ∀ x c, cl.lookup x = some c -> X.env.cells.lookup x = some c) (hcl2 : ∀ y ∈ scope.names, y.2 = .free -> (cl.lookup y.1).isSome = true)
   (I : Inv X pins σ H s) (T : Turn X.prog X.w X.K tg J fp it tn) (st : tn 0 s.heap) (hfp : ∀ b ∈ fp, FpOk X pins H b) (h : ∀ p, H p = none -> compW J own.length fr g tc te σ p H Q)
   (fin : ∀ (s3 : Shared) (H3 : Hp), Inv X pins σ H3 s3 -> (∀ b ∈ fp, FpOk X pins H3 b) -> ∀ (D : Addr) (σ' : St) (H' : Hp) (s' : Shared) (t : Nat), D < s3.heap.objs.size -> Inv (compCx X N' scope cl fp s3 H3) [] σ' H' s' -> Q (.ref D) H' -> RR (.ref D) s3.heap.objs.size (.ok .next) s') :
   wpAny (model X.prog X.w) X.A (newList []) (fun acc s₃ => wpAny (model X.prog X.w) X.A (newFunctionEnv scope X.env.globals cl [] X.env.qual none .none (some X.env)) (fun cenv s₄ =>
     codeAny (model X.prog X.w) X.A (.compStart (.ListComp elt [⟨tg, iter, ifs, 0⟩] scope pos) 0 (.ref it) acc { cenv with scope := relabel scope X.env }) (RR acc cenv.locals) s₄) E s₃) E s := by
 refine wpAny_newObj_type ?_
 have hf : H s.heap.objs.size = none := I.hok.fresh (Nat.le_refl _)
 obtain ⟨W, ⟨m0, w0⟩, turn⟩ := h _ hf
 generalize e3 : ({ s with heap := s.heap.push { cls := .type "list", dict := none, data := .seq ([] : List Value).toArray } } : Shared) = s3
 have sz3 : s3.heap.objs.size = s.heap.objs.size + 1 := by rw [<- e3]; exact Heap.size_push ..
 have up3 : ∀ b o, s.heap.get? b = some o -> s3.heap.get? b = some o := fun b o e => by rw [<- e3]; exact Heap.get?_push_of_some _ e
 have I3 : Inv X pins σ (upd H s.heap.objs.size (.lst [])) s3 := by
   rw [<- e3]
   exact I.laid (t' := s.toks) (fun b u e => Heap.get?_push_of_some _ e) (Nat.le_refl _) ⟨Nat.zero_le _, [], 0, .nil, Heap.get?_push_size _ rfl⟩
 have ftn : ∀ b ∈ fp, b < s.heap.objs.size := fun b hb => by
   obtain ⟨o, e, _⟩ := T.obj 0 _ st b hb
   exact Heap.lt_size e
 have hfp3 : ∀ b ∈ fp, FpOk X pins (upd H s.heap.objs.size (.lst [])) b := fun b hb => ⟨by rw [upd_ne (Nat.ne_of_lt (ftn b hb))]; exact (hfp b hb).1, (hfp b hb).2⟩
 refine wpAny_newFunctionEnv S.nocell (by intro y hy; simp at hy) (fun h₁ hns₁ hsb₁ => ?_) S.kind
 have old : ∀ b o, s3.heap.get? b = some o -> h₁.get? b = some o := fun b o e => hsb₁.extBut b o (Nat.ne_of_lt (Heap.lt_size e)) (Heap.get?_push_of_some _ e)
 have Ic := inv_comp (t := s3.toks + ([] : List (Str × Value)).length) S I3 hcl hcl2 hfp3 (fun b hb => by rw [sz3]; exact Nat.lt_succ_of_lt (ftn b hb)) hns₁ old
 have st1 : tn 0 h₁ := T.keep 0 _ _ st fun b hb o e => old b o (up3 b o e)
 have stat : ∀ {H' : Hp}, (∀ b ∈ fp, H' b = none) -> ∀ b ∈ fp, FpOk (compCx X N' scope cl fp s3 (upd H s.heap.objs.size (.lst []))) [] H' b := fun hn b hb => by
   refine ⟨hn b hb, ?_, ?_, .inl hb, fun x c e => (hfp b hb).2.2.2.2.1 x c (hcl x c e), fun p hp => absurd (show p ∈ ([] : List (Addr × Obj)) from hp) (by simp)⟩
   · show b ≠ s3.heap.objs.size
     rw [sz3]; exact Nat.ne_of_lt (Nat.lt_succ_of_lt (ftn b hb))
   · exact Ic.ok.exfs b hb
 have loop : codeAny (model X.prog X.w) X.A (.compLoop (.ListComp elt [⟨tg, iter, ifs, 0⟩] scope pos) 0 (.ref it) (.ref s.heap.objs.size) (compEnvC scope cl s3.heap.objs.size X.env)) (RR (.ref s.heap.objs.size) s3.heap.objs.size) { s3 with heap := h₁, toks := s3.toks + ([] : List (Str × Value)).length } := by
   refine comp_loop (fun n s' => ∃ i ys H', Inv (compCx X N' scope cl fp s3 (upd H s.heap.objs.size (.lst []))) [] (capσ own.length fr σ) H' s' /\ tn i s'.heap /\ (∀ b ∈ fp, H' b = none) /\ W i n ys H') ?_ m0
     ⟨0, [], _, Ic, st1, fun b hb => (hfp3 b hb).1, w0⟩
   rintro n s4 ⟨i, ys, H4, I4, st4, fr4, w4⟩
   obtain ⟨hacc, alt⟩ := turn i n ys H4 w4
   rcases alt with ⟨stop, q⟩ | ⟨go, hsz, step⟩
   · refine thn (T.done (compCx X N' scope cl fp s3 (upd H s.heap.objs.size (.lst []))) rfl rfl rfl hcalm i [] s4 _ H4 (fun _ _ => False) I4 (stat fr4) st4 stop) fun r s5 z => z.elim fun hr I5 => ?_
     subst hr
     exact fin s3 _ I3 hfp3 _ _ H4 s5 s5.toks (by rw [sz3]; exact Nat.lt_succ_self _) I5 q
   · refine thn (T.item (compCx X N' scope cl fp s3 (upd H s.heap.objs.size (.lst []))) rfl rfl rfl hcalm i [] s4 _ H4 (fun _ _ => False) I4 (stat fr4) st4 go) fun r s5 z => z.elim fun u z => z.elim fun hr h5 => ?_
     subst hr
     refine thn h5 fun _ s6 z => z.elim fun x z => z.elim fun H6 z => z.elim fun I6 z => z.elim fun r6 z => z.elim fun y6 z => z.elim fun st6 fr6 => ?_
     have I6' := I6.pinned (stat fr6) (T.obj _ _ st6)
     have stp := hw _ x H6 _ (step x H6 y6)
     refine thn (hg s3 _ _ s6 _ H6 x u _ I6' r6 stp) fun _ s7 z => z.elim fun σ7 z => z.elim fun H7 z => z.elim fun I7 z => z.elim fun wk q7 => ?_
     have again : ∀ {H9 : Hp} {s9 : Shared} {ys' : List V}, Inv (compCx X N' scope cl fp s3 (upd H s.heap.objs.size (.lst []))) ([] ++ pinsAt fp s6.heap) σ7 H9 s9 -> (∃ m', m' < n /\ W (i + 1) m' ys' H9) ->
         ∃ m, m < n /\ ∃ i ys H', Inv (compCx X N' scope cl fp s3 (upd H s.heap.objs.size (.lst []))) [] (capσ own.length fr σ) H' s9 /\ tn i s9.heap /\ (∀ b ∈ fp, H' b = none) /\ W i m ys H' := fun {H9 s9 ys'} I9 ⟨m', hm, w9⟩ => by
       refine ⟨m', hm, i + 1, ys', H9, (I9.unpinned).weak ?_ wk.2, T.keep _ _ _ st6 fun b hb o e => (I9.pin (b, o) (List.mem_append_right _ (List.mem_append_right _ (mem_pinsAt hb e)))).1, fun b hb => ?_, w9⟩
       · exact wk.1.symm
       · obtain ⟨o, e, d⟩ := T.obj _ _ st6 b hb
         exact (I9.pin (b, o) (List.mem_append_right _ (List.mem_append_right _ (mem_pinsAt hb e)))).2.1
     refine thn (hc s3 _ _ s7 σ7 H7 _ I7 q7) fun ok s8 z => z.elim fun H8 z => z.elim fun I8 q8 => ?_
     cases ok with
     | false =>
       simp only [Bool.false_eq_true, if_false] at q8 ⊢
       obtain ⟨zs, q8⟩ := q8
       exact again I8 q8
     | true =>
       simp only [if_true] at q8 ⊢
       refine thn (he s3 _ _ s8 σ7 H8 _ I8 q8) fun y s9 z => z.elim fun yv z => z.elim fun H9 z => z.elim fun I9 z => z.elim fun ry z => z.elim fun zs z => z.elim fun hp9 z => z.elim fun hz9 q9 => ?_
       refine thn (mt_append _ s9 σ7 H9 (.ref s.heap.objs.size) [yv] (.ref s.heap.objs.size) [y] (fun v H' => H' = upd H9 s.heap.objs.size (.lst (zs ++ [yv]))) I9 rfl (.cons ry .nil) ⟨_, zs, yv, rfl, rfl, hp9, hz9, rfl⟩) fun v s10 z => z.elim fun _ z => z.elim fun H10 z => z.elim fun I10 z => z.elim fun _ e10 => ?_
       subst e10
       exact again I10 q9
 exact codeAny_compStart_list loop (T.self _ 0 _ _ _ st1 loop)
end
section
variable {X : Cx}
theorem Cx.Ok.cellsOf {own N' : List Str} {fr : List Nat} {scope : Scope} (ok : X.Ok) (S : CScope X own fr N' scope) : ∀ y ∈ scope.names, y.2 = .free -> ∃ c, X.env.cells.lookup y.1 = some c := fun y hy hf => ok.has y.1 (S.free y hy hf)
theorem pe_comp {tg iter elt : Expr} {ifs : List Expr} {pos : Pos} {own N' : List Str} {fr : List Nat} {scope : Scope} {wi : TI} {g : TG} {tc : TT} {te : TE} (hcalm : X.calm = true) (S : CScope X own fr N' scope) (hi : PI X tg iter wi)
   (hg : ∀ cl fp s3 H3, PG (compCx X N' scope cl fp s3 H3) tg g) (hw : CapG own.length g) (hc : ∀ cl fp s3 H3, PTs (compCx X N' scope cl fp s3 H3) ifs tc) (he : ∀ cl fp s3 H3, PE (compCx X N' scope cl fp s3 H3) elt te)
   (hs : ∀ x, foldedSetIterable iter X.env x = pure x := by intro _; rfl) : PE X (.ListComp elt [⟨tg, iter, ifs, 0⟩] scope pos) (tComp wi own.length fr g tc te) := by
 intro pins s σ H Q I h
 obtain ⟨cl, hclos, hcl, hcl2⟩ := closure_of (I.ok.cellsOf S)
 rw [eval_ListComp]
 refine wpAny_comprehension_free (use := none) rfl hs hclos S.kind S.loc (thn (hi pins s σ H _ I h) fun v s1 h1 => thn h1 fun itv s2 h2 => ?_)
 obtain ⟨it, fp, tn, J, H2, e, I2, T, st2, f2, h2⟩ := h2
 subst e
 refine comp_block (RR := fun acc C => compPost (model X.prog X.w) X.A X.xe none (EP X pins σ Q) acc C) hcalm S (hg cl fp) hw (hc cl fp) (he cl fp) hcl hcl2 I2 T st2 f2 h2 ?_
 intro s3 H3 I3 f3 D σ' H' s' t hD Ic q
 obtain ⟨m, hn, _⟩ := Ic.loc
 refine ⟨m, hn, fun h' hsb => ⟨.ref D, H', ?_, rfl, q⟩⟩
 exact comp_drop I3 rfl (comp_back I3 f3 Ic) Ic.free hsb
theorem ps_setComp {i : Nat} {x : Str} {tg iter elt : Expr} {ifs : List Expr} {pos spos pos' : Pos} {own N' : List Str} {fr : List Nat} {scope : Scope} {wi : TI} {g : TG} {tc : TT} {te : TE} (hcalm : X.calm = true) (hN : X.N.Nodup) (hx : X.N[i]? = some x) (hl : Loc X.env.scope x) (S : CScope X own fr N' scope) (hi : PI X tg iter wi)
   (hg : ∀ cl fp s3 H3, PG (compCx X N' scope cl fp s3 H3) tg g) (hw : CapG own.length g) (hc : ∀ cl fp s3 H3, PTs (compCx X N' scope cl fp s3 H3) ifs tc) (he : ∀ cl fp s3 H3, PE (compCx X N' scope cl fp s3 H3) elt te)
   (hsw : swapsWith (.ListComp elt [⟨tg, iter, ifs, 0⟩] scope pos) (some (.Name x pos')) spos.line X.env = pure true)
   (hs : ∀ x, foldedSetIterable iter X.env x = pure x := by intro _; rfl) (hf : X.fn x = true \/ X.env.scope.names.lookup x = some .local := by first | exact .inl rfl | exact .inr rfl | assumption) : PS X (.Assign [.Name x pos'] (.ListComp elt [⟨tg, iter, ifs, 0⟩] scope pos) spos) (tAsg (tComp wi own.length fr g tc te) (gName i)) := by
 intro pins s σ H D I h
 obtain ⟨cl, hclos, hcl, hcl2⟩ := closure_of (I.ok.cellsOf S)
 rw [exec_Assign_Name_used _ _ _ _ hsw]
 refine wpAny_bind (wpAny_standAt (wpAny_bind ?_))
 show wpAny _ X.A (do let _ <- comprehension (.ListComp elt [⟨tg, iter, ifs, 0⟩] scope pos) scope X.env _ (newList []) false (eval iter X.env) (some (assign (.Name x pos') X.env))) _ _ s
 refine wpAny_bind (thn (wpAny_comprehension_free (use := some (assign (.Name x pos') X.env)) (Q := fun _ s' => SP X pins D .next s') rfl hs hclos S.kind S.loc
   (thn (hi pins s σ H _ I h) fun v s1 h1 => thn h1 fun itv s2 h2 => ?_)) fun _ s' hq => wpAny_pure (wpAny_pure hq))
 obtain ⟨it, fp, tn, J, H2, e, I2, T, st2, f2, h2⟩ := h2
 subst e
 refine comp_block (RR := fun acc C => compPost (model X.prog X.w) X.A X.xe (some (assign (.Name x pos') X.env)) (fun _ s' => SP X pins D .next s') acc C) hcalm S (hg cl fp) hw (hc cl fp) (he cl fp) hcl hcl2 I2 T st2 f2 h2 ?_
 intro s3 H3 I3 f3 Da σ' H' s' t hD Ic q
 obtain ⟨m, hn, _⟩ := Ic.loc
 have I5 := comp_back I3 f3 Ic
 show wpAny _ X.A (assign (.Name x pos') X.env (.ref Da)) _ _ s'
 refine wpAny_assign_Name (store_ok2 I5 hN hx hl (show RelV (.ref Da) (.ref Da) from rfl) (fun s6 I6 hsb => ?_) hf)
 obtain ⟨a, sb, ha⟩ := hsb
 have hne : s3.heap.objs.size ≠ a := by
   rcases ha with rfl | ha
   · exact Nat.ne_of_gt I3.lt
   · obtain ⟨v, z⟩ := I3.cell x a ha
     exact Nat.ne_of_gt z.lt
 refine ⟨m, hn.sameBut sb hne, fun h' hsb' => ⟨_, H', comp_drop I3 rfl I6 Ic.free hsb', q⟩⟩
end
end L2
namespace L2
open PySem PySem.Spec PyProof.Rows
inductive Dt where
 | non | bl (b : Bool) | int (i : Int) | str (x : Str) | tup (l : List Dt) | lst (l : List Dt)
mutual
noncomputable def Rep (K : PySem.W.Frag) (H : Hp) : Dt -> V -> Prop
 | .non, v => v = .non
 | .bl b, v => v = .bl b
 | .int i, v => v = .int i
 | .str x, v => v = .str x
 | .tup l, v => ∃ a vs, v = .ref a /\ SqT K H a vs /\ Reps K H l vs
 | .lst l, v => ∃ a vs, v = .ref a /\ SqL K H a vs /\ Reps K H l vs
noncomputable def Reps (K : PySem.W.Frag) (H : Hp) : List Dt -> List V -> Prop
 | [], vs => vs = []
 | d :: r, vs => ∃ v t, vs = v :: t /\ Rep K H d v /\ Reps K H r t
end
mutual
noncomputable def eqD : Dt -> Dt -> Bool
 | .non, .non => true
 | .bl a, .bl b => a == b
 | .bl a, .int b => (if a then 1 else 0) == b
 | .int a, .bl b => a == (if b then 1 else 0)
 | .int a, .int b => a == b
 | .str a, .str b => a == b
 | .tup a, .tup b => eqDs a b
 | .lst a, .lst b => eqDs a b
 | _, _ => false
noncomputable def eqDs : List Dt -> List Dt -> Bool
 | [], [] => true
 | x :: xs, y :: ys => eqD x y && eqDs xs ys
 | _, _ => false
end
mutual
noncomputable def dpt : Dt -> Nat
 | .tup l => dpts l + 1
 | .lst l => dpts l + 1
 | _ => 0
noncomputable def dpts : List Dt -> Nat
 | [] => 0
 | d :: r => max (dpt d) (dpts r)
end
theorem Reps.length {K : PySem.W.Frag} {H : Hp} : ∀ {l : List Dt} {vs : List V}, Reps K H l vs -> l.length = vs.length
 | [], _, h => by simp only [Reps] at h; subst h; rfl
 | d :: r, vs, h => by
   simp only [Reps] at h
   obtain ⟨v, t, rfl, _, h⟩ := h
   simp [Reps.length h]
theorem Reps.at {K : PySem.W.Frag} {H : Hp} : ∀ {l : List Dt} {vs : List V} {j : Nat} {d : Dt}, Reps K H l vs -> l[j]? = some d -> ∃ v, vs[j]? = some v /\ Rep K H d v
 | [], _, _, _, _, e => by simp at e
 | d :: r, vs, j, d', h, e => by
   simp only [Reps] at h
   obtain ⟨v, t, rfl, h1, h⟩ := h
   cases j with
   | zero => simp at e; subst e; exact ⟨v, rfl, h1⟩
   | succ j => simpa using Reps.at (j := j) h (by simpa using e)
theorem dpts_le : ∀ {l : List Dt} {d : Dt}, d ∈ l -> dpt d <= dpts l
 | [], _, h => by simp at h
 | x :: r, d, h => by
   simp only [dpts]
   rcases List.mem_cons.mp h with rfl | h
   · exact Nat.le_max_left _ _
   · exact Nat.le_trans (dpts_le h) (Nat.le_max_right _ _)
theorem eqD_tup (a b : List Dt) : eqD (.tup a) (.tup b) = eqDs a b := rfl
theorem eqD_lst (a b : List Dt) : eqD (.lst a) (.lst b) = eqDs a b := rfl
theorem eqDs_eq : ∀ (a b : List Dt), eqDs a b = ((List.range (min a.length b.length)).all (fun j => eqD (a.getD j .non) (b.getD j .non)) && a.length == b.length)
 | [], [] => rfl
 | [], y :: ys => by show false = _; simp
 | x :: xs, [] => by show false = _; simp
 | x :: xs, y :: ys => by
   have e : min (x :: xs).length (y :: ys).length = min xs.length ys.length + 1 := by simp only [List.length_cons]; lia
   rw [show eqDs (x :: xs) (y :: ys) = (eqD x y && eqDs xs ys) from rfl, eqDs_eq xs ys, e, List.range_succ_eq_map, List.all_cons, List.all_map]
   have e2 : ((x :: xs).length == (y :: ys).length) = (xs.length == ys.length) := by simp
   rw [e2, Bool.and_assoc]
   rfl
mutual
theorem eqD_refl : ∀ d : Dt, eqD d d = true
 | .non => rfl
 | .bl b => beq_self_eq_true b
 | .int i => beq_self_eq_true i
 | .str x => beq_self_eq_true x
 | .tup l => eqDs_refl l
 | .lst l => eqDs_refl l
theorem eqDs_refl : ∀ l : List Dt, eqDs l l = true
 | [] => rfl
 | x :: xs => by show (eqD x x && eqDs xs xs) = true; rw [eqD_refl x, eqDs_refl xs]; rfl
end
theorem Un.sqT {K : PySem.W.Frag} {H H' : Hp} (h : ∀ b xs, Rd H b (.tup xs) -> Rd H' b (.tup xs)) {a : Addr} {xs : List V} (q : SqT K H a xs) : SqT K H' a xs := by
 rcases q with q | q
 · exact .inl (h _ _ q)
 · exact .inr q
section
variable {X : Cx} {pins : List (Addr × Obj)} {σ : St} {H : Hp} {s : Shared}
mutual
theorem Rep.inj (I : Inv X pins σ H s) : ∀ (d e : Dt) (v : V), Rep X.K H d v -> Rep X.K H e v -> d = e
 | .non, e, v, h1, h2 => by
   simp only [Rep] at h1; subst h1
   cases e <;> simp only [Rep] at h2 <;> first | rfl | (cases h2; done) | (obtain ⟨_, _, q, _⟩ := h2; cases q)
 | .bl b, e, v, h1, h2 => by
   simp only [Rep] at h1; subst h1
   cases e <;> simp only [Rep] at h2 <;> first | (cases h2; rfl) | (cases h2; done) | (obtain ⟨_, _, q, _⟩ := h2; cases q)
 | .int b, e, v, h1, h2 => by
   simp only [Rep] at h1; subst h1
   cases e <;> simp only [Rep] at h2 <;> first | (cases h2; rfl) | (cases h2; done) | (obtain ⟨_, _, q, _⟩ := h2; cases q)
 | .str b, e, v, h1, h2 => by
   simp only [Rep] at h1; subst h1
   cases e <;> simp only [Rep] at h2 <;> first | (cases h2; rfl) | (cases h2; done) | (obtain ⟨_, _, q, _⟩ := h2; cases q)
 | .tup l, e, v, h1, h2 => by
   simp only [Rep] at h1
   obtain ⟨a, vs, rfl, hs, hr⟩ := h1
   cases e <;> simp only [Rep] at h2 <;> first | (cases h2; done) | skip
   · obtain ⟨a', vs', q, hs', hr'⟩ := h2
     cases q
     have := I.tuple_inj hs hs'
     subst this
     rw [Reps.inj I l _ vs hr hr']
   · obtain ⟨a', vs', q, hs', hr'⟩ := h2
     cases q
     obtain ⟨its, _, ht, _⟩ := I.tuple hs
     obtain ⟨its', _, hl, _⟩ := I.list hs'
     exact absurd rfl (SeqAt.ne_of_list_tuple (s := s) hl.isList ht)
 | .lst l, e, v, h1, h2 => by
   simp only [Rep] at h1
   obtain ⟨a, vs, rfl, hs, hr⟩ := h1
   cases e <;> simp only [Rep] at h2 <;> first | (cases h2; done) | skip
   · obtain ⟨a', vs', q, hs', hr'⟩ := h2
     cases q
     obtain ⟨its, _, ht, _⟩ := I.tuple hs'
     obtain ⟨its', _, hl, _⟩ := I.list hs
     exact absurd rfl (SeqAt.ne_of_list_tuple (s := s) hl.isList ht)
   · obtain ⟨a', vs', q, hs', hr'⟩ := h2
     cases q
     have := I.list_inj hs hs'
     subst this
     rw [Reps.inj I l _ vs hr hr']
theorem Reps.inj (I : Inv X pins σ H s) : ∀ (l m : List Dt) (vs : List V), Reps X.K H l vs -> Reps X.K H m vs -> l = m
 | [], m, vs, h1, h2 => by
   simp only [Reps] at h1; subst h1
   cases m with
   | nil => rfl
   | cons _ _ => simp only [Reps] at h2; obtain ⟨_, _, q, _⟩ := h2; cases q
 | d :: r, m, vs, h1, h2 => by
   simp only [Reps] at h1
   obtain ⟨v, t, rfl, h1, h3⟩ := h1
   cases m with
   | nil => simp only [Reps] at h2; cases h2
   | cons d' r' =>
     simp only [Reps] at h2
     obtain ⟨v', t', q, h4, h5⟩ := h2
     cases q
     rw [Rep.inj I d d' v h1 h4, Reps.inj I r r' t h3 h5]
end
theorem Reps.items {l : List Dt} {vs : List V} {its : List Value} (h : Reps X.K H l vs) (r : Vals vs its) {j : Nat} (hj : j < its.length) : Rep X.K H (l.getD j .non) (vs.getD j .non) /\ RelV (vs.getD j .non) its[j] /\ l.getD j .non ∈ l := by
 have e1 := h.length
 have e2 := r.length
 have hl : j < l.length := by lia
 obtain ⟨v, hv, hr⟩ := h.at (List.getElem?_eq_getElem hl)
 obtain ⟨u, hu, ru⟩ := r.get hv
 have e3 : l.getD j .non = l[j] := by simp [List.getD, hl]
 have e4 : vs.getD j .non = v := by simp [List.getD, hv]
 rw [List.getElem?_eq_getElem hj] at hu
 cases hu
 rw [e3, e4]
 exact ⟨hr, ru, List.getElem_mem hl⟩
theorem eqAt_D (I : Inv X pins σ H s) : ∀ (n : Nat) (A : Around) (d e : Dt) (x y : V) (u v : Value), dpt d <= n -> A.units + n < cLine -> Rep X.K H d x -> Rep X.K H e y -> RelV x u -> RelV y v -> SeqAt.EqAt A s u v (eqD d e)
 | n, A, .tup l, .tup m, x, y, u, v, hn, hu, h1, h2, r1, r2 => by
   have h1' := h1
   have h2' := h2
   simp only [Rep] at h1 h2
   obtain ⟨a, vs, rfl, hs, hr⟩ := h1
   obtain ⟨b, ws, rfl, hs', hr'⟩ := h2
   cases r1; cases r2
   by_cases hab : a = b
   · subst hab
     rw [Rep.inj I _ _ _ h1' h2', eqD_refl]
     exact SeqAt.EqAt.same _
   · obtain ⟨its, rv, ht, _⟩ := I.tuple hs
     obtain ⟨its', rv', ht', _⟩ := I.tuple hs'
     refine SeqAt.EqAt.of_refs hab ?_
     simp only [eqD_tup, eqD_lst]
     simp only [dpt] at hn
     match n, hn with
     | n + 1, hn =>
       have z := SeqAt.RcAt.tuples (A := A) (s := s) (e := fun j => eqD (l.getD j .non) (m.getD j .non)) ht ht' (by lia) fun j g1 g2 => by
         obtain ⟨q1, q2, q3⟩ := hr.items rv (j := j) (by simpa using g1)
         obtain ⟨q4, q5, q6⟩ := hr'.items rv' (j := j) (by simpa using g2)
         refine eqAt_D I n A.in1 _ _ _ _ _ _ ?_ ?_ q1 q4 (by simpa using q2) (by simpa using q5)
         · have := dpts_le q3; lia
         · show A.units + 1 + n < cLine; lia
       rw [eqDs_eq, hr.length, hr'.length, rv.length, rv'.length]
       simpa using z
 | n, A, .lst l, .lst m, x, y, u, v, hn, hu, h1, h2, r1, r2 => by
   have h1' := h1
   have h2' := h2
   simp only [Rep] at h1 h2
   obtain ⟨a, vs, rfl, hs, hr⟩ := h1
   obtain ⟨b, ws, rfl, hs', hr'⟩ := h2
   cases r1; cases r2
   by_cases hab : a = b
   · subst hab
     rw [Rep.inj I _ _ _ h1' h2', eqD_refl]
     exact SeqAt.EqAt.same _
   · obtain ⟨its, rv, ht, _⟩ := I.list hs
     obtain ⟨its', rv', ht', _⟩ := I.list hs'
     refine SeqAt.EqAt.of_refs hab ?_
     simp only [eqD_tup, eqD_lst]
     simp only [dpt] at hn
     by_cases hl : its.length = its'.length
     · match n, hn with
       | n + 1, hn =>
         have z := SeqAt.RcAt.lists (A := A) (s := s) (e := fun j => eqD (l.getD j .non) (m.getD j .non)) ht.isList ht'.isList (by simpa using hl) (by lia) fun j g1 g2 => by
           obtain ⟨q1, q2, q3⟩ := hr.items rv (j := j) (by simpa using g1)
           obtain ⟨q4, q5, q6⟩ := hr'.items rv' (j := j) (by simpa using g2)
           refine eqAt_D I n A.in1 _ _ _ _ _ _ ?_ ?_ q1 q4 (by simpa using q2) (by simpa using q5)
           · have := dpts_le q3; lia
           · show A.units + 1 + n < cLine; lia
         rw [eqDs_eq, hr.length, hr'.length, rv.length, rv'.length, hl]
         simpa [hl] using z
     · have z := SeqAt.RcAt.lists_lengths (A := A) (s := s) ht.isList ht'.isList (by simpa using hl) (by lia)
       have hf : (its.length == its'.length) = false := by simpa using hl
       rw [eqDs_eq, hr.length, hr'.length, rv.length, rv'.length, hf, Bool.and_false]
       exact z
 | n, A, .tup l, .lst m, x, y, u, v, hn, hu, h1, h2, r1, r2 => by
   simp only [Rep] at h1 h2
   obtain ⟨a, vs, rfl, hs, hr⟩ := h1
   obtain ⟨b, ws, rfl, hs', hr'⟩ := h2
   cases r1; cases r2
   obtain ⟨its, rv, ht, _⟩ := I.tuple hs
   obtain ⟨its', rv', ht', _⟩ := I.list hs'
   exact SeqAt.EqAt.tuple_list ht ht'.isList (by lia)
 | n, A, .lst l, .tup m, x, y, u, v, hn, hu, h1, h2, r1, r2 => by
   simp only [Rep] at h1 h2
   obtain ⟨a, vs, rfl, hs, hr⟩ := h1
   obtain ⟨b, ws, rfl, hs', hr'⟩ := h2
   cases r1; cases r2
   obtain ⟨its, rv, ht, _⟩ := I.list hs
   obtain ⟨its', rv', ht', _⟩ := I.tuple hs'
   exact SeqAt.EqAt.list_tuple ht.isList ht' (by lia)
 | n, A, .tup l, .non, x, y, u, v, hn, hu, h1, h2, r1, r2 => by
   simp only [Rep] at h1 h2
   obtain ⟨a, vs, rfl, hs, hr⟩ := h1
   subst h2; cases r1; cases r2
   obtain ⟨its, rv, ht, _⟩ := I.tuple hs
   exact SeqAt.EqAt.tuple_none ht (by lia)
 | n, A, .tup l, .bl b, x, y, u, v, hn, hu, h1, h2, r1, r2 => by
   simp only [Rep] at h1 h2
   obtain ⟨a, vs, rfl, hs, hr⟩ := h1
   subst h2; cases r1; cases r2
   obtain ⟨its, rv, ht, _⟩ := I.tuple hs
   exact SeqAt.EqAt.tuple_bool b ht (by lia)
 | n, A, .tup l, .int b, x, y, u, v, hn, hu, h1, h2, r1, r2 => by
   simp only [Rep] at h1 h2
   obtain ⟨a, vs, rfl, hs, hr⟩ := h1
   subst h2; cases r1; obtain ⟨t, rfl⟩ := r2
   obtain ⟨its, rv, ht, _⟩ := I.tuple hs
   exact SeqAt.EqAt.tuple_int b t ht (by lia)
 | n, A, .tup l, .str b, x, y, u, v, hn, hu, h1, h2, r1, r2 => by
   simp only [Rep] at h1 h2
   obtain ⟨a, vs, rfl, hs, hr⟩ := h1
   subst h2; cases r1; obtain ⟨t, rfl⟩ := r2
   obtain ⟨its, rv, ht, _⟩ := I.tuple hs
   exact SeqAt.EqAt.tuple_str b t ht (by lia)
 | n, A, .lst l, .non, x, y, u, v, hn, hu, h1, h2, r1, r2 => by
   simp only [Rep] at h1 h2
   obtain ⟨a, vs, rfl, hs, hr⟩ := h1
   subst h2; cases r1; cases r2
   obtain ⟨its, rv, ht, _⟩ := I.list hs
   exact SeqAt.EqAt.list_none ht.isList (by lia)
 | n, A, .lst l, .bl b, x, y, u, v, hn, hu, h1, h2, r1, r2 => by
   simp only [Rep] at h1 h2
   obtain ⟨a, vs, rfl, hs, hr⟩ := h1
   subst h2; cases r1; cases r2
   obtain ⟨its, rv, ht, _⟩ := I.list hs
   exact SeqAt.EqAt.list_bool b ht.isList (by lia)
 | n, A, .lst l, .int b, x, y, u, v, hn, hu, h1, h2, r1, r2 => by
   simp only [Rep] at h1 h2
   obtain ⟨a, vs, rfl, hs, hr⟩ := h1
   subst h2; cases r1; obtain ⟨t, rfl⟩ := r2
   obtain ⟨its, rv, ht, _⟩ := I.list hs
   exact SeqAt.EqAt.list_int b t ht.isList (by lia)
 | n, A, .lst l, .str b, x, y, u, v, hn, hu, h1, h2, r1, r2 => by
   simp only [Rep] at h1 h2
   obtain ⟨a, vs, rfl, hs, hr⟩ := h1
   subst h2; cases r1; obtain ⟨t, rfl⟩ := r2
   obtain ⟨its, rv, ht, _⟩ := I.list hs
   exact SeqAt.EqAt.list_str b t ht.isList (by lia)
 | n, A, .non, .tup l, x, y, u, v, hn, hu, h1, h2, r1, r2 => by
   simp only [Rep] at h1 h2
   obtain ⟨a, vs, rfl, hs, hr⟩ := h2
   subst h1; cases r2; cases r1
   obtain ⟨its, rv, ht, _⟩ := I.tuple hs
   exact SeqAt.EqAt.none_tuple ht (by lia)
 | n, A, .bl b, .tup l, x, y, u, v, hn, hu, h1, h2, r1, r2 => by
   simp only [Rep] at h1 h2
   obtain ⟨a, vs, rfl, hs, hr⟩ := h2
   subst h1; cases r2; cases r1
   obtain ⟨its, rv, ht, _⟩ := I.tuple hs
   exact SeqAt.EqAt.bool_tuple b ht (by lia)
 | n, A, .int b, .tup l, x, y, u, v, hn, hu, h1, h2, r1, r2 => by
   simp only [Rep] at h1 h2
   obtain ⟨a, vs, rfl, hs, hr⟩ := h2
   subst h1; cases r2; obtain ⟨t, rfl⟩ := r1
   obtain ⟨its, rv, ht, _⟩ := I.tuple hs
   exact SeqAt.EqAt.int_tuple b t ht (by lia)
 | n, A, .str b, .tup l, x, y, u, v, hn, hu, h1, h2, r1, r2 => by
   simp only [Rep] at h1 h2
   obtain ⟨a, vs, rfl, hs, hr⟩ := h2
   subst h1; cases r2; obtain ⟨t, rfl⟩ := r1
   obtain ⟨its, rv, ht, _⟩ := I.tuple hs
   exact SeqAt.EqAt.str_tuple b t ht (by lia)
 | n, A, .non, .lst l, x, y, u, v, hn, hu, h1, h2, r1, r2 => by
   simp only [Rep] at h1 h2
   obtain ⟨a, vs, rfl, hs, hr⟩ := h2
   subst h1; cases r2; cases r1
   obtain ⟨its, rv, ht, _⟩ := I.list hs
   exact SeqAt.EqAt.none_list ht.isList (by lia)
 | n, A, .bl b, .lst l, x, y, u, v, hn, hu, h1, h2, r1, r2 => by
   simp only [Rep] at h1 h2
   obtain ⟨a, vs, rfl, hs, hr⟩ := h2
   subst h1; cases r2; cases r1
   obtain ⟨its, rv, ht, _⟩ := I.list hs
   exact SeqAt.EqAt.bool_list b ht.isList (by lia)
 | n, A, .int b, .lst l, x, y, u, v, hn, hu, h1, h2, r1, r2 => by
   simp only [Rep] at h1 h2
   obtain ⟨a, vs, rfl, hs, hr⟩ := h2
   subst h1; cases r2; obtain ⟨t, rfl⟩ := r1
   obtain ⟨its, rv, ht, _⟩ := I.list hs
   exact SeqAt.EqAt.int_list b t ht.isList (by lia)
 | n, A, .str b, .lst l, x, y, u, v, hn, hu, h1, h2, r1, r2 => by
   simp only [Rep] at h1 h2
   obtain ⟨a, vs, rfl, hs, hr⟩ := h2
   subst h1; cases r2; obtain ⟨t, rfl⟩ := r1
   obtain ⟨its, rv, ht, _⟩ := I.list hs
   exact SeqAt.EqAt.str_list b t ht.isList (by lia)
 | n, A, .non, .non, x, y, u, v, hn, hu, h1, h2, r1, r2 => by
   simp only [Rep] at h1 h2
   subst h1 h2
   exact eqAt_V r1 r2 rfl rfl
 | n, A, .non, .bl b, x, y, u, v, hn, hu, h1, h2, r1, r2 => by
   simp only [Rep] at h1 h2
   subst h1 h2
   exact eqAt_V r1 r2 rfl rfl
 | n, A, .non, .int b, x, y, u, v, hn, hu, h1, h2, r1, r2 => by
   simp only [Rep] at h1 h2
   subst h1 h2
   exact eqAt_V r1 r2 rfl rfl
 | n, A, .non, .str b, x, y, u, v, hn, hu, h1, h2, r1, r2 => by
   simp only [Rep] at h1 h2
   subst h1 h2
   exact eqAt_V r1 r2 rfl rfl
 | n, A, .bl a, .non, x, y, u, v, hn, hu, h1, h2, r1, r2 => by
   simp only [Rep] at h1 h2
   subst h1 h2
   exact eqAt_V r1 r2 rfl rfl
 | n, A, .bl a, .bl b, x, y, u, v, hn, hu, h1, h2, r1, r2 => by
   simp only [Rep] at h1 h2
   subst h1 h2
   exact eqAt_V r1 r2 rfl rfl
 | n, A, .bl a, .int b, x, y, u, v, hn, hu, h1, h2, r1, r2 => by
   simp only [Rep] at h1 h2
   subst h1 h2
   exact eqAt_V r1 r2 rfl rfl
 | n, A, .bl a, .str b, x, y, u, v, hn, hu, h1, h2, r1, r2 => by
   simp only [Rep] at h1 h2
   subst h1 h2
   exact eqAt_V r1 r2 rfl rfl
 | n, A, .int a, .non, x, y, u, v, hn, hu, h1, h2, r1, r2 => by
   simp only [Rep] at h1 h2
   subst h1 h2
   exact eqAt_V r1 r2 rfl rfl
 | n, A, .int a, .bl b, x, y, u, v, hn, hu, h1, h2, r1, r2 => by
   simp only [Rep] at h1 h2
   subst h1 h2
   exact eqAt_V r1 r2 rfl rfl
 | n, A, .int a, .int b, x, y, u, v, hn, hu, h1, h2, r1, r2 => by
   simp only [Rep] at h1 h2
   subst h1 h2
   exact eqAt_V r1 r2 rfl rfl
 | n, A, .int a, .str b, x, y, u, v, hn, hu, h1, h2, r1, r2 => by
   simp only [Rep] at h1 h2
   subst h1 h2
   exact eqAt_V r1 r2 rfl rfl
 | n, A, .str a, .non, x, y, u, v, hn, hu, h1, h2, r1, r2 => by
   simp only [Rep] at h1 h2
   subst h1 h2
   exact eqAt_V r1 r2 rfl rfl
 | n, A, .str a, .bl b, x, y, u, v, hn, hu, h1, h2, r1, r2 => by
   simp only [Rep] at h1 h2
   subst h1 h2
   exact eqAt_V r1 r2 rfl rfl
 | n, A, .str a, .int b, x, y, u, v, hn, hu, h1, h2, r1, r2 => by
   simp only [Rep] at h1 h2
   subst h1 h2
   exact eqAt_V r1 r2 rfl rfl
 | n, A, .str a, .str b, x, y, u, v, hn, hu, h1, h2, r1, r2 => by
   simp only [Rep] at h1 h2
   subst h1 h2
   exact eqAt_V r1 r2 rfl rfl
end
end L2
namespace L2
open PySem PySem.Spec PyProof.Rows
noncomputable def isSeq : Dt -> Bool
 | .tup _ => true
 | .lst _ => true
 | _ => false
noncomputable def sameSeq : Dt -> Dt -> Bool
 | .tup _, .tup _ => true
 | .lst _, .lst _ => true
 | _, _ => false
section
variable {X : Cx}
theorem rc_D {pins : List (Addr × Obj)} {σ : St} {H : Hp} {s : Shared} (I : Inv X pins σ H s) {A : Around} {d e : Dt} {x y : V} {u v : Value} (hs : sameSeq d e = true) (hn : dpt d <= 50) (hu : A.units + 60 < cLine) (h1 : Rep X.K H d x) (h2 : Rep X.K H e y) (r1 : RelV x u) (r2 : RelV y v) :
   SeqAt.RcAt A s u v (eqD d e) /\ SeqAt.RcNeAt A s u v (!eqD d e) := by
 cases d with
 | tup l =>
   cases e with
   | tup m =>
     simp only [Rep] at h1 h2
     obtain ⟨a, vs, rfl, hs, hr⟩ := h1
     obtain ⟨b, ws, rfl, hs', hr'⟩ := h2
     cases r1; cases r2
     obtain ⟨its, rv, ht, _⟩ := I.tuple hs
     obtain ⟨its', rv', ht', _⟩ := I.tuple hs'
     simp only [eqD_tup, eqD_lst]
     simp only [dpt] at hn
     have he : ∀ j (g1 : j < its.toArray.size) (g2 : j < its'.toArray.size), SeqAt.EqAt A.in1 s its.toArray[j] its'.toArray[j] ((fun j => eqD (l.getD j .non) (m.getD j .non)) j) := fun j g1 g2 => by
       obtain ⟨q1, q2, q3⟩ := hr.items rv (j := j) (by simpa using g1)
       obtain ⟨q4, q5, q6⟩ := hr'.items rv' (j := j) (by simpa using g2)
       refine eqAt_D I 50 A.in1 _ _ _ _ _ _ ?_ ?_ q1 q4 (by simpa using q2) (by simpa using q5)
       · have := dpts_le q3; lia
       · show A.units + 1 + 50 < cLine; lia
     have z := SeqAt.RcAt.tuples (A := A) (s := s) ht ht' (by lia) he
     have z' := SeqAt.RcNeAt.tuples (A := A) (s := s) ht ht' (by lia) he
     rw [eqDs_eq, hr.length, hr'.length, rv.length, rv'.length]
     exact ⟨by simpa using z, by simpa using z'⟩
   | _ => cases hs
 | lst l =>
   cases e with
   | lst m =>
     simp only [Rep] at h1 h2
     obtain ⟨a, vs, rfl, hs, hr⟩ := h1
     obtain ⟨b, ws, rfl, hs', hr'⟩ := h2
     cases r1; cases r2
     obtain ⟨its, rv, ht, _⟩ := I.list hs
     obtain ⟨its', rv', ht', _⟩ := I.list hs'
     simp only [eqD_tup, eqD_lst]
     simp only [dpt] at hn
     by_cases hl : its.length = its'.length
     · have he : ∀ j (g1 : j < its.toArray.size) (g2 : j < its'.toArray.size), SeqAt.EqAt A.in1 s its.toArray[j] its'.toArray[j] ((fun j => eqD (l.getD j .non) (m.getD j .non)) j) := fun j g1 g2 => by
         obtain ⟨q1, q2, q3⟩ := hr.items rv (j := j) (by simpa using g1)
         obtain ⟨q4, q5, q6⟩ := hr'.items rv' (j := j) (by simpa using g2)
         refine eqAt_D I 50 A.in1 _ _ _ _ _ _ ?_ ?_ q1 q4 (by simpa using q2) (by simpa using q5)
         · have := dpts_le q3; lia
         · show A.units + 1 + 50 < cLine; lia
       have z := SeqAt.RcAt.lists (A := A) (s := s) ht.isList ht'.isList (by simpa using hl) (by lia) he
       have z' := SeqAt.RcNeAt.lists (A := A) (s := s) ht.isList ht'.isList (by simpa using hl) (by lia) he
       rw [eqDs_eq, hr.length, hr'.length, rv.length, rv'.length, hl]
       exact ⟨by simpa [hl] using z, by simpa [hl] using z'⟩
     · have z := SeqAt.RcAt.lists_lengths (A := A) (s := s) ht.isList ht'.isList (by simpa using hl) (by lia)
       have z' := SeqAt.RcNeAt.lists_lengths (A := A) (s := s) ht.isList ht'.isList (by simpa using hl) (by lia)
       have hf : (its.length == its'.length) = false := by simpa using hl
       rw [eqDs_eq, hr.length, hr'.length, rv.length, rv'.length, hf, Bool.and_false]
       exact ⟨z, z'⟩
   | _ => cases hs
 | _ => cases hs
noncomputable def rEqD (K : PySem.W.Frag) : R2 := fun x y H Q => ∃ d e, sameSeq d e = true /\ dpt d <= 50 /\ Rep K H d x /\ Rep K H e y /\ Q (.bl (eqD d e)) H
noncomputable def rNeD (K : PySem.W.Frag) : R2 := fun x y H Q => ∃ d e, sameSeq d e = true /\ dpt d <= 50 /\ Rep K H d x /\ Rep K H e y /\ Q (.bl (!eqD d e)) H
theorem op_eqD (hu : X.A.units + 60 < cLine) : OpR X (compareOp .Eq) (rEqD X.K) := by
 intro pins s σ H x y v u Q I r1 r2 h
 obtain ⟨d, e, h0, hn, h1, h2, q⟩ := h
 exact (rc_D I h0 hn hu h1 h2 r1 r2).1 X.prog X.w X.xe _ ⟨.bl _, H, I, rfl, q⟩
theorem op_neD (hu : X.A.units + 60 < cLine) : OpR X (compareOp .NotEq) (rNeD X.K) := by
 intro pins s σ H x y v u Q I r1 r2 h
 obtain ⟨d, e, h0, hn, h1, h2, q⟩ := h
 exact (rc_D I h0 hn hu h1 h2 r1 r2).2 X.prog X.w X.xe _ ⟨.bl _, H, I, rfl, q⟩
theorem Room.u60 {k : Nat} {A : Around} (r : Room k A) : A.units + 60 < cLine := by have := r.units; lia
theorem ints_at : ∀ {ks : List Int} {vs : List Value}, vs.length = ks.length -> (∀ (j : Nat) (v : Value) , vs[j]? = some v -> ∃ (k : Int) (t : Tok), ks[j]? = some k /\ v = .int k t) -> IntsAre vs ks
 | [], [], _, _ => .nil
 | [], _ :: _, h, _ => by simp at h
 | _ :: _, [], h, _ => by simp at h
 | k :: ks, v :: vs, h, hv => by
   obtain ⟨k', t, e1, e2⟩ := hv 0 v rfl
   simp at e1
   subst e1 e2
   exact .cons k t (ints_at (by simpa using h) fun j u e => by simpa using hv (j + 1) u (by simpa using e))
noncomputable def rSortedK : List V -> Hp -> VK -> Prop := fun xs H Q => ∃ (d : Addr) (kvs : List (Key × V)) (ks : List Int), xs = [.ref d] /\ H d = some (.dK kvs) /\ kvs.map (·.1) = ks.map Sum.inl /\ ks.length <= sizeLine /\ ∀ (p : Addr) (ns : List Int), H p = none -> ns.Perm ks -> ns.Pairwise (· <= ·) -> Q (.ref p) (upd H p (.lst (ns.map V.int)))
theorem call_sortedK (hc : X.calm = true) : CallR X (.builtin "sorted") rSortedK := by
 intro pins s σ H xs us Q I r h
 obtain ⟨d, kvs, ks, rfl, hd, hk, h64, q⟩ := h
 obtain ⟨u, rfl, ru⟩ := vals1 r
 cases ru
 have hh : X.A.in1.handled = none := I.ok.hd hc
 obtain ⟨hz, lo, vs, rel, dd⟩ := dk_of I.hok hd
 obtain ⟨ep, hat⟩ := dd.dictAt
 have hlen : vs.length = ks.length := by
   have e1 := congrArg List.length hk
   rw [List.length_map, List.length_map] at e1
   rw [<- rel.length, e1]
 refine Calls.call_function_entry kind_sorted plain_sorted entry_sorted (args_sorted1 _) ?_
 unfold Builtin.«sorted»
 refine wpAny_bind (m := checkCount "sorted" 1 1 _) (wpAny_pure ?_)
 refine wpAny_bind (PySem.W.kdu_collect (A := X.A.in1) (PySem.W.kdl_dict (knd := mixKind X.prog X.w) (kvs := vs) (ep := ep) lo) hh hat (by rw [<- rel.length]; exact hz) fun h' tk acc hkp hacc => ?_)
 have hl : acc.toList.length = ks.length := by rw [Array.length_toList, hacc.1, hlen]
 have hI : IntsAre acc.toList ks := ints_at hl fun j v e => by
   obtain ⟨k, x, hx, hki⟩ := hacc.2 j v (by rw [<- Array.getElem?_toList]; exact e)
   have hkj : (kvs.map (·.1))[j]? = some k := by
     have : (vs.map (·.1))[j]? = some k := by rw [List.getElem?_map, hx]; rfl
     rw [<- rel.keys] at this
     exact this
   rw [hk, List.getElem?_map] at hkj
   cases e2 : ks[j]? with
   | none => rw [e2] at hkj; cases hkj
   | some n =>
     rw [e2] at hkj
     cases hkj
     have hki' : keyIs (Sum.inl n) v = true := hki
     rcases keyIs_shape hki' with ⟨i, t, e3, e4⟩ | ⟨x, t, e3, e4⟩
     · cases e3; exact ⟨n, t, rfl, e4⟩
     · cases e3
 refine wpAny_bind (wpAny_newList ?_ (by rw [hl]; exact h64))
 have ho : (h'.push (seqObj "list" acc.toList.toArray 0)).get? h'.objs.size = some (seqObj "list" acc.toList.toArray 0) := Heap.get?_push_size _ rfl
 refine wpAny_bind (wpAny_holding (wpAny_call_entry slot_list_sort ⟨_, ho, rfl⟩ entry_list_sort (TS.sort_ints (s := { s with heap := h'.push (seqObj "list" acc.toList.toArray 0), toks := tk }) ho hI (by rw [hl]; exact h64) fun out ns' a1 a2 a3 => ⟨_, rfl, ?_⟩) (args_list_sort _)))
 obtain ⟨ee, hat'⟩ := sortedHeap_at (out := out) ho
 have I' : Inv X pins σ H { s with heap := h', toks := tk } := I.kept (t' := tk) hkp
 refine wpAny_pure ⟨_, rfl, .ref h'.objs.size, _, I'.laid (t' := tk) (o := .lst (ns'.map V.int)) (fun b o hb => ?_) (Nat.le_refl _) ?_, rfl, q _ ns' (I'.hok.fresh (Nat.le_refl _)) a2 a3⟩
 · have hlt : b < h'.objs.size := Heap.lt_size hb
   rw [sortedHeap_old (Nat.ne_of_lt hlt) (by rw [Heap.size_push]; exact Nat.lt_succ_of_lt hlt)]
   exact Heap.get?_push_of_some _ hb
 · refine ⟨?_, out.toList, ee, vals_ints a1, by simpa using hat'⟩
   rw [List.length_map, a2.length_eq]
   exact h64
end
end L2
namespace L2
open PySem PySem.Spec PyProof.Rows
theorem CScope.of {X : Cx} {sc scope : Scope} {N own N' : List Str} {fr : List Nat} (hsc : X.env.scope = sc) (hN : X.N = N) (kind : scope.kind = .function) (names : N' = own ++ fr.filterMap (fun j => N[j]?)) (len : N'.length = own.length + fr.length) (nd : N'.Nodup)
   (nocell : ∀ y ∈ scope.names, y.2 ≠ .cell) (loc : ∀ y ∈ scope.names, y.2 = .local -> scope.names.lookup y.1 = some .local) (cap : ∀ x ∈ fr.filterMap (fun j => N[j]?), scope.names.lookup x = some .free)
   (free : ∀ y ∈ scope.names, y.2 = .free -> sc.names.lookup y.1 = some .cell \/ sc.names.lookup y.1 = some .free) : CScope X own fr N' scope := by
 subst hN hsc
 exact ⟨kind, names, len, nd, nocell, loc, cap, free⟩
structure Fnc (K : PySem.W.Frag) (mg : Str -> Option Value) (x : Str) (ps : List Str) (st : Stmt) (f : Addr) (fd : FuncData) : Prop where
 at_ : mg x = some (.ref f)
 fn : Fun K x x st f fd
 bd : Binds K fd ps []
section
variable {X : Cx} {k : Nat} {f : Addr} {fd : FuncData} {ps : List Str} {sp : Sp} {x : Str} {st : Stmt} {p pos : Pos} {e : Expr} {es : List Expr} {t : TA}
theorem pe_callF (C : Fnc X.K X.mg x ps st f fd) (F : FnOk X.prog X.w X.K X.mg X.base CX0 k f fd ps sp) (hr : Room k X.A) (hg : Gl X x)
   (ha : PA X (e :: es) t) (hdb : (x == ("__debug__" : Str)) = false := by decide) (he : starEach (e :: es) X.env = (false, eval e X.env) :: starEach es X.env := by rfl) (hpl : (backTo pos (starEach es X.env)).any (·.1) = false := by rfl) :
   PE X (.Call (.Name x p) (e :: es) [] pos) (tCall sp [] E0 t) := pe_call F hr hg C.at_ C.fn.kp C.bd .nil pass0 ha hdb he hpl
theorem pe_call0F (C : Fnc X.K X.mg x ps st f fd) (F : FnOk X.prog X.w X.K X.mg X.base CX0 k f fd ps sp) (hr : Room k X.A) (hg : Gl X x)
   (hdb : (x == ("__debug__" : Str)) = false := by decide) : PE X (.Call (.Name x p) [] [] pos) (tCall sp [] E0 tNil) := pe_call0 F hr hg C.at_ C.fn.kp C.bd .nil pass0 hdb
end
theorem same_upd {H : Hp} {p : Addr} {o : HO} (h : H p = none) : Same H (upd H p o) := fun b u e => by
 rw [upd_ne (ne_of_none e h)]; exact e
noncomputable def TSame (H H' : Hp) : Prop := ∀ b xs, Rd H b (.tup xs) -> Rd H' b (.tup xs)
theorem TSame.refl (H : Hp) : TSame H H := fun _ _ h => h
theorem TSame.trans {H H1 H2 : Hp} (a : TSame H H1) (b : TSame H1 H2) : TSame H H2 := fun c o h => b c o (a c o h)
theorem Same.ts {H H' : Hp} (a : Same H H') : TSame H H' := fun b xs h => by
 rcases h with h | ⟨o, h⟩
 · exact .inl (a _ _ h)
 · exact .inr ⟨o, a _ _ h⟩
end L2
namespace L2
open PySem PySem.Spec PyProof.Rows
inductive TyX (K : PySem.W.Frag) (H : Hp) : V -> Value -> Prop where
 | of {x : V} {t : Value} (h : TyOf K H x t) : TyX K H x t
 | tup {a : Addr} {xs : List V} (h : SqT K H a xs) : TyX K H (.ref a) (.type "tuple")
 | lst {a : Addr} {xs : List V} (h : SqL K H a xs) : TyX K H (.ref a) (.type "list")
section
variable {X : Cx}
noncomputable def rIsX (K : PySem.W.Frag) : List V -> Hp -> VK -> Prop := fun xs H Q => ∃ x T t b, xs = [x, .ty T] /\ TyX K H x t /\ PySem.W.kitOne K t (.type T) = some b /\ Q (.bl b) H
theorem call_isX : CallR X (.builtin "isinstance") (rIsX X.K) := by
 intro pins s σ H xs us Q I r h
 obtain ⟨x, T, t, b, rfl, ty, e, q⟩ := h
 obtain ⟨u, w', rfl, ru, rw'⟩ := vals2 r
 cases rw'
 cases ty with
 | of ty => exact isinst_ok I ru ty e fun tk => ⟨.bl b, H, I.tok tk, rfl, q⟩
 | tup hs =>
   cases ru
   obtain ⟨its, rv, ⟨o, h1, h2, _⟩, _⟩ := I.tuple hs
   exact PySem.W.kia_one PySem.W.kitx_tuple I.kIn ⟨o, h1, h2⟩ e (fun z => nomatch z) fun tk => ⟨.bl b, H, I.tok tk, rfl, q⟩
 | lst hs =>
   cases ru
   obtain ⟨its, rv, ht, _⟩ := I.list hs
   obtain ⟨o, h1, h2, _⟩ := ht.isList
   exact PySem.W.kia_one PySem.W.kitx_list I.kIn ⟨o, h1, h2⟩ e (fun z => nomatch z) fun tk => ⟨.bl b, H, I.tok tk, rfl, q⟩
end
end L2
namespace L2
open PySem PyProof.Rows PyProof.V PySem.Calls PySem.Spec
noncomputable def Fly (P : Program) (w : World) : CXT := fun outer H s E e s' =>
 ∃ (ea : Addr) (cls a0 : Value) (B : Heap) (H' : Hp), e = .ref ea /\ s'.os = s.os /\ AllBare s'.gens /\ Heap.FlyingW B outer ea cls a0 s'.heap /\ HOk P w H' B /\ H' ea = none /\ Un (frs outer) [] H H' s.heap s'.heap /\
   (∀ b o, s.heap.get? b = some o -> H b = none -> b ∉ frs outer -> B.get? b = some o) /\ (∀ b o, s.heap.get? b = some o -> b ∉ frs outer -> ∃ o', B.get? b = some o') /\ E cls none H'
theorem ObjOk.ex {P : Program} {w : World} {H : Hp} {h : Heap} {a : Addr} {o : HO} (x : ObjOk P w H h a o) : ∃ u, h.get? a = some u := by
 cases o with
 | lst xs => obtain ⟨_, _, _, _, e⟩ := x; exact ⟨_, e⟩
 | tup xs => obtain ⟨_, _, _, p, e, _⟩ := x; exact ⟨_, e⟩
 | dK kvs => obtain ⟨_, _, _, _, o, _, _, e, _⟩ := x; exact ⟨_, e⟩
 | dT kvs => obtain ⟨_, _, _, _, o, _, _, e, _⟩ := x; exact ⟨_, e⟩
 | set S n => obtain ⟨o, _, _, _, e, _⟩ := x; exact ⟨_, e⟩
 | ins C dx fs => obtain ⟨_, _, _, e, _⟩ := x; exact ⟨_, e⟩
 | own y => exact x
 | xd fs => obtain ⟨_, ⟨_, _, _, e, _⟩, _⟩ := x; exact ⟨_, e⟩
 | rng lo hi => obtain ⟨_, _, _, e⟩ := x; exact ⟨_, e⟩
 | frz ob u => obtain ⟨e, _⟩ := x; exact ⟨_, e⟩
 | tbl ps => exact ⟨_, (show h.get? a = some _ from x)⟩
 | met f y => exact ⟨_, (show h.get? a = some _ from x)⟩
 | ext φ => obtain ⟨_, e, _⟩ := x; exact e
section
variable {X : Cx} {pins : List (Addr × Obj)} {σ : St} {H H' : Hp} {s s' : Shared}
theorem Inv.nstk (I : Inv X pins σ H s) {b : Addr} {o : Obj} (e : X.s₀.heap.get? b = some o) (n : b ∉ X.fs) : b ∉ frs X.stack := fun z => by
 rcases List.mem_cons.mp (I.stkSub b z) with q | q
 · have h1 := Heap.lt_size e
   have h2 := I.ok.above
   rw [q] at h1
   exact absurd h1 (Nat.not_lt.mpr h2)
 · exact n q
theorem un_leave {outer : List Env} {H₀ : Hp} {h0 h h' B : Heap} {base : Heap} (ff : h.FunFrames base outer) (hF : ∀ b ∈ frs outer, H₀ b = none) (u : Un (frs outer) [] H₀ H' h0 h) (st : B.StaysIn h') (up : h.UpToSlots h')
   (kb : ∀ b o, h0.get? b = some o -> H₀ b = none -> b ∉ frs outer -> B.get? b = some o) (kt : ∀ b o, h0.get? b = some o -> b ∉ frs outer -> ∃ o', B.get? b = some o') : Un (frs outer) [] H₀ H' h0 h' where
 keep b o e n hb _ := st b o (kb b o e n hb)
 slot b o e n hb hx := by
   obtain ⟨sl, e1⟩ := u.slot b o e n hb hx
   obtain ⟨_, o2, e2, hnf⟩ := ff.mem hb
   rw [e1] at e2
   cases e2
   obtain ⟨sl2, e3⟩ := up b _ e1 hnf
   exact ⟨sl2, e3⟩
 free := u.free
 there b o e hx := by
   by_cases hb : b ∈ frs outer
   · obtain ⟨sl, e1⟩ := u.slot b o e (hF b hb) hb hx
     obtain ⟨_, o2, e2, hnf⟩ := ff.mem hb
     rw [e1] at e2
     cases e2
     obtain ⟨sl2, e3⟩ := up b _ e1 hnf
     exact ⟨_, e3⟩
   · obtain ⟨o', e'⟩ := kt b o e hb
     exact ⟨o', st _ _ e'⟩
 tups := u.tups
 frzs := u.frzs
 tbls := u.tbls
theorem passes_fly {P : Program} {w : World} {K : PySem.W.Frag} {mg : Str -> Option Value} {base : Heap} {N : List Str} {qual : Str} {scope : Scope} {f : Addr} {cd : Value} {A : Around} {outer : List Env} {s : Shared} {H : Hp} {E : XK} :
   Passes (Fly P w) (cxOf (Fly P w) P w K mg base N qual scope f cd A outer s H E) E := by
 intro pins σ H1 s1 e s' I hf
 obtain ⟨ea, cls, a0, B, H', rfl, os, bare, fl, hok, hea, un, kb, kt, hE⟩ := hf
 have I' := I.call' (ch := []) os un (hok.kept fl.1) bare (fun b z => absurd z (by simp))
 show wpAny _ _ (leaving _ (.ref ea)) _ _ s'
 refine wpAny_leaves_onW I.ok.frames rfl fl fun h' fl' up => ?_
 · have hex : (cxOf (Fly P w) P w K mg base N qual scope f cd A outer s H E).ex = [] := rfl
   have kb' : ∀ b o, s.heap.get? b = some o -> H b = none -> b ∉ frs outer -> B.get? b = some o := fun b o e n hb =>
     kb b o (I.base.keep b o e n hb (fun z => absurd z (by simp [hex]))) (I.base.free b o e n (fun z => absurd z (by simp [hex]))) (I.nstk e hb)
   have kt' : ∀ b o, s.heap.get? b = some o -> b ∉ frs outer -> ∃ o', B.get? b = some o' := fun b o e hb => by
     obtain ⟨o1, e1⟩ := I.base.there b o e (fun z => absurd z (by simp [hex]))
     exact kt b o1 e1 (I.nstk e hb)
   exact ⟨ea, cls, a0, B, H', rfl, os.trans I.os, bare, fl', hok, hea, un_leave I'.funs I.ok.frf I'.base fl'.1 up kb' kt', kb', kt', hE⟩
theorem fly_made {P : Program} {w : World} {M : Model} {E' : Value -> Shared -> Prop} {E : XK} {h' : Heap} {e : Addr} {cls : Value} {vs : List Value} (hP : X.prog = P) (hw : X.w = w) (I : Inv X pins σ H s) (hst : X.stack = X.env :: X.outer) (hfr : X.env.frame = some X.env.locals) (hex : X.ex = [])
   (mk : Heap.MadeExcOf s.heap h' e cls vs) (hE : E cls none H) :
   wpAny M X.A (leaving X.env (.ref e)) (fun _ s2 => Fly P w X.outer X.H₀ X.s₀ E (.ref e) s2) E' { s with heap := h' } := by
 subst hP hw
 have noA : ∀ b : Addr, b ∉ X.ex := fun b z => by rw [hex] at z; exact absurd z (by simp)
 have stk := I.stack
 have hin : ∀ env ∈ X.stack, ∀ b, env.frame = some b -> b ∈ frs X.stack := fun env he b hb => List.mem_filterMap.mpr ⟨env, he, hb⟩
 have hB : HOk X.prog X.w H (PySem.W.hideAll s.heap (frs X.stack)) := fun a o ea =>
   (I.hok a o ea).stay (fun b u hb q => PySem.W.hideAll_get _ q fun hm => by
     have := I.stkFree b hm
     rcases hb with rfl | hb
     · rw [ea] at this; cases this
     · rw [hb] at this; cases this) (fun _ q => q) fun _ _ q => q
 have hea : H e = none := by
   cases q : H e with
   | none => rfl
   | some o =>
     obtain ⟨u, hu⟩ := (I.hok e o q).ex
     rw [mk.new] at hu
     cases hu
 have kb : ∀ b o, X.s₀.heap.get? b = some o -> X.H₀ b = none -> b ∉ frs X.outer -> (PySem.W.hideAll s.heap (frs X.stack)).get? b = some o := fun b o e n hb =>
   PySem.W.hideAll_get _ (I.base.keep b o e n hb (noA b)) (I.nstk e hb)
 have kt : ∀ b o, X.s₀.heap.get? b = some o -> b ∉ frs X.outer -> ∃ o', (PySem.W.hideAll s.heap (frs X.stack)).get? b = some o' := fun b o e hb => by
   obtain ⟨o1, e1⟩ := I.base.there b o e (noA b)
   exact ⟨o1, PySem.W.hideAll_get _ e1 (I.nstk e hb)⟩
 have hf2 : s.heap.FunFrames (PySem.W.hideAll s.heap (frs X.stack)) (X.env :: X.outer) := by
   have := PySem.W.funFrames_hide stk hin
   rw [hst] at this ⊢
   exact this
 refine wpAny_leaves_madeW (by rw [I.ok.frames, hst]) hfr (fun b o q => PySem.W.of_hideAll _ q) hf2 mk fun h2 t fl tu _ up => ?_
 have up' : s.heap.UpToSlots h2 := (Heap.UpToSlots.of_keeps mk.keeps).trans up
 have u0 : Un (frs X.outer) [] X.H₀ H X.s₀.heap s.heap := by have := I.base; rw [hex] at this; exact this
 exact ⟨e, cls, .ref t, _, H, rfl, I.os, I.bare, fl, hB, hea, un_leave I.funs I.ok.frf u0 fl.1 up' kb kt, kb, kt, hE⟩
noncomputable def Flies (X : Cx) (E : XK) : Prop := ∀ (pins : List (Addr × Obj)) (σ : St) (H : Hp) (s : Shared) (h' : Heap) (e : Addr) (cls : Value) (vs : List Value), Inv X pins σ H s -> Heap.MadeExcOf s.heap h' e cls vs -> E cls none H -> X.xe (.ref e) { s with heap := h' }
theorem flies_cx {P : Program} {w : World} {K : PySem.W.Frag} {mg : Str -> Option Value} {base : Heap} {N : List Str} {qual : Str} {scope : Scope} {f : Addr} {cd : Value} {A : Around} {outer : List Env} {s : Shared} {H : Hp} {E : XK} :
   Flies (cxOf (Fly P w) P w K mg base N qual scope f cd A outer s H E) E :=
 fun pins σ H1 s1 h' e cls vs I mk hE => fly_made (P := P) (w := w) rfl rfl I rfl rfl rfl mk hE
abbrev bmV : List Value := [.type "ValueError", .type "Exception", .type "BaseException", .type "object"]
noncomputable def tRaise (C : Addr) (E : XK) (t : TA) : TS := fun _ σ H => t σ H fun vs H1 => vs.length <= sizeLine /\ E (.ref C) none H1
theorem ps_raise {E : XK} {x : Str} {C : Addr} {np cpos pos : Pos} {e₀ : Expr} {rest : List Expr} {t : TA} (hF : Flies X E) (hc : X.calm = true) (hg : Gl X x) (O : PyProof.Rows.OwnCls x C bmV "ValueError.__new__" X.mg X.base) (ha : PA X (e₀ :: rest) t)
   (hdb : (x == ("__debug__" : Str)) = false := by decide) (he : starEach (e₀ :: rest) X.env = (false, eval e₀ X.env) :: starEach rest X.env := by rfl) (hpl : (backTo cpos (starEach rest X.env)).any (·.1) = false := by rfl) :
   PS X (.Raise (some (.Call (.Name x np) (e₀ :: rest) [] cpos)) none pos) (tRaise C E t) := by
 intro pins s σ H D I h
 obtain ⟨tl, N, nm, q, bs, hdct, sn, sub, ab, col, dd, k0, k1, k2, k3, k5, mN, hC, hN, hni, T⟩ := O.obj
 refine wpAny_Raise_call_subU (C := C) (nm := nm) (q := q) (N := N) (bs := bs) (bm := tl) (hdct := hdct) (sn := sn) (sub := sub) (ab := ab) (col := col) (dd := dd) (k0 := k0) (k1 := k1) (k2 := k2) (k3 := k3) (k5 := k5)
   PySem.F.excBase_ValueError (bmB := bmV) (by decide +kernel) PySem.F.excBase_ValueError (mN := mN) (T.hasType PySem.F.excBase_ValueError.hasBase) (I.ok.hd hc) (by rw [he]; show (false || (backTo cpos (starEach rest X.env)).any (·.1)) = false; rw [hpl]; rfl) hni (ld_glob I hg O.bound ⟨rfl, ?_⟩ hdb)
 have h2 := ha cpos pins s σ H _ I h
 rw [he] at h2 ⊢
 exact Calls.evalArgs_plain (thn h2 fun us s2 z => z.elim fun vs z => z.elim fun H1 z => z.elim fun I1 z => z.elim fun r z => z.elim fun z hE => ⟨rfl, by rw [<- r.length]; exact z, I1.bk _ _ hC, hN.keeps I1.bk, T.keeps I1.bk, fun h' e mk => hF pins σ H1 s2 h' e (.ref C) us I1 mk hE⟩)
end
end L2
namespace L2
open PySem PyProof.Rows PyProof.V PySem.Calls PySem.Spec
noncomputable def ExcAt (a C : Addr) (h : Heap) : Prop := ∃ o, h.get? a = some o /\ o.cls = .ref C
noncomputable abbrev Cx.inExc (X : Cx) (e : Value) : Cx := { X with A := X.A.mark (some e), calm := false, xe := fun _ _ => False }
section
variable {X : Cx} {pins : List (Addr × Obj)} {σ : St} {H H' : Hp} {s s' : Shared}
theorem Cx.Ok.inExc (ok : X.Ok) (e : Value) : (X.inExc e).Ok :=
 ⟨ok.mod, ok.kind, ok.glob, ok.blt, ok.above, ok.inj, ok.has, ok.cab, (fun z => nomatch z), ok.frames, ok.stk, ok.exf, ok.bs, ok.bsz, ok.noex, ok.exfs, ok.funs, ok.frf⟩
theorem Inv.inExc (I : Inv X pins σ H s) (e : Value) : Inv (X.inExc e) pins σ H s := ⟨I.ok.inExc e, I.os, I.bare, I.base, I.loc, I.cell, I.free, I.freeC, I.pin, I.hok, I.len⟩
theorem Inv.outExc {e : Value} (ok : X.Ok) (I : Inv (X.inExc e) pins σ H s) : Inv X pins σ H s := ⟨ok, I.os, I.bare, I.base, I.loc, I.cell, I.free, I.freeC, I.pin, I.hok, I.len⟩
theorem goes_ok {M : Model} {A : Around} {E : Value -> Shared -> Prop} {i : Nat} {n : Str} {pos : Pos} {Q : Unit -> Shared -> Prop} (I : Inv X pins σ H s) (hN : X.N.Nodup) (hi : X.N[i]? = some n) (hk : X.env.kindOf n = some .local)
   (h : ∀ s', Inv X pins (σ.set i none) H s' -> Q () s') : wpAny M A (do bindName X.env n .none; unbindBehindTheSuite X.env n pos) Q E s := by
 obtain ⟨m, hn, hl⟩ := id I.loc
 have hcls : (X.env.scope.kind == .class || (X.env.scope.kind == .module && X.env.locals != X.env.globals)) = false := by rw [I.ok.kind]; rfl
 have hiσ : i < σ.length := by rw [I.len]; exact (List.getElem?_eq_some_iff.mp hi).1
 have cne := I.cne
 refine wpAny_nameGoes_keeps hk hn hcls fun h' v hn' hs => ?_
 obtain ⟨oL, _, _, hoL, _⟩ := id hn
 have tracked : HOk X.prog X.w H h' := fun b ob e => by
   refine (I.hok b ob e).stay (fun c w' hc q => (hs.2 c ?_).trans q) (fun _ q => q) fun _ _ q => q
   rintro rfl
   rcases hc with rfl | hc
   · rw [I.free] at e; cases e
   · rw [I.free] at hc; cases hc
 refine h _ ⟨I.ok, I.os, I.bare, ⟨fun b o e n hb hx => ?_, fun b o e n hb hx => ?_, I.base.free, fun b o e hx => ?_, I.base.tups, I.base.frzs, I.base.tbls⟩, ⟨_, hn', fun j y v' e1 e2 e3 => ?_⟩, fun y c e => ?_, I.free, I.freeC, fun p hp => ?_, tracked, by simpa using I.len⟩
 · exact (hs.2 b (Nat.ne_of_lt (Nat.lt_of_lt_of_le (Heap.lt_size e) I.ok.above))).trans (I.base.keep b o e n hb hx)
 · obtain ⟨sl, e1⟩ := I.base.slot b o e n hb hx
   exact ⟨sl, (hs.2 b (Nat.ne_of_lt (Nat.lt_of_lt_of_le (Heap.lt_size e) I.ok.above))).trans e1⟩
 · obtain ⟨o', e1⟩ := I.base.there b o e hx
   exact ⟨o', (hs.2 b (Nat.ne_of_lt (Nat.lt_of_lt_of_le (Heap.lt_size e) I.ok.above))).trans e1⟩
 · by_cases hj : j = i
   · subst hj
     rw [List.getElem?_set_self hiσ] at e2
     cases e2
   · rw [List.getElem?_set_ne (Ne.symm hj)] at e2
     obtain ⟨u', r', q⟩ := hl j y v' e1 e2 e3
     refine ⟨u', r', ?_⟩
     rcases q with ⟨k, e⟩ | ⟨k, c, e, z⟩
     · refine .inl ⟨k, ?_⟩
       have : y ≠ n := fun e => hj (nodup_ix hN e1 (e ▸ hi))
       simp [this, e]
     · exact .inr ⟨k, c, e, z.sameBut hs (cne y c e)⟩
 · obtain ⟨w', z⟩ := I.cell y c e
   exact ⟨w', z.sameBut hs (cne y c e)⟩
 · obtain ⟨e, n, ne, nf, d⟩ := I.pin p hp
   exact ⟨(hs.2 p.1 ne).trans e, n, ne, nf, d⟩
theorem inv_caught {H1 : Hp} {s1 : Shared} {B h5 : Heap} {ea C : Addr} {a0 : Value} (I : Inv X pins σ H1 s1) (os : s'.os = s1.os) (bare : AllBare s'.gens) (fl : Heap.FlyingW B X.stack ea (.ref C) a0 s'.heap) (hok : HOk X.prog X.w H' B) (hea : H' ea = none)
   (un : Un (frs X.stack) [] H1 H' s1.heap s'.heap) (kb : ∀ b o, s1.heap.get? b = some o -> H1 b = none -> b ∉ frs X.stack -> B.get? b = some o) (kt : ∀ b o, s1.heap.get? b = some o -> b ∉ frs X.stack -> ∃ o', B.get? b = some o')
   (fl5 : Heap.FlyingW B X.stack ea (.ref C) a0 h5) (up : s'.heap.UpToSlots h5) {tk : Nat} : Inv X pins σ (upd H' ea (.ext (ExcAt ea C))) { s' with heap := h5, toks := tk } /\ TSame H1 (upd H' ea (.ext (ExcAt ea C))) := by
 have new : ∀ b o, s1.heap.get? b = some o -> b ≠ ea := fun b o e z => by
   subst z
   by_cases hb : b ∈ frs X.stack
   · obtain ⟨_, o2, e2, hnf⟩ := fl.2.2.1.mem hb
     obtain ⟨oe, vs, e3, _, hd, _⟩ := fl.first
     rw [e2] at e3
     cases e3
     exact hnf vs hd
   · obtain ⟨o', e'⟩ := kt b o e hb
     rw [fl.2.1] at e'
     cases e'
 have u5 := un_leave fl.2.2.1 I.stkFree un fl5.1 up kb kt
 have keepH : ∀ b o, H' b = some o -> upd H' ea (.ext (ExcAt ea C)) b = some o := fun b o e => by rw [upd_ne (ne_of_none e hea)]; exact e
 have u6 : Un (frs X.stack) [] H1 (upd H' ea (.ext (ExcAt ea C))) s1.heap h5 :=
   ⟨u5.keep, u5.slot, fun b o e n hx => by rw [upd_ne (new b o e)]; exact u5.free b o e n hx, u5.there, fun b xs e => keepH _ _ (u5.tups b xs e), fun b o u e => keepH _ _ (u5.frzs b o u e), fun b ps e => let ⟨m, z⟩ := u5.tbls b ps e; ⟨m, keepH _ _ z⟩⟩
 have hok5 : HOk X.prog X.w (upd H' ea (.ext (ExcAt ea C))) h5 := fun b o e => by
   by_cases hb : b = ea
   · subst hb
     rw [upd_same] at e
     cases e
     obtain ⟨oe, vs, e3, hc, _⟩ := fl5.first
     exact ⟨⟨oe, e3, hc⟩, ⟨oe, e3⟩, fun h1 h2 ⟨o, e, c⟩ k => ⟨o, k o e, c⟩⟩
   · rw [upd_ne hb] at e
     exact (hok b o e).stay (fun c u _ q => fl5.1 c u q) (fun c q => keepH _ _ q) fun c xs q => keepH _ _ q
 refine ⟨I.call' (s' := { s' with heap := h5, toks := tk }) (ch := []) os u6 hok5 bare (fun b z => absurd z (by simp)), fun b xs r => ?_⟩
 rcases r with r | ⟨w, r⟩
 · exact .inl (u6.tups _ _ r)
 · exact .inr ⟨w, u6.frzs _ _ _ r⟩
noncomputable def goesEnds (i : Nat) (D : Ends) : Ends := { nx := fun σ H => D.nx (σ.set i none) H, rt := D.rt, bk := fun σ H => D.bk (σ.set i none) H, ct := fun σ H => D.ct (σ.set i none) H }
theorem name_at {M : Model} {A : Around} {E : Value -> Shared -> Prop} {x : Str} {u : Value} {pos : Pos} {Q : Value -> Shared -> Prop} (I : Inv X pins σ H s) (hg : Gl X x) (hm : X.mg x = some u) (h : Q u s)
   (hd : (x == ("__debug__" : Str)) = false := by decide) : wpAny M A (eval (.Name x pos) X.env) Q E s :=
 Calls.Name_function_global I.ok.kind hg (Calls.loadGlobal_global (by rw [I.ok.glob]; exact I.mod.glob.keeps I.bk) hm h) hd
theorem caught_as {E0 : XK} {ev : Value} {H1 : Hp} {s1 : Shared} {D : Ends} {x n : Str} {np hpos : Pos} {b₀ : Stmt} {suite : List Stmt} {rest : List ExceptHandler} {C : Addr} {i : Nat} (hst : X.stack = X.env :: X.outer) (hfr : X.env.frame = some X.env.locals)
   (I : Inv X pins σ H1 s1) (fl : Fly X.prog X.w X.stack H1 s1 E0 ev s') (hg : Gl X x) (O : PyProof.Rows.OwnCls x C bmV "ValueError.__new__" X.mg X.base) (only : ∀ cls d H', E0 cls d H' -> cls = .ref C)
   (hN : X.N.Nodup) (hi : X.N[i]? = some n) (hk : X.env.kindOf n = some .local)
   (k : ∀ (ea : Addr) (H' : Hp) (s2 : Shared), E0 (.ref C) none H' -> H' ea = none -> TSame H1 (upd H' ea (.ext (ExcAt ea C))) -> Inv (X.inExc (.ref ea)) pins (σ.set i (some (.ref ea))) (upd H' ea (.ext (ExcAt ea C))) s2 ->
     wpAny (model X.prog X.w) (X.A.mark (some (.ref ea))) (execs (b₀ :: suite) X.env) (SP (X.inExc (.ref ea)) pins (goesEnds i D)) (fun _ _ => False) s2)
   (hdb : (x == ("__debug__" : Str)) = false := by decide) :
   wpAny (model X.prog X.w) X.A (noteFrame ev X.env) (fun _ s₂ => wpAny (model X.prog X.w) X.A (setFlight ev none) (fun _ s₃ =>
     wpAny (model X.prog X.w) X.A (handleBy ev X.env (.ExceptHandler (some (.Name x np)) (some n) (b₀ :: suite) hpos :: rest)) (SP X pins D) X.xe s₃) X.xe s₂) X.xe s' := by
 obtain ⟨ea, cls, a0, B, H2, rfl, os, bare, fl, hok, hea, un, kb, kt, hE⟩ := fl
 obtain rfl := only _ _ _ hE
 refine wpAny_looks_onW (by rw [I.ok.frames, hst]) hfr (hst ▸ fl) fun h₄ held₄ up₄ => ?_
 refine wpAny_landsW held₄ fun h₅ fl₅ up₅ => ?_
 rw [<- hst] at fl₅
 have I5 := (inv_caught I os bare fl hok hea un kb kt fl₅ (up₄.trans up₅) (tk := s'.toks)).1
 obtain ⟨ob, hob, hobc⟩ := fl₅.there
 refine wpAny_handleBy_cons (codeAny_handlers_test (name_at I5 hg O.bound ?_ hdb)) (by intro q; cases q)
 obtain ⟨bm, N, nm, qn, bs, hdct, sn, sub, ab, col, dd, k0, k1, k2, k3, k5, mN, hC, hN', hni, TL⟩ := (O.keeps I5.bk).obj
 refine wpAny_excMatches_sub_self hC hob hobc (TL.hasType (by decide +kernel)) (codeAny_handlers_suite_as ?_)
 refine PyProof.Rows.lands_againW fl₅ fun h₆ fl₆ up₆ => ?_
 obtain ⟨I6, ts⟩ := inv_caught I os bare fl hok hea un kb kt fl₆ ((up₄.trans up₅).trans up₆) (tk := s'.toks)
 refine store_ok (X := X.inExc (.ref ea)) (I6.inExc (.ref ea)) hN hi (.inl hk) (v := .ref ea) (by rfl) (fun s7 I7 => ?_) (.inr hk)
 refine wpAny_mono (k ea H2 s7 hE hea ts I7) (fun f s8 h8 => ?_) fun _ _ z => z.elim
 have fin : ∀ {σ' : St} {H3 : Hp} {Q : Unit -> Shared -> Prop}, Inv (X.inExc (.ref ea)) pins σ' H3 s8 -> (∀ s9, Inv X pins (σ'.set i none) H3 s9 -> Q () s9) ->
     wpAny (model X.prog X.w) X.A (do bindName X.env n .none; unbindBehindTheSuite X.env n hpos) Q X.xe s8 := fun I8 hq => goes_ok (I8.outExc I.ok) hN hi hk hq
 cases f with
 | next => obtain ⟨σ', H3, I8, q⟩ := h8; exact fin I8 fun s9 I9 => ⟨_, _, I9, q⟩
 | brk => obtain ⟨σ', H3, I8, q⟩ := h8; exact fin I8 fun s9 I9 => ⟨_, _, I9, q⟩
 | cont => obtain ⟨σ', H3, I8, q⟩ := h8; exact fin I8 fun s9 I9 => ⟨_, _, I9, q⟩
 | ret u => obtain ⟨v, σ', H3, I8, r, q⟩ := h8; exact fin I8 fun s9 I9 => ⟨v, _, _, I9, r, q⟩
end
end L2
namespace L2
open PySem PyProof.Rows PyProof.V PySem.Calls PySem.Spec
section
variable {X : Cx}
noncomputable def tTry (sp : Sp) (dvs : List V) (iy i : Nat) (C : Addr) (ta : TA) (ts : TS) : TS := fun D σ H => ta σ H fun vs H1 => sp (vs ++ dvs) H1 (fun v H2 => D.nx (σ.set iy (some v)) H2)
 fun cls _ H' => cls = .ref C /\ ∀ ea, H' ea = none -> TSame H1 (upd H' ea (.ext (ExcAt ea C))) -> ts (goesEnds i D) (σ.set i (some (.ref ea))) (upd H' ea (.ext (ExcAt ea C)))
theorem ps_try {k : Nat} {f C : Addr} {fd : FuncData} {ps : List Str} {sp : Sp} {dvs : List V} {ds : List Value} {fx x n y : Str} {p yp np hpos cpos apos pos : Pos} {e₀ : Expr} {es : List Expr} {b₀ : Stmt} {suite : List Stmt} {ta : TA} {ts : TS} {i iy : Nat}
   (hst : X.stack = X.env :: X.outer) (hfr : X.env.frame = some X.env.locals) (F : FnOk X.prog X.w X.K X.mg X.base (Fly X.prog X.w) k f fd ps sp) (hr : Room k X.A) (hgf : Gl X fx) (hm : X.mg fx = some (.ref f)) (hkf : PySem.W.keepIn X.K (.ref f) = true) (hb : Binds X.K fd ps ds) (hd : Vals dvs ds)
   (ha : PA X.nox (e₀ :: es) ta) (hN : X.N.Nodup) (hiy : X.N[iy]? = some y) (hy : X.env.kindOf y = some .local) (hg : Gl X x) (O : PyProof.Rows.OwnCls x C bmV "ValueError.__new__" X.mg X.base) (hi : X.N[i]? = some n) (hn : X.env.kindOf n = some .local)
   (hsu : ∀ ea, PSs (X.inExc (.ref ea)) (b₀ :: suite) ts)
   (hs : swapsWith (.Call (.Name fx p) (e₀ :: es) [] cpos) (some (.Name y yp)) apos.line X.env = pure false := by rfl) (hdf : (fx == ("__debug__" : Str)) = false := by decide) (hdx : (x == ("__debug__" : Str)) = false := by decide)
   (he : starEach (e₀ :: es) X.env = (false, eval e₀ X.env) :: starEach es X.env := by rfl) (hpl : (backTo cpos (starEach es X.env)).any (·.1) = false := by rfl) :
   PS X (.Try [.Assign [.Name y yp] (.Call (.Name fx p) (e₀ :: es) [] cpos) apos] [.ExceptHandler (some (.Name x np)) (some n) (b₀ :: suite) hpos] [] [] pos) (tTry sp dvs iy i C ta ts) := by
 intro pins s σ H D I h
 refine wpAny_Try_except (wpAny_execs_cons (wpAny_Assign_Name (wpAny_Call_Name_kw (ld_glob I hgf hm ?_ hdf)) hs))
 refine PySem.W.callWith_K (h₀ := X.base) I.ok.mod.kin hkf (wpAny_mono (ha cpos pins s σ H _ (I.wish _) h) (fun us s1 z => z.elim fun vs z => z.elim fun H1 z => z.elim fun I1 z => z.elim fun r q => ⟨I1.kIn, ?_⟩) fun _ _ z => z.elim) he hpl
 have I1 := I1.unwish
 have r2 : Vals (vs ++ dvs) (us ++ ds) := r.append hd
 have hl : (us ++ ds).length = ps.length := by rw [<- r2.length]; exact F.len _ _ _ _ q
 refine wpAny_call (codeAny_mono (F.run X.A X.stack s1 H1 ⟨us, []⟩ (us ++ ds) (vs ++ dvs) _ _ hr I1.env0 (hb s1 us I1.kIn hl) r2 q) fun r s2 hq => ?_)
 cases r with
 | error ev =>
   have hq2 : Fly X.prog X.w X.stack H1 s1 (fun cls _ H' => cls = .ref C /\ ∀ ea, H' ea = none -> TSame H1 (upd H' ea (.ext (ExcAt ea C))) -> ts (goesEnds i D) (σ.set i (some (.ref ea))) (upd H' ea (.ext (ExcAt ea C)))) ev s2 := hq
   exact caught_as hst hfr I1 hq2 hg O (fun cls d H' z => z.1) hN hi hn (fun ea H' s3 hE hea tsm I3 => hsu ea pins s3 _ _ _ I3 (hE.2 ea hea tsm)) hdx
 | ok fl =>
   cases fl with
   | ret u =>
     obtain ⟨v, H2, I2, r, q2⟩ := I1.after hq
     exact store_ok I2 hN hiy (.inl hy) r (fun s3 I3 => wpAny_execs_nil (wpAny_execs_nil ⟨_, _, I3, q2⟩)) (.inr hy)
   | next => exact False.elim hq
   | brk => exact False.elim hq
   | cont => exact False.elim hq
end
end L2
namespace L2
open PySem PyProof.Rows PyProof.V PySem.Calls PySem.Spec PySem.W PySem.Builtin PySem.Builtin.ObjectAttr PySem.Builtin.Getset_descriptor
section
variable {prog : Program} {w : World} {A : Around} {E : Value -> Shared -> Prop} {K : PySem.W.Frag} {hh : Heap} {g : Array GenState} {d : Drawn} {t : Nat} {os : OsState} {a C : Addr} {o : Obj}
theorem exc_ty {M : Model} (hx : hh.get? a = some o) (hc : o.cls = .ref C) : Looks M hh (typeOf (.ref a)) (.ref C) := hc ▸ (Looks.ld hx).andThen .now
theorem exc_get {R : Result -> Shared -> Prop} {tp : Value} (X : K.In hh) (hx : hh.get? a = some o) (hc : o.cls = .ref C) (hm : mroIn K C (.type "object") = some true) (h : R (.ok (.ret (.ref C))) ⟨hh, g, d, t, os⟩) :
   codeAny (model prog w) A (.call (.builtin "getset_descriptor.__get__") ⟨[.builtin "object.__class__", .ref a, tp], []⟩) R ⟨hh, g, d, t, os⟩ := by
 have L0 := exc_ty (M := model prog w) hx hc
 have L1 := looks_mroIn (M := model prog w) X hm
 refine codeAny_call_builtin KF.slot_gs.plain KF.entry_gs (KF.slot_gs.check _ _ _ _ _ _ _ _ KF.type_class (KF.args_gs _ _ _) ?_)
 unfold Builtin.«getset_descriptor.__get__» descrGet
 rw [dga_obj]
 refine wpAny_bind (wpAny_pure ?_)
 unfold descrGetter descrCheckInstance descrNameAndClass isInstance
 simp only [KF.owner_class]
 repeat lk
 refine ⟨Code.quiet_builtin _ (by decide +kernel), codeAny_builtin KF.entry_class ?_⟩
 unfold Builtin.«object.__class__» shownTypeOf
 repeat lk
 exact h
theorem exc_entry {tk : Tok} {Q : Fin -> Shared -> Prop} (X : K.In hh) (hx : hh.get? a = some o) (hc : o.cls = .ref C) (hcl : findIn K (.ref C) "__class__" = some (some (.builtin "object.__class__"))) (hm : mroIn K C (.type "object") = some true)
   (hq : Q (.done (.ret (.ref C))) ⟨hh, g, d, t, os⟩) : wpAny (model prog w) A (Builtin.«object.__getattribute__» ⟨[.ref a, .str "__class__" tk], []⟩) Q E ⟨hh, g, d, t, os⟩ := by
 have LT := exc_ty (M := model prog w) hx hc
 have L3 := looks_findIn (M := model prog w) X hcl
 have hT5 : (⟨hh, g, d, t, os⟩ : Shared).TypeIs (.builtin "object.__class__") "getset_descriptor" := F.typeOf_object_class
 have f5 := F.typeOf_object_class
 have f6 := F.slot_gs_get.lookup
 have f7 := F.slot_gs_set.lookup
 repeat (any_goals (first | assumption | with_reducible refine Looks.at LT ?_ | with_reducible refine Looks.at L3 ?_ | (with_reducible refine wpAny_loadPart_at hx ?_; rw [hc]) | wp_step))
 refine exc_get X hx hc hm ?_
 repeat (any_goals (first | assumption | wp_step))
theorem exc_check {M : Model} {nameV : Value} {Q : Unit -> Shared -> Prop} (X : K.In hh) (hx : hh.get? a = some o) (hc : o.cls = .ref C) (hb : mroIn K C (.type "BaseException") = some true) (hq : Q () ⟨hh, g, d, t, os⟩) :
   wpAny M A (checkBuiltinCall "BaseException.__getattribute__" ⟨[.ref a, nameV], []⟩) Q E ⟨hh, g, d, t, os⟩ := by
 have LT := exc_ty (M := M) hx hc
 have LB := looks_mroIn (M := M) X hb
 have hk : builtinKind "BaseException.__getattribute__" = some .slot := by decide +kernel
 have hsplit : splitId "BaseException.__getattribute__" = some ("BaseException", "__getattribute__") := by decide +kernel
 have ha := F.args_bexc_ga (.ref a) nameV
 simp only [checkBuiltinCall, hk, hsplit]
 refine wpAny_bind ?_
 · unfold isInstance
   repeat (first | with_reducible refine Looks.at LT ?_ | with_reducible refine Looks.at LB ?_ | (with_reducible refine wpAny_loadPart_at hx ?_; rw [hc]) | wp_step)
   exact hq
theorem exc_call {tk : Tok} {R : Result -> Shared -> Prop} (X : K.In hh) (hx : hh.get? a = some o) (hc : o.cls = .ref C) (hcl : findIn K (.ref C) "__class__" = some (some (.builtin "object.__class__"))) (hm : mroIn K C (.type "object") = some true) (hb : mroIn K C (.type "BaseException") = some true)
   (hq : R (.ok (.ret (.ref C))) ⟨hh, g, d, t, os⟩) : codeAny (model prog w) A (.call (.builtin "BaseException.__getattribute__") ⟨[.ref a, .str "__class__" tk], []⟩) R ⟨hh, g, d, t, os⟩ :=
 codeAny_call_builtin F.excAttr_ValueError.ga.plain F.entry_bexc_ga (exc_check X hx hc hb (exc_entry X hx hc hcl hm hq))
theorem exc_by {tk : Tok} {fill expr : Bool} {Q : Value -> Shared -> Prop} (X : K.In hh) (hx : hh.get? a = some o) (hc : o.cls = .ref C) (hga : findIn K (.ref C) "__getattribute__" = some (some (.builtin "BaseException.__getattribute__"))) (hgn : findIn K (.ref C) "__getattr__" = some none)
   (hcl : findIn K (.ref C) "__class__" = some (some (.builtin "object.__class__"))) (hm : mroIn K C (.type "object") = some true) (hb : mroIn K C (.type "BaseException") = some true)
   (hq : Q (.ref C) ⟨hh, g, d, t, os⟩) : wpAny (model prog w) A (getAttrBy (.ref a) (.str "__class__" tk) fill expr) Q E ⟨hh, g, d, t, os⟩ := by
 have LT := exc_ty (M := model prog w) hx hc
 have L1 := looks_findIn (M := model prog w) X hga
 have L2 := looks_findIn (M := model prog w) X hgn
 have f3 := F.excAttr_ValueError.ga.bind (.ref a)
 have hx0 : (expr && onTheHeap (Value.builtin "BaseException.__getattribute__")) = false := by cases expr <;> rfl
 have hx2 : (Value.builtin "BaseException.__getattribute__" == Value.builtin "object.__getattribute__") = false := by decide +kernel
 have hx1 : (onTheHeap (Value.ref C) && Value.builtin "BaseException.__getattribute__" == Value.builtin "object.__getattribute__") = false := by rw [hx2]; rfl
 repeat (any_goals (first | assumption | with_reducible refine Looks.at LT ?_ | with_reducible refine Looks.at L1 ?_ | with_reducible refine Looks.at L2 ?_ | (with_reducible refine wpAny_loadPart_at hx ?_; rw [hc]) | wp_step))
 refine exc_call X hx hc hcl hm hb ?_
 repeat (any_goals (first | assumption | wp_step))
theorem exc_attr {Q : Option Value -> Shared -> Prop} (X : K.In hh) (hx : hh.get? a = some o) (hc : o.cls = .ref C) (hga : findIn K (.ref C) "__getattribute__" = some (some (.builtin "BaseException.__getattribute__"))) (hgn : findIn K (.ref C) "__getattr__" = some none)
   (hcl : findIn K (.ref C) "__class__" = some (some (.builtin "object.__class__"))) (hm : mroIn K C (.type "object") = some true) (hb : mroIn K C (.type "BaseException") = some true)
   (hq : Q (some (.ref C)) ⟨hh, g, d, t + 1, os⟩) : wpAny (model prog w) A (getAttr? (.ref a) "__class__") Q E ⟨hh, g, d, t, os⟩ := by
 unfold getAttr? getAttrBy?
 repeat (any_goals (first | assumption | with_reducible apply exc_by X hx hc hga hgn hcl hm hb | wp_step))
end
end L2
namespace L2
open PySem PyProof.Rows PyProof.V PySem.Calls PySem.Spec PySem.W
structure ExcK (K : PySem.W.Frag) (C : Addr) : Prop where
 cls : (clsIn K C).isSome = true
 ga : findIn K (.ref C) "__getattribute__" = some (some (.builtin "BaseException.__getattribute__"))
 gn : findIn K (.ref C) "__getattr__" = some none
 cl : findIn K (.ref C) "__class__" = some (some (.builtin "object.__class__"))
 mo : mroIn K C (.type "object") = some true
 mb : mroIn K C (.type "BaseException") = some true
theorem kitx_exc {K : PySem.W.Frag} {a C : Addr} (k : ExcK K C) : KitX K (.ref a) (.ref C) (ExcAt a C) where
 ty := fun M h _ ⟨o, e, c⟩ => exc_ty e c
 it := fun _ _ X _ => by
   obtain ⟨cdD, hcD⟩ := Option.isSome_iff_exists.mp k.cls
   unfold clsIn at hcD
   split at hcD
   · rename_i c' d' cd' sl' ho
     intro A' Q' E' s' k q
     unfold isType loadHead
     exact wpAny_bind (wpAny_loadPart (k _ _ (X _ _ ho)) (wpAny_pure q))
   · cases hcD
 ne := fun h tp dd its n sl X htp => by
   obtain ⟨cdD, hcD⟩ := Option.isSome_iff_exists.mp k.cls
   refine Bool.eq_false_iff.mpr fun q => ?_
   have e : C = tp := Value.ref.inj (beq_iff_eq.mp q)
   subst e
   unfold clsIn at hcD
   split at hcD
   · rename_i c' d' cd' sl' ho
     have z := (X _ _ ho).symm.trans htp
     cases z
   · cases hcD
 ca := fun {prog w A E Q s} X ⟨o, e, c⟩ h => by
   obtain ⟨hh, g, d, t, os⟩ := s
   exact exc_attr X e c k.ga k.gn k.cl k.mo k.mb h
section
variable {X : Cx}
noncomputable def rIsE (K : PySem.W.Frag) : List V -> Hp -> VK -> Prop := fun xs H Q => ∃ a C c cu b, xs = [.ref a, c] /\ H a = some (.ext (ExcAt a C)) /\ ExcK K C /\ RelV c cu /\ (∀ u, RelV c u -> u = cu) /\ kitOne K (.ref C) cu = some b /\ Q (.bl b) H
theorem call_isE : CallR X (.builtin "isinstance") (rIsE X.K) := by
 intro pins s σ H xs us Q I r h
 obtain ⟨a, C, c, cu, b, rfl, ea, kc, rc, only, e, q⟩ := h
 obtain ⟨u, w', rfl, ru, rw'⟩ := vals2 r
 cases only _ rw'
 cases (show u = Value.ref a from ru)
 exact kia_one (kitx_exc kc) I.kIn (I.hok a _ ea).1 e (fun z => nomatch z) fun tk => ⟨.bl b, H, I.tok tk, rfl, q⟩
end
end L2
namespace WL
open PySem L2
inductive W where
 | v (x : V) | tup (l : List W)
inductive MO where
 | lst (l : List W) | dK (kvs : List (Key × W)) | ins (C dx : Addr) (fs : List (Str × W)) | exc (C : Addr) | fz (o : Obj) (ks : List (Key × V)) (kvs : List (Key × W))
noncomputable abbrev Mp := Addr -> Option MO
noncomputable abbrev WSt := List (Option W)
noncomputable abbrev WK := W -> Mp -> Prop
noncomputable abbrev WE := WSt -> Mp -> WK -> Prop
noncomputable abbrev WT := WSt -> Mp -> (Bool -> Mp -> Prop) -> Prop
noncomputable abbrev WA := WSt -> Mp -> (List W -> Mp -> Prop) -> Prop
noncomputable abbrev WG := W -> WSt -> Mp -> (WSt -> Mp -> Prop) -> Prop
noncomputable abbrev WGs := List W -> WSt -> Mp -> (WSt -> Mp -> Prop) -> Prop
noncomputable abbrev WR2 := W -> W -> Mp -> WK -> Prop
noncomputable abbrev WCl := List W -> Mp -> WK -> Prop
noncomputable abbrev WI := WSt -> Mp -> (List W -> (Mp -> Prop) -> Mp -> Prop) -> Prop
structure WEnds where
 nx : WSt -> Mp -> Prop
 rt : WK
 bk : WSt -> Mp -> Prop := fun _ _ => False
 ct : WSt -> Mp -> Prop := fun _ _ => False
noncomputable abbrev WS := WEnds -> WSt -> Mp -> Prop
@[reducible] def wi (i : Int) : W := .v (.int i)
@[reducible] def wb (b : Bool) : W := .v (.bl b)
@[reducible] def wr (a : Addr) : W := .v (.ref a)
@[reducible] def ws (x : Str) : W := .v (.str x)
@[reducible] def wn : W := .v .non
noncomputable def um (M : Mp) (a : Addr) (o : MO) : Mp := fun b => if b = a then some o else M b
theorem um_same {M : Mp} {a : Addr} {o : MO} : um M a o a = some o := by unfold um; rw [if_pos rfl]
theorem um_ne {M : Mp} {a b : Addr} {o : MO} (h : b ≠ a) : um M a o b = M b := by unfold um; rw [if_neg h]
theorem um_um {M : Mp} {a : Addr} {o u : MO} : um (um M a o) a u = um M a u := by
 funext b; unfold um; split <;> rfl
theorem m_ne {M : Mp} {a b : Addr} {o : MO} (h : M a = some o) (h' : M b = none) : a ≠ b := by
 intro e; subst e; rw [h] at h'; cases h'
noncomputable def Sm (M M' : Mp) : Prop := ∀ b o, M b = some o -> M' b = some o
theorem Sm.refl (M : Mp) : Sm M M := fun _ _ h => h
theorem Sm.trans {M M1 M2 : Mp} (a : Sm M M1) (b : Sm M1 M2) : Sm M M2 := fun c o h => b c o (a c o h)
theorem sm_um {M : Mp} {p : Addr} {o : MO} (h : M p = none) : Sm M (um M p o) := fun b u e => by
 rw [um_ne (m_ne e h)]; exact e
theorem Sm.um {M M' : Mp} {p : Addr} {o : MO} (a : Sm M M') (h : M p = none) : Sm M (um M' p o) := fun b u e => by
 rw [um_ne (m_ne e h)]; exact a b u e
mutual
noncomputable def WR (K : PySem.W.Frag) (H : Hp) : W -> V -> Prop
 | .v x, v => v = x
 | .tup l, v => ∃ a vs, v = .ref a /\ SqT K H a vs /\ WRs K H l vs
noncomputable def WRs (K : PySem.W.Frag) (H : Hp) : List W -> List V -> Prop
 | [], vs => vs = []
 | x :: r, vs => ∃ v t, vs = v :: t /\ WR K H x v /\ WRs K H r t
end
mutual
theorem WR.ts {K : PySem.W.Frag} {H H' : Hp} (a : TSame H H') : ∀ (x : W) (v : V), WR K H x v -> WR K H' x v
 | .v x, v, h => by simp only [WR] at h ⊢; exact h
 | .tup l, v, h => by
   simp only [WR] at h ⊢
   obtain ⟨p, vs, e, hs, hr⟩ := h
   exact ⟨p, vs, e, Un.sqT a hs, WRs.ts a l vs hr⟩
theorem WRs.ts {K : PySem.W.Frag} {H H' : Hp} (a : TSame H H') : ∀ (l : List W) (vs : List V), WRs K H l vs -> WRs K H' l vs
 | [], vs, h => by simp only [WRs] at h ⊢; exact h
 | x :: r, vs, h => by
   simp only [WRs] at h ⊢
   obtain ⟨v, t, e, h1, h2⟩ := h
   exact ⟨v, t, e, WR.ts a x v h1, WRs.ts a r t h2⟩
end
theorem WRs.length {K : PySem.W.Frag} {H : Hp} : ∀ {l : List W} {vs : List V}, WRs K H l vs -> vs.length = l.length
 | [], _, h => by simp only [WRs] at h; subst h; rfl
 | d :: r, vs, h => by
   simp only [WRs] at h
   obtain ⟨v, t, rfl, _, h⟩ := h
   simp [WRs.length h]
theorem WRs.at {K : PySem.W.Frag} {H : Hp} : ∀ {l : List W} {vs : List V} {j : Nat} {d : W}, WRs K H l vs -> l[j]? = some d -> ∃ v, vs[j]? = some v /\ WR K H d v
 | [], _, _, _, _, e => by simp at e
 | d :: r, vs, j, d', h, e => by
   simp only [WRs] at h
   obtain ⟨v, t, rfl, h1, h⟩ := h
   cases j with
   | zero => simp at e; subst e; exact ⟨v, rfl, h1⟩
   | succ j => simpa using WRs.at (j := j) h (by simpa using e)
theorem WRs.mk {K : PySem.W.Frag} {H : Hp} : ∀ {l : List W} {vs : List V}, vs.length = l.length -> (∀ (j : Nat) d v, l[j]? = some d -> vs[j]? = some v -> WR K H d v) -> WRs K H l vs
 | [], vs, h, _ => by simp only [WRs]; exact List.length_eq_zero_iff.mp h
 | d :: r, [], h, _ => by simp at h
 | d :: r, v :: vs, h, k => by
   simp only [WRs]
   exact ⟨v, vs, rfl, k 0 d v rfl rfl, WRs.mk (by simpa using h) fun j x u e1 e2 => k (j + 1) x u (by simpa using e1) (by simpa using e2)⟩
theorem WRs.back {K : PySem.W.Frag} {H : Hp} {l : List W} {vs : List V} {j : Nat} {v : V} (h : WRs K H l vs) (e : vs[j]? = some v) : ∃ d, l[j]? = some d /\ WR K H d v := by
 have hl := h.length
 have hj : j < l.length := by have := (List.getElem?_eq_some_iff.mp e).1; lia
 obtain ⟨u, hu, r⟩ := h.at (j := j) (d := l[j]) (List.getElem?_eq_getElem hj)
 rw [e] at hu; cases hu
 exact ⟨_, List.getElem?_eq_getElem hj, r⟩
theorem WRs.snoc {K : PySem.W.Frag} {H : Hp} {l : List W} {vs : List V} {d : W} {v : V} (h : WRs K H l vs) (hr : WR K H d v) : WRs K H (l ++ [d]) (vs ++ [v]) := by
 have hl := h.length
 refine WRs.mk (by simp [hl]) fun j x u e1 e2 => ?_
 by_cases hj : j < l.length
 · rw [List.getElem?_append_left hj] at e1
   rw [List.getElem?_append_left (by lia)] at e2
   obtain ⟨w, hw, r⟩ := h.at e1
   rw [e2] at hw; cases hw; exact r
 · rw [List.getElem?_append_right (by lia)] at e1
   rw [List.getElem?_append_right (by lia), hl] at e2
   cases hk : j - l.length with
   | zero => rw [hk] at e1 e2; simp at e1 e2; subst e1 e2; exact hr
   | succ k => rw [hk] at e1; simp at e1
theorem WRs.append {K : PySem.W.Frag} {H : Hp} {l m : List W} {vs us : List V} (h : WRs K H l vs) (h' : WRs K H m us) : WRs K H (l ++ m) (vs ++ us) := by
 have hl := h.length
 have hl' := h'.length
 refine WRs.mk (by simp [hl, hl']) fun j x u e1 e2 => ?_
 by_cases hj : j < l.length
 · rw [List.getElem?_append_left hj] at e1
   rw [List.getElem?_append_left (by lia)] at e2
   obtain ⟨w, hw, r⟩ := h.at e1
   rw [e2] at hw; cases hw; exact r
 · rw [List.getElem?_append_right (by lia)] at e1
   rw [List.getElem?_append_right (by lia), hl] at e2
   obtain ⟨w, hw, r⟩ := h'.at e1
   rw [e2] at hw; cases hw; exact r
theorem WRs.drop {K : PySem.W.Frag} {H : Hp} {l : List W} {vs : List V} (n : Nat) (h : WRs K H l vs) : WRs K H (l.drop n) (vs.drop n) := by
 refine WRs.mk (by simp [h.length]) fun j x u e1 e2 => ?_
 rw [List.getElem?_drop] at e1 e2
 obtain ⟨w, hw, r⟩ := h.at e1
 rw [e2] at hw; cases hw; exact r
theorem WRs.take {K : PySem.W.Frag} {H : Hp} {l : List W} {vs : List V} (n : Nat) (h : WRs K H l vs) : WRs K H (l.take n) (vs.take n) := by
 refine WRs.mk (by simp [h.length]) fun j x u e1 e2 => ?_
 rw [List.getElem?_take] at e1 e2
 split at e1
 · rename_i hj
   rw [if_pos hj] at e2
   obtain ⟨w, hw, r⟩ := h.at e1
   rw [e2] at hw; cases hw; exact r
 · cases e1
theorem WRs.set {K : PySem.W.Frag} {H : Hp} {l : List W} {vs : List V} (n : Nat) {d : W} {v : V} (h : WRs K H l vs) (hr : WR K H d v) : WRs K H (l.set n d) (vs.set n v) := by
 have hl := h.length
 refine WRs.mk (by simp [h.length]) fun j x u e1 e2 => ?_
 rw [List.getElem?_set] at e1 e2
 split at e1
 · rename_i hj
   rw [if_pos hj] at e2
   split at e1
   · split at e2
     · cases e1; cases e2; exact hr
     · cases e2
   · cases e1
 · rename_i hj
   rw [if_neg hj] at e2
   obtain ⟨w, hw, r⟩ := h.at e1
   rw [e2] at hw; cases hw; exact r
theorem WRs.nil {K : PySem.W.Frag} {H : Hp} : WRs K H [] [] := by simp only [WRs]
theorem WRs.cons {K : PySem.W.Frag} {H : Hp} {x : W} {v : V} {l : List W} {vs : List V} (h : WR K H x v) (r : WRs K H l vs) : WRs K H (x :: l) (v :: vs) := by
 simp only [WRs]; exact ⟨v, vs, rfl, h, r⟩
theorem WR.v {K : PySem.W.Frag} {H : Hp} {x : V} : WR K H (.v x) x := by simp only [WR]
theorem WR.eq {K : PySem.W.Frag} {H : Hp} {x v : V} (h : WR K H (.v x) v) : v = x := by simpa only [WR] using h
theorem WR.tup {K : PySem.W.Frag} {H : Hp} {l : List W} {v : V} (h : WR K H (.tup l) v) : ∃ a vs, v = .ref a /\ SqT K H a vs /\ WRs K H l vs := by simpa only [WR] using h
theorem WR.mkT {K : PySem.W.Frag} {H : Hp} {l : List W} {a : Addr} {vs : List V} (h : SqT K H a vs) (r : WRs K H l vs) : WR K H (.tup l) (.ref a) := by simp only [WR]; exact ⟨a, vs, rfl, h, r⟩
noncomputable def KR (K : PySem.W.Frag) (H : Hp) {κ : Type} : List (κ × W) -> List (κ × V) -> Prop := Paired fun p q => p.1 = q.1 /\ WR K H p.2 q.2
theorem KR.ts {K : PySem.W.Frag} {H H' : Hp} {κ : Type} (a : TSame H H') : ∀ {l : List (κ × W)} {vs : List (κ × V)}, KR K H l vs -> KR K H' l vs
 | _, _, .nil => .nil
 | _, _, .cons ⟨e, r⟩ t => .cons ⟨e, r.ts a⟩ (KR.ts a t)
noncomputable def MR (K : PySem.W.Frag) (H : Hp) (a : Addr) : MO -> Prop
 | .lst l => ∃ vs, H a = some (.lst vs) /\ WRs K H l vs
 | .dK kvs => ∃ ks, H a = some (.dK ks) /\ KR K H kvs ks
 | .ins C dx fs => ∃ ks, H a = some (.ins C dx ks) /\ KR K H fs ks
 | .exc C => H a = some (.ext (ExcAt a C))
 | .fz o ks kvs => H a = some (.frz o (.dK ks)) /\ KR K H kvs ks
theorem MR.some {K : PySem.W.Frag} {H : Hp} {a : Addr} {o : MO} (h : MR K H a o) : ∃ u, H a = some u := by
 cases o with
 | lst l => obtain ⟨_, e, _⟩ := h; exact ⟨_, e⟩
 | dK l => obtain ⟨_, e, _⟩ := h; exact ⟨_, e⟩
 | ins C d l => obtain ⟨_, e, _⟩ := h; exact ⟨_, e⟩
 | exc C => exact ⟨_, h⟩
 | fz o l l2 => exact ⟨_, h.1⟩
theorem MR.mv {K : PySem.W.Frag} {H H' : Hp} {a : Addr} {o : MO} (t : TSame H H') (e : H' a = H a) (h : MR K H a o) : MR K H' a o := by
 cases o with
 | lst l => obtain ⟨vs, e1, r⟩ := h; exact ⟨vs, e.trans e1, r.ts t⟩
 | dK l => obtain ⟨vs, e1, r⟩ := h; exact ⟨vs, e.trans e1, r.ts t⟩
 | ins C d l => obtain ⟨vs, e1, r⟩ := h; exact ⟨vs, e.trans e1, r.ts t⟩
 | exc C => exact e.trans h
 | fz o l l2 => exact ⟨e.trans h.1, h.2.ts t⟩
noncomputable def MOk (K : PySem.W.Frag) (M : Mp) (H : Hp) : Prop := ∀ a o, M a = some o -> MR K H a o
theorem MOk.fresh {K : PySem.W.Frag} {M : Mp} {H : Hp} (h : MOk K M H) {p : Addr} (hp : H p = none) : M p = none := by
 cases e : M p with
 | none => rfl
 | some o => obtain ⟨u, hu⟩ := (h p o e).some; rw [hp] at hu; cases hu
theorem MOk.new {K : PySem.W.Frag} {M : Mp} {H : Hp} (h : MOk K M H) {p : Addr} {u : HO} (hp : H p = none) : MOk K M (upd H p u) := fun a o e => by
 have := h a o e
 obtain ⟨w, hw⟩ := this.some
 exact this.mv (L2.Same.ts (same_upd hp)) (upd_ne (ne_of_none hw hp))
theorem ts_wr {H : Hp} {a : Addr} {o u : HO} (h : H a = some o) (hn : ∀ xs, o ≠ .tup xs) (hf : ∀ b xs, o ≠ .frz b (.tup xs)) : TSame H (upd H a u) := fun b xs r => by
 have nb : b ≠ a := fun e => by
   subst e
   rcases r with r | ⟨w, r⟩
   · rw [h] at r; cases r; exact hn _ rfl
   · rw [h] at r; cases r; exact hf _ _ rfl
 unfold Rd
 rw [upd_ne nb]
 exact r
theorem MOk.put {K : PySem.W.Frag} {M : Mp} {H : Hp} (h : MOk K M H) {a : Addr} {o : MO} {u : HO} (t : TSame H (upd H a u)) (new : MR K (upd H a u) a o) : MOk K (um M a o) (upd H a u) := fun b x e => by
 by_cases hb : b = a
 · subst hb; rw [um_same] at e; cases e; exact new
 · rw [um_ne hb] at e
   exact (h b x e).mv t (upd_ne hb)
theorem MOk.newL {K : PySem.W.Frag} {M : Mp} {H : Hp} (h : MOk K M H) {p : Addr} {l : List W} {vs : List V} (hp : H p = none) (r : WRs K H l vs) : MOk K (um M p (.lst l)) (upd H p (.lst vs)) :=
 h.put (L2.Same.ts (same_upd hp)) ⟨vs, upd_same, r.ts (L2.Same.ts (same_upd hp))⟩
theorem ts_lst {H : Hp} {a : Addr} {xs : List V} {u : HO} (h : H a = some (.lst xs)) : TSame H (upd H a u) := ts_wr h (fun _ z => nomatch z) fun _ _ z => nomatch z
theorem ts_dK {H : Hp} {a : Addr} {xs : List (Key × V)} {u : HO} (h : H a = some (.dK xs)) : TSame H (upd H a u) := ts_wr h (fun _ z => nomatch z) fun _ _ z => nomatch z
theorem MOk.putL {K : PySem.W.Frag} {M : Mp} {H : Hp} (h : MOk K M H) {a : Addr} {xs : List V} {l : List W} {vs : List V} (e : H a = some (.lst xs)) (r : WRs K H l vs) : MOk K (um M a (.lst l)) (upd H a (.lst vs)) :=
 h.put (ts_lst e) ⟨vs, upd_same, r.ts (ts_lst e)⟩
theorem MOk.putD {K : PySem.W.Frag} {M : Mp} {H : Hp} (h : MOk K M H) {a : Addr} {xs : List (Key × V)} {l : List (Key × W)} {vs : List (Key × V)} (e : H a = some (.dK xs)) (r : KR K H l vs) : MOk K (um M a (.dK l)) (upd H a (.dK vs)) :=
 h.put (ts_dK e) ⟨vs, upd_same, KR.ts (ts_dK e) r⟩
noncomputable def WSR (K : PySem.W.Frag) (H : Hp) (ρ : WSt) (σ : St) : Prop := ρ.length = σ.length /\ ∀ (i : Nat) x, ρ[i]? = some (some x) -> ∃ v, σ[i]? = some (some v) /\ WR K H x v
theorem WSR.ts {K : PySem.W.Frag} {H H' : Hp} {ρ : WSt} {σ : St} (t : TSame H H') (h : WSR K H ρ σ) : WSR K H' ρ σ := ⟨h.1, fun i x e => let ⟨v, a, r⟩ := h.2 i x e; ⟨v, a, r.ts t⟩⟩
structure Ok (K : PySem.W.Frag) (ρ : WSt) (M : Mp) (σ : St) (H : Hp) : Prop where
 env : WSR K H ρ σ
 hp : MOk K M H
theorem Ok.mv {K : PySem.W.Frag} {ρ : WSt} {M M' : Mp} {σ : St} {H H' : Hp} (o : Ok K ρ M σ H) (t : TSame H H') (m : MOk K M' H') : Ok K ρ M' σ H' := ⟨o.env.ts t, m⟩
theorem WSR.set {K : PySem.W.Frag} {H : Hp} {ρ : WSt} {σ : St} (h : WSR K H ρ σ) (i : Nat) {x : W} {v : V} (r : WR K H x v) : WSR K H (ρ.set i (some x)) (σ.set i (some v)) := by
 refine ⟨by simp [h.1], fun j y e => ?_⟩
 rw [List.getElem?_set] at e ⊢
 split at e
 · rename_i hj
   rw [if_pos hj]
   split at e
   · rename_i hlt
     rw [if_pos (by rw [<- h.1]; exact hlt)]
     cases e
     exact ⟨v, rfl, r⟩
   · cases e
 · rename_i hj
   rw [if_neg hj]
   exact h.2 j y e
section
variable (K : PySem.W.Frag)
class IE (t : TE) (w : outParam WE) : Prop where
 imp : ∀ (ρ : WSt) (M : Mp) (σ : St) (H : Hp) (q : WK) (Q : VK), Ok K ρ M σ H -> w ρ M q -> (∀ x M' v H', q x M' -> TSame H H' -> MOk K M' H' -> WR K H' x v -> Q v H') -> t σ H Q
class IT (t : TT) (w : outParam WT) : Prop where
 imp : ∀ (ρ : WSt) (M : Mp) (σ : St) (H : Hp) (q : Bool -> Mp -> Prop) (Q : Bool -> Hp -> Prop), Ok K ρ M σ H -> w ρ M q -> (∀ b M' H', q b M' -> TSame H H' -> MOk K M' H' -> Q b H') -> t σ H Q
class IA (t : TA) (w : outParam WA) : Prop where
 imp : ∀ (ρ : WSt) (M : Mp) (σ : St) (H : Hp) (q : List W -> Mp -> Prop) (Q : List V -> Hp -> Prop), Ok K ρ M σ H -> w ρ M q -> (∀ x M' v H', q x M' -> TSame H H' -> MOk K M' H' -> WRs K H' x v -> Q v H') -> t σ H Q
class IG (t : TG) (w : outParam WG) : Prop where
 imp : ∀ (x : W) (v : V) (ρ : WSt) (M : Mp) (σ : St) (H : Hp) (q : WSt -> Mp -> Prop) (Q : St -> Hp -> Prop), Ok K ρ M σ H -> WR K H x v -> w x ρ M q -> (∀ ρ' M' σ' H', q ρ' M' -> TSame H H' -> Ok K ρ' M' σ' H' -> Q σ' H') -> t v σ H Q
class IGs (t : TGs) (w : outParam WGs) : Prop where
 imp : ∀ (x : List W) (v : List V) (ρ : WSt) (M : Mp) (σ : St) (H : Hp) (q : WSt -> Mp -> Prop) (Q : St -> Hp -> Prop), Ok K ρ M σ H -> WRs K H x v -> w x ρ M q -> (∀ ρ' M' σ' H', q ρ' M' -> TSame H H' -> Ok K ρ' M' σ' H' -> Q σ' H') -> t v σ H Q
structure EndsOk (H : Hp) (D' : WEnds) (D : Ends) : Prop where
 nx : ∀ ρ' M' σ' H', D'.nx ρ' M' -> TSame H H' -> Ok K ρ' M' σ' H' -> D.nx σ' H'
 rt : ∀ x M' v H', D'.rt x M' -> TSame H H' -> MOk K M' H' -> WR K H' x v -> D.rt v H'
 bk : ∀ ρ' M' σ' H', D'.bk ρ' M' -> TSame H H' -> Ok K ρ' M' σ' H' -> D.bk σ' H'
 ct : ∀ ρ' M' σ' H', D'.ct ρ' M' -> TSame H H' -> Ok K ρ' M' σ' H' -> D.ct σ' H'
class IS (t : TS) (w : outParam WS) : Prop where
 imp : ∀ (ρ : WSt) (M : Mp) (σ : St) (H : Hp) (D' : WEnds) (D : Ends), Ok K ρ M σ H -> w D' ρ M -> EndsOk K H D' D -> t D σ H
class IR (r : R2) (w : outParam WR2) : Prop where
 imp : ∀ (x y : W) (v u : V) (M : Mp) (H : Hp) (q : WK) (Q : VK), MOk K M H -> WR K H x v -> WR K H y u -> w x y M q -> (∀ x M' v H', q x M' -> TSame H H' -> MOk K M' H' -> WR K H' x v -> Q v H') -> r v u H Q
class IU (r : V -> Hp -> VK -> Prop) (w : outParam (W -> Mp -> WK -> Prop)) : Prop where
 imp : ∀ (x : W) (v : V) (M : Mp) (H : Hp) (q : WK) (Q : VK), MOk K M H -> WR K H x v -> w x M q -> (∀ x M' v H', q x M' -> TSame H H' -> MOk K M' H' -> WR K H' x v -> Q v H') -> r v H Q
class IC (r : List V -> Hp -> VK -> Prop) (w : outParam WCl) : Prop where
 imp : ∀ (x : List W) (v : List V) (M : Mp) (H : Hp) (q : WK) (Q : VK), MOk K M H -> WRs K H x v -> w x M q -> (∀ x M' v H', q x M' -> TSame H H' -> MOk K M' H' -> WR K H' x v -> Q v H') -> r v H Q
end
theorem EndsOk.mv {K : PySem.W.Frag} {H H' : Hp} {D' : WEnds} {D : Ends} (e : EndsOk K H D' D) (t : TSame H H') : EndsOk K H' D' D :=
 ⟨fun a b c d h s => e.nx a b c d h (t.trans s), fun a b c d h s => e.rt a b c d h (t.trans s), fun a b c d h s => e.bk a b c d h (t.trans s), fun a b c d h s => e.ct a b c d h (t.trans s)⟩
end WL
namespace WL
open PySem L2
section
variable {K : PySem.W.Frag}
noncomputable def wVar (i : Nat) : WE := fun ρ M q => match ρ[i]? with
 | some (some x) => q x M
 | _ => False
theorem wVar_x {i : Nat} {ρ : WSt} {M : Mp} {q : WK} (h : wVar i ρ M q) : ∃ x, ρ[i]? = some (some x) /\ q x M := by
 unfold wVar at h
 split at h
 · rename_i x e; exact ⟨x, e, h⟩
 · exact h.elim
instance {i : Nat} : IE K (tVar i) (wVar i) where
 imp := fun ρ M σ H q Q o h k => let ⟨x, e, h⟩ := wVar_x h; let ⟨v, e', r⟩ := o.env.2 i x e; ⟨v, e', k x M v H h (TSame.refl H) o.hp r⟩
noncomputable def wC (x : W) : WE := fun _ M q => q x M
instance {v : V} : IE K (tC v) (wC (.v v)) where
 imp := fun ρ M σ H q Q o h k => k (.v v) M v H h (TSame.refl H) o.hp WR.v
noncomputable def wOp (r : WR2) (a b : WE) : WE := fun ρ M q => a ρ M fun x M1 => b ρ M1 fun y M2 => r x y M2 q
instance {r : R2} {w : WR2} {ta tb : TE} {a b : WE} [ir : IR K r w] [ia : IE K ta a] [ib : IE K tb b] : IE K (tOp r ta tb) (wOp w a b) where
 imp := fun ρ M σ H q Q o h k => ia.imp ρ M σ H _ _ o h fun x M1 v H1 h1 t1 m1 r1 => ib.imp ρ M1 σ H1 _ _ (o.mv t1 m1) h1 fun y M2 u H2 h2 t2 m2 r2 =>
   ir.imp x y v u M2 H2 _ _ m2 (r1.ts t2) r2 h2 fun z M3 v3 H3 h3 t3 m3 r3 => k z M3 v3 H3 h3 ((t1.trans t2).trans t3) m3 r3
noncomputable def wUn (r : W -> Mp -> WK -> Prop) (a : WE) : WE := fun ρ M q => a ρ M fun x M1 => r x M1 q
instance {r : V -> Hp -> VK -> Prop} {w : W -> Mp -> WK -> Prop} {ta : TE} {a : WE} [ir : IU K r w] [ia : IE K ta a] : IE K (tUn r ta) (wUn w a) where
 imp := fun ρ M σ H q Q o h k => ia.imp ρ M σ H _ _ o h fun x M1 v H1 h1 t1 m1 r1 =>
   ir.imp x v M1 H1 _ _ m1 r1 h1 fun z M3 v3 H3 h3 t3 m3 r3 => k z M3 v3 H3 h3 (t1.trans t3) m3 r3
noncomputable def wI (C : Int -> Int -> Prop) (g : Int -> Int -> V) : WR2 := fun x y M q => ∃ i j, x = wi i /\ y = wi j /\ C i j /\ q (.v (g i j)) M
noncomputable def wI0 (g : Int -> Int -> V) : WR2 := fun x y M q => ∃ i j, x = wi i /\ y = wi j /\ q (.v (g i j)) M
noncomputable def wU (g : Int -> V) : W -> Mp -> WK -> Prop := fun x M q => ∃ i, x = wi i /\ q (.v (g i)) M
instance {C : Int -> Int -> Prop} {g : Int -> Int -> V} : IR K (rI C g) (wI C g) where
 imp := by
   rintro x y v u M H q Q m r1 r2 ⟨i, j, rfl, rfl, c, h⟩ k
   exact ⟨i, j, r1.eq, r2.eq, c, k _ M _ H h (TSame.refl H) m WR.v⟩
instance {g : Int -> Int -> V} : IR K (rI0 g) (wI0 g) where
 imp := by
   rintro x y v u M H q Q m r1 r2 ⟨i, j, rfl, rfl, h⟩ k
   exact ⟨i, j, r1.eq, r2.eq, k _ M _ H h (TSame.refl H) m WR.v⟩
instance {g : Int -> V} : IU K (rU g) (wU g) where
 imp := by
   rintro x v M H q Q m r1 ⟨i, rfl, h⟩ k
   exact ⟨i, r1.eq, k _ M _ H h (TSame.refl H) m WR.v⟩
noncomputable def wEq : WR2 := fun x y M q => ∃ a b, x = .v a /\ y = .v b /\ scal a b = true /\ q (wb (decide (a = b))) M
noncomputable def wNe : WR2 := fun x y M q => ∃ a b, x = .v a /\ y = .v b /\ scal a b = true /\ q (wb (!decide (a = b))) M
instance : IR K rEq wEq where
 imp := by
   rintro x y v u M H q Q m r1 r2 ⟨i, j, rfl, rfl, c, h⟩ k
   cases r1.eq; cases r2.eq
   exact ⟨c, k _ M _ H h (TSame.refl H) m WR.v⟩
instance : IR K rNe wNe where
 imp := by
   rintro x y v u M H q Q m r1 r2 ⟨i, j, rfl, rfl, c, h⟩ k
   cases r1.eq; cases r2.eq
   exact ⟨c, k _ M _ H h (TSame.refl H) m WR.v⟩
noncomputable def wTest (a : WE) : WT := fun ρ M q => a ρ M fun x M1 => ∃ k, x = wb k /\ q k M1
instance {t : TE} {a : WE} [ia : IE K t a] : IT K (tTest t) (wTest a) where
 imp := fun ρ M σ H q Q o h k => ia.imp ρ M σ H _ _ o h fun x M1 v H1 ⟨b, e, h1⟩ t1 m1 r1 => by subst e; exact ⟨b, r1.eq, k b M1 H1 h1 t1 m1⟩
instance {t : TE} {a : WE} [ia : IE K t a] : IT K (tB t) (wTest a) where
 imp := fun ρ M σ H q Q o h k => ia.imp ρ M σ H _ _ o h fun x M1 v H1 ⟨b, e, h1⟩ t1 m1 r1 => by subst e; exact ⟨b, r1.eq, k b M1 H1 h1 t1 m1⟩
noncomputable def wAnd (a b : WT) : WT := fun ρ M q => a ρ M fun c M1 => if c = true then b ρ M1 q else q false M1
noncomputable def wOr (a b : WT) : WT := fun ρ M q => a ρ M fun c M1 => if c = true then q true M1 else b ρ M1 q
noncomputable def wNot (a : WT) : WT := fun ρ M q => a ρ M fun c M1 => q (!c) M1
instance {t u : TT} {a b : WT} [ia : IT K t a] [ib : IT K u b] : IT K (tAnd t u) (wAnd a b) where
 imp := fun ρ M σ H q Q o h k => ia.imp ρ M σ H _ _ o h fun c M1 H1 h1 t1 m1 => by
   cases c with
   | true => simp only [if_true] at h1 ⊢; exact ib.imp ρ M1 σ H1 _ _ (o.mv t1 m1) h1 fun b M2 H2 h2 t2 m2 => k b M2 H2 h2 (t1.trans t2) m2
   | false => simp only [Bool.false_eq_true, if_false] at h1 ⊢; exact k _ M1 H1 h1 t1 m1
instance {t u : TT} {a b : WT} [ia : IT K t a] [ib : IT K u b] : IT K (tOr t u) (wOr a b) where
 imp := fun ρ M σ H q Q o h k => ia.imp ρ M σ H _ _ o h fun c M1 H1 h1 t1 m1 => by
   cases c with
   | false => simp only [Bool.false_eq_true, if_false] at h1 ⊢; exact ib.imp ρ M1 σ H1 _ _ (o.mv t1 m1) h1 fun b M2 H2 h2 t2 m2 => k b M2 H2 h2 (t1.trans t2) m2
   | true => simp only [if_true] at h1 ⊢; exact k _ M1 H1 h1 t1 m1
instance {t : TT} {a : WT} [ia : IT K t a] : IT K (tNot t) (wNot a) where
 imp := fun ρ M σ H q Q o h k => ia.imp ρ M σ H _ _ o h fun c M1 H1 h1 t1 m1 => k _ M1 H1 h1 t1 m1
noncomputable def wAndV (a b : WE) : WE := fun ρ M q => a ρ M fun x M1 => ∃ c, x = wb c /\ if c = true then b ρ M1 q else q (wb false) M1
noncomputable def wOrV (a b : WE) : WE := fun ρ M q => a ρ M fun x M1 => ∃ c, x = wb c /\ if c = true then q (wb true) M1 else b ρ M1 q
noncomputable def wNotV (a : WE) : WE := fun ρ M q => a ρ M fun x M1 => ∃ c, x = wb c /\ q (wb (!c)) M1
instance {t u : TE} {a b : WE} [ia : IE K t a] [ib : IE K u b] : IE K (tAndV t u) (wAndV a b) where
 imp := fun ρ M σ H q Q o h k => ia.imp ρ M σ H _ _ o h fun x M1 v H1 ⟨c, e, h1⟩ t1 m1 r1 => by
   subst e
   refine ⟨c, r1.eq, ?_⟩
   cases c with
   | true => simp only [if_true] at h1 ⊢; exact ib.imp ρ M1 σ H1 _ _ (o.mv t1 m1) h1 fun b M2 v H2 h2 t2 m2 r2 => k b M2 v H2 h2 (t1.trans t2) m2 r2
   | false => simp only [Bool.false_eq_true, if_false] at h1 ⊢; exact k _ M1 _ H1 h1 t1 m1 WR.v
instance {t : TE} {a : WE} [ia : IE K t a] : IE K (tNotV t) (wNotV a) where
 imp := fun ρ M σ H q Q o h k => ia.imp ρ M σ H _ _ o h fun x M1 v H1 ⟨c, e, h1⟩ t1 m1 r1 => by
   subst e
   exact ⟨c, r1.eq, k _ M1 _ H1 h1 t1 m1 WR.v⟩
noncomputable def wIf (c : WT) (a b : WE) : WE := fun ρ M q => c ρ M fun c M1 => if c = true then a ρ M1 q else b ρ M1 q
noncomputable def wChain (r r' : WR2) (a b c : WE) : WE := fun ρ M q => a ρ M fun x M1 => b ρ M1 fun y M2 => r x y M2 fun z M3 => ∃ k, z = wb k /\ if k = true then c ρ M3 fun y' M4 => r' y y' M4 fun z' M5 => q z' M5 else q (wb false) M3
noncomputable def wNil : WA := fun _ M q => q [] M
noncomputable def wCons (a : WE) (r : WA) : WA := fun ρ M q => a ρ M fun x M1 => r ρ M1 fun xs M2 => q (x :: xs) M2
instance : IA K tNil wNil where
 imp := fun ρ M σ H q Q o h k => k [] M [] H h (TSame.refl H) o.hp WRs.nil
instance {t : TE} {u : TA} {a : WE} {b : WA} [ia : IE K t a] [ib : IA K u b] : IA K (tCons t u) (wCons a b) where
 imp := fun ρ M σ H q Q o h k => ia.imp ρ M σ H _ _ o h fun x M1 v H1 h1 t1 m1 r1 => ib.imp ρ M1 σ H1 _ _ (o.mv t1 m1) h1 fun y M2 u H2 h2 t2 m2 r2 =>
   k _ M2 _ H2 h2 (t1.trans t2) m2 (WRs.cons (r1.ts t2) r2)
noncomputable def wTup (a : WA) : WE := fun ρ M q => a ρ M fun xs M1 => xs.length <= sizeLine /\ q (.tup xs) M1
noncomputable def wLst (a : WA) : WE := fun ρ M q => a ρ M fun xs M1 => xs.length <= sizeLine /\ ∀ p, M1 p = none -> q (wr p) (um M1 p (.lst xs))
instance {t : TA} {a : WA} [ia : IA K t a] : IE K (tTup t) (wTup a) where
 imp := fun ρ M σ H q Q o h k => ia.imp ρ M σ H _ _ o h fun x M1 v H1 ⟨hl, h1⟩ t1 m1 r1 => ⟨by rw [r1.length]; exact hl, fun p hp =>
   k _ M1 _ _ h1 (t1.trans (L2.Same.ts (same_upd hp))) (m1.new hp) (WR.mkT (SqT.of upd_same) (r1.ts (L2.Same.ts (same_upd hp))))⟩
instance {t : TA} {a : WA} [ia : IA K t a] : IE K (tLst t) (wLst a) where
 imp := fun ρ M σ H q Q o h k => ia.imp ρ M σ H _ _ o h fun x M1 v H1 ⟨hl, h1⟩ t1 m1 r1 => ⟨by rw [r1.length]; exact hl, fun p hp =>
   k _ _ _ _ (h1 p (m1.fresh hp)) (t1.trans (L2.Same.ts (same_upd hp))) (m1.newL hp r1) WR.v⟩
noncomputable def wIxL : WR2 := fun x y M q => ∃ a l i u, x = wr a /\ y = wi i /\ M a = some (.lst l) /\ atI l i = some u /\ q u M
noncomputable def wIxT : WR2 := fun x y M q => ∃ l i u, x = .tup l /\ y = wi i /\ atI l i = some u /\ q u M
theorem WRs.atI {H : Hp} {l : List W} {vs : List V} {i : Int} {u : W} (r : WRs K H l vs) (e : atI l i = some u) : ∃ v, L2.atI vs i = some v /\ WR K H u v := by
 unfold L2.atI at e ⊢
 rw [r.length]
 cases h : ixN l.length i with
 | none => rw [h] at e; cases e
 | some j => rw [h] at e; exact r.at e
instance : IR K (rIxL K) wIxL where
 imp := by
   rintro x y v u M H q Q m r1 r2 ⟨a, l, i, z, rfl, rfl, hl, e, h⟩ k
   obtain ⟨vs, hv, r⟩ := m a _ hl
   obtain ⟨v', e', r'⟩ := r.atI e
   exact ⟨a, vs, i, v', r1.eq, r2.eq, SqL.of hv, e', k _ M _ H h (TSame.refl H) m r'⟩
instance : IR K (rIxT K) wIxT where
 imp := by
   rintro x y v u M H q Q m r1 r2 ⟨l, i, z, rfl, rfl, e, h⟩ k
   obtain ⟨a, vs, rfl, hv, r⟩ := r1.tup
   obtain ⟨v', e', r'⟩ := r.atI e
   exact ⟨a, vs, i, v', rfl, r2.eq, hv, e', k _ M _ H h (TSame.refl H) m r'⟩
noncomputable def cutW (xs : List W) (lo hi : Option Int) : List W := (xs.drop (HT.sIx xs.length 0 lo)).take (HT.sIx xs.length xs.length hi - HT.sIx xs.length 0 lo)
theorem WRs.cut {H : Hp} {l : List W} {vs : List V} (lo hi : Option Int) (r : WRs K H l vs) : WRs K H (cutW l lo hi) (cutV vs lo hi) := by
 unfold cutW cutV
 rw [r.length]
 exact (r.drop _).take _
end
end WL
namespace WL
open PySem L2
noncomputable abbrev WO := WSt -> Mp -> (Option Int -> Mp -> Prop) -> Prop
class IO (K : PySem.W.Frag) (t : TO) (w : outParam WO) : Prop where
 imp : ∀ (ρ : WSt) (M : Mp) (σ : St) (H : Hp) (q : Option Int -> Mp -> Prop) (Q : Option Int -> Hp -> Prop), Ok K ρ M σ H -> w ρ M q -> (∀ b M' H', q b M' -> TSame H H' -> MOk K M' H' -> Q b H') -> t σ H Q
noncomputable abbrev WSl := W -> Option Int -> Option Int -> Mp -> WK -> Prop
class ISl (K : PySem.W.Frag) (r : V -> Option Int -> Option Int -> Hp -> VK -> Prop) (w : outParam WSl) : Prop where
 imp : ∀ (x : W) (v : V) (lo hi : Option Int) (M : Mp) (H : Hp) (q : WK) (Q : VK), MOk K M H -> WR K H x v -> w x lo hi M q -> (∀ x M' v H', q x M' -> TSame H H' -> MOk K M' H' -> WR K H' x v -> Q v H') -> r v lo hi H Q
section
variable {K : PySem.W.Frag}
noncomputable def wNoPart : WO := fun _ M q => q none M
noncomputable def wPart (a : WE) : WO := fun ρ M q => a ρ M fun x M1 => ∃ i, x = wi i /\ q (some i) M1
instance : IO K tNoPart wNoPart where
 imp := fun ρ M σ H q Q o h k => k _ M H h (TSame.refl H) o.hp
instance {t : TE} {a : WE} [ia : IE K t a] : IO K (tPart t) (wPart a) where
 imp := fun ρ M σ H q Q o h k => ia.imp ρ M σ H _ _ o h fun x M1 v H1 ⟨i, e, h1⟩ t1 m1 r1 => by subst e; exact ⟨i, r1.eq, k _ M1 H1 h1 t1 m1⟩
noncomputable def wSl (r : WSl) (a : WE) (lo hi : WO) : WE := fun ρ M q => a ρ M fun x M1 => lo ρ M1 fun l M2 => hi ρ M2 fun u M3 => r x l u M3 q
instance {r : V -> Option Int -> Option Int -> Hp -> VK -> Prop} {w : WSl} {t : TE} {tl th : TO} {a : WE} {lo hi : WO} [ir : ISl K r w] [ia : IE K t a] [il : IO K tl lo] [ih : IO K th hi] : IE K (tSl r t tl th) (wSl w a lo hi) where
 imp := fun ρ M σ H q Q o h k => ia.imp ρ M σ H _ _ o h fun x M1 v H1 h1 t1 m1 r1 => il.imp ρ M1 σ H1 _ _ (o.mv t1 m1) h1 fun l M2 H2 h2 t2 m2 =>
   ih.imp ρ M2 σ H2 _ _ (o.mv (t1.trans t2) m2) h2 fun u M3 H3 h3 t3 m3 => ir.imp x v l u M3 H3 _ _ m3 (r1.ts (t2.trans t3)) h3 fun y M4 v4 H4 h4 t4 m4 r4 => k y M4 v4 H4 h4 (((t1.trans t2).trans t3).trans t4) m4 r4
noncomputable def wCB (r : WCl) (a : WA) : WE := fun ρ M q => a ρ M fun xs M1 => r xs M1 q
instance {r : List V -> Hp -> VK -> Prop} {w : WCl} {t : TA} {a : WA} [ir : IC K r w] [ia : IA K t a] : IE K (tCB r t) (wCB w a) where
 imp := fun ρ M σ H q Q o h k => ia.imp ρ M σ H _ _ o h fun x M1 v H1 h1 t1 m1 r1 => ir.imp x v M1 H1 _ _ m1 r1 h1 fun y M4 v4 H4 h4 t4 m4 r4 => k y M4 v4 H4 h4 (t1.trans t4) m4 r4
noncomputable abbrev WSp := List W -> Mp -> WK -> Prop
noncomputable def spW (K : PySem.W.Frag) (p : WSp) : Sp := fun vs H Q _ => ∃ (xs : List W) (M : Mp) (q : WK), WRs K H xs vs /\ MOk K M H /\ p xs M q /\ ∀ x M' v H', q x M' -> TSame H H' -> MOk K M' H' -> WR K H' x v -> Q v H'
noncomputable def wCall (p : WSp) (a : WA) : WE := fun ρ M q => a ρ M fun xs M1 => p xs M1 q
instance {p : WSp} {E : XK} {t : TA} {a : WA} [ia : IA K t a] : IE K (tCall (spW K p) [] E t) (wCall p a) where
 imp := fun ρ M σ H q Q o h k => ia.imp ρ M σ H _ _ o h fun x M1 v H1 h1 t1 m1 r1 => ⟨x, M1, q, by rw [List.append_nil]; exact r1, m1, h1, fun y M4 v4 H4 h4 t4 m4 r4 => k y M4 v4 H4 h4 (t1.trans t4) m4 r4⟩
theorem okW {P : Program} {w : World} {mg : Str -> Option Value} {base : Heap} {x qual : Str} {st : Stmt} {f : Addr} {fd : FuncData} {N ps : List Str} {k : Nat} {p : WSp} (F : Fun K x qual st f fd) (S : FnScope N ps (defScope st)) (len : ∀ vs M q, p vs M q -> vs.length = ps.length)
   (hbody : ∀ (cdv : Value) (A : Around) (outer : List Env) (s : Shared) (H : Hp) (E : XK), Room k (A.deeper (PyProof.Rows.envOfC qual (defScope st) s.heap.objs.size f cdv)) ->
     ∃ t w', PSs (cxOf CX0 P w K mg base N qual (defScope st) f cdv A outer s H E).nox (defBody st) t /\ IS K t w' /\ ∀ vs M q, p vs M q -> w' { nx := fun _ M' => q wn M', rt := q } (vs.map some ++ List.replicate (N.length - vs.length) none) M) :
   FnOk P w K mg base CX0 (k + 1) f fd ps (spW K p) := by
 refine Fun.ok F S (fun vs H Q E ⟨xs, M, q, r, m, h, _⟩ => by rw [r.length]; exact len xs M q h) fun cdv A outer s H vs Q E hr h => ?_
 obtain ⟨t, w', h1, h2, h3⟩ := hbody cdv A outer s H E hr
 obtain ⟨xs, M, q, r, m, h, k'⟩ := h
 refine ⟨t, h1, h2.imp _ M _ H _ _ ⟨⟨?_, fun i x e => ?_⟩, m⟩ (h3 xs M q h) ⟨fun ρ' M' σ' H' h ts o => k' _ M' _ H' h ts o.hp WR.v, fun x M' v H' h ts m' r' => k' x M' v H' h ts m' r', fun _ _ _ _ h => h.elim, fun _ _ _ _ h => h.elim⟩⟩
 · have := r.length
   simp [L2.start, this]
 · have hl := r.length
   unfold L2.start
   by_cases hi : i < xs.length
   · rw [List.getElem?_append_left (by simpa using hi), List.getElem?_map] at e
     cases ex : xs[i]? with
     | none => rw [ex] at e; cases e
     | some y =>
       rw [ex] at e; cases e
       obtain ⟨v, hv, rv⟩ := r.at ex
       refine ⟨v, ?_, rv⟩
       rw [List.getElem?_append_left (by simp; lia), List.getElem?_map, hv]; rfl
   · rw [List.getElem?_append_right (by simpa using hi), List.getElem?_replicate] at e
     split at e <;> cases e
noncomputable def rLen (K : PySem.W.Frag) : List V -> Hp -> VK -> Prop := fun xs H Q => ∃ p ys, xs = [.ref p] /\ (SqL K H p ys \/ SqT K H p ys) /\ Q (.int ys.length) H
theorem call_lenW {X : Cx} : CallR X (.builtin "len") (rLen X.K) := call_len_seq
noncomputable def wLen : WCl := fun xs M q => (∃ a l, xs = [wr a] /\ M a = some (.lst l) /\ q (wi l.length) M) \/ ∃ l, xs = [.tup l] /\ q (wi l.length) M
theorem WRs.one {H : Hp} {x : W} {vs : List V} (h : WRs K H [x] vs) : ∃ v, vs = [v] /\ WR K H x v := by
 simp only [WRs] at h
 obtain ⟨v, t, rfl, h1, rfl⟩ := h
 exact ⟨v, rfl, h1⟩
theorem WRs.two {H : Hp} {x y : W} {vs : List V} (h : WRs K H [x, y] vs) : ∃ v u, vs = [v, u] /\ WR K H x v /\ WR K H y u := by
 simp only [WRs] at h
 obtain ⟨v, t, rfl, h1, u, t', rfl, h2, rfl⟩ := h
 exact ⟨v, u, rfl, h1, h2⟩
instance : IC K (rLen K) wLen where
 imp := by
   rintro xs v M H q Q m r1 h k
   rcases h with ⟨a, l, rfl, hl, h⟩ | ⟨l, rfl, h⟩
   · obtain ⟨v, rfl, r⟩ := r1.one
     cases r.eq
     obtain ⟨vs, hv, rr⟩ := m a _ hl
     refine ⟨a, vs, rfl, .inl (SqL.of hv), k _ M _ H h (TSame.refl H) m ?_⟩
     rw [rr.length]; exact WR.v
   · obtain ⟨v, rfl, r⟩ := r1.one
     obtain ⟨a, vs, rfl, hv, rr⟩ := r.tup
     refine ⟨a, vs, rfl, .inr hv, k _ M _ H h (TSame.refl H) m ?_⟩
     rw [rr.length]; exact WR.v
noncomputable def rAbs : List V -> Hp -> VK -> Prop := fun xs H Q => ∃ i, xs = [.int i] /\ Q (.int (if i < 0 then -i else i)) H
theorem call_absW {X : Cx} : CallR X (.builtin "abs") rAbs := call_abs
noncomputable def wAbs : WCl := fun xs M q => ∃ i, xs = [wi i] /\ q (wi (if i < 0 then -i else i)) M
instance : IC K rAbs wAbs where
 imp := by
   rintro xs v M H q Q m r1 ⟨i, rfl, h⟩ k
   obtain ⟨v, rfl, r⟩ := r1.one
   cases r.eq
   exact ⟨i, rfl, k _ M _ H h (TSame.refl H) m WR.v⟩
noncomputable def rMax2 : List V -> Hp -> VK -> Prop := fun xs H Q => ∃ i j, xs = [.int i, .int j] /\ Q (.int (if j > i then j else i)) H
theorem call_max2W {X : Cx} (hc : X.calm = true) : CallR X (.builtin "max") rMax2 := call_max2 hc
noncomputable def wMax2 : WCl := fun xs M q => ∃ i j, xs = [wi i, wi j] /\ q (wi (if j > i then j else i)) M
instance : IC K rMax2 wMax2 where
 imp := by
   rintro xs v M H q Q m r1 ⟨i, j, rfl, h⟩ k
   obtain ⟨v, u, rfl, r, r'⟩ := r1.two
   cases r.eq; cases r'.eq
   exact ⟨i, j, rfl, k _ M _ H h (TSame.refl H) m WR.v⟩
noncomputable def rListOf (K : PySem.W.Frag) : List V -> Hp -> VK -> Prop := fun xs H Q => ∃ p ys, xs = [.ref p] /\ (SqL K H p ys \/ SqT K H p ys) /\ ∀ l, H l = none -> Q (.ref l) (upd H l (.lst ys))
theorem call_listW {X : Cx} : CallR X (.type "list") (rListOf X.K) := call_list_of
noncomputable def wListOf : WCl := fun xs M q => ∃ l, ((∃ a, xs = [wr a] /\ M a = some (.lst l)) \/ xs = [.tup l]) /\ ∀ p, M p = none -> q (wr p) (um M p (.lst l))
instance : IC K (rListOf K) wListOf where
 imp := by
   rintro xs v M H q Q m r1 ⟨l, hx, h⟩ k
   rcases hx with ⟨a, rfl, hl⟩ | rfl
   · obtain ⟨v, rfl, r⟩ := r1.one
     cases r.eq
     obtain ⟨vs, hv, rr⟩ := m a _ hl
     exact ⟨a, vs, rfl, .inl (SqL.of hv), fun p hp => k _ _ _ _ (h p (m.fresh hp)) (L2.Same.ts (same_upd hp)) (m.newL hp rr) WR.v⟩
   · obtain ⟨v, rfl, r⟩ := r1.one
     obtain ⟨a, vs, rfl, hv, rr⟩ := r.tup
     exact ⟨a, vs, rfl, .inr hv, fun p hp => k _ _ _ _ (h p (m.fresh hp)) (L2.Same.ts (same_upd hp)) (m.newL hp rr) WR.v⟩
noncomputable def rTupleOf (K : PySem.W.Frag) : List V -> Hp -> VK -> Prop := fun xs H Q => ∃ p ys, xs = [.ref p] /\ ((SqL K H p ys /\ ∀ l, H l = none -> Q (.ref l) (upd H l (.tup ys))) \/ (SqT K H p ys /\ Q (.ref p) H))
theorem call_tupleW {X : Cx} : CallR X (.type "tuple") (rTupleOf X.K) := call_tuple_of
noncomputable def wTupleOf : WCl := fun xs M q => ∃ l, ((∃ a, xs = [wr a] /\ M a = some (.lst l)) \/ xs = [.tup l]) /\ q (.tup l) M
instance : IC K (rTupleOf K) wTupleOf where
 imp := by
   rintro xs v M H q Q m r1 ⟨l, hx, h⟩ k
   rcases hx with ⟨a, rfl, hl⟩ | rfl
   · obtain ⟨v, rfl, r⟩ := r1.one
     cases r.eq
     obtain ⟨vs, hv, rr⟩ := m a _ hl
     exact ⟨a, vs, rfl, .inl ⟨SqL.of hv, fun p hp => k _ M _ _ h (L2.Same.ts (same_upd hp)) (m.new hp) (WR.mkT (SqT.of upd_same) (rr.ts (L2.Same.ts (same_upd hp))))⟩⟩
   · obtain ⟨v, rfl, r⟩ := r1.one
     obtain ⟨a, vs, rfl, hv, rr⟩ := r.tup
     exact ⟨a, vs, rfl, .inr ⟨hv, k _ M _ H h (TSame.refl H) m (WR.mkT hv rr)⟩⟩
theorem WRs.ofInts {H : Hp} : ∀ (ns : List Int), WRs K H (ns.map wi) (ns.map V.int)
 | [] => WRs.nil
 | n :: r => WRs.cons WR.v (WRs.ofInts r)
noncomputable def tyW (M : Mp) : W -> Option Value
 | .v (.int _) => some (.type "int")
 | .v (.bl _) => some (.type "bool")
 | .v (.str _) => some (.type "str")
 | .v .non => some (.type "NoneType")
 | .tup _ => some (.type "tuple")
 | .v (.ref a) => match M a with
   | some (.lst _) => some (.type "list")
   | _ => none
 | _ => none
noncomputable def wIsX (K : PySem.W.Frag) : WCl := fun xs M q => ∃ x T t b, xs = [x, .v (.ty T)] /\ tyW M x = some t /\ PySem.W.kitOne K t (.type T) = some b /\ q (wb b) M
theorem tyX_of {H : Hp} {M : Mp} {x : W} {v : V} {t : Value} (m : MOk K M H) (r : WR K H x v) (e : tyW M x = some t) : TyX K H v t := by
 cases x with
 | tup l =>
   obtain ⟨a, vs, rfl, hv, rr⟩ := r.tup
   cases e
   exact .tup hv
 | v y =>
   cases r.eq
   cases v with
   | int i => cases e; exact .of (.int i)
   | bl i => cases e; exact .of (.bl i)
   | str i => cases e; exact .of (.str i)
   | non => cases e; exact .of .non
   | ref a =>
     simp only [tyW] at e
     cases ha : M a with
     | none => rw [ha] at e; cases e
     | some o =>
       rw [ha] at e
       cases o with
       | lst l => cases e; obtain ⟨vs, hv, _⟩ := m a _ ha; exact .lst (SqL.of hv)
       | dK l => cases e
       | ins C d l => cases e
       | exc C => cases e
       | fz o l l2 => cases e
   | byt _ => cases e
   | flt _ => cases e
   | ty _ => cases e
instance : IC K (rIsX K) (wIsX K) where
 imp := by
   rintro xs v M H q Q m r1 ⟨x, T, t, b, rfl, ht, e, h⟩ k
   obtain ⟨v, u, rfl, r, r'⟩ := r1.two
   cases r'.eq
   exact ⟨v, T, t, b, rfl, tyX_of m r ht, e, k _ M _ H h (TSame.refl H) m WR.v⟩
end
end WL
namespace WL
open PySem L2
section
variable {K : PySem.W.Frag}
noncomputable abbrev WM := W -> List W -> Mp -> WK -> Prop
class IM (K : PySem.W.Frag) (r : V -> List V -> Hp -> VK -> Prop) (w : outParam WM) : Prop where
 imp : ∀ (x : W) (v : V) (ys : List W) (us : List V) (M : Mp) (H : Hp) (q : WK) (Q : VK), MOk K M H -> WR K H x v -> WRs K H ys us -> w x ys M q -> (∀ x M' v H', q x M' -> TSame H H' -> MOk K M' H' -> WR K H' x v -> Q v H') -> r v us H Q
noncomputable def IsL (M : Mp) (x : W) : Prop := ∃ a l, x = wr a /\ M a = some (.lst l)
theorem IsL.ty {M : Mp} {H : Hp} {x : W} {v : V} (m : MOk K M H) (r : WR K H x v) (h : IsL M x) : tyV K "list" v H := by
 obtain ⟨a, l, rfl, hl⟩ := h
 cases r.eq
 obtain ⟨vs, hv, _⟩ := m a _ hl
 exact .inl ⟨rfl, vs, SqL.of hv⟩
noncomputable def wBM (r : WM) (a : WE) (b : WA) : WE := fun ρ M q => a ρ M fun x M1 => IsL M1 x /\ b ρ M1 fun xs M2 => r x xs M2 q
instance {r : V -> List V -> Hp -> VK -> Prop} {w : WM} {t : TE} {u : TA} {a : WE} {b : WA} [ir : IM K r w] [ia : IE K t a] [ib : IA K u b] : IE K (tBM K "list" r t u) (wBM w a b) where
 imp := fun ρ M σ H q Q o h k => ia.imp ρ M σ H _ _ o h fun x M1 v H1 ⟨hl, h1⟩ t1 m1 r1 => ⟨hl.ty m1 r1, ib.imp ρ M1 σ H1 _ _ (o.mv t1 m1) h1 fun y M2 u H2 h2 t2 m2 r2 =>
   ir.imp x v y u M2 H2 _ _ m2 (r1.ts t2) r2 h2 fun z M3 v3 H3 h3 t3 m3 r3 => k z M3 v3 H3 h3 ((t1.trans t2).trans t3) m3 r3⟩
noncomputable def wAppend : WM := fun x ys M q => ∃ a l y, x = wr a /\ ys = [y] /\ M a = some (.lst l) /\ l.length < sizeLine /\ q wn (um M a (.lst (l ++ [y])))
instance : IM K rAppend wAppend where
 imp := by
   rintro x v ys us M H q Q m r1 r2 ⟨a, l, y, rfl, rfl, hl, hn, h⟩ k
   cases r1.eq
   obtain ⟨u, rfl, r⟩ := r2.one
   obtain ⟨vs, hv, rr⟩ := m a _ hl
   exact ⟨a, vs, u, rfl, rfl, hv, by rw [rr.length]; exact hn, k _ _ _ _ h (ts_lst hv) (m.putL hv (rr.snoc r)) WR.v⟩
noncomputable def wExtend : WM := fun x ys M q => ∃ a b l l', x = wr a /\ ys = [wr b] /\ M a = some (.lst l) /\ M b = some (.lst l') /\ l.length + l'.length <= sizeLine /\ q wn (um M a (.lst (l ++ l')))
instance : IM K rExtend wExtend where
 imp := by
   rintro x v ys us M H q Q m r1 r2 ⟨a, b, l, l', rfl, rfl, hl, hl', hn, h⟩ k
   cases r1.eq
   obtain ⟨u, rfl, r⟩ := r2.one
   cases r.eq
   obtain ⟨vs, hv, rr⟩ := m a _ hl
   obtain ⟨vs', hv', rr'⟩ := m b _ hl'
   exact ⟨a, b, vs, vs', rfl, rfl, hv, hv', by rw [rr.length, rr'.length]; exact hn, k _ _ _ _ h (ts_lst hv) (m.putL hv (rr.append rr')) WR.v⟩
noncomputable def wCat : WR2 := fun x y M q => ∃ a b l l', x = wr a /\ y = wr b /\ M a = some (.lst l) /\ M b = some (.lst l') /\ l.length + l'.length <= sizeLine /\ ∀ p, M p = none -> q (wr p) (um M p (.lst (l ++ l')))
instance : IR K rCat wCat where
 imp := by
   rintro x y v u M H q Q m r1 r2 ⟨a, b, l, l', rfl, rfl, hl, hl', hn, h⟩ k
   cases r1.eq; cases r2.eq
   obtain ⟨vs, hv, rr⟩ := m a _ hl
   obtain ⟨vs', hv', rr'⟩ := m b _ hl'
   exact ⟨a, b, vs, vs', rfl, rfl, hv, hv', by rw [rr.length, rr'.length]; exact hn, fun p hp => k _ _ _ _ (h p (m.fresh hp)) (L2.Same.ts (same_upd hp)) (m.newL hp (rr.append rr')) WR.v⟩
noncomputable def wTru (M : Mp) : W -> Bool -> Prop
 | .v .non, k => k = false
 | .v (.bl b), k => k = b
 | .v (.int i), k => k = (i != 0)
 | .v (.str y), k => y.length <= sizeLine /\ k = ((y.length : Int) != 0)
 | .v (.ref a), k => (∃ l, M a = some (.lst l) /\ k = !l.isEmpty) \/ (∃ l, M a = some (.dK l) /\ k = !l.isEmpty)
 | .tup l, k => k = !l.isEmpty
 | _, _ => False
noncomputable def wTruth (a : WE) : WT := fun ρ M q => a ρ M fun x M1 => ∃ k, wTru M1 x k /\ q k M1
noncomputable def keyW : Key -> W
 | .inl k => wi k
 | .inr x => ws x
noncomputable def valW (kvs : List (Key × W)) (k : Key) : Option W := (kvs.find? fun kv => decide (kv.1 = k)).map (·.2)
noncomputable def putW (kvs : List (Key × W)) (k : Key) (v : W) : List (Key × W) :=
 if (kvs.any fun kv => decide (kv.1 = k)) = true then kvs.map (fun kv => if kv.1 = k then (kv.1, v) else kv) else kvs ++ [(k, v)]
theorem KR.keys {H : Hp} : ∀ {l : List (Key × W)} {vs : List (Key × V)}, KR K H l vs -> vs.map (·.1) = l.map (·.1)
 | _, _, .nil => rfl
 | _, _, .cons ⟨e, r⟩ t => by rw [List.map_cons, List.map_cons, KR.keys t, e]
theorem KR.length {H : Hp} {κ : Type} : ∀ {l : List (κ × W)} {vs : List (κ × V)}, KR K H l vs -> vs.length = l.length
 | _, _, .nil => rfl
 | _, _, .cons _ t => by rw [List.length_cons, List.length_cons, KR.length t]
theorem KR.val {H : Hp} (k : Key) : ∀ {l : List (Key × W)} {vs : List (Key × V)}, KR K H l vs -> (valW l k = none /\ valV vs k = none) \/ ∃ x v, valW l k = some x /\ valV vs k = some v /\ WR K H x v
 | _, _, .nil => .inl ⟨rfl, rfl⟩
 | (k1, x) :: l, (k2, v) :: vs, .cons ⟨e, r⟩ t => by
   have e : k1 = k2 := e
   subst e
   unfold valW valV
   rw [List.find?_cons, List.find?_cons]
   by_cases hk : k1 = k
   · simp only [hk, decide_true]
     exact .inr ⟨x, v, rfl, rfl, r⟩
   · simp only [hk, decide_false]
     exact KR.val k t
theorem KR.map {H : Hp} {k : Key} {x : W} {v : V} (rx : WR K H x v) : ∀ {l : List (Key × W)} {vs : List (Key × V)}, KR K H l vs -> KR K H (l.map (fun kv => if kv.1 = k then (kv.1, x) else kv)) (vs.map (fun kv => if kv.1 = k then (kv.1, v) else kv))
 | _, _, .nil => .nil
 | (k1, y) :: l, (k2, u) :: vs, .cons ⟨e, r⟩ t => by
   have e : k1 = k2 := e
   subst e
   rw [List.map_cons, List.map_cons]
   refine .cons ?_ (KR.map rx t)
   by_cases hk : k1 = k
   · rw [if_pos hk, if_pos hk]; exact ⟨rfl, rx⟩
   · rw [if_neg hk, if_neg hk]; exact ⟨rfl, r⟩
theorem KR.append {H : Hp} {k : Key} {x : W} {v : V} (rx : WR K H x v) : ∀ {l : List (Key × W)} {vs : List (Key × V)}, KR K H l vs -> KR K H (l ++ [(k, x)]) (vs ++ [(k, v)])
 | _, _, .nil => .cons ⟨rfl, rx⟩ .nil
 | _, _, .cons r t => .cons r (KR.append rx t)
theorem KR.put {H : Hp} {k : Key} {x : W} {v : V} (rx : WR K H x v) {l : List (Key × W)} {vs : List (Key × V)} (r : KR K H l vs) : KR K H (putW l k x) (putK vs k v) := by
 have ek : (l.any fun kv => decide (kv.1 = k)) = vs.any fun kv => decide (kv.1 = k) := by
   have := r.keys
   have e1 : (l.any fun kv => decide (kv.1 = k)) = (l.map (·.1)).any fun y => decide (y = k) := by rw [List.any_map]; rfl
   have e2 : (vs.any fun kv => decide (kv.1 = k)) = (vs.map (·.1)).any fun y => decide (y = k) := by rw [List.any_map]; rfl
   rw [e1, e2, this]
 unfold putW putK
 rw [ek]
 split
 · exact KR.map rx r
 · exact KR.append rx r
theorem keyW_eq {H : Hp} {k : Key} {v : V} (r : WR K H (keyW k) v) : v = kV k := by
 cases k <;> exact r.eq
noncomputable def wDNew : WE := fun _ M q => ∀ p, M p = none -> q (wr p) (um M p (.dK []))
instance : IE K tDNewK wDNew where
 imp := fun ρ M σ H q Q o h k => fun p hp => k _ _ _ _ (h p (o.hp.fresh hp)) (L2.Same.ts (same_upd hp)) (o.hp.put (L2.Same.ts (same_upd hp)) ⟨[], upd_same, .nil⟩) WR.v
noncomputable def wDGet (a b : WE) : WE := fun ρ M q => a ρ M fun x M1 => b ρ M1 fun y M2 => ∃ p kvs k z, x = wr p /\ M2 p = some (.dK kvs) /\ y = keyW k /\ valW kvs k = some z /\ q z M2
instance {t u : TE} {a b : WE} [ia : IE K t a] [ib : IE K u b] : IE K (tDGet t u) (wDGet a b) where
 imp := fun ρ M σ H q Q o h k => ia.imp ρ M σ H _ _ o h fun x M1 v H1 h1 t1 m1 r1 => ib.imp ρ M1 σ H1 _ _ (o.mv t1 m1) h1 fun y M2 u H2 ⟨p, kvs, ky, z, e1, e2, e3, e4, h2⟩ t2 m2 r2 => by
   subst e1 e3
   obtain ⟨ks, hk, rr⟩ := m2 p _ e2
   rcases rr.val ky with ⟨n1, _⟩ | ⟨x', v', n1, n2, rx⟩
   · rw [n1] at e4; cases e4
   · rw [n1] at e4; cases e4
     refine ⟨p, v', r1.eq, ?_, k _ M2 _ H2 h2 (t1.trans t2) m2 rx⟩
     rw [keyW_eq r2, <- n2]
     exact DGet.k hk
noncomputable def wDGet2 (a b c : WE) : WE := fun ρ M q => a ρ M fun x M1 => ∃ p, x = wr p /\ (∃ kvs, M1 p = some (.dK kvs)) /\ b ρ M1 fun y M2 => c ρ M2 fun z M3 => ∃ kvs k, M3 p = some (.dK kvs) /\ y = keyW k /\ q ((valW kvs k).getD z) M3
instance {t u s : TE} {a b c : WE} [ia : IE K t a] [ib : IE K u b] [ic : IE K s c] : IE K (tDGet2 t u s) (wDGet2 a b c) where
 imp := fun ρ M σ H q Q o h k => ia.imp ρ M σ H _ _ o h fun x M1 v H1 ⟨p, e, ⟨kvs, hp⟩, h1⟩ t1 m1 r1 => by
   subst e
   obtain ⟨ks, hk, rr⟩ := m1 p _ hp
   refine ⟨p, r1.eq, .inl ⟨ks, .inl hk⟩, ib.imp ρ M1 σ H1 _ _ (o.mv t1 m1) h1 fun y M2 u H2 h2 t2 m2 r2 => ic.imp ρ M2 σ H2 _ _ (o.mv (t1.trans t2) m2) h2 fun z M3 u3 H3 ⟨kvs, ky, e2, e3, h3⟩ t3 m3 r3 => ?_⟩
   subst e3
   obtain ⟨ks, hk, rr⟩ := m3 p _ e2
   refine ⟨valV ks ky, by rw [keyW_eq (r2.ts t3)]; exact DGet.k hk, k _ M3 _ H3 h3 ((t1.trans t2).trans t3) m3 ?_⟩
   rcases rr.val ky with ⟨n1, n2⟩ | ⟨x', v', n1, n2, rx⟩
   · rw [n1, n2]; exact r3
   · rw [n1, n2]; exact rx
end
end WL
namespace WL
open PySem L2
section
variable {K : PySem.W.Frag}
noncomputable def vName (i : Nat) : WG := fun x ρ M q => q (ρ.set i (some x)) M
instance {i : Nat} : IG K (gName i) (vName i) where
 imp := fun x v ρ M σ H q Q o r h k => k _ M _ H h (TSame.refl H) ⟨o.env.set i r, o.hp⟩
noncomputable def vNil : WGs := fun xs ρ M q => xs = [] /\ q ρ M
noncomputable def vCons (a : WG) (b : WGs) : WGs := fun xs ρ M q => ∃ x r, xs = x :: r /\ a x ρ M fun ρ' M' => b r ρ' M' q
instance : IGs K gNil vNil where
 imp := fun x v ρ M σ H q Q o r h k => by
   obtain ⟨rfl, h⟩ := h
   exact ⟨by simpa only [WRs] using r, k _ M _ H h (TSame.refl H) o⟩
instance {t : TG} {u : TGs} {a : WG} {b : WGs} [ia : IG K t a] [ib : IGs K u b] : IGs K (gCons t u) (vCons a b) where
 imp := fun x v ρ M σ H q Q o r h k => by
   obtain ⟨y, rest, rfl, h⟩ := h
   simp only [WRs] at r
   obtain ⟨v1, t1, rfl, r1, r2⟩ := r
   exact ⟨v1, t1, rfl, ia.imp y v1 ρ M σ H _ _ o r1 h fun ρ' M' σ' H' h' ts o' => ib.imp rest t1 ρ' M' σ' H' _ _ o' (r2.ts ts) h' fun ρ2 M2 σ2 H2 h2 ts2 o2 => k ρ2 M2 σ2 H2 h2 (ts.trans ts2) o2⟩
noncomputable def vTup (n : Nat) (a : WGs) : WG := fun x ρ M q => ∃ l, x = .tup l /\ l.length = n /\ a l ρ M q
instance {n : Nat} {t : TGs} {a : WGs} [ia : IGs K t a] : IG K (gTup K n t) (vTup n a) where
 imp := fun x v ρ M σ H q Q o r h k => by
   obtain ⟨l, rfl, hl, h⟩ := h
   obtain ⟨a', vs, rfl, hv, rr⟩ := r.tup
   exact ⟨a', vs, rfl, hv, by rw [rr.length]; exact hl, ia.imp l vs ρ M σ H _ _ o rr h k⟩
noncomputable abbrev WSet := W -> W -> W -> Mp -> (Mp -> Prop) -> Prop
class ISet (K : PySem.W.Frag) (t : TSet) (w : outParam WSet) : Prop where
 imp : ∀ (x y z : W) (v u r : V) (M : Mp) (H : Hp) (q : Mp -> Prop) (Q : Hp -> Prop), MOk K M H -> WR K H x v -> WR K H y u -> WR K H z r -> w x y z M q -> (∀ M' H', q M' -> TSame H H' -> MOk K M' H' -> Q H') -> t v u r H Q
noncomputable def wSetL : WSet := fun x y z M q => ∃ a l k j, x = wr a /\ y = wi k /\ M a = some (.lst l) /\ ixN l.length k = some j /\ q (um M a (.lst (l.set j z)))
instance : ISet K rSetL wSetL where
 imp := by
   rintro x y z v u r M H q Q m r1 r2 r3 ⟨a, l, i, j, rfl, rfl, hl, e, h⟩ k
   obtain ⟨vs, hv, rr⟩ := m a _ hl
   exact ⟨a, vs, i, j, r1.eq, r2.eq, hv, by rw [rr.length]; exact e, k _ _ h (ts_lst hv) (m.putL hv (rr.set j r3))⟩
noncomputable def vSub (a b : WE) (s : WSet) : WG := fun x ρ M q => a ρ M fun o M1 => b ρ M1 fun i M2 => s o i x M2 fun M3 => q ρ M3
instance {t u : TE} {s : TSet} {a b : WE} {w : WSet} [ia : IE K t a] [ib : IE K u b] [is : ISet K s w] : IG K (gSub t u s) (vSub a b w) where
 imp := fun x v ρ M σ H q Q o r h k => ia.imp ρ M σ H _ _ o h fun y M1 v1 H1 h1 t1 m1 r1 => ib.imp ρ M1 σ H1 _ _ (o.mv t1 m1) h1 fun z M2 v2 H2 h2 t2 m2 r2 =>
   is.imp y z x v1 v2 v M2 H2 _ _ m2 (r1.ts t2) r2 (r.ts (t1.trans t2)) h2 fun M3 H3 h3 t3 m3 => k ρ M3 σ H3 h3 ((t1.trans t2).trans t3) (o.mv ((t1.trans t2).trans t3) m3)
noncomputable def sNext : WS := fun D ρ M => D.nx ρ M
instance : IS K tNext sNext where
 imp := fun ρ M σ H D' D o h e => e.nx ρ M σ H h (TSame.refl H) o
noncomputable def sSeq (a b : WS) : WS := fun D ρ M => a { D with nx := b D } ρ M
instance {t u : TS} {a b : WS} [ia : IS K t a] [ib : IS K u b] : IS K (tSeq t u) (sSeq a b) where
 imp := fun ρ M σ H D' D o h e => ia.imp ρ M σ H _ _ o h ⟨fun ρ' M' σ' H' h' ts o' => ib.imp ρ' M' σ' H' D' D o' h' (e.mv ts), e.rt, e.bk, e.ct⟩
noncomputable def sBreak : WS := fun D ρ M => D.bk ρ M
noncomputable def sCont : WS := fun D ρ M => D.ct ρ M
noncomputable def sDrop (a : WE) : WS := fun D ρ M => a ρ M fun _ M1 => D.nx ρ M1
instance {t : TE} {a : WE} [ia : IE K t a] : IS K (tDrop t) (sDrop a) where
 imp := fun ρ M σ H D' D o h e => ia.imp ρ M σ H _ _ o h fun x M1 v H1 h1 t1 m1 r1 => e.nx ρ M1 σ H1 h1 t1 (o.mv t1 m1)
noncomputable def sRet (a : WE) : WS := fun D ρ M => a ρ M D.rt
instance {t : TE} {a : WE} [ia : IE K t a] : IS K (tRet t) (sRet a) where
 imp := fun ρ M σ H D' D o h e => ia.imp ρ M σ H _ _ o h fun x M1 v H1 h1 t1 m1 r1 => e.rt x M1 v H1 h1 t1 m1 r1
noncomputable def sRetN : WS := fun D _ M => D.rt wn M
noncomputable def sIf (c : WT) (a b : WS) : WS := fun D ρ M => c ρ M fun k M1 => if k = true then a D ρ M1 else b D ρ M1
instance {tc : TT} {t u : TS} {c : WT} {a b : WS} [ic : IT K tc c] [ia : IS K t a] [ib : IS K u b] : IS K (tIfS tc t u) (sIf c a b) where
 imp := fun ρ M σ H D' D o h e => ic.imp ρ M σ H _ _ o h fun k M1 H1 h1 t1 m1 => by
   cases k with
   | true => simp only [if_true] at h1 ⊢; exact ia.imp ρ M1 σ H1 D' D (o.mv t1 m1) h1 (e.mv t1)
   | false => simp only [Bool.false_eq_true, if_false] at h1 ⊢; exact ib.imp ρ M1 σ H1 D' D (o.mv t1 m1) h1 (e.mv t1)
noncomputable def sAsg (a : WE) (g : WG) : WS := fun D ρ M => a ρ M fun x M1 => g x ρ M1 D.nx
instance {t : TE} {g : TG} {a : WE} {w : WG} [ia : IE K t a] [ig : IG K g w] : IS K (tAsg t g) (sAsg a w) where
 imp := fun ρ M σ H D' D o h e => ia.imp ρ M σ H _ _ o h fun x M1 v H1 h1 t1 m1 r1 => ig.imp x v ρ M1 σ H1 _ _ (o.mv t1 m1) r1 h1 fun ρ2 M2 σ2 H2 h2 t2 o2 => e.nx ρ2 M2 σ2 H2 h2 (t1.trans t2) o2
noncomputable def sPar (i j : Nat) (a : WA) : WS := fun D ρ M => a ρ M fun xs M1 => ∃ x y, xs = [x, y] /\ D.nx ((ρ.set i (some x)).set j (some y)) M1
noncomputable def sAug (i : Nat) (a : WE) (r : WR2) : WS := fun D ρ M => wVar i ρ M fun x M => a ρ M fun y M1 => r x y M1 fun z M2 => D.nx (ρ.set i (some z)) M2
noncomputable def sAugS (a b c : WE) (g : WR2) (r : WR2) (s : WSet) : WS := fun D ρ M => a ρ M fun o M1 => b ρ M1 fun i M2 => g o i M2 fun x M3 => c ρ M3 fun y M4 => r x y M4 fun z M5 => s o i z M5 fun M6 => D.nx ρ M6
noncomputable def sDPutW (a b c : WE) : WS := fun D ρ M => c ρ M fun z M1 => a ρ M1 fun x M2 => b ρ M2 fun y M3 => ∃ p kvs k, x = wr p /\ M3 p = some (.dK kvs) /\ y = keyW k /\ kvs.length < sizeLine /\ D.nx ρ (um M3 p (.dK (putW kvs k z)))
instance {t u s : TE} {a b c : WE} [ia : IE K t a] [ib : IE K u b] [ic : IE K s c] : IS K (sDPut t u s) (sDPutW a b c) where
 imp := fun ρ M σ H D' D o h e => ic.imp ρ M σ H _ _ o h fun z M1 v1 H1 h1 t1 m1 r1 => ia.imp ρ M1 σ H1 _ _ (o.mv t1 m1) h1 fun x M2 v2 H2 h2 t2 m2 r2 =>
   ib.imp ρ M2 σ H2 _ _ (o.mv (t1.trans t2) m2) h2 fun y M3 v3 H3 ⟨p, kvs, k, e1, e2, e3, hl, h3⟩ t3 m3 r3 => by
     subst e1 e3
     obtain ⟨ks, hk, rr⟩ := m3 p _ e2
     have ts := ts_dK (u := .dK (putK ks k v1)) hk
     refine ⟨p, _, r2.eq, ?_, e.nx ρ _ σ (upd H3 p (.dK (putK ks k v1))) h3 (((t1.trans t2).trans t3).trans ts) (o.mv (((t1.trans t2).trans t3).trans ts) (m3.putD hk (KR.put (r1.ts (t2.trans t3)) rr)))⟩
     rw [keyW_eq r3]
     exact DPut.k hk (by rw [rr.length]; exact hl)
noncomputable def ItOk (K : PySem.W.Frag) (H1 : Hp) (J : It) (xs : List W) (keep : Mp -> Prop) : Prop :=
 ∀ i M H, TSame H1 H -> MOk K M H -> keep M -> (xs.length = i -> J.stop i H) /\ (i < xs.length -> J.go i H) /\ ∀ v H', i < xs.length -> J.yld i H v H' -> TSame H H' /\ MOk K M H' /\ ∃ x, xs[i]? = some x /\ WR K H' x v
class II (K : PySem.W.Frag) (t : TI) (w : outParam WI) : Prop where
 imp : ∀ (ρ : WSt) (M : Mp) (σ : St) (H : Hp) (q : List W -> (Mp -> Prop) -> Mp -> Prop) (R : It -> Hp -> Prop), Ok K ρ M σ H -> w ρ M q -> (∀ xs keep J M' H', q xs keep M' -> TSame H H' -> MOk K M' H' -> ItOk K H' J xs keep -> R J H') -> t σ H R
noncomputable def jList (a : WE) : WI := fun ρ M q => a ρ M fun x M1 => ∃ p l, x = wr p /\ M1 p = some (.lst l) /\ q l (fun M' => M' p = some (.lst l)) M1
noncomputable def jTup (a : WE) : WI := fun ρ M q => a ρ M fun x M1 => ∃ l, x = .tup l /\ q l (fun _ => True) M1
noncomputable def rangeW (lo : Int) (n : Nat) : List W := (List.range n).map fun (k : Nat) => wi (lo + (k : Int))
noncomputable def jRng1 (a : WA) : WI := fun ρ M q => a ρ M fun xs M1 => ∃ j : Int, xs = [wi j] /\ -(2 ^ 62) <= j /\ j < 2 ^ 62 /\ q (rangeW 0 j.toNat) (fun _ => True) M1
theorem itok_list {H1 : Hp} {p : Addr} {l : List W} : ItOk K H1 (Itl K p) l (fun M' => M' p = some (.lst l)) := by
 intro i M H ts m hk
 obtain ⟨vs, hv, rr⟩ := m p _ hk
 have hl := rr.length
 refine ⟨fun h => ⟨vs, SqL.of hv, by lia⟩, fun h => ⟨vs, vs[i]'(by lia), SqL.of hv, by simp⟩, fun v H' hi y => ?_⟩
 obtain ⟨rfl, y⟩ := y
 have := y vs (SqL.of hv)
 obtain ⟨d, hd, r⟩ := rr.back this
 exact ⟨TSame.refl _, m, d, hd, r⟩
theorem itok_tup {H1 : Hp} {p : Addr} {l : List W} {vs : List V} (hv : SqT K H1 p vs) (rr : WRs K H1 l vs) : ItOk K H1 (Itt K p) l (fun _ => True) := by
 intro i M H ts m _
 have hv' := Un.sqT ts hv
 have rr' := rr.ts ts
 have hl := rr'.length
 refine ⟨fun h => ⟨vs, hv', by lia⟩, fun h => ⟨vs, vs[i]'(by lia), hv', by simp⟩, fun v H' hi y => ?_⟩
 obtain ⟨rfl, y⟩ := y
 have := y vs hv'
 obtain ⟨d, hd, r⟩ := rr'.back this
 exact ⟨TSame.refl _, m, d, hd, r⟩
theorem itok_rng {H1 : Hp} {lo : Int} {n : Nat} : ItOk K H1 (Itr lo n) (rangeW lo n) (fun _ => True) := by
 intro i M H ts m _
 have hl : (rangeW lo n).length = n := by simp [rangeW]
 rw [hl]
 refine ⟨fun h => Nat.le_of_eq h, fun h => h, fun v H' hi y => ?_⟩
 obtain ⟨rfl, y⟩ := y
 refine ⟨TSame.refl _, m, wi (lo + i), ?_, by rw [y]; exact WR.v⟩
 simp [rangeW, hi]
instance {t : TE} {a : WE} [ia : IE K t a] : II K (iList K t) (jList a) where
 imp := fun ρ M σ H q R o h k => ia.imp ρ M σ H _ _ o h fun x M1 v H1 ⟨p, l, e, hp, h1⟩ t1 m1 r1 => by
   subst e
   obtain ⟨vs, hv, rr⟩ := m1 p _ hp
   exact ⟨p, r1.eq, ⟨vs, SqL.of hv⟩, k l _ _ M1 H1 h1 t1 m1 itok_list⟩
instance {t : TE} {a : WE} [ia : IE K t a] : II K (iTup K t) (jTup a) where
 imp := fun ρ M σ H q R o h k => ia.imp ρ M σ H _ _ o h fun x M1 v H1 ⟨l, e, h1⟩ t1 m1 r1 => by
   subst e
   obtain ⟨p, vs, rfl, hv, rr⟩ := r1.tup
   exact ⟨p, rfl, ⟨vs, hv⟩, k l _ _ M1 H1 h1 t1 m1 (itok_tup hv rr)⟩
instance {t : TA} {a : WA} [ia : IA K t a] : II K (iRng1 t) (jRng1 a) where
 imp := fun ρ M σ H q R o h k => ia.imp ρ M σ H _ _ o h fun xs M1 v H1 ⟨j, e, h0, h1, h2⟩ t1 m1 r1 => by
   subst e
   obtain ⟨v, rfl, r⟩ := r1.one
   cases r.eq
   exact ⟨j, rfl, h0, h1, k _ _ _ M1 H1 h2 t1 m1 itok_rng⟩
noncomputable def sFor (it : WI) (g : WG) (b : WS) : WS := fun D ρ M => it ρ M fun xs keep M1 => ∃ I : Nat -> WSt -> Mp -> Prop, I 0 ρ M1 /\ (∀ i ρ M, i <= xs.length -> I i ρ M -> keep M) /\
 (∀ i x ρ M, xs[i]? = some x -> I i ρ M -> g x ρ M fun ρ2 M2 => b { D with nx := I (i + 1), ct := I (i + 1), bk := D.nx } ρ2 M2) /\ ∀ ρ M, I xs.length ρ M -> D.nx ρ M
instance {ti : TI} {g : TG} {t : TS} {it : WI} {w : WG} {b : WS} [ii : II K ti it] [ig : IG K g w] [ib : IS K t b] : IS K (tFor ti g t) (sFor it w b) where
 imp := fun ρ M σ H D' D o h e => ii.imp ρ M σ H _ _ o h fun xs keep J M1 H1 h1 t1 m1 ok => by
   obtain ⟨I, h0, hk, hs, hd⟩ := h1
   refine ⟨fun i m σ' H' => m = xs.length - i /\ i <= xs.length /\ ∃ ρ' M', I i ρ' M' /\ TSame H1 H' /\ Ok K ρ' M' σ' H', ⟨_, rfl, Nat.zero_le _, ρ, M1, h0, TSame.refl _, o.mv t1 m1⟩, ?_⟩
   rintro i m σ' H' ⟨rfl, hi, ρ', M', hI, ts, o'⟩
   obtain ⟨k1, k2, k3⟩ := ok i M' H' ts o'.hp (hk i ρ' M' hi hI)
   by_cases hlt : i < xs.length
   · refine .inr ⟨k2 hlt, fun σ2 H2 => ∃ ρ2 M2, I (i + 1) ρ2 M2 /\ TSame H1 H2 /\ Ok K ρ2 M2 σ2 H2, fun σ2 H2 z => z.elim fun ρ2 z => z.elim fun M2 z => z.elim fun a z => z.elim fun b c => ⟨xs.length - (i + 1), by lia, rfl, hlt, ρ2, M2, a, b, c⟩, fun v H2 y => ?_⟩
     obtain ⟨ty, my, x, hx, r⟩ := k3 v H2 hlt y
     replace ts := ts.trans ty
     refine ig.imp x v ρ' M' σ' H2 _ _ (o'.mv ty my) r (hs i x ρ' M' hx hI) fun ρ3 M3 σ3 H3 h3 t3 o3 => ib.imp ρ3 M3 σ3 H3 _ _ o3 h3 ⟨fun a b c d h t o => ⟨a, b, h, (ts.trans t3).trans t, o⟩, fun a b c d h t => e.rt a b c d h (t1.trans ((ts.trans t3).trans t)), fun a b c d h t => e.nx a b c d h (t1.trans ((ts.trans t3).trans t)), fun a b c d h t o => ⟨a, b, h, (ts.trans t3).trans t, o⟩⟩
   · have e' : i = xs.length := by lia
     subst e'
     exact .inl ⟨k1 rfl, e.nx ρ' M' σ' H' (hd ρ' M' hI) (t1.trans ts) o'⟩
noncomputable def sWhile (c : WT) (b : WS) : WS := fun D ρ M => ∃ I : Nat -> WSt -> Mp -> Prop, (∃ m, I m ρ M) /\ ∀ m ρ M, I m ρ M ->
 c ρ M fun k M1 => if k = true then b { D with nx := fun ρ' M' => ∃ m', m' < m /\ I m' ρ' M', ct := fun ρ' M' => ∃ m', m' < m /\ I m' ρ' M', bk := D.nx } ρ M1 else D.nx ρ M1
noncomputable def capρ (own : Nat) (fr : List Nat) (ρ : WSt) : WSt := List.replicate own none ++ fr.map fun j => (ρ[j]?).join
theorem WSR.cap {H : Hp} {ρ : WSt} {σ : St} (own : Nat) (fr : List Nat) (h : WSR K H ρ σ) : WSR K H (capρ own fr ρ) (capσ own fr σ) := by
 unfold capρ capσ
 refine ⟨by simp, fun i x e => ?_⟩
 by_cases hi : i < own
 · rw [List.getElem?_append_left (by simpa using hi), List.getElem?_replicate, if_pos hi] at e; cases e
 · rw [List.getElem?_append_right (by simpa using hi), List.length_replicate, List.getElem?_map] at e
   rw [List.getElem?_append_right (by simpa using hi), List.length_replicate, List.getElem?_map]
   cases ej : fr[i - own]? with
   | none => rw [ej] at e; cases e
   | some j =>
     rw [ej] at e
     simp only [Option.map_some, Option.some.injEq] at e ⊢
     cases er : ρ[j]? with
     | none => rw [er] at e; cases e
     | some z =>
       rw [er] at e
       simp only [Option.join_some] at e
       subst e
       obtain ⟨v, ev, r⟩ := h.2 j x er
       exact ⟨v, by rw [ev]; rfl, r⟩
noncomputable def wComp (it : WI) (own : Nat) (fr : List Nat) (g : WG) (c : WT) (el : WE) : WE := fun ρ M q => it ρ M fun xs keep M1 => xs.length <= sizeLine /\ ∀ p, M1 p = none -> ∃ I : Nat -> List W -> Mp -> Prop, I 0 [] (um M1 p (.lst [])) /\
 (∀ i ys M, i <= xs.length -> I i ys M -> keep M /\ M p = some (.lst ys) /\ ys.length <= i) /\
 (∀ i x ys M, xs[i]? = some x -> I i ys M -> g x (capρ own fr ρ) M fun ρ2 M2 => c ρ2 M2 fun b M3 => if b = true then el ρ2 M3 fun y M4 => M4 p = some (.lst ys) /\ I (i + 1) (ys ++ [y]) (um M4 p (.lst (ys ++ [y]))) else I (i + 1) ys M3) /\
 ∀ ys M, I xs.length ys M -> q (wr p) M
instance {ti : TI} {own : Nat} {fr : List Nat} {g : TG} {tc : TT} {te : TE} {it : WI} {w : WG} {c : WT} {el : WE} [ii : II K ti it] [ig : IG K g w] [ic : IT K tc c] [ie : IE K te el] : IE K (tComp ti own fr g tc te) (wComp it own fr w c el) where
 imp := fun ρ M σ H q Q o h k => ii.imp ρ M σ H _ _ o h fun xs keep J M1 H1 h1 t1 m1 ok => by
   intro p hp
   obtain ⟨hz, h1⟩ := h1
   obtain ⟨I, h0, hk, hs, hd⟩ := h1 p (m1.fresh hp)
   have tp := L2.Same.ts (same_upd (o := .lst []) hp)
   refine ⟨fun i m vs H' => m = xs.length - i /\ i <= xs.length /\ ∃ ys M', I i ys M' /\ TSame H1 H' /\ MOk K M' H' /\ WRs K H' ys vs /\ H' p = some (.lst vs), ⟨_, rfl, Nat.zero_le _, [], _, h0, tp, m1.newL hp WRs.nil, WRs.nil, upd_same⟩, ?_⟩
   rintro i m vs H' ⟨rfl, hi, ys, M', hI, ts, m', rv, hv⟩
   refine ⟨hv, ?_⟩
   obtain ⟨kp, hMp, hyl⟩ := hk i ys M' hi hI
   obtain ⟨k1, k2, k3⟩ := ok i M' H' ts m' kp
   by_cases hlt : i < xs.length
   · refine .inr ⟨k2 hlt, by rw [rv.length]; lia, fun v H2 y => ?_⟩
     obtain ⟨ty, my, x, hx, r⟩ := k3 v H2 hlt y
     replace ts := ts.trans ty
     have oc : Ok K (capρ own fr ρ) M' (capσ own fr σ) H2 := ⟨(o.env.ts (t1.trans ts)).cap own fr, my⟩
     refine ig.imp x v _ M' _ H2 _ _ oc r (hs i x ys M' hx hI) fun ρ3 M3 σ3 H3 h3 t3 o3 => ic.imp ρ3 M3 σ3 H3 _ _ o3 h3 fun b M4 H4 h4 t4 m4 => ?_
     cases b with
     | true =>
       simp only [if_true] at h4 ⊢
       refine ie.imp ρ3 M4 σ3 H4 _ _ (o3.mv t4 m4) h4 fun z M5 u H5 ⟨h5, h6⟩ t5 m5 r5 => ?_
       obtain ⟨vs5, hv5, rr5⟩ := m5 p _ h5
       have t345 := (t3.trans t4).trans t5
       have t6 := ts_lst (u := .lst (vs5 ++ [u])) hv5
       exact ⟨vs5, hv5, by rw [rr5.length]; lia, _, by lia, rfl, hlt, _, _, h6, (ts.trans t345).trans t6, m5.putL hv5 (rr5.snoc r5), (rr5.snoc r5).ts t6, upd_same⟩
     | false =>
       simp only [Bool.false_eq_true, if_false] at h4 ⊢
       obtain ⟨vs5, hv5, rr5⟩ := m4 p _ (hk (i + 1) ys M4 hlt h4).2.1
       exact ⟨vs5, _, by lia, rfl, hlt, _, _, h4, ts.trans (t3.trans t4), m4, rr5, hv5⟩
   · have e' : i = xs.length := by lia
     subst e'
     exact .inl ⟨k1 rfl, k _ M' _ H' (hd ys M' hI) (t1.trans ts) m' WR.v⟩
noncomputable def wYes : WT := fun _ M q => q true M
instance : IT K tYes wYes where
 imp := fun ρ M σ H q Q o h k => k _ M H h (TSame.refl H) o.hp
end
end WL
namespace WL
open PySem L2
section
variable {K : PySem.W.Frag}
theorem MOk.sub {M M' : Mp} {H : Hp} (s : Sm M M') (m : MOk K M' H) : MOk K M H := fun a o e => m a o (s a o e)
theorem okS {P : Program} {w : World} {mg : Str -> Option Value} {base : Heap} {x qual : Str} {st : Stmt} {f : Addr} {fd : FuncData} {N ps : List Str} {k : Nat} {p : WSp} (F : Fun K x qual st f fd) (S : FnScope N ps (defScope st)) (len : ∀ vs M q, p vs M q -> vs.length = ps.length)
   (hbody : ∀ (cdv : Value) (A : Around) (outer : List Env) (s : Shared) (H : Hp) (E : XK), Room k (A.deeper (PyProof.Rows.envOfC qual (defScope st) s.heap.objs.size f cdv)) ->
     ∃ t, PSs (cxOf CX0 P w K mg base N qual (defScope st) f cdv A outer s H E).nox (defBody st) t /\ ∃ w', IS K t w' /\ ∀ vs M q, p vs M q -> w' { nx := fun _ M' => ∃ M0, Sm M0 M' /\ q wn M0, rt := fun x M' => ∃ M0, Sm M0 M' /\ q x M0 } (vs.map some ++ List.replicate (N.length - vs.length) none) M) :
   FnOk P w K mg base CX0 (k + 1) f fd ps (spW K p) := by
 have h := okW (K := K) (P := P) (w := w) (mg := mg) (base := base) (k := k) (p := fun vs M q => ∃ q', p vs M q' /\ q = fun x M' => ∃ M0, Sm M0 M' /\ q' x M0) F S (fun vs M q ⟨q', h, _⟩ => len vs M q' h) fun cdv A outer s H E hr => by
   obtain ⟨t, h1, w', h2, h3⟩ := hbody cdv A outer s H E hr
   refine ⟨t, w', h1, h2, ?_⟩
   rintro vs M q ⟨q', h, rfl⟩
   exact h3 vs M q' h
 refine h.imp fun vs H Q E ⟨xs, M, q, r, m, hp, hk⟩ => ⟨xs, M, _, r, m, ⟨q, hp, rfl⟩, ?_⟩
 rintro x M' v H' ⟨M0, s, hq⟩ ts m' r'
 exact hk x M0 v H' hq ts (m'.sub s) r'
theorem comp_pure {xs : List W} {keep : Mp -> Prop} {M1 : Mp} {own : Nat} {fr : List Nat} {ρ : WSt} {g : WG} {c : WT} {el : WE} {q : WK} (f : W -> Option W) (hz : xs.length <= sizeLine) (hkeep : ∀ M, Sm M1 M -> keep M)
   (hs : ∀ (i : Nat) x, xs[i]? = some x -> ∀ (M : Mp) (N : Option W -> Mp -> Prop), Sm M1 M -> N (f x) M -> g x (capρ own fr ρ) M fun ρ2 M2 => c ρ2 M2 fun b M3 => if b = true then el ρ2 M3 fun y M4 => N (some y) M4 else N none M3)
   (hq : ∀ p, M1 p = none -> q (wr p) (um M1 p (.lst (xs.filterMap f)))) :
   xs.length <= sizeLine /\ ∀ p, M1 p = none -> ∃ I : Nat -> List W -> Mp -> Prop, I 0 [] (um M1 p (.lst [])) /\
 (∀ i ys M, i <= xs.length -> I i ys M -> keep M /\ M p = some (.lst ys) /\ ys.length <= i) /\
 (∀ i x ys M, xs[i]? = some x -> I i ys M -> g x (capρ own fr ρ) M fun ρ2 M2 => c ρ2 M2 fun b M3 => if b = true then el ρ2 M3 fun y M4 => M4 p = some (.lst ys) /\ I (i + 1) (ys ++ [y]) (um M4 p (.lst (ys ++ [y]))) else I (i + 1) ys M3) /\
 ∀ ys M, I xs.length ys M -> q (wr p) M := by
 refine ⟨hz, fun p hp => ⟨fun i ys M => M = um M1 p (.lst ys) /\ ys = (xs.take i).filterMap f, ⟨rfl, by simp⟩, ?_, ?_, ?_⟩⟩
 · rintro i ys M hi ⟨rfl, rfl⟩
   refine ⟨hkeep _ (sm_um hp), um_same, Nat.le_trans (List.length_filterMap_le _ _) ?_⟩
   rw [List.length_take]; lia
 · rintro i x ys M hx ⟨rfl, rfl⟩
   refine hs i x hx _ (fun o M4 => match o with
     | some y => M4 p = some (.lst ((xs.take i).filterMap f)) /\ (um M4 p (.lst ((xs.take i).filterMap f ++ [y])) = um M1 p (.lst ((xs.take i).filterMap f ++ [y])) /\ (xs.take i).filterMap f ++ [y] = (xs.take (i + 1)).filterMap f)
     | none => M4 = um M1 p (.lst ((xs.take i).filterMap f)) /\ (xs.take i).filterMap f = (xs.take (i + 1)).filterMap f) (sm_um hp) ?_
   have e : xs.take (i + 1) = xs.take i ++ [x] := by rw [List.take_add_one, hx]; rfl
   cases hf : f x with
   | none => exact ⟨rfl, by rw [e, List.filterMap_append]; simp [hf]⟩
   | some y => exact ⟨um_same, um_um, by rw [e, List.filterMap_append]; simp [hf]⟩
 · rintro ys M ⟨rfl, rfl⟩
   rw [List.take_length]
   exact hq p hp
mutual
noncomputable def dOf : W -> Option Dt
 | .v .non => some .non
 | .v (.bl b) => some (.bl b)
 | .v (.int i) => some (.int i)
 | .v (.str x) => some (.str x)
 | .v _ => none
 | .tup l => (dOfs l).map .tup
noncomputable def dOfs : List W -> Option (List Dt)
 | [] => some []
 | x :: r => match dOf x, dOfs r with
   | some d, some l => some (d :: l)
   | _, _ => none
end
mutual
theorem rep_of {H : Hp} : ∀ (x : W) (d : Dt) (v : V), dOf x = some d -> WR K H x v -> Rep K H d v
 | .v y, d, v, e, r => by
   cases r.eq
   cases y <;> simp only [dOf, Option.some.injEq, reduceCtorEq] at e <;> subst e <;> simp only [Rep]
 | .tup l, d, v, e, r => by
   obtain ⟨a, vs, rfl, hv, rr⟩ := r.tup
   simp only [dOf] at e
   cases hd : dOfs l with
   | none => rw [hd] at e; cases e
   | some ds =>
     rw [hd] at e; cases e
     simp only [Rep]
     exact ⟨a, vs, rfl, hv, reps_of l ds vs hd rr⟩
theorem reps_of {H : Hp} : ∀ (l : List W) (ds : List Dt) (vs : List V), dOfs l = some ds -> WRs K H l vs -> Reps K H ds vs
 | [], ds, vs, e, r => by simp only [dOfs] at e; cases e; simp only [WRs] at r; simp only [Reps]; exact r
 | x :: l, ds, vs, e, r => by
   simp only [dOfs] at e
   cases hx : dOf x with
   | none => rw [hx] at e; cases e
   | some d =>
     cases hl : dOfs l with
     | none => rw [hx, hl] at e; cases e
     | some ds' =>
       rw [hx, hl] at e; cases e
       simp only [WRs] at r
       obtain ⟨v, t, rfl, r1, r2⟩ := r
       simp only [Reps]
       exact ⟨v, t, rfl, rep_of x d v hx r1, reps_of l ds' t hl r2⟩
end
noncomputable def DR (M : Mp) (x : W) (d : Dt) : Prop := dOf x = some d \/ ∃ a l ds, x = wr a /\ M a = some (.lst l) /\ dOfs l = some ds /\ d = .lst ds
theorem DR.rep {M : Mp} {H : Hp} {x : W} {d : Dt} {v : V} (m : MOk K M H) (r : WR K H x v) (h : DR M x d) : Rep K H d v := by
 rcases h with h | ⟨a, l, ds, rfl, hl, e, rfl⟩
 · exact rep_of x d v h r
 · cases r.eq
   obtain ⟨vs, hv, rr⟩ := m a _ hl
   simp only [Rep]
   exact ⟨a, vs, rfl, SqL.of hv, reps_of l ds vs e rr⟩
noncomputable def wEqD : WR2 := fun x y M q => ∃ d e, DR M x d /\ DR M y e /\ sameSeq d e = true /\ dpt d <= 50 /\ q (wb (eqD d e)) M
noncomputable def wNeD : WR2 := fun x y M q => ∃ d e, DR M x d /\ DR M y e /\ sameSeq d e = true /\ dpt d <= 50 /\ q (wb (!eqD d e)) M
instance : IR K (rEqD K) wEqD where
 imp := by
   rintro x y v u M H q Q m r1 r2 ⟨d, e, h1, h2, h3, h4, h⟩ k
   exact ⟨d, e, h3, h4, h1.rep m r1, h2.rep m r2, k _ M _ H h (TSame.refl H) m WR.v⟩
instance : IR K (rNeD K) wNeD where
 imp := by
   rintro x y v u M H q Q m r1 r2 ⟨d, e, h1, h2, h3, h4, h⟩ k
   exact ⟨d, e, h3, h4, h1.rep m r1, h2.rep m r2, k _ M _ H h (TSame.refl H) m WR.v⟩
instance {r r' : R2} {t u s : TE} {a b c : WE} {w w' : WR2} [ir : IR K r w] [ir' : IR K r' w'] [ia : IE K t a] [ib : IE K u b] [ic : IE K s c] : IE K (tChain r r' t u s) (wChain w w' a b c) where
 imp := fun ρ M σ H q Q o h k => ia.imp ρ M σ H _ _ o h fun x M1 v H1 h1 t1 m1 r1 => ib.imp ρ M1 σ H1 _ _ (o.mv t1 m1) h1 fun y M2 u H2 h2 t2 m2 r2 =>
   ir.imp x y v u M2 H2 _ _ m2 (r1.ts t2) r2 h2 fun z M3 v3 H3 ⟨kk, e, h3⟩ t3 m3 r3 => by
     subst e
     refine ⟨kk, r3.eq, ?_⟩
     cases kk with
     | true =>
       simp only [if_true] at h3 ⊢
       exact ic.imp ρ M3 σ H3 _ _ (o.mv ((t1.trans t2).trans t3) m3) h3 fun y4 M4 v4 H4 h4 t4 m4 r4 => ir'.imp y y4 u v4 M4 H4 _ _ m4 (r2.ts (t3.trans t4)) r4 h4 fun z5 M5 v5 H5 h5 t5 m5 r5 => k z5 M5 v5 H5 h5 ((((t1.trans t2).trans t3).trans t4).trans t5) m5 r5
     | false =>
       simp only [Bool.false_eq_true, if_false] at h3 ⊢
       exact k _ M3 _ H3 h3 ((t1.trans t2).trans t3) m3 WR.v
noncomputable def wSortedK : WCl := fun xs M q => ∃ (d : Addr) (kvs : List (Key × W)) (ks : List Int), xs = [wr d] /\ M d = some (.dK kvs) /\ kvs.map (·.1) = ks.map Sum.inl /\ ks.length <= sizeLine /\ ∀ (p : Addr) (ns : List Int), M p = none -> ns.Perm ks -> ns.Pairwise (· <= ·) -> q (wr p) (um M p (.lst (ns.map wi)))
instance : IC K rSortedK wSortedK where
 imp := by
   rintro xs v M H q Q m r1 ⟨d, kvs, ks, rfl, hd, hk, hl, h⟩ k
   obtain ⟨v, rfl, r⟩ := r1.one
   cases r.eq
   obtain ⟨vs, hv, rr⟩ := m d _ hd
   exact ⟨d, vs, ks, rfl, hv, by rw [rr.keys]; exact hk, hl, fun p ns hp h1 h2 => k _ _ _ _ (h p ns (m.fresh hp) h1 h2) (L2.Same.ts (same_upd hp)) (m.newL hp (WRs.ofInts ns)) WR.v⟩
end
end WL
namespace WL
open PySem L2
theorem atI_0 {α : Type} {a : α} {l : List α} : atI (a :: l) 0 = some a := atI_nat (j := 0) (by rfl)
theorem atI_1 {α : Type} {a b : α} {l : List α} : atI (a :: b :: l) 1 = some b := atI_nat (j := 1) (by rfl)
theorem atI_2 {α : Type} {a b c : α} {l : List α} : atI (a :: b :: c :: l) 2 = some c := atI_nat (j := 2) (by rfl)
theorem atI_3 {α : Type} {a b c d : α} {l : List α} : atI (a :: b :: c :: d :: l) 3 = some d := atI_nat (j := 3) (by rfl)
theorem ixN_1 {n : Nat} : ixN (n + 1 + 1) 1 = some 1 := by unfold ixN; rw [if_pos (by lia), if_pos (by lia)]; rfl
theorem ixN_2 {n : Nat} : ixN (n + 1 + 1 + 1) 2 = some 2 := by unfold ixN; rw [if_pos (by lia), if_pos (by lia)]; rfl
theorem ixN_3 {n : Nat} : ixN (n + 1 + 1 + 1 + 1) 3 = some 3 := by unfold ixN; rw [if_pos (by lia), if_pos (by lia)]; rfl
theorem atI_int {α : Type} {l : List α} {i : Int} {a : α} (h0 : 0 <= i) (h : l[i.toNat]? = some a) : atI l i = some a := by
 have e : ((i.toNat : Nat) : Int) = i := by lia
 rw [<- e]; exact atI_nat h
theorem exM {M : Mp} {P : Mp -> Prop} (h : P M) : ∃ M0, Sm M0 M /\ P M0 := ⟨M, Sm.refl M, h⟩
noncomputable def NB (d : Addr) (M M' : Mp) : Prop := ∀ b, b ≠ d -> M' b = M b
theorem NB.refl (d : Addr) (M : Mp) : NB d M M := fun _ _ => rfl
theorem NB.trans {d : Addr} {M M1 M2 : Mp} (a : NB d M M1) (b : NB d M1 M2) : NB d M M2 := fun c n => (b c n).trans (a c n)
theorem NB.put {d : Addr} {M : Mp} {o : MO} : NB d M (um M d o) := fun b n => um_ne n
noncomputable def Dr (M : Mp) (d l : Addr) : Prop := ∃ (ns : List Int) (i c s : Int), M d = some (.lst [wr l, wi i, wi c, wi s]) /\ M l = some (.lst (ns.map wi)) /\ 0 <= i /\ d ≠ l
theorem Dr.put {M : Mp} {d l p : Addr} {o : MO} (h : Dr M d l) (hp : M p = none) : Dr (um M p o) d l := by
 obtain ⟨ns, i, c, s, h1, h2, h3, h4⟩ := h
 exact ⟨ns, i, c, s, by rw [um_ne (m_ne h1 hp)]; exact h1, by rw [um_ne (m_ne h2 hp)]; exact h2, h3, h4⟩
theorem Dr.put' {M : Mp} {d l p : Addr} {o : MO} (h : Dr M d l) (hd : p ≠ d) (hl : p ≠ l) : Dr (um M p o) d l := by
 obtain ⟨ns, i, c, s, h1, h2, h3, h4⟩ := h
 exact ⟨ns, i, c, s, by rw [um_ne hd.symm]; exact h1, by rw [um_ne hl.symm]; exact h2, h3, h4⟩
theorem Dr.ne {M : Mp} {d l p : Addr} (h : Dr M d l) (hp : M p = none) : p ≠ d /\ p ≠ l := by
 obtain ⟨ns, i, c, s, h1, h2, h3, h4⟩ := h
 exact ⟨(m_ne h1 hp).symm, (m_ne h2 hp).symm⟩
noncomputable def pairW (q : Int × Int) : W := .tup [wi q.1, wi q.2]
noncomputable def patW (l : List (Int × Int)) : W := .tup (l.map pairW)
theorem pairs_at {l : List (Int × Int)} {i : Nat} {x : W} (h : (l.map pairW)[i]? = some x) : ∃ q, l[i]? = some q /\ x = pairW q := by
 rw [List.getElem?_map] at h
 cases e : l[i]? with
 | none => rw [e] at h; cases h
 | some q => rw [e] at h; cases h; exact ⟨q, rfl, rfl⟩
theorem ints_at' {l : List Int} {i : Nat} {x : W} (h : (l.map wi)[i]? = some x) : ∃ n, l[i]? = some n /\ x = wi n := by
 rw [List.getElem?_map] at h
 cases e : l[i]? with
 | none => rw [e] at h; cases h
 | some q => rw [e] at h; cases h; exact ⟨q, rfl, rfl⟩
theorem range_at {lo : Int} {n i : Nat} {x : W} (h : (rangeW lo n)[i]? = some x) : i < n /\ x = wi (lo + i) := by
 unfold rangeW at h
 rw [List.getElem?_map] at h
 by_cases hi : i < n
 · rw [List.getElem?_range hi] at h
   cases h
   exact ⟨hi, rfl⟩
 · rw [List.getElem?_eq_none (by simpa using hi)] at h; cases h
theorem range_len {lo : Int} {n : Nat} : (rangeW lo n).length = n := by simp [rangeW]
end WL
namespace WL
open PySem L2
noncomputable def lstK (o : Option MO) (k : List W -> Prop) : Prop := ∃ l, o = some (.lst l) /\ k l
noncomputable def dicK (o : Option MO) (k : List (Key × W) -> Prop) : Prop := ∃ l, o = some (.dK l) /\ k l
noncomputable def optK {α : Type} (o : Option α) (k : α -> Prop) : Prop := ∃ a, o = some a /\ k a
noncomputable def andK (C Q : Prop) : Prop := C /\ Q
noncomputable def iteK (b : Bool) (A B : Prop) : Prop := if b = true then A else B
noncomputable def newK (M : Mp) (k : Addr -> Prop) : Prop := ∀ p, M p = none -> k p
noncomputable def callK (p : WSp) (xs : List W) (M : Mp) (q : WK) : Prop := p xs M q
noncomputable def isB (x : W) (M : Mp) (q : Bool -> Mp -> Prop) : Prop := ∃ k, x = wb k /\ q k M
noncomputable def refK (x : W) (k : Addr -> Prop) : Prop := ∃ a, x = wr a /\ k a
noncomputable def tupK (x : W) (k : List W -> Prop) : Prop := ∃ l, x = .tup l /\ k l
noncomputable def truK (M : Mp) (x : W) (k : Bool -> Prop) : Prop := ∃ b, wTru M x b /\ k b
noncomputable def keyK (x : W) (k : Key -> Prop) : Prop := ∃ y, x = keyW y /\ k y
noncomputable def forK (xs : List W) (keep : Mp -> Prop) (g : WG) (b : WS) (D : WEnds) (ρ : WSt) (M1 : Mp) : Prop := ∃ I : Nat -> WSt -> Mp -> Prop, I 0 ρ M1 /\ (∀ i ρ M, i <= xs.length -> I i ρ M -> keep M) /\
 (∀ i x ρ M, xs[i]? = some x -> I i ρ M -> g x ρ M fun ρ2 M2 => b { D with nx := I (i + 1), ct := I (i + 1), bk := D.nx } ρ2 M2) /\ ∀ ρ M, I xs.length ρ M -> D.nx ρ M
noncomputable def compK (xs : List W) (keep : Mp -> Prop) (own : Nat) (fr : List Nat) (g : WG) (c : WT) (el : WE) (ρ : WSt) (M1 : Mp) (q : WK) : Prop := xs.length <= sizeLine /\ ∀ p, M1 p = none -> ∃ I : Nat -> List W -> Mp -> Prop, I 0 [] (um M1 p (.lst [])) /\
 (∀ i ys M, i <= xs.length -> I i ys M -> keep M /\ M p = some (.lst ys) /\ ys.length <= i) /\
 (∀ i x ys M, xs[i]? = some x -> I i ys M -> g x (capρ own fr ρ) M fun ρ2 M2 => c ρ2 M2 fun b M3 => if b = true then el ρ2 M3 fun y M4 => M4 p = some (.lst ys) /\ I (i + 1) (ys ++ [y]) (um M4 p (.lst (ys ++ [y]))) else I (i + 1) ys M3) /\
 ∀ ys M, I xs.length ys M -> q (wr p) M
noncomputable def whileK (c : WT) (b : WS) (D : WEnds) (ρ : WSt) (M : Mp) : Prop := sWhile c b D ρ M
section
variable {M : Mp} {ρ : WSt} {q : WK} {a b c : WE} {D : WEnds}
theorem lstK_e {l : List W} {k : List W -> Prop} : lstK (some (.lst l)) k = k l := by apply propext; constructor; (· rintro ⟨_, h, k⟩; cases h; exact k); (· intro h; exact ⟨_, rfl, h⟩)
theorem dicK_e {l : List (Key × W)} {k : List (Key × W) -> Prop} : dicK (some (.dK l)) k = k l := by apply propext; constructor; (· rintro ⟨_, h, k⟩; cases h; exact k); (· intro h; exact ⟨_, rfl, h⟩)
theorem optK_e {α : Type} {x : α} {k : α -> Prop} : optK (some x) k = k x := by apply propext; constructor; (· rintro ⟨_, h, k⟩; cases h; exact k); (· intro h; exact ⟨_, rfl, h⟩)
theorem andK_e {Q : Prop} : andK True Q = Q := by simp [andK]
theorem iteK_t {A B : Prop} : iteK true A B = A := by simp [iteK]
theorem iteK_f {A B : Prop} : iteK false A B = B := by simp [iteK]
theorem isB_e {k : Bool} {q : Bool -> Mp -> Prop} : isB (.v (.bl k)) M q = q k M := by apply propext; constructor; (· rintro ⟨_, h, k⟩; cases h; exact k); (· intro h; exact ⟨_, rfl, h⟩)
theorem refK_e {x : Addr} {k : Addr -> Prop} : refK (.v (.ref x)) k = k x := by apply propext; constructor; (· rintro ⟨_, h, k⟩; cases h; exact k); (· intro h; exact ⟨_, rfl, h⟩)
theorem tupK_e {x : List W} {k : List W -> Prop} : tupK (.tup x) k = k x := by apply propext; constructor; (· rintro ⟨_, h, k⟩; cases h; exact k); (· intro h; exact ⟨_, rfl, h⟩)
theorem keyK_i {i : Int} {k : Key -> Prop} : keyK (.v (.int i)) k = k (.inl i) := by apply propext; constructor; (· rintro ⟨y, h, z⟩; cases y <;> cases h; exact z); (· intro h; exact ⟨.inl i, rfl, h⟩)
theorem wVar_0 {x : W} {r : WSt} : wVar 0 (some x :: r) M q = q x M := rfl
theorem wVar_1 {x0 : Option W} {x : W} {r : WSt} : wVar 1 (x0 :: some x :: r) M q = q x M := rfl
theorem wVar_2 {x0 x1 : Option W} {x : W} {r : WSt} : wVar 2 (x0 :: x1 :: some x :: r) M q = q x M := rfl
theorem wVar_3 {x0 x1 x2 : Option W} {x : W} {r : WSt} : wVar 3 (x0 :: x1 :: x2 :: some x :: r) M q = q x M := rfl
theorem wVar_4 {x0 x1 x2 x3 : Option W} {x : W} {r : WSt} : wVar 4 (x0 :: x1 :: x2 :: x3 :: some x :: r) M q = q x M := rfl
theorem wVar_5 {x0 x1 x2 x3 x4 : Option W} {x : W} {r : WSt} : wVar 5 (x0 :: x1 :: x2 :: x3 :: x4 :: some x :: r) M q = q x M := rfl
theorem wVar_6 {x0 x1 x2 x3 x4 x5 : Option W} {x : W} {r : WSt} : wVar 6 (x0 :: x1 :: x2 :: x3 :: x4 :: x5 :: some x :: r) M q = q x M := rfl
theorem wVar_7 {x0 x1 x2 x3 x4 x5 x6 : Option W} {x : W} {r : WSt} : wVar 7 (x0 :: x1 :: x2 :: x3 :: x4 :: x5 :: x6 :: some x :: r) M q = q x M := rfl
theorem wVar_8 {x0 x1 x2 x3 x4 x5 x6 x7 : Option W} {x : W} {r : WSt} : wVar 8 (x0 :: x1 :: x2 :: x3 :: x4 :: x5 :: x6 :: x7 :: some x :: r) M q = q x M := rfl
theorem wVar_9 {x0 x1 x2 x3 x4 x5 x6 x7 x8 : Option W} {x : W} {r : WSt} : wVar 9 (x0 :: x1 :: x2 :: x3 :: x4 :: x5 :: x6 :: x7 :: x8 :: some x :: r) M q = q x M := rfl
theorem wVar_10 {x0 x1 x2 x3 x4 x5 x6 x7 x8 x9 : Option W} {x : W} {r : WSt} : wVar 10 (x0 :: x1 :: x2 :: x3 :: x4 :: x5 :: x6 :: x7 :: x8 :: x9 :: some x :: r) M q = q x M := rfl
theorem wVar_11 {x0 x1 x2 x3 x4 x5 x6 x7 x8 x9 x10 : Option W} {x : W} {r : WSt} : wVar 11 (x0 :: x1 :: x2 :: x3 :: x4 :: x5 :: x6 :: x7 :: x8 :: x9 :: x10 :: some x :: r) M q = q x M := rfl
theorem wVar_12 {x0 x1 x2 x3 x4 x5 x6 x7 x8 x9 x10 x11 : Option W} {x : W} {r : WSt} : wVar 12 (x0 :: x1 :: x2 :: x3 :: x4 :: x5 :: x6 :: x7 :: x8 :: x9 :: x10 :: x11 :: some x :: r) M q = q x M := rfl
theorem wVar_13 {x0 x1 x2 x3 x4 x5 x6 x7 x8 x9 x10 x11 x12 : Option W} {x : W} {r : WSt} : wVar 13 (x0 :: x1 :: x2 :: x3 :: x4 :: x5 :: x6 :: x7 :: x8 :: x9 :: x10 :: x11 :: x12 :: some x :: r) M q = q x M := rfl
theorem wVar_14 {x0 x1 x2 x3 x4 x5 x6 x7 x8 x9 x10 x11 x12 x13 : Option W} {x : W} {r : WSt} : wVar 14 (x0 :: x1 :: x2 :: x3 :: x4 :: x5 :: x6 :: x7 :: x8 :: x9 :: x10 :: x11 :: x12 :: x13 :: some x :: r) M q = q x M := rfl
theorem wVar_15 {x0 x1 x2 x3 x4 x5 x6 x7 x8 x9 x10 x11 x12 x13 x14 : Option W} {x : W} {r : WSt} : wVar 15 (x0 :: x1 :: x2 :: x3 :: x4 :: x5 :: x6 :: x7 :: x8 :: x9 :: x10 :: x11 :: x12 :: x13 :: x14 :: some x :: r) M q = q x M := rfl
theorem wVar_16 {x0 x1 x2 x3 x4 x5 x6 x7 x8 x9 x10 x11 x12 x13 x14 x15 : Option W} {x : W} {r : WSt} : wVar 16 (x0 :: x1 :: x2 :: x3 :: x4 :: x5 :: x6 :: x7 :: x8 :: x9 :: x10 :: x11 :: x12 :: x13 :: x14 :: x15 :: some x :: r) M q = q x M := rfl
theorem wVar_17 {x0 x1 x2 x3 x4 x5 x6 x7 x8 x9 x10 x11 x12 x13 x14 x15 x16 : Option W} {x : W} {r : WSt} : wVar 17 (x0 :: x1 :: x2 :: x3 :: x4 :: x5 :: x6 :: x7 :: x8 :: x9 :: x10 :: x11 :: x12 :: x13 :: x14 :: x15 :: x16 :: some x :: r) M q = q x M := rfl
theorem wVar_18 {x0 x1 x2 x3 x4 x5 x6 x7 x8 x9 x10 x11 x12 x13 x14 x15 x16 x17 : Option W} {x : W} {r : WSt} : wVar 18 (x0 :: x1 :: x2 :: x3 :: x4 :: x5 :: x6 :: x7 :: x8 :: x9 :: x10 :: x11 :: x12 :: x13 :: x14 :: x15 :: x16 :: x17 :: some x :: r) M q = q x M := rfl
theorem wVar_19 {x0 x1 x2 x3 x4 x5 x6 x7 x8 x9 x10 x11 x12 x13 x14 x15 x16 x17 x18 : Option W} {x : W} {r : WSt} : wVar 19 (x0 :: x1 :: x2 :: x3 :: x4 :: x5 :: x6 :: x7 :: x8 :: x9 :: x10 :: x11 :: x12 :: x13 :: x14 :: x15 :: x16 :: x17 :: x18 :: some x :: r) M q = q x M := rfl
theorem wVar_20 {x0 x1 x2 x3 x4 x5 x6 x7 x8 x9 x10 x11 x12 x13 x14 x15 x16 x17 x18 x19 : Option W} {x : W} {r : WSt} : wVar 20 (x0 :: x1 :: x2 :: x3 :: x4 :: x5 :: x6 :: x7 :: x8 :: x9 :: x10 :: x11 :: x12 :: x13 :: x14 :: x15 :: x16 :: x17 :: x18 :: x19 :: some x :: r) M q = q x M := rfl
theorem wVar_21 {x0 x1 x2 x3 x4 x5 x6 x7 x8 x9 x10 x11 x12 x13 x14 x15 x16 x17 x18 x19 x20 : Option W} {x : W} {r : WSt} : wVar 21 (x0 :: x1 :: x2 :: x3 :: x4 :: x5 :: x6 :: x7 :: x8 :: x9 :: x10 :: x11 :: x12 :: x13 :: x14 :: x15 :: x16 :: x17 :: x18 :: x19 :: x20 :: some x :: r) M q = q x M := rfl
theorem wVar_22 {x0 x1 x2 x3 x4 x5 x6 x7 x8 x9 x10 x11 x12 x13 x14 x15 x16 x17 x18 x19 x20 x21 : Option W} {x : W} {r : WSt} : wVar 22 (x0 :: x1 :: x2 :: x3 :: x4 :: x5 :: x6 :: x7 :: x8 :: x9 :: x10 :: x11 :: x12 :: x13 :: x14 :: x15 :: x16 :: x17 :: x18 :: x19 :: x20 :: x21 :: some x :: r) M q = q x M := rfl
theorem wVar_23 {x0 x1 x2 x3 x4 x5 x6 x7 x8 x9 x10 x11 x12 x13 x14 x15 x16 x17 x18 x19 x20 x21 x22 : Option W} {x : W} {r : WSt} : wVar 23 (x0 :: x1 :: x2 :: x3 :: x4 :: x5 :: x6 :: x7 :: x8 :: x9 :: x10 :: x11 :: x12 :: x13 :: x14 :: x15 :: x16 :: x17 :: x18 :: x19 :: x20 :: x21 :: x22 :: some x :: r) M q = q x M := rfl
theorem wC_e {x : W} : wC x ρ M q = q x M := rfl
theorem wOp_e {r : WR2} : wOp r a b ρ M q = a ρ M fun x M1 => b ρ M1 fun y M2 => r x y M2 q := rfl
theorem wUn_e {r : W -> Mp -> WK -> Prop} : wUn r a ρ M q = a ρ M fun x M1 => r x M1 q := rfl
theorem wI_e {C : Int -> Int -> Prop} {g : Int -> Int -> V} {i j : Int} : wI C g (.v (.int i)) (.v (.int j)) M q = andK (C i j) (q (.v (g i j)) M) := by apply propext; constructor; (· rintro ⟨_, _, h1, h2, k⟩; cases h1; cases h2; exact k); (· intro h; exact ⟨_, _, rfl, rfl, h⟩)
theorem wI0_e {g : Int -> Int -> V} {i j : Int} : wI0 g (.v (.int i)) (.v (.int j)) M q = q (.v (g i j)) M := by apply propext; constructor; (· rintro ⟨_, _, h1, h2, k⟩; cases h1; cases h2; exact k); (· intro h; exact ⟨_, _, rfl, rfl, h⟩)
theorem wU_e {g : Int -> V} {i : Int} : wU g (.v (.int i)) M q = q (.v (g i)) M := by apply propext; constructor; (· rintro ⟨_, h, k⟩; cases h; exact k); (· intro h; exact ⟨_, rfl, h⟩)
theorem wEq_i {i j : Int} : wEq (.v (.int i)) (.v (.int j)) M q = q (wb (decide (i = j))) M := by apply propext; constructor; (· rintro ⟨_, _, h1, h2, _, k⟩; cases h1; cases h2; simpa using k); (· intro h; exact ⟨_, _, rfl, rfl, rfl, by simpa using h⟩)
theorem wNe_i {i j : Int} : wNe (.v (.int i)) (.v (.int j)) M q = q (wb (!decide (i = j))) M := by apply propext; constructor; (· rintro ⟨_, _, h1, h2, _, k⟩; cases h1; cases h2; simpa using k); (· intro h; exact ⟨_, _, rfl, rfl, rfl, by simpa using h⟩)
theorem wEq_s {i j : Str} : wEq (.v (.str i)) (.v (.str j)) M q = q (wb (decide (i = j))) M := by apply propext; constructor; (· rintro ⟨_, _, h1, h2, _, k⟩; cases h1; cases h2; simpa using k); (· intro h; exact ⟨_, _, rfl, rfl, rfl, by simpa using h⟩)
theorem wTest_e {q : Bool -> Mp -> Prop} : wTest a ρ M q = a ρ M fun x M1 => isB x M1 q := rfl
theorem wAnd_e {a b : WT} {q : Bool -> Mp -> Prop} : wAnd a b ρ M q = a ρ M fun c M1 => iteK c (b ρ M1 q) (q false M1) := rfl
theorem wOr_e {a b : WT} {q : Bool -> Mp -> Prop} : wOr a b ρ M q = a ρ M fun c M1 => iteK c (q true M1) (b ρ M1 q) := rfl
theorem wNot_e {a : WT} {q : Bool -> Mp -> Prop} : wNot a ρ M q = a ρ M fun c M1 => q (!c) M1 := rfl
theorem wAndV_e : wAndV a b ρ M q = a ρ M fun x M1 => isB x M1 fun c M1 => iteK c (b ρ M1 q) (q (wb false) M1) := rfl
theorem wOrV_e : wOrV a b ρ M q = a ρ M fun x M1 => isB x M1 fun c M1 => iteK c (q (wb true) M1) (b ρ M1 q) := rfl
theorem wNotV_e : wNotV a ρ M q = a ρ M fun x M1 => isB x M1 fun c M1 => q (wb (!c)) M1 := rfl
theorem wIf_e {c : WT} : wIf c a b ρ M q = c ρ M fun c M1 => iteK c (a ρ M1 q) (b ρ M1 q) := rfl
theorem wChain_e {r r' : WR2} : wChain r r' a b c ρ M q = a ρ M fun x M1 => b ρ M1 fun y M2 => r x y M2 fun z M3 => isB z M3 fun k M3 => iteK k (c ρ M3 fun y' M4 => r' y y' M4 q) (q (wb false) M3) := rfl
theorem wNil_e {q : List W -> Mp -> Prop} : wNil ρ M q = q [] M := rfl
theorem wCons_e {r : WA} {q : List W -> Mp -> Prop} : wCons a r ρ M q = a ρ M fun x M1 => r ρ M1 fun xs M2 => q (x :: xs) M2 := rfl
theorem wTup_e {a : WA} : wTup a ρ M q = a ρ M fun xs M1 => andK (xs.length <= sizeLine) (q (.tup xs) M1) := rfl
theorem wLst_e {a : WA} : wLst a ρ M q = a ρ M fun xs M1 => andK (xs.length <= sizeLine) (newK M1 fun p => q (wr p) (um M1 p (.lst xs))) := rfl
theorem wIxL_e {x : Addr} {i : Int} : wIxL (.v (.ref x)) (.v (.int i)) M q = lstK (M x) fun l => optK (atI l i) fun u => q u M := by apply propext; constructor; (· rintro ⟨_, l, _, u, h1, h2, h3, h4, k⟩; cases h1; cases h2; exact ⟨l, h3, u, h4, k⟩); (· rintro ⟨l, h3, u, h4, k⟩; exact ⟨_, l, _, u, rfl, rfl, h3, h4, k⟩)
theorem wIxT_e {l : List W} {i : Int} : wIxT (.tup l) (.v (.int i)) M q = optK (atI l i) fun u => q u M := by apply propext; constructor; (· rintro ⟨_, _, u, h1, h2, h4, k⟩; cases h1; cases h2; exact ⟨u, h4, k⟩); (· rintro ⟨u, h4, k⟩; exact ⟨_, _, u, rfl, rfl, h4, k⟩)
theorem wNoPart_e {q : Option Int -> Mp -> Prop} : wNoPart ρ M q = q none M := rfl
noncomputable def intK (x : W) (k : Int -> Prop) : Prop := ∃ i, x = wi i /\ k i
theorem intK_e {i : Int} {k : Int -> Prop} : intK (.v (.int i)) k = k i := by apply propext; constructor; (· rintro ⟨_, h, k⟩; cases h; exact k); (· intro h; exact ⟨_, rfl, h⟩)
theorem wPart_e {q : Option Int -> Mp -> Prop} : wPart a ρ M q = a ρ M fun x M1 => intK x fun i => q (some i) M1 := rfl
theorem wSl_e {r : WSl} {lo hi : WO} : wSl r a lo hi ρ M q = a ρ M fun x M1 => lo ρ M1 fun l M2 => hi ρ M2 fun u M3 => r x l u M3 q := rfl
theorem wCB_e {r : WCl} {a : WA} : wCB r a ρ M q = a ρ M fun xs M1 => r xs M1 q := rfl
theorem wCall_e {p : WSp} {a : WA} : wCall p a ρ M q = a ρ M fun xs M1 => callK p xs M1 q := rfl
theorem wLen_l {x : Addr} : wLen [.v (.ref x)] M q = lstK (M x) fun l => q (wi l.length) M := by apply propext; constructor; (· rintro (⟨_, l, h1, h2, k⟩ | ⟨_, h1, _⟩); (· cases h1; exact ⟨l, h2, k⟩); cases h1); (· rintro ⟨l, h3, k⟩; exact .inl ⟨_, l, rfl, h3, k⟩)
theorem wLen_t {l : List W} : wLen [.tup l] M q = q (wi l.length) M := by apply propext; constructor; (· rintro (⟨_, l, h1, h2, k⟩ | ⟨_, h1, k⟩); (· cases h1); cases h1; exact k); (· intro k; exact .inr ⟨l, rfl, k⟩)
theorem wAbs_e {i : Int} : wAbs [.v (.int i)] M q = q (wi (if i < 0 then -i else i)) M := by apply propext; constructor; (· rintro ⟨_, h, k⟩; cases h; exact k); (· intro h; exact ⟨_, rfl, h⟩)
theorem wMax2_e {i j : Int} : wMax2 [.v (.int i), .v (.int j)] M q = q (wi (if j > i then j else i)) M := by apply propext; constructor; (· rintro ⟨_, _, h, k⟩; cases h; exact k); (· intro h; exact ⟨_, _, rfl, h⟩)
theorem wListOf_l {x : Addr} : wListOf [.v (.ref x)] M q = lstK (M x) fun l => newK M fun p => q (wr p) (um M p (.lst l)) := by apply propext; constructor; (· rintro ⟨l, ⟨_, h1, h2⟩ | h1, k⟩; (· cases h1; exact ⟨l, h2, k⟩); cases h1); (· rintro ⟨l, h3, k⟩; exact ⟨l, .inl ⟨_, rfl, h3⟩, k⟩)
theorem wListOf_t {l : List W} : wListOf [.tup l] M q = newK M fun p => q (wr p) (um M p (.lst l)) := by apply propext; constructor; (· rintro ⟨l, ⟨_, h1, h2⟩ | h1, k⟩; (· cases h1); cases h1; exact k); (· intro k; exact ⟨l, .inr rfl, k⟩)
theorem wTupleOf_l {x : Addr} : wTupleOf [.v (.ref x)] M q = lstK (M x) fun l => q (.tup l) M := by apply propext; constructor; (· rintro ⟨l, ⟨_, h1, h2⟩ | h1, k⟩; (· cases h1; exact ⟨l, h2, k⟩); cases h1); (· rintro ⟨l, h3, k⟩; exact ⟨l, .inl ⟨_, rfl, h3⟩, k⟩)
theorem wIsX_e {K : PySem.W.Frag} {x : W} {T : String} : wIsX K [x, .v (.ty T)] M q = optK (tyW M x) fun t => optK (PySem.W.kitOne K t (.type T)) fun b => q (wb b) M := by apply propext; constructor; (· rintro ⟨_, _, t, b, h1, h2, h3, k⟩; cases h1; exact ⟨t, h2, b, h3, k⟩); (· rintro ⟨t, h2, b, h3, k⟩; exact ⟨_, _, t, b, rfl, h2, h3, k⟩)
theorem kit_int_int {K : PySem.W.Frag} : PySem.W.kitOne K (.type "int") (.type "int") = some true := rfl
theorem kit_int_bool {K : PySem.W.Frag} : PySem.W.kitOne K (.type "int") (.type "bool") = some false := rfl
theorem kit_int_str {K : PySem.W.Frag} : PySem.W.kitOne K (.type "int") (.type "str") = some false := rfl
theorem kit_int_tuple {K : PySem.W.Frag} : PySem.W.kitOne K (.type "int") (.type "tuple") = some false := rfl
theorem kit_int_list {K : PySem.W.Frag} : PySem.W.kitOne K (.type "int") (.type "list") = some false := rfl
theorem kit_bool_int {K : PySem.W.Frag} : PySem.W.kitOne K (.type "bool") (.type "int") = some true := rfl
theorem kit_bool_bool {K : PySem.W.Frag} : PySem.W.kitOne K (.type "bool") (.type "bool") = some true := rfl
theorem kit_bool_str {K : PySem.W.Frag} : PySem.W.kitOne K (.type "bool") (.type "str") = some false := rfl
theorem kit_bool_tuple {K : PySem.W.Frag} : PySem.W.kitOne K (.type "bool") (.type "tuple") = some false := rfl
theorem kit_bool_list {K : PySem.W.Frag} : PySem.W.kitOne K (.type "bool") (.type "list") = some false := rfl
theorem kit_str_int {K : PySem.W.Frag} : PySem.W.kitOne K (.type "str") (.type "int") = some false := rfl
theorem kit_str_bool {K : PySem.W.Frag} : PySem.W.kitOne K (.type "str") (.type "bool") = some false := rfl
theorem kit_str_str {K : PySem.W.Frag} : PySem.W.kitOne K (.type "str") (.type "str") = some true := rfl
theorem kit_str_tuple {K : PySem.W.Frag} : PySem.W.kitOne K (.type "str") (.type "tuple") = some false := rfl
theorem kit_str_list {K : PySem.W.Frag} : PySem.W.kitOne K (.type "str") (.type "list") = some false := rfl
theorem kit_NoneType_int {K : PySem.W.Frag} : PySem.W.kitOne K (.type "NoneType") (.type "int") = some false := rfl
theorem kit_NoneType_bool {K : PySem.W.Frag} : PySem.W.kitOne K (.type "NoneType") (.type "bool") = some false := rfl
theorem kit_NoneType_str {K : PySem.W.Frag} : PySem.W.kitOne K (.type "NoneType") (.type "str") = some false := rfl
theorem kit_NoneType_tuple {K : PySem.W.Frag} : PySem.W.kitOne K (.type "NoneType") (.type "tuple") = some false := rfl
theorem kit_NoneType_list {K : PySem.W.Frag} : PySem.W.kitOne K (.type "NoneType") (.type "list") = some false := rfl
theorem kit_tuple_int {K : PySem.W.Frag} : PySem.W.kitOne K (.type "tuple") (.type "int") = some false := rfl
theorem kit_tuple_bool {K : PySem.W.Frag} : PySem.W.kitOne K (.type "tuple") (.type "bool") = some false := rfl
theorem kit_tuple_str {K : PySem.W.Frag} : PySem.W.kitOne K (.type "tuple") (.type "str") = some false := rfl
theorem kit_tuple_tuple {K : PySem.W.Frag} : PySem.W.kitOne K (.type "tuple") (.type "tuple") = some true := rfl
theorem kit_tuple_list {K : PySem.W.Frag} : PySem.W.kitOne K (.type "tuple") (.type "list") = some false := rfl
theorem kit_list_int {K : PySem.W.Frag} : PySem.W.kitOne K (.type "list") (.type "int") = some false := rfl
theorem kit_list_bool {K : PySem.W.Frag} : PySem.W.kitOne K (.type "list") (.type "bool") = some false := rfl
theorem kit_list_str {K : PySem.W.Frag} : PySem.W.kitOne K (.type "list") (.type "str") = some false := rfl
theorem kit_list_tuple {K : PySem.W.Frag} : PySem.W.kitOne K (.type "list") (.type "tuple") = some false := rfl
theorem kit_list_list {K : PySem.W.Frag} : PySem.W.kitOne K (.type "list") (.type "list") = some true := rfl
theorem wBM_e {r : WM} {b : WA} : wBM r a b ρ M q = a ρ M fun x M1 => refK x fun p => lstK (M1 p) fun _ => b ρ M1 fun xs M2 => r x xs M2 q := by unfold wBM IsL refK lstK; congr 1; funext x M1; apply propext; constructor; (· rintro ⟨⟨p, l, h1, h2⟩, k⟩; exact ⟨p, h1, l, h2, k⟩); (· rintro ⟨p, h1, l, h2, k⟩; exact ⟨⟨p, l, h1, h2⟩, k⟩)
theorem wAppend_e {x : Addr} {y : W} : wAppend (.v (.ref x)) [y] M q = lstK (M x) fun l => andK (l.length < sizeLine) (q wn (um M x (.lst (l ++ [y])))) := by apply propext; constructor; (· rintro ⟨_, l, _, h1, h2, h3, h4, k⟩; cases h1; cases h2; exact ⟨l, h3, h4, k⟩); (· rintro ⟨l, h3, h4, k⟩; exact ⟨_, l, _, rfl, rfl, h3, h4, k⟩)
theorem wExtend_e {x y : Addr} : wExtend (.v (.ref x)) [.v (.ref y)] M q = lstK (M x) fun l => lstK (M y) fun l' => andK (l.length + l'.length <= sizeLine) (q wn (um M x (.lst (l ++ l')))) := by apply propext; constructor; (· rintro ⟨_, _, l, l', h1, h2, h3, h4, h5, k⟩; cases h1; cases h2; exact ⟨l, h3, l', h4, h5, k⟩); (· rintro ⟨l, h3, l', h4, h5, k⟩; exact ⟨_, _, l, l', rfl, rfl, h3, h4, h5, k⟩)
theorem wCat_e {x y : Addr} : wCat (.v (.ref x)) (.v (.ref y)) M q = lstK (M x) fun l => lstK (M y) fun l' => andK (l.length + l'.length <= sizeLine) (newK M fun p => q (wr p) (um M p (.lst (l ++ l')))) := by apply propext; constructor; (· rintro ⟨_, _, l, l', h1, h2, h3, h4, h5, k⟩; cases h1; cases h2; exact ⟨l, h3, l', h4, h5, k⟩); (· rintro ⟨l, h3, l', h4, h5, k⟩; exact ⟨_, _, l, l', rfl, rfl, h3, h4, h5, k⟩)
theorem wTruth_e {q : Bool -> Mp -> Prop} : wTruth a ρ M q = a ρ M fun x M1 => truK M1 x fun k => q k M1 := rfl
theorem wDNew_e : wDNew ρ M q = newK M fun p => q (wr p) (um M p (.dK [])) := rfl
theorem wDGet_e : wDGet a b ρ M q = a ρ M fun x M1 => b ρ M1 fun y M2 => refK x fun p => keyK y fun k => dicK (M2 p) fun kvs => optK (valW kvs k) fun z => q z M2 := by unfold wDGet refK keyK dicK optK; congr 1; funext x M1; congr 1; funext y M2; apply propext; constructor; (· rintro ⟨p, kvs, k, z, h1, h2, h3, h4, h⟩; exact ⟨p, h1, k, h3, kvs, h2, z, h4, h⟩); (· rintro ⟨p, h1, k, h3, kvs, h2, z, h4, h⟩; exact ⟨p, kvs, k, z, h1, h2, h3, h4, h⟩)
theorem wDGet2_e : wDGet2 a b c ρ M q = a ρ M fun x M1 => refK x fun p => dicK (M1 p) fun _ => b ρ M1 fun y M2 => c ρ M2 fun z M3 => keyK y fun k => dicK (M3 p) fun kvs => q ((valW kvs k).getD z) M3 := by
 unfold wDGet2 refK keyK dicK; congr 1; funext x M1; apply propext; constructor
 · rintro ⟨p, h1, ⟨kvs, h2⟩, h⟩
   refine ⟨p, h1, kvs, h2, ?_⟩
   have e : (fun y M2 => c ρ M2 fun z M3 => ∃ kvs k, M3 p = some (.dK kvs) /\ y = keyW k /\ q ((valW kvs k).getD z) M3) = (fun y M2 => c ρ M2 fun z M3 => ∃ k, y = keyW k /\ ∃ kvs, M3 p = some (.dK kvs) /\ q ((valW kvs k).getD z) M3) := by
     funext y M2; congr 1; funext z M3; apply propext; constructor
     · rintro ⟨a, b, c, d, e⟩; exact ⟨b, d, a, c, e⟩
     · rintro ⟨b, d, a, c, e⟩; exact ⟨a, b, c, d, e⟩
   rw [<- e]; exact h
 · rintro ⟨p, h1, kvs, h2, h⟩
   refine ⟨p, h1, ⟨kvs, h2⟩, ?_⟩
   have e : (fun y M2 => c ρ M2 fun z M3 => ∃ kvs k, M3 p = some (.dK kvs) /\ y = keyW k /\ q ((valW kvs k).getD z) M3) = (fun y M2 => c ρ M2 fun z M3 => ∃ k, y = keyW k /\ ∃ kvs, M3 p = some (.dK kvs) /\ q ((valW kvs k).getD z) M3) := by
     funext y M2; congr 1; funext z M3; apply propext; constructor
     · rintro ⟨a, b, c, d, e⟩; exact ⟨b, d, a, c, e⟩
     · rintro ⟨b, d, a, c, e⟩; exact ⟨a, b, c, d, e⟩
   rw [e]; exact h
theorem sSeq_e {a b : WS} : sSeq a b D ρ M = a { nx := b D, rt := D.rt, bk := D.bk, ct := D.ct } ρ M := rfl
theorem sNext_e : sNext D ρ M = D.nx ρ M := rfl
theorem sBreak_e : sBreak D ρ M = D.bk ρ M := rfl
theorem sCont_e : sCont D ρ M = D.ct ρ M := rfl
theorem sDrop_e : sDrop a D ρ M = a ρ M fun _ M1 => D.nx ρ M1 := rfl
theorem sRet_e : sRet a D ρ M = a ρ M D.rt := rfl
theorem sRetN_e : sRetN D ρ M = D.rt wn M := rfl
theorem sIf_e {c : WT} {a b : WS} : sIf c a b D ρ M = c ρ M fun k M1 => iteK k (a D ρ M1) (b D ρ M1) := rfl
theorem sAsg_e {g : WG} : sAsg a g D ρ M = a ρ M fun x M1 => g x ρ M1 D.nx := rfl
noncomputable def twoK (xs : List W) (k : W -> W -> Prop) : Prop := ∃ x y, xs = [x, y] /\ k x y
theorem sPar_e {i j : Nat} {a : WA} : sPar i j a D ρ M = a ρ M fun xs M1 => twoK xs fun x y => D.nx ((ρ.set i (some x)).set j (some y)) M1 := rfl
theorem sAug_e {i : Nat} {r : WR2} : sAug i a r D ρ M = wVar i ρ M fun x M => a ρ M fun y M1 => r x y M1 fun z M2 => D.nx (ρ.set i (some z)) M2 := rfl
theorem sAugS_e {g r : WR2} {s : WSet} : sAugS a b c g r s D ρ M = a ρ M fun o M1 => b ρ M1 fun i M2 => g o i M2 fun x M3 => c ρ M3 fun y M4 => r x y M4 fun z M5 => s o i z M5 fun M6 => D.nx ρ M6 := rfl
theorem sDPutW_e : sDPutW a b c D ρ M = c ρ M fun z M1 => a ρ M1 fun x M2 => b ρ M2 fun y M3 => refK x fun p => keyK y fun k => dicK (M3 p) fun kvs => andK (kvs.length < sizeLine) (D.nx ρ (um M3 p (.dK (putW kvs k z)))) := by unfold sDPutW refK keyK dicK andK; congr 1; funext z M1; congr 1; funext x M2; congr 1; funext y M3; apply propext; constructor; (· rintro ⟨p, kvs, k, h1, h2, h3, h4, h⟩; exact ⟨p, h1, k, h3, kvs, h2, h4, h⟩); (· rintro ⟨p, h1, k, h3, kvs, h2, h4, h⟩; exact ⟨p, kvs, k, h1, h2, h3, h4, h⟩)
theorem sFor_e {it : WI} {g : WG} {b : WS} : sFor it g b D ρ M = it ρ M fun xs keep M1 => forK xs keep g b D ρ M1 := rfl
theorem sWhile_e {c : WT} {b : WS} : sWhile c b D ρ M = whileK c b D ρ M := rfl
theorem vName_e {i : Nat} {x : W} {q : WSt -> Mp -> Prop} : vName i x ρ M q = q (ρ.set i (some x)) M := rfl
theorem vNil_e {q : WSt -> Mp -> Prop} : vNil [] ρ M q = q ρ M := by simp [vNil]
theorem vCons_e {a : WG} {b : WGs} {x : W} {r : List W} {q : WSt -> Mp -> Prop} : vCons a b (x :: r) ρ M q = a x ρ M fun ρ' M' => b r ρ' M' q := by apply propext; constructor; (· rintro ⟨_, _, h, k⟩; cases h; exact k); (· intro h; exact ⟨_, _, rfl, h⟩)
theorem vTup_e {n : Nat} {a : WGs} {l : List W} {q : WSt -> Mp -> Prop} : vTup n a (.tup l) ρ M q = andK (l.length = n) (a l ρ M q) := by apply propext; constructor; (· rintro ⟨_, h, k⟩; cases h; exact k); (· intro h; exact ⟨_, rfl, h⟩)
theorem vSub_e {s : WSet} {x : W} {q : WSt -> Mp -> Prop} : vSub a b s x ρ M q = a ρ M fun o M1 => b ρ M1 fun i M2 => s o i x M2 fun M3 => q ρ M3 := rfl
theorem wSetL_e {x : Addr} {i : Int} {z : W} {q : Mp -> Prop} : wSetL (.v (.ref x)) (.v (.int i)) z M q = lstK (M x) fun l => optK (ixN l.length i) fun j => q (um M x (.lst (l.set j z))) := by apply propext; constructor; (· rintro ⟨_, l, _, j, h1, h2, h3, h4, k⟩; cases h1; cases h2; exact ⟨l, h3, j, h4, k⟩); (· rintro ⟨l, h3, j, h4, k⟩; exact ⟨_, l, _, j, rfl, rfl, h3, h4, k⟩)
theorem jList_e {q : List W -> (Mp -> Prop) -> Mp -> Prop} : jList a ρ M q = a ρ M fun x M1 => refK x fun p => lstK (M1 p) fun l => q l (fun M' => M' p = some (.lst l)) M1 := by unfold jList refK lstK; congr 1; funext x M1; apply propext; constructor; (· rintro ⟨p, l, h1, h2, h⟩; exact ⟨p, h1, l, h2, h⟩); (· rintro ⟨p, h1, l, h2, h⟩; exact ⟨p, l, h1, h2, h⟩)
theorem jTup_e {q : List W -> (Mp -> Prop) -> Mp -> Prop} : jTup a ρ M q = a ρ M fun x M1 => tupK x fun l => q l (fun _ => True) M1 := rfl
noncomputable def oneK (xs : List W) (k : W -> Prop) : Prop := ∃ x, xs = [x] /\ k x
theorem oneK_e {x : W} {k : W -> Prop} : oneK [x] k = k x := by apply propext; constructor; (· rintro ⟨_, h, k⟩; cases h; exact k); (· intro h; exact ⟨_, rfl, h⟩)
theorem jRng1_e {a : WA} {q : List W -> (Mp -> Prop) -> Mp -> Prop} : jRng1 a ρ M q = a ρ M fun xs M1 => oneK xs fun x => intK x fun j => andK (-(2 ^ 62) <= j /\ j < 2 ^ 62) (q (rangeW 0 j.toNat) (fun _ => True) M1) := by unfold jRng1 oneK intK andK; congr 1; funext x M1; apply propext; constructor; (· rintro ⟨j, h1, h2, h3, h⟩; exact ⟨_, h1, j, rfl, ⟨h2, h3⟩, h⟩); (· rintro ⟨_, h1, j, rfl, ⟨h2, h3⟩, h⟩; exact ⟨j, h1, h2, h3, h⟩)
theorem wComp_e {it : WI} {own : Nat} {fr : List Nat} {g : WG} {c : WT} {el : WE} : wComp it own fr g c el ρ M q = it ρ M fun xs keep M1 => compK xs keep own fr g c el ρ M1 q := rfl
theorem wYes_e {q : Bool -> Mp -> Prop} : wYes ρ M q = q true M := rfl
end
theorem sl1 : (1 <= sizeLine) = True := by rw [sizeLine_eq]; decide
theorem sl2 : (2 <= sizeLine) = True := by rw [sizeLine_eq]; decide
theorem sl3 : (3 <= sizeLine) = True := by rw [sizeLine_eq]; decide
theorem sl4 : (4 <= sizeLine) = True := by rw [sizeLine_eq]; decide
theorem sl5 : (5 <= sizeLine) = True := by rw [sizeLine_eq]; decide
theorem sl0 : (0 <= sizeLine) = True := by simp
theorem iteK_d {c A B : Prop} [Decidable c] (h1 : c -> A) (h2 : ¬ c -> B) : iteK (decide c) A B := by
 unfold iteK
 by_cases h : c
 · rw [if_pos (decide_eq_true h)]; exact h1 h
 · rw [if_neg (by simpa using h)]; exact h2 h
theorem iteK_n {c A B : Prop} [Decidable c] (h1 : ¬ c -> A) (h2 : c -> B) : iteK (!decide c) A B := by
 unfold iteK
 by_cases h : c
 · rw [if_neg (by simpa using h)]; exact h2 h
 · rw [if_pos (by simpa using h)]; exact h1 h
theorem comp_pureK {xs : List W} {keep : Mp -> Prop} {M1 : Mp} {own : Nat} {fr : List Nat} {ρ : WSt} {g : WG} {c : WT} {el : WE} {q : WK} (f : W -> Option W) (hz : xs.length <= sizeLine) (hkeep : ∀ M, Sm M1 M -> keep M)
   (hs : ∀ (i : Nat) x, xs[i]? = some x -> ∀ (M : Mp) (N : Option W -> Mp -> Prop), Sm M1 M -> N (f x) M -> g x (capρ own fr ρ) M fun ρ2 M2 => c ρ2 M2 fun b M3 => iteK b (el ρ2 M3 fun y M4 => N (some y) M4) (N none M3))
   (hq : ∀ p, M1 p = none -> q (wr p) (um M1 p (.lst (xs.filterMap f)))) : compK xs keep own fr g c el ρ M1 q := comp_pure f hz hkeep hs hq
end WL
namespace WL
noncomputable def hold (f : WSt -> Mp -> Prop) (ρ : WSt) (M : Mp) : Prop := f ρ M
theorem hold_i {f : WSt -> Mp -> Prop} {ρ : WSt} {M : Mp} (h : f ρ M) : hold f ρ M := h
theorem sSeq_h {a b : WS} {D : WEnds} {ρ : WSt} {M : Mp} : sSeq a b D ρ M = a { nx := hold (b D), rt := D.rt, bk := D.bk, ct := D.ct } ρ M := rfl
end WL
namespace WL
theorem if_mid {c : WT} {a b R : WS} {D : WEnds} {ρ : WSt} {M : Mp} (Mid : WSt -> Mp -> Prop) (rest : ∀ ρ M, Mid ρ M -> R D ρ M) (h : ∀ N : WSt -> Mp -> Prop, (∀ ρ M, Mid ρ M -> N ρ M) -> sIf c a b { nx := N, rt := D.rt, bk := D.bk, ct := D.ct } ρ M) : sSeq (sIf c a b) R D ρ M := h _ rest
end WL
namespace WL
theorem for_i {xs : List W} {keep : Mp -> Prop} {g : WG} {b : WS} {D : WEnds} {ρ : WSt} {M1 : Mp} (I : Nat -> WSt -> Mp -> Prop) (h0 : I 0 ρ M1) (hk : ∀ i ρ M, i <= xs.length -> I i ρ M -> keep M)
   (hs : ∀ i x ρ M, xs[i]? = some x -> I i ρ M -> ∀ N : WSt -> Mp -> Prop, (∀ ρ' M', I (i + 1) ρ' M' -> N ρ' M') -> g x ρ M fun ρ2 M2 => b { nx := N, rt := D.rt, bk := D.nx, ct := N } ρ2 M2)
   (hd : ∀ ρ M, I xs.length ρ M -> D.nx ρ M) : forK xs keep g b D ρ M1 := ⟨I, h0, hk, fun i x ρ M hx hI => hs i x ρ M hx hI _ fun _ _ h => h, hd⟩
end WL
namespace WP
open PySem L2 WL
noncomputable abbrev Pt := List (Int × Int)
noncomputable def look : Pt -> Int -> Int
 | [], _ => 0
 | q :: r, x => if q.1 = x then q.2 else look r x
noncomputable def IsPat (p : Int) (l : Pt) : Prop := (∀ q ∈ l, 0 < q.2 /\ q.2 < p) /\ l.Pairwise (fun a b => a.1 < b.1)
noncomputable def tot : Pt -> Int -> Int
 | [], _ => 0
 | q :: r, x => (if q.1 = x then q.2 else 0) + tot r x
theorem tot_append (a b : Pt) (x : Int) : tot (a ++ b) x = tot a x + tot b x := by
 induction a with
 | nil => simp [tot]
 | cons q r ih => rw [List.cons_append, tot, tot, ih]; lia
theorem tot_snoc (a : Pt) (q : Int × Int) (x : Int) : tot (a ++ [q]) x = tot a x + if q.1 = x then q.2 else 0 := by
 rw [tot_append]; simp [tot]
theorem look_not {l : Pt} {x : Int} (h : ∀ q ∈ l, q.1 ≠ x) : look l x = 0 := by
 induction l with
 | nil => rfl
 | cons q r ih => rw [look, if_neg (h q (by simp)), ih fun z hz => h z (by simp [hz])]
theorem tot_look {l : Pt} (h : l.Pairwise (fun a b => a.1 < b.1)) (x : Int) : tot l x = look l x := by
 induction l with
 | nil => rfl
 | cons q r ih =>
   rw [List.pairwise_cons] at h
   rw [tot, look, ih h.2]
   by_cases e : q.1 = x
   · rw [if_pos e, if_pos e, look_not]
     · lia
     · intro z hz; have := h.1 z hz; lia
   · rw [if_neg e, if_neg e]; lia
theorem IsPat.tail {p : Int} {q : Int × Int} {r : Pt} (h : IsPat p (q :: r)) : IsPat p r := ⟨fun z hz => h.1 z (by simp [hz]), (List.pairwise_cons.mp h.2).2⟩
theorem IsPat.nil {p : Int} : IsPat p [] := ⟨fun _ h => absurd h (by simp), List.Pairwise.nil⟩
theorem pat_ext {p p' : Int} : ∀ {a b : Pt}, IsPat p a -> IsPat p' b -> (∀ x, look a x = look b x) -> a = b
 | [], [], _, _, _ => rfl
 | [], q :: r, _, hb, h => by
   have := h q.1
   rw [look, look, if_pos rfl] at this
   have := hb.1 q (by simp); lia
 | q :: r, [], ha, _, h => by
   have := h q.1
   rw [look, look, if_pos rfl] at this
   have := ha.1 q (by simp); lia
 | q :: r, q' :: r', ha, hb, h => by
   have pa := ha.1 q (by simp)
   have pb := hb.1 q' (by simp)
   have sa := (List.pairwise_cons.mp ha.2).1
   have sb := (List.pairwise_cons.mp hb.2).1
   have e1 : q.1 = q'.1 := by
     rcases Int.lt_trichotomy q.1 q'.1 with l | l | l
     · have e := h q.1
       rw [look, if_pos rfl, look, if_neg (by lia), look_not (fun z hz => by have := sb z hz; lia)] at e
       lia
     · exact l
     · have e := h q'.1
       rw [look, if_neg (by lia), look_not (fun z hz => by have := sa z hz; lia), look, if_pos rfl] at e
       lia
   have e2 : q.2 = q'.2 := by
     have e := h q.1
     rw [look, if_pos rfl, look, if_pos e1.symm] at e
     exact e
   have e : r = r' := pat_ext ha.tail hb.tail fun x => by
     by_cases hx : q.1 = x
     · rw [look_not (fun z hz => by have := sa z hz; lia), look_not (fun z hz => by have := sb z hz; lia)]
     · have e := h x
       rwa [look, if_neg hx, look, if_neg (by lia)] at e
   rw [e, Prod.ext e1 e2]
noncomputable def addAt (p : Int) : Pt -> Int -> Int -> Pt
 | [], x, s => if s % p = 0 then [] else [(x, s % p)]
 | q :: r, x, s => if x < q.1 then (if s % p = 0 then q :: r else (x, s % p) :: q :: r) else if x = q.1 then (if (q.2 + s) % p = 0 then r else (x, (q.2 + s) % p) :: r) else q :: addAt p r x s
noncomputable def nrm (p : Int) (ps : Pt) : Pt := ps.foldl (fun a q => addAt p a q.1 q.2) []
theorem addAt_mem {p : Int} {l : Pt} {x s : Int} {z : Int × Int} (h : z ∈ addAt p l x s) : z.1 = x \/ z ∈ l := by
 induction l with
 | nil =>
   rw [addAt] at h
   split at h
   · cases h
   · left; rw [List.mem_singleton.mp h]
 | cons q r ih =>
   rw [addAt] at h
   split at h
   · split at h
     · exact .inr h
     · rcases List.mem_cons.mp h with h | h
       · left; rw [h]
       · exact .inr h
   · split at h
     · split at h
       · exact .inr (by simp [h])
       · rcases List.mem_cons.mp h with h | h
         · left; rw [h]
         · exact .inr (by simp [h])
     · rcases List.mem_cons.mp h with h | h
       · exact .inr (by simp [h])
       · rcases ih h with h | h
         · exact .inl h
         · exact .inr (by simp [h])
theorem mod_in {p s : Int} (hp : 0 < p) (h : ¬ s % p = 0) : 0 < s % p /\ s % p < p := by
 have := Int.emod_nonneg s (show p ≠ 0 by lia)
 have := Int.emod_lt_of_pos s hp
 lia
theorem addAt_pat {p : Int} (hp : 0 < p) {l : Pt} {x s : Int} (h : IsPat p l) : IsPat p (addAt p l x s) := by
 induction l with
 | nil =>
   rw [addAt]
   split
   · exact IsPat.nil
   · rename_i hs
     exact ⟨fun q hq => by rw [List.mem_singleton.mp hq]; exact mod_in hp hs, by simp⟩
 | cons q r ih =>
   have sa := (List.pairwise_cons.mp h.2).1
   rw [addAt]
   split
   · rename_i hx
     split
     · exact h
     · rename_i hs
       refine ⟨fun z hz => ?_, List.pairwise_cons.mpr ⟨fun z hz => ?_, h.2⟩⟩
       · rcases List.mem_cons.mp hz with rfl | hz
         · exact mod_in hp hs
         · exact h.1 z hz
       · rcases List.mem_cons.mp hz with rfl | hz
         · exact hx
         · have := sa z hz; show x < z.1; lia
   · split
     · rename_i hx
       split
       · exact h.tail
       · rename_i hs
         refine ⟨fun z hz => ?_, List.pairwise_cons.mpr ⟨fun z hz => ?_, h.tail.2⟩⟩
         · rcases List.mem_cons.mp hz with rfl | hz
           · exact mod_in hp hs
           · exact h.1 z (by simp [hz])
         · have := sa z hz; show x < z.1; lia
     · rename_i h1 h2
       have ih' := ih h.tail
       refine ⟨fun z hz => ?_, List.pairwise_cons.mpr ⟨fun z hz => ?_, ih'.2⟩⟩
       · rcases List.mem_cons.mp hz with rfl | hz
         · exact h.1 z (by simp)
         · exact ih'.1 z hz
       · rcases addAt_mem hz with e | hz
         · lia
         · exact sa z hz
theorem look_addAt {p : Int} (hp : 0 < p) {l : Pt} {x s : Int} (h : IsPat p l) (y : Int) : look (addAt p l x s) y = if y = x then (look l x + s) % p else look l y := by
 induction l with
 | nil =>
   rw [addAt]
   by_cases hs : s % p = 0
   · rw [if_pos hs]; simp [look, hs]
   · rw [if_neg hs]
     by_cases e : y = x
     · subst e; simp [look]
     · rw [if_neg e]; simp [look, Ne.symm e]
 | cons q r ih =>
   have sa := (List.pairwise_cons.mp h.2).1
   have qr := h.1 q (by simp)
   rw [addAt]
   split
   · rename_i hx
     have hn : look (q :: r) x = 0 := look_not (fun z hz => by
       rcases List.mem_cons.mp hz with rfl | hz
       · lia
       · have := sa z hz; lia)
     rw [hn, Int.zero_add]
     split
     · rename_i hs
       by_cases e : y = x
       · rw [if_pos e, e, hn, hs]
       · rw [if_neg e]
     · by_cases e : y = x
       · rw [if_pos e, look, if_pos e.symm]
       · rw [if_neg e, look, if_neg (Ne.symm e)]
   · split
     · rename_i hx
       have hq : look (q :: r) x = q.2 := by rw [look, if_pos hx.symm]
       rw [hq]
       split
       · rename_i hs
         by_cases e : y = x
         · rw [if_pos e, hs, look_not (fun z hz => by have := sa z hz; lia)]
         · rw [if_neg e, look, if_neg (by lia)]
       · by_cases e : y = x
         · rw [if_pos e, look, if_pos e.symm]
         · rw [if_neg e, look, if_neg (Ne.symm e), look, if_neg (by lia)]
     · rename_i h1 h2
       rw [look, ih h.tail]
       by_cases e : y = x
       · rw [if_pos e, if_pos e, if_neg (by lia)]
         conv => rhs; rw [look, if_neg (by lia)]
       · rw [if_neg e, if_neg e, look]
theorem nrm_snoc (p : Int) (ps : Pt) (q : Int × Int) : nrm p (ps ++ [q]) = addAt p (nrm p ps) q.1 q.2 := by
 unfold nrm; rw [List.foldl_append]; rfl
theorem list_snoc {α : Type} {P : List α -> Prop} (h0 : P []) (h1 : ∀ l a, P l -> P (l ++ [a])) (l : List α) : P l := by
 have key : ∀ n : Nat, ∀ l : List α, l.length = n -> P l := by
   intro n
   induction n with
   | zero => intro l hl; rw [List.length_eq_zero_iff.mp hl]; exact h0
   | succ n ih =>
     intro l hl
     have hne : l ≠ [] := by intro e; rw [e] at hl; cases hl
     rw [<- List.dropLast_concat_getLast hne]
     exact h1 _ _ (ih _ (by rw [List.length_dropLast]; lia))
 exact key _ l rfl
theorem nrm_pat {p : Int} (hp : 0 < p) (ps : Pt) : IsPat p (nrm p ps) := by
 induction ps using list_snoc with
 | h0 => exact IsPat.nil
 | h1 l a ih => rw [nrm_snoc]; exact addAt_pat hp ih
theorem look_nrm {p : Int} (hp : 0 < p) (ps : Pt) (x : Int) : look (nrm p ps) x = tot ps x % p := by
 induction ps using list_snoc with
 | h0 => simp [nrm, look, tot]
 | h1 l a ih =>
   rw [nrm_snoc, look_addAt hp (nrm_pat hp l), tot_snoc]
   by_cases e : x = a.1
   · subst e
     rw [if_pos rfl, if_pos rfl, ih, Int.emod_add_emod]
   · rw [if_neg e, if_neg (Ne.symm e), ih, Int.add_zero]
theorem addAt_len {p : Int} {l : Pt} {x s : Int} : (addAt p l x s).length <= l.length + 1 := by
 induction l with
 | nil => rw [addAt]; split <;> simp
 | cons q r ih =>
   rw [addAt]
   split
   · split <;> simp
   · split
     · split <;> simp <;> lia
     · simp; exact ih
theorem nrm_len (p : Int) (ps : Pt) : (nrm p ps).length <= ps.length := by
 induction ps using list_snoc with
 | h0 => simp [nrm]
 | h1 l a ih => rw [nrm_snoc, List.length_append]; exact Nat.le_trans addAt_len (by simp; exact ih)
noncomputable def kvW (m : Pt) : List (Key × W) := m.map fun q => ((Sum.inl q.1 : Key), wi q.2)
noncomputable def putI (m : Pt) (x v : Int) : Pt := if (m.any fun q => decide (q.1 = x)) = true then m.map (fun q => if q.1 = x then (q.1, v) else q) else m ++ [(x, v)]
theorem any_key {m : Pt} {x : Int} : (m.any fun q => decide (q.1 = x)) = true ↔ x ∈ m.map (·.1) := by
 rw [List.any_eq_true, List.mem_map]
 constructor
 · rintro ⟨q, hq, e⟩; exact ⟨q, hq, by simpa using e⟩
 · rintro ⟨q, hq, e⟩; exact ⟨q, hq, by simpa using e⟩
theorem inl_dec (a b : Int) : decide ((Sum.inl a : Key) = Sum.inl b) = decide (a = b) := by simp
theorem putW_kv (m : Pt) (x v : Int) : putW (kvW m) (.inl x) (wi v) = kvW (putI m x v) := by
 unfold putW putI
 have e : ((kvW m).any fun kv => decide (kv.1 = (Sum.inl x : Key))) = m.any fun q => decide (q.1 = x) := by
   unfold kvW; rw [List.any_map]; congr 1; funext q; exact inl_dec _ _
 rw [e]
 split
 · unfold kvW
   rw [List.map_map, List.map_map]
   apply List.map_congr_left
   intro q _
   show (if (Sum.inl q.1 : Key) = Sum.inl x then ((Sum.inl q.1 : Key), wi v) else (Sum.inl q.1, wi q.2)) = ((Sum.inl (if q.1 = x then (q.1, v) else q).1 : Key), wi (if q.1 = x then (q.1, v) else q).2)
   by_cases hq : q.1 = x
   · rw [if_pos (by rw [hq]), if_pos hq]
   · rw [if_neg (fun z => hq (Sum.inl.inj z)), if_neg hq]
 · unfold kvW; rw [List.map_append]; rfl
theorem valW_kv (m : Pt) (x : Int) : valW (kvW m) (.inl x) = (m.find? fun q => decide (q.1 = x)).map fun q => wi q.2 := by
 unfold valW kvW
 rw [List.find?_map, Option.map_map]
 have e : ((fun kv : Key × W => decide (kv.1 = (Sum.inl x : Key))) ∘ fun q : Int × Int => ((Sum.inl q.1 : Key), wi q.2)) = fun q => decide (q.1 = x) := by
   funext q; exact inl_dec _ _
 rw [e]; rfl
theorem find_look {m : Pt} {x : Int} : (m.find? fun q => decide (q.1 = x)) = none /\ look m x = 0 /\ x ∉ m.map (·.1) \/ ∃ q, (m.find? fun q => decide (q.1 = x)) = some q /\ look m x = q.2 := by
 induction m with
 | nil => exact .inl ⟨rfl, rfl, by simp⟩
 | cons q r ih =>
   rw [List.find?_cons, look]
   by_cases e : q.1 = x
   · simp only [e, decide_true]; exact .inr ⟨q, rfl, by simp⟩
   · simp only [e, decide_false, if_false]
     rcases ih with ⟨h1, h2, h3⟩ | h
     · exact .inl ⟨h1, h2, by rw [List.map_cons, List.mem_cons, not_or]; exact ⟨Ne.symm e, h3⟩⟩
     · exact .inr h
theorem getD_kv (m : Pt) (x : Int) : (valW (kvW m) (.inl x)).getD (wi 0) = wi (look m x) := by
 rw [valW_kv]
 rcases find_look (m := m) (x := x) with ⟨h1, h2, _⟩ | ⟨q, h1, h2⟩ <;> rw [h1, h2] <;> rfl
theorem val_kv {m : Pt} {x : Int} (h : x ∈ m.map (·.1)) : valW (kvW m) (.inl x) = some (wi (look m x)) := by
 rw [valW_kv]
 rcases find_look (m := m) (x := x) with ⟨_, _, h3⟩ | ⟨q, h1, h2⟩
 · exact absurd h h3
 · rw [h1, h2]; rfl
theorem kvW_keys (m : Pt) : (kvW m).map (·.1) = (m.map (·.1)).map Sum.inl := by
 unfold kvW; rw [List.map_map, List.map_map]; rfl
theorem keys_putI {m : Pt} {x v : Int} : (putI m x v).map (·.1) = if x ∈ m.map (·.1) then m.map (·.1) else m.map (·.1) ++ [x] := by
 unfold putI
 by_cases h : x ∈ m.map (·.1)
 · rw [if_pos (any_key.mpr h), if_pos h, List.map_map]
   apply List.map_congr_left
   intro q _
   show (if q.1 = x then (q.1, v) else q).1 = q.1
   split <;> rfl
 · rw [if_neg (fun e => h (any_key.mp e)), if_neg h, List.map_append]; rfl
theorem nd_putI {m : Pt} {x v : Int} (h : (m.map (·.1)).Nodup) : ((putI m x v).map (·.1)).Nodup := by
 rw [keys_putI]
 by_cases e : x ∈ m.map (·.1)
 · rw [if_pos e]; exact h
 · rw [if_neg e]; exact nd_snoc h e
theorem len_putI {m : Pt} {x v : Int} : (putI m x v).length <= m.length + 1 := by
 unfold putI; split
 · rw [List.length_map]; lia
 · simp
theorem look_putI {m : Pt} {x v y : Int} : look (putI m x v) y = if y = x then v else look m y := by
 unfold putI
 by_cases h : x ∈ m.map (·.1)
 · rw [if_pos (any_key.mpr h)]
   have key : ∀ m : Pt, look (m.map (fun q => if q.1 = x then (q.1, v) else q)) y = if y = x /\ x ∈ m.map (·.1) then v else look m y := by
     intro m
     induction m with
     | nil => simp [look]
     | cons q r ih =>
       rw [List.map_cons, look, look, ih]
       by_cases hq : q.1 = x
       · by_cases hy : y = x
         · subst hy; simp [hq]
         · simp [hq, hy, Ne.symm hy]
       · by_cases hy : y = x
         · subst hy
           have : (y ∈ (q :: r).map (·.1)) = (y ∈ r.map (·.1)) := by rw [List.map_cons, List.mem_cons]; simp [Ne.symm hq]
           simp only [this, hq, if_false]
         · simp [hq, hy]
   rw [key]; simp [h]
 · rw [if_neg (fun e => h (any_key.mp e))]
   have key : ∀ m : Pt, x ∉ m.map (·.1) -> look (m ++ [(x, v)]) y = if y = x then v else look m y := by
     intro m
     induction m with
     | nil =>
       intro _
       by_cases e : y = x
       · simp [look, e]
       · simp [look, e, Ne.symm e]
     | cons q r ih =>
       intro hn
       rw [List.map_cons, List.mem_cons, not_or] at hn
       rw [List.cons_append, look, look, ih hn.2]
       by_cases e : y = x
       · subst e; simp [Ne.symm hn.1]
       · simp [e]
   exact key m h
noncomputable def sel (m : Pt) (ns : List Int) : Pt := ns.filterMap fun x => if look m x = 0 then none else some (x, look m x)
theorem look_sel {m : Pt} {x : Int} : ∀ {ns : List Int}, ns.Nodup -> look (sel m ns) x = if x ∈ ns then look m x else 0
 | [], _ => rfl
 | n :: r, h => by
   rw [List.nodup_cons] at h
   have ih := look_sel (m := m) (x := x) h.2
   unfold sel at ih ⊢
   rw [List.filterMap_cons]
   by_cases e : look m n = 0
   · rw [if_pos e]
     show look (r.filterMap _) x = _
     rw [ih]
     by_cases hx : x = n
     · subst hx; rw [if_neg h.1, if_pos (by simp), e]
     · simp [hx]
   · rw [if_neg e]
     show look ((n, look m n) :: r.filterMap _) x = _
     rw [look, ih]
     by_cases hx : x = n
     · subst hx; rw [if_pos rfl, if_pos (by simp)]
     · rw [if_neg (Ne.symm hx)]; simp [hx]
theorem strict_of {ns : List Int} (h1 : ns.Pairwise (· <= ·)) (h2 : ns.Nodup) : ns.Pairwise (· < ·) := by
 refine (List.Pairwise.and h1 h2).imp ?_
 rintro a b ⟨h, n⟩
 lia
theorem sel_nrm {p : Int} (hp : 0 < p) {ps m : Pt} {ns : List Int} (hn : (m.map (·.1)).Nodup) (ht : ∀ x, look m x = tot ps x % p) (hperm : ns.Perm (m.map (·.1))) (hs : ns.Pairwise (· <= ·)) : sel m ns = nrm p ps := by
 have nd := hperm.nodup_iff.mpr hn
 have st := strict_of hs nd
 refine pat_ext (p := p) ⟨?_, ?_⟩ (nrm_pat hp ps) fun x => ?_
 · intro q hq
   obtain ⟨x, hx, e⟩ := List.mem_filterMap.mp hq
   split at e
   · cases e
   · rename_i h0
     cases e
     have := ht x
     have := Int.emod_nonneg (tot ps x) (show p ≠ 0 by lia)
     have := Int.emod_lt_of_pos (tot ps x) hp
     show 0 < look m x /\ look m x < p
     lia
 · unfold sel
   refine List.Pairwise.filterMap _ ?_ st
   intro a b hab c hc d hd
   split at hc <;> cases hc
   split at hd <;> cases hd
   exact hab
 · rw [look_sel nd, look_nrm hp]
   split
   · exact ht x
   · rename_i hx
     rw [<- ht x, look_not]
     intro q hq e
     exact hx (hperm.mem_iff.mpr (by rw [<- e]; exact List.mem_map_of_mem hq))
noncomputable def Few (_ : Pt) : Prop := True
theorem few {ps : Pt} : Few ps := trivial
theorem few_len {ps : Pt} (h : ps.length < 64) : Few ps := trivial
theorem mem_putI {m : Pt} {x v k : Int} (h : k ∈ (putI m x v).map (·.1)) : k = x \/ k ∈ m.map (·.1) := by
 rw [keys_putI] at h
 split at h
 · exact .inr h
 · rcases List.mem_append.mp h with h | h
   · exact .inr h
   · exact .inl (List.mem_singleton.mp h)
end WP
namespace WQ
open PySem L2 WL WP
noncomputable def pTake : WSp := fun xs M q => ∃ (d l : Addr) (n : Int), xs = [wr d, wi n] /\ Dr M d l /\ 0 < n /\ n < 1073741824 /\ ∀ (r : Int) (M' : Mp), 0 <= r -> r < n -> Dr M' d l -> NB d M M' -> q (wi r) M'
noncomputable def pP : WSp := fun xs M q => ∃ (d l : Addr), xs = [wr d] /\ Dr M d l /\ ∀ (p : Int) (M' : Mp), (p = 2 \/ p = 3 \/ p = 5 \/ p = 7) -> Dr M' d l -> NB d M M' -> q (wi p) M'
noncomputable def pTidy : WSp := fun xs M q => ∃ (a : Addr) (p : Int) (ps : Pt), xs = [wi p, wr a] /\ M a = some (.lst (ps.map pairW)) /\ 0 < p /\ Few ps /\ ps.length <= 100000 /\ q (patW (nrm p ps)) M
noncomputable def pPattern : WSp := fun xs M q => ∃ (d l : Addr) (p most far : Int), xs = [wr d, wi p, wi most, wi far] /\ Dr M d l /\ 2 <= p /\ p < 1000 /\ 0 <= most /\ most < 63 /\ 0 <= far /\ far < 100000000 /\
 ∀ (ps : Pt) (M' : Mp), (ps.length : Int) <= most -> (∀ z ∈ ps, -far <= z.1 /\ z.1 <= far /\ 0 < z.2 /\ z.2 < p) -> Dr M' d l -> NB d M M' -> q (patW (nrm p ps)) M'
noncomputable def mv (by_ : Int) (l : Pt) : Pt := l.map fun z => (z.1 + by_, z.2)
noncomputable def pMoved : WSp := fun xs M q => ∃ (pat : Pt) (b : Int), xs = [patW pat, wi b] /\ pat.length <= 100000 /\ q (patW (mv b pat)) M
noncomputable def pInt : WSp := fun xs M q => ∃ i : Int, xs = [wi i] /\ q (wb true) M
noncomputable def pIsPat : WSp := fun xs M q => ∃ (p : Int) (pat : Pt), xs = [wi p, patW pat] /\ IsPat p pat /\ pat.length <= 100000 /\ q (wb true) M
noncomputable def pAdded : WSp := fun xs M q => ∃ (p : Int) (a b : Pt), xs = [wi p, patW a, patW b] /\ 0 < p /\ Few (a ++ b) /\ a.length <= 40000 /\ b.length <= 40000 /\ q (patW (nrm p (a ++ b))) M
noncomputable def tm (n : Int) (l : Pt) : Pt := l.map fun z => (z.1, z.2 * n)
noncomputable def pTimed : WSp := fun xs M q => ∃ (p : Int) (a : Pt) (n : Int), xs = [wi p, patW a, wi n] /\ 0 < p /\ Few (tm n a) /\ a.length <= 40000 /\ (∀ z ∈ a, 0 <= z.2 /\ z.2 < 1000) /\ q (patW (nrm p (tm n a))) M
noncomputable def mvt (b n : Int) (l : Pt) : Pt := l.map fun z => (z.1 + b, z.2 * n)
noncomputable def pSum : WSp := fun xs M q => ∃ (p : Int) (a b : Pt) (y n : Int), xs = [wi p, patW a, patW b, wi y, wi n] /\ 0 < p /\ Few (a ++ mvt y n b) /\ a.length <= 40000 /\ b.length <= 40000 /\ (∀ z ∈ b, 0 <= z.2 /\ z.2 < 1000) /\ q (patW (nrm p (a ++ mvt y n b))) M
theorem big {n : Nat} (h : n <= 100000) : n <= sizeLine := Nat.le_trans h (by rw [sizeLine_eq]; decide)
theorem bigL {n : Nat} (h : n <= 100000) : n < sizeLine := Nat.lt_of_le_of_lt h (by rw [sizeLine_eq]; decide)
theorem mv_len {b : Int} {l : Pt} : (mv b l).length = l.length := List.length_map _
theorem mv_zero {l : Pt} : mv 0 l = l := by
 unfold mv
 have : (fun z : Int × Int => (z.1 + 0, z.2)) = id := by funext z; rw [Int.add_zero]; rfl
 rw [this, List.map_id]
theorem look_mv {b : Int} {l : Pt} {x : Int} : look (mv b l) x = look l (x - b) := by
 induction l with
 | nil => rfl
 | cons q r ih =>
   show look ((q.1 + b, q.2) :: mv b r) x = _
   rw [look, look, ih]
   by_cases e : q.1 + b = x
   · rw [if_pos e, if_pos (by lia)]
   · rw [if_neg e, if_neg (by lia)]
theorem tot_tm {n : Int} {l : Pt} {x : Int} : tot (tm n l) x = tot l x * n := by
 induction l with
 | nil => simp [tm, tot]
 | cons q r ih =>
   show tot ((q.1, q.2 * n) :: tm n r) x = _
   rw [tot, tot, ih, Int.add_mul]
   split <;> simp
theorem mvt_tm {b n : Int} {l : Pt} : mvt b n l = tm n (mv b l) := by
 unfold mvt tm mv; rw [List.map_map]; rfl
theorem tm_one {l : Pt} : tm 1 l = l := by
 unfold tm
 have : (fun z : Int × Int => (z.1, z.2 * 1)) = id := by funext z; rw [Int.mul_one]; rfl
 rw [this, List.map_id]
theorem tot_nrm {p : Int} (hp : 0 < p) (a : Pt) (x : Int) : tot (nrm p a) x = tot a x % p := by
 rw [tot_look (nrm_pat hp a).2, look_nrm hp]
theorem tot_mv {b : Int} {l : Pt} {x : Int} : tot (mv b l) x = tot l (x - b) := by
 induction l with
 | nil => rfl
 | cons q r ih =>
   show tot ((q.1 + b, q.2) :: mv b r) x = _
   rw [tot, tot, ih]
   by_cases e : q.1 + b = x
   · rw [if_pos e, if_pos (by lia)]
   · rw [if_neg e, if_neg (by lia)]
theorem few_tm {n : Int} {a : Pt} (h : Few a) : Few (tm n a) := trivial
theorem dOf_pair (q : Int × Int) : dOf (pairW q) = some (.tup [.int q.1, .int q.2]) := by
 simp [pairW, dOf, dOfs]
theorem dOfs_pairs : ∀ l : Pt, dOfs (l.map pairW) = some (l.map fun q => .tup [.int q.1, .int q.2])
 | [] => rfl
 | q :: r => by rw [List.map_cons, dOfs, dOf_pair, dOfs_pairs r]; rfl
noncomputable def patD (l : Pt) : Dt := .tup (l.map fun q => .tup [.int q.1, .int q.2])
theorem dOf_pat (l : Pt) : dOf (patW l) = some (patD l) := by
 rw [patW, dOf, dOfs_pairs]; rfl
theorem dpts_pairs : ∀ l : Pt, dpts (l.map fun q => .tup [.int q.1, .int q.2]) <= 1
 | [] => by simp [dpts]
 | q :: r => by
   rw [List.map_cons, dpts]
   have := dpts_pairs r
   simp only [dpt, dpts]
   lia
noncomputable def spBegin (K : PySem.W.Frag) : Sp := fun vs H Q _ => ∃ (a : Addr) (ns : List Int), vs = [.ref a] /\ SqL K H a (ns.map V.int) /\ ∀ (d l : Addr) (ms : List Int) (H' : Hp), d ≠ l -> H' d = some (.lst [.ref l, .int 0, .int 0, .int 11]) -> H' l = some (.lst (ms.map V.int)) -> Q (.ref d) H'
noncomputable def spLaw (K : PySem.W.Frag) : Sp := fun vs H Q _ => ∃ (a : Addr) (ns : List Int), vs = [.ref a] /\ SqL K H a (ns.map V.int) /\ ∀ H', Q (.bl true) H'
theorem okLaw {P : Program} {w : World} {K : PySem.W.Frag} {mg : Str -> Option Value} {base : Heap} {x qual z : Str} {st : Stmt} {f : Addr} {fd : FuncData} {N : List Str} {k : Nat} (F : Fun K x qual st f fd) (S : FnScope N [z] (defScope st)) (hN : 2 <= N.length)
   (hbody : ∀ (cdv : Value) (A : Around) (outer : List Env) (s : Shared) (H : Hp) (E : XK), Room k (A.deeper (PyProof.Rows.envOfC qual (defScope st) s.heap.objs.size f cdv)) ->
     ∃ R, PSs (cxOf CX0 P w K mg base N qual (defScope st) f cdv A outer s H E).nox (defBody st) (tSeq (tAsg (tCall (spBegin K) [] E0 (tCons (tVar 0) tNil)) (gName 1)) R) /\
       ∃ w', IS K R w' /\ ∀ d l M, Dr M d l -> w' { nx := fun _ _ => False, rt := fun x _ => x = wb true } (none :: some (wr d) :: List.replicate (N.length - 2) none) M) :
   FnOk P w K mg base CX0 (k + 1) f fd [z] (spLaw K) := by
 refine Fun.ok F S (fun vs H Q E ⟨a, ns, h, _⟩ => by rw [h]; rfl) fun cdv A outer s H vs Q E hr h => ?_
 obtain ⟨R, h1, w', h2, h3⟩ := hbody cdv A outer s H E hr
 obtain ⟨a, ns, rfl, hs, hq⟩ := h
 refine ⟨_, h1, ?_⟩
 obtain ⟨n, hn⟩ : ∃ n, N.length = n + 2 := ⟨N.length - 2, by lia⟩
 have e0 : L2.start N [V.ref a] = some (V.ref a) :: none :: List.replicate n none := by
   unfold L2.start
   rw [hn]
   rfl
 rw [e0]
 refine ⟨_, rfl, a, ns, rfl, hs, fun d l ms H' hne hd hl => ?_⟩
 show R _ _ H'
 refine h2.imp (none :: some (wr d) :: List.replicate (N.length - 2) none) (um (um (fun _ => none) l (.lst (ms.map wi))) d (.lst [wr l, wi 0, wi 0, wi 11])) _ H' _ _ ⟨⟨?_, fun i y e => ?_⟩, fun b o e => ?_⟩ (h3 d l _ ⟨ms, 0, 0, 11, um_same, by rw [um_ne (Ne.symm hne), um_same], by decide, hne⟩) ⟨fun _ _ _ _ h => h.elim, fun y M' v H2 e _ _ r => ?_, fun _ _ _ _ h => h.elim, fun _ _ _ _ h => h.elim⟩
 · simp [hn]
 · match i with
   | 0 => simp at e
   | 1 =>
     simp at e
     subst e
     exact ⟨.ref d, rfl, WR.v⟩
   | i + 2 =>
     simp [List.getElem?_replicate] at e
 · by_cases hb : b = d
   · subst hb
     rw [um_same] at e; cases e
     exact ⟨_, hd, WRs.cons WR.v (WRs.cons WR.v (WRs.cons WR.v (WRs.cons WR.v WRs.nil)))⟩
   · rw [um_ne hb] at e
     by_cases hb' : b = l
     · subst hb'
       rw [um_same] at e; cases e
       exact ⟨_, hl, WRs.ofInts ms⟩
     · rw [um_ne hb'] at e; cases e
 · subst e
   rw [r.eq]
   exact hq H2
end WQ
namespace WQ
open PySem L2 WL WP
noncomputable abbrev Rd := Int × Pt
noncomputable def rdW (r : Rd) : W := .tup [wi r.1, patW r.2]
noncomputable def jn (p : Int) (a b : Rd) : Rd := (a.1 + b.1, nrm p (a.2 ++ mv a.1 b.2))
noncomputable def bk (p : Int) (a : Rd) : Rd := (-a.1, nrm p (tm (-1) (mv (-a.1) a.2)))
noncomputable def pRound : WSp := fun xs M q => ∃ (d l : Addr) (p en most far : Int), xs = [wr d, wi p, wi en, wi most, wi far] /\ Dr M d l /\ 2 <= p /\ p < 1000 /\ 0 <= en /\ en < 100000000 /\ 0 <= most /\ most < 63 /\ 0 <= far /\ far < 100000000 /\
 ∀ (g : Int) (ps : Pt) (M' : Mp), -en <= g -> g <= en -> (ps.length : Int) <= most -> (∀ z ∈ ps, -far <= z.1 /\ z.1 <= far /\ 0 < z.2 /\ z.2 < p) -> Dr M' d l -> NB d M M' -> q (rdW (g, nrm p ps)) M'
noncomputable def pJoined : WSp := fun xs M q => ∃ (p : Int) (a b : Rd), xs = [wi p, rdW a, rdW b] /\ 0 < p /\ Few (a.2 ++ mv a.1 b.2) /\ a.2.length <= 40000 /\ b.2.length <= 40000 /\ q (rdW (jn p a b)) M
noncomputable def pJoin : WSp := fun xs M q => ∃ (p : Int) (a b : Rd), xs = [wi p, rdW a, rdW b] /\ 0 < p /\ Few (a.2 ++ mv a.1 b.2) /\ a.2.length <= 40000 /\ b.2.length <= 40000 /\ (∀ z ∈ b.2, 0 <= z.2 /\ z.2 < 1000) /\ q (rdW (jn p a b)) M
noncomputable def pBack : WSp := fun xs M q => ∃ (p : Int) (a : Rd), xs = [wi p, rdW a] /\ 0 < p /\ Few (mv (-a.1) a.2) /\ a.2.length <= 40000 /\ (∀ z ∈ a.2, 0 <= z.2 /\ z.2 < 1000) /\ q (rdW (bk p a)) M
noncomputable def pIsRound : WSp := fun xs M q => ∃ (p : Int) (a : Rd), xs = [wi p, rdW a] /\ IsPat p a.2 /\ a.2.length <= 100000 /\ q (wb true) M
noncomputable def pStill : WSp := fun xs M q => xs = [] /\ q (rdW (0, [])) M
theorem dOf_rd (r : Rd) : dOf (rdW r) = some (.tup [.int r.1, patD r.2]) := by
 rw [rdW, dOf, dOfs, dOfs, dOf_pat, dOfs]; rfl
theorem jn_pat {p : Int} (hp : 0 < p) (a b : Rd) : IsPat p (jn p a b).2 := nrm_pat hp _
theorem bk_pat {p : Int} (hp : 0 < p) (a : Rd) : IsPat p (bk p a).2 := nrm_pat hp _
theorem jn_len (p : Int) (a b : Rd) : (jn p a b).2.length <= a.2.length + b.2.length := by
 refine Nat.le_trans (nrm_len _ _) ?_
 rw [List.length_append, mv_len]; lia
theorem bk_len (p : Int) (a : Rd) : (bk p a).2.length <= a.2.length := by
 refine Nat.le_trans (nrm_len _ _) ?_
 rw [tm, List.length_map, mv_len]; lia
theorem rd_ext {a b : Rd} (h1 : a.1 = b.1) (h2 : a.2 = b.2) : a = b := Prod.ext h1 h2
theorem tot_bk {p : Int} (hp : 0 < p) (a : Rd) (x : Int) : tot (bk p a).2 x = (-tot a.2 (x + a.1)) % p := by
 rw [bk, tot_nrm hp, tot_tm, tot_mv]
 congr 1
 rw [Int.mul_neg_one, Int.sub_neg]
theorem pat_of_tot {p : Int} (hp : 0 < p) {a b : Pt} (ha : IsPat p a) (hb : IsPat p b) (h : ∀ x, tot a x = tot b x) : a = b :=
 pat_ext ha hb fun x => by rw [<- tot_look ha.2, <- tot_look hb.2]; exact h x
theorem small_of {p : Int} {a : Pt} (h : IsPat p a) (hp : p < 1000) : ∀ z ∈ a, 0 <= z.2 /\ z.2 < 1000 := fun z hz => by have := h.1 z hz; lia
end WQ
namespace WQ
open PySem L2 WL WP
inductive Deed where
 | go (k : Int) | turn (k : Int)
noncomputable def dstep (s : Int × Pt) : Deed -> Int × Pt
 | .go k => (s.1 + k, s.2)
 | .turn k => (s.1, s.2 ++ [(s.1, k)])
end WQ
namespace WL
open PySem PySem.Spec PyProof.Rows L2
noncomputable def IsMax (ns : List Int) (m : Int) : Prop := m ∈ ns /\ ∀ x ∈ ns, x <= m
noncomputable def IsMin (ns : List Int) (m : Int) : Prop := m ∈ ns /\ ∀ x ∈ ns, m <= x
end WL
namespace WQ
open PySem L2 WL WP
noncomputable def prc (p s : Int) : Int := if p - s < s then p - s else s
noncomputable def spots (a : Rd) : List Int := 0 :: a.1 :: a.2.map (·.1)
noncomputable def absI (i : Int) : Int := if i < 0 then -i else i
noncomputable def fwv (p : Int) (a : Rd) (lo hi : Int) : Int := 2 * (hi - lo) - absI a.1 + (a.2.map fun z => prc p z.2).sum
end WQ
namespace WQ
open PySem L2 WL WP
noncomputable def hit (e n x : Int) : Bool := decide (x.fmod e = 0) && (decide (0 <= x.fdiv e) && decide (x.fdiv e < n))
noncomputable def sumHit (e n x : Int) : Pt -> Int
 | [] => 0
 | z :: r => (if hit e n (x - z.1) then z.2 else 0) + sumHit e n x r
theorem hit_iff {e n x : Int} (he : e ≠ 0) : hit e n x = true ↔ ∃ k, 0 <= k /\ k < n /\ x = k * e := by
 have hd := Int.mul_fdiv_add_fmod x e
 unfold hit
 simp only [Bool.and_eq_true, decide_eq_true_eq]
 constructor
 · rintro ⟨h1, h2, h3⟩
   exact ⟨x.fdiv e, h2, h3, by rw [Int.mul_comm, <- hd, h1]; simp [Int.mul_fdiv_cancel_left _ he]⟩
 · rintro ⟨k, h1, h2, rfl⟩
   have : (k * e).fdiv e = k := Int.mul_fdiv_cancel _ he
   rw [this]
   exact ⟨Int.mul_fmod_left _ _, h1, h2⟩
theorem hit_zero {e x : Int} (he : e ≠ 0) : hit e 0 x = false := by
 cases h : hit e 0 x with
 | false => rfl
 | true => obtain ⟨k, h1, h2, _⟩ := (hit_iff he).mp h; lia
theorem hit_succ {e n x : Int} (he : e ≠ 0) (hn : 0 <= n) : (hit e (n + 1) x = true) ↔ (hit e n x = true \/ x = n * e) := by
 rw [hit_iff he, hit_iff he]
 constructor
 · rintro ⟨k, h1, h2, h3⟩
   rcases Int.lt_or_le k n with h | h
   · exact .inl ⟨k, h1, h, h3⟩
   · have : k = n := by lia
     subst this; exact .inr h3
 · rintro (⟨k, h1, h2, h3⟩ | h)
   · exact ⟨k, h1, by lia, h3⟩
   · exact ⟨n, hn, by lia, h⟩
theorem hit_not {e n : Int} (he : e ≠ 0) : hit e n (n * e) = false := by
 cases h : hit e n (n * e) with
 | false => rfl
 | true =>
   obtain ⟨k, h1, h2, h3⟩ := (hit_iff he).mp h
   have : k = n := Int.eq_of_mul_eq_mul_right he h3.symm
   lia
theorem sumHit_succ {e n x : Int} (he : e ≠ 0) (hn : 0 <= n) (l : Pt) : sumHit e (n + 1) x l = sumHit e n x l + tot l (x - n * e) := by
 induction l with
 | nil => rfl
 | cons z r ih =>
   rw [sumHit, sumHit, tot, ih]
   by_cases h : z.1 = x - n * e
   · have e1 : x - z.1 = n * e := by lia
     rw [if_pos h, e1, if_pos ((hit_succ he hn).mpr (.inr rfl)), hit_not he]
     simp; lia
   · rw [if_neg h]
     have : hit e (n + 1) (x - z.1) = hit e n (x - z.1) := by
       apply Bool.eq_iff_iff.mpr
       rw [hit_succ he hn]
       constructor
       · rintro (h' | h')
         · exact h'
         · exact absurd h' (by lia)
       · exact .inl
     rw [this]; lia
theorem sumHit_zero {e x : Int} (he : e ≠ 0) (l : Pt) : sumHit e 0 x l = 0 := by
 induction l with
 | nil => rfl
 | cons z r ih => rw [sumHit, ih, hit_zero he]; simp
noncomputable def reps (b : Rd) : Nat -> Pt
 | 0 => []
 | n + 1 => reps b n ++ mv ((n : Int) * b.1) b.2
theorem tot_reps {b : Rd} (he : b.1 ≠ 0) (x : Int) : ∀ n : Nat, tot (reps b n) x = sumHit b.1 n x b.2
 | 0 => by rw [reps, Int.ofNat_zero, sumHit_zero he]; rfl
 | n + 1 => by
   rw [reps, tot_append, tot_reps he x n, tot_mv]
   have := sumHit_succ (n := (n : Int)) (x := x) he (by lia) b.2
   rw [Int.natCast_add, Int.ofNat_one, this]
theorem reps_len (b : Rd) : ∀ n : Nat, (reps b n).length = n * b.2.length
 | 0 => by simp [reps]
 | n + 1 => by rw [reps, List.length_append, reps_len b n, mv_len, Nat.succ_mul]
end WQ
namespace WL
open PySem PySem.Spec PyProof.Rows L2
section
variable {X : Cx}
noncomputable def rAll (K : PySem.W.Frag) : List V -> Hp -> VK -> Prop := fun xs H Q => ∃ (l : Addr) (bs : List Bool), xs = [.ref l] /\ SqL K H l (bs.map V.bl) /\ Q (.bl (bs.all id)) H
theorem its_bl {its : List Value} {bs : List Bool} (rv : Vals (bs.map V.bl) its) {i : Nat} {v : Value} (e : its.toArray[i]? = some v) : v = .bool (bs.getD i false) /\ i < bs.length := by
 have e' : its[i]? = some v := by simpa using e
 have hlen := rv.length
 have hi : i < bs.length := by
   have := (List.getElem?_eq_some_iff.mp e').1
   rw [List.length_map] at hlen
   lia
 obtain ⟨w', hw, rw'⟩ := rv.get (i := i) (x := .bl bs[i]) (by rw [List.getElem?_map, List.getElem?_eq_getElem hi]; rfl)
 rw [e'] at hw
 cases hw
 cases rw'
 exact ⟨by simp [List.getD, hi], hi⟩
theorem range_all (bs : List Bool) : (List.range bs.length).all (fun i => bs.getD i false) = bs.all id := by
 apply Bool.eq_iff_iff.mpr
 rw [List.all_eq_true, List.all_eq_true]
 constructor
 · intro h x hx
   obtain ⟨i, hi, rfl⟩ := List.mem_iff_getElem.mp hx
   have := h i (List.mem_range.mpr hi)
   simpa [List.getD, hi] using this
 · intro h i hi
   rw [List.mem_range] at hi
   have := h bs[i] (List.getElem_mem hi)
   simpa [List.getD, hi] using this
theorem call_allW (hc : X.calm = true) : CallR X (.builtin "all") (rAll X.K) := by
 intro pins s σ H xs us Q I r h
 obtain ⟨l, bs, rfl, hs, q⟩ := h
 obtain ⟨u, rfl, ru⟩ := vals1 r
 cases ru
 obtain ⟨its, rv, ht, hz⟩ := I.list hs
 have hh : X.A.in1.handled = none := I.ok.hd hc
 have hlen : its.toArray.size = bs.length := by have := rv.length; rw [List.length_map] at this; simpa using this.symm
 have hlt : l < s.heap.objs.size := by obtain ⟨_, e, _⟩ := ht.isList; exact Heap.lt_size e
 refine PySem.call_all_walkS (wpAny_pyIter_list ht.isList ?_)
 refine ⟨s.heap.objs.size, _, _, _, its.toArray.size, _, _, fun i => bs.getD i false, rfl, (Walks.list hh s.heap.objs.size l (Nat.ne_of_lt hlt) its.toArray).toS, ⟨⟨_, Heap.get?_push_size _ rfl, rfl, rfl⟩, ht.isList.push _⟩, fun i v s' Q' E' e hq => ?_, fun s' hm => ?_⟩
 · obtain ⟨rfl, _⟩ := its_bl rv e
   exact wpAny_truthy_bool hq
 · have hk : ∀ b o, s.heap.get? b = some o -> s'.heap.get? b = some o := fun b o e =>
     hm.heap b o (fun hI => absurd (Heap.lt_size e) (by rw [List.mem_singleton.mp hI]; exact Nat.lt_irrefl _)) (Heap.get?_push_of_some _ e)
   rw [Moved.eq_with hm, hlen, range_all]
   exact ⟨.bl _, H, I.kept (t' := s'.toks) hk, rfl, q⟩
variable {K : PySem.W.Frag}
theorem WRs.bools {H : Hp} : ∀ {bs : List Bool} {vs : List V}, WRs K H (bs.map wb) vs -> vs = bs.map V.bl
 | [], vs, h => by simpa only [List.map_nil, WRs] using h
 | n :: r, vs, h => by
   simp only [List.map_cons, WRs] at h
   obtain ⟨v, t, rfl, h1, h2⟩ := h
   rw [WRs.bools h2, h1.eq]; rfl
noncomputable def wAll : WCl := fun xs M q => ∃ (a : Addr) (bs : List Bool), xs = [wr a] /\ M a = some (.lst (bs.map wb)) /\ q (wb (bs.all id)) M
instance : IC K (rAll K) wAll where
 imp := by
   rintro xs v M H q Q m r1 ⟨a, ns, rfl, hl, h⟩ k
   obtain ⟨v, rfl, r⟩ := r1.one
   cases r.eq
   obtain ⟨vs, hv, rr⟩ := m a _ hl
   cases rr.bools
   exact ⟨a, ns, rfl, SqL.of hv, k _ M _ H h (TSame.refl H) m WR.v⟩
end
end WL
namespace WL
open PySem L2
theorem comp_i {xs : List W} {keep : Mp -> Prop} {M1 : Mp} {own : Nat} {fr : List Nat} {ρ : WSt} {g : WG} {c : WT} {el : WE} {q : WK} (hz : xs.length <= sizeLine)
   (h : ∀ p, M1 p = none -> ∃ I : Nat -> List W -> Mp -> Prop, I 0 [] (um M1 p (.lst [])) /\ (∀ i ys M, i <= xs.length -> I i ys M -> keep M /\ M p = some (.lst ys) /\ ys.length <= i) /\
     (∀ i x ys M, xs[i]? = some x -> I i ys M -> ∀ N : List W -> Mp -> Prop, (∀ ys M, I (i + 1) ys M -> N ys M) -> g x (capρ own fr ρ) M fun ρ2 M2 => c ρ2 M2 fun b M3 => iteK b (el ρ2 M3 fun y M4 => M4 p = some (.lst ys) /\ N (ys ++ [y]) (um M4 p (.lst (ys ++ [y])))) (N ys M3)) /\
     ∀ ys M, I xs.length ys M -> q (wr p) M) : compK xs keep own fr g c el ρ M1 q := by
 refine ⟨hz, fun p hp => ?_⟩
 obtain ⟨I, h0, h1, h2, h3⟩ := h p hp
 exact ⟨I, h0, h1, fun i x ys M hx hI => h2 i x ys M hx hI _ fun _ _ z => z, h3⟩
theorem wAll_e {x : Addr} {M : Mp} {q : WK} {bs : List Bool} (h : M x = some (.lst (bs.map wb))) (k : q (wb (bs.all id)) M) : wAll [wr x] M q := ⟨x, bs, rfl, h, k⟩
end WL
namespace WQ
open PySem L2 WL WP
noncomputable def IsSum (p : Int) (l : List Int) : Prop := (∀ x ∈ l, 0 <= x /\ x < p) /\ ∀ x, l.getLast? = some x -> x ≠ 0
noncomputable def addAtL (row : List Int) (k : Nat) (x : Int) : List Int := row.set k (row.getD k 0 + x)
noncomputable def putK (row : List Int) (o : Nat) (l : List Int) (n : Nat) : List Int := (List.range n).foldl (fun r i => addAtL r (o + i) (l.getD i 0)) row
noncomputable def pw (p s : Int) : Nat -> Int
 | 0 => 1
 | n + 1 => pw p s n * s % p
end WQ
namespace L2
open PySem PySem.Spec PyProof.Rows
theorem Fun.okE {P : Program} {w : World} {K : PySem.W.Frag} {mg : Str -> Option Value} {base : Heap} {CX : CXT} {x qual : Str} {st : Stmt} {f : Addr} {fd : FuncData} {N ps : List Str} {k : Nat} {sp : Sp} (F : Fun K x qual st f fd) (S : FnScope N ps (defScope st)) (len : ∀ vs H Q E, sp vs H Q E -> vs.length = ps.length)
   (hbody : ∀ (cdv : Value) (A : Around) (outer : List Env) (s : Shared) (H : Hp) (vs : List V) (Q : VK) (E : XK), Room k (A.deeper (envOfC qual (defScope st) s.heap.objs.size f cdv)) -> sp vs H Q E ->
     ∃ t, PSs (cxOf CX P w K mg base N qual (defScope st) f cdv A outer s H E) (defBody st) t /\ t { nx := fun _ H' => Q .non H', rt := Q } (start N vs) H) : FnOk P w K mg base CX (k + 1) f fd ps sp := by
 obtain ⟨oc, od, kV, doc, pm, an, cdv, ct, osl, rfl, lk, hcd⟩ := F.ex
 exact fn_of lk hcd S len fun A outer s H vs Q E hr hsp => hbody cdv A outer s H vs Q E hr hsp
end L2
namespace WL
open PySem L2 PySem.Spec PyProof.Rows
noncomputable abbrev WX := Addr -> Mp -> Prop
noncomputable abbrev WSpX := List W -> Mp -> WK -> WX -> Prop
section
variable {K : PySem.W.Frag}
noncomputable def up (e : WX) : WX := fun C M' => ∃ M0, Sm M0 M' /\ e C M0
noncomputable def Ex (K : PySem.W.Frag) (e : WX) : XK := fun cls _ H' => ∃ C M', cls = .ref C /\ e C M' /\ MOk K M' H'
noncomputable def spX (K : PySem.W.Frag) (p : WSpX) : Sp := fun vs H Q E => ∃ (xs : List W) (M : Mp) (q : WK) (e : WX), WRs K H xs vs /\ MOk K M H /\ p xs M q e /\ (∀ x M' v H', q x M' -> TSame H H' -> MOk K M' H' -> WR K H' x v -> Q v H') /\ ∀ C M' H', e C M' -> MOk K M' H' -> E (.ref C) none H'
noncomputable def wCallX (p : WSpX) (e : WX) (a : WA) : WE := fun ρ M q => a ρ M fun xs M1 => p xs M1 q (up e)
instance {p : WSpX} {e : WX} {t : TA} {a : WA} [ia : IA K t a] : IE K (tCall (spX K p) [] (Ex K e) t) (wCallX p e a) where
 imp := fun ρ M σ H q Q o h k => ia.imp ρ M σ H _ _ o h fun x M1 v H1 h1 t1 m1 r1 => ⟨x, M1, q, _, by rw [List.append_nil]; exact r1, m1, h1, fun y M4 v4 H4 h4 t4 m4 r4 => k y M4 v4 H4 h4 (t1.trans t4) m4 r4,
   fun C M' H' ⟨M0, s, h⟩ m => ⟨C, M0, rfl, h, m.sub s⟩⟩
noncomputable def wRaise (C : Addr) (e : WX) (a : WA) : WS := fun _ ρ M => a ρ M fun xs M' => xs.length <= sizeLine /\ up e C M'
instance {C : Addr} {e : WX} {t : TA} {a : WA} [ia : IA K t a] : IS K (tRaise C (Ex K e) t) (wRaise C e a) where
 imp := fun ρ M σ H D' D o h ends => ia.imp ρ M σ H _ _ o h fun x M1 v H1 ⟨hl, M0, s, h1⟩ t1 m1 r1 => ⟨by rw [r1.length]; exact hl, C, M0, rfl, h1, m1.sub s⟩
noncomputable def goesW (i : Nat) (D : WEnds) : WEnds := { nx := fun σ H => D.nx (σ.set i none) H, rt := D.rt, bk := fun σ H => D.bk (σ.set i none) H, ct := fun σ H => D.ct (σ.set i none) H }
theorem WSR.setN {H : Hp} {ρ : WSt} {σ : L2.St} (h : WSR K H ρ σ) (i : Nat) : WSR K H (ρ.set i none) (σ.set i none) := by
 refine ⟨by simp [h.1], fun j y e => ?_⟩
 rw [List.getElem?_set] at e ⊢
 split at e
 · split at e <;> cases e
 · rename_i hj
   rw [if_neg hj]
   exact h.2 j y e
theorem Ok.setN {ρ : WSt} {M : Mp} {σ : L2.St} {H : Hp} (o : Ok K ρ M σ H) (i : Nat) : Ok K (ρ.set i none) M (σ.set i none) H := ⟨o.env.setN i, o.hp⟩
noncomputable def wTry (p : WSpX) (iy i : Nat) (C : Addr) (a : WA) (s : WS) : WS := fun D ρ M => a ρ M fun xs M1 => p xs M1 (fun x M2 => D.nx (ρ.set iy (some x)) M2)
 fun C' M' => C' = C /\ ∀ ea, M' ea = none -> s (goesW i D) (ρ.set i (some (wr ea))) (um M' ea (.exc C))
instance {p : WSpX} {iy i : Nat} {C : Addr} {t : TA} {a : WA} {ts : TS} {s : WS} [ia : IA K t a] [is : IS K ts s] : IS K (tTry (spX K p) [] iy i C t ts) (wTry p iy i C a s) where
 imp := fun ρ M σ H D' D o h ends => ia.imp ρ M σ H _ _ o h fun x M1 v H1 h1 t1 m1 r1 => ⟨x, M1, _, _, by rw [List.append_nil]; exact r1, m1, h1,
   fun y M4 v4 H4 h4 t4 m4 r4 => ends.nx _ _ _ _ h4 (t1.trans t4) ⟨(o.env.ts (t1.trans t4)).set iy r4, m4⟩,
   fun C' M' H' ⟨hC, h2⟩ m => ⟨by rw [hC], fun ea hea tsm => is.imp _ (um M' ea (.exc C)) _ _ (goesW i D') (goesEnds i D) ⟨(o.env.ts (t1.trans tsm)).set i WR.v, m.put (L2.Same.ts (same_upd hea)) upd_same⟩ (h2 ea (m.fresh hea))
     ⟨fun ρ' M5 σ' H5 h5 t5 o5 => ends.nx _ _ _ _ h5 (t1.trans (tsm.trans t5)) (o5.setN i), fun x5 M5 v5 H5 h5 t5 m5 r5 => ends.rt _ _ _ _ h5 (t1.trans (tsm.trans t5)) m5 r5,
      fun ρ' M5 σ' H5 h5 t5 o5 => ends.bk _ _ _ _ h5 (t1.trans (tsm.trans t5)) (o5.setN i), fun ρ' M5 σ' H5 h5 t5 o5 => ends.ct _ _ _ _ h5 (t1.trans (tsm.trans t5)) (o5.setN i)⟩⟩⟩
noncomputable def wIsE (K : PySem.W.Frag) : WCl := fun xs M q => ∃ a C c cu b, xs = [wr a, .v c] /\ M a = some (.exc C) /\ ExcK K C /\ RelV c cu /\ (∀ u, RelV c u -> u = cu) /\ PySem.W.kitOne K (.ref C) cu = some b /\ q (wb b) M
instance : IC K (rIsE K) (wIsE K) where
 imp := by
   rintro xs v M H q Q m r1 ⟨a, C, c, cu, b, rfl, ha, kc, rc, only, e, h⟩ k
   obtain ⟨v, u, rfl, r, r'⟩ := r1.two
   cases r.eq
   cases r'.eq
   exact ⟨a, C, c, cu, b, rfl, m a _ ha, kc, rc, only, e, k _ M _ H h (TSame.refl H) m WR.v⟩
theorem okX {P : Program} {w : World} {mg : Str -> Option Value} {base : Heap} {x qual : Str} {st : Stmt} {f : Addr} {fd : FuncData} {N ps : List Str} {k : Nat} {p : WSpX} (F : Fun K x qual st f fd) (S : FnScope N ps (defScope st)) (len : ∀ vs M q e, p vs M q e -> vs.length = ps.length)
   (hbody : ∀ (cdv : Value) (A : Around) (outer : List Env) (s : Shared) (H : Hp) (E : XK) (e : WX), Room k (A.deeper (envOfC qual (defScope st) s.heap.objs.size f cdv)) ->
     Flies (cxOf (Fly P w) P w K mg base N qual (defScope st) f cdv A outer s H E) (Ex K e) -> Passes (Fly P w) (cxOf (Fly P w) P w K mg base N qual (defScope st) f cdv A outer s H E) (Ex K e) ->
     ∃ t, PSs (cxOf (Fly P w) P w K mg base N qual (defScope st) f cdv A outer s H E) (defBody st) t /\ ∃ w', IS K t w' /\
       ∀ vs M q, p vs M q e -> w' { nx := fun _ M' => ∃ M0, Sm M0 M' /\ q wn M0, rt := fun x M' => ∃ M0, Sm M0 M' /\ q x M0 } (vs.map some ++ List.replicate (N.length - vs.length) none) M) :
   FnOk P w K mg base (Fly P w) (k + 1) f fd ps (spX K p) := by
 refine Fun.okE F S (fun vs H Q E ⟨xs, M, q, e, r, m, h, _⟩ => by rw [r.length]; exact len xs M q e h) fun cdv A outer s H vs Q E hr h => ?_
 obtain ⟨xs, M, q, e, r, m, h, k', kE⟩ := h
 have hE : ∀ c d H', Ex K e c d H' -> E c none H' := fun c d H' ⟨C, M', ec, he, m'⟩ => by rw [ec]; exact kE C M' H' he m'
 obtain ⟨t, h1, w', h2, h3⟩ := hbody cdv A outer s H E e hr (fun pins σ H1 s1 h' ea cls us I mk z => flies_cx pins σ H1 s1 h' ea cls us I mk (hE _ _ _ z))
   (fun pins σ H1 s1 ev s2 I z => passes_fly pins σ H1 s1 ev s2 I (by
     obtain ⟨ea, cls, a0, B, H', r1, r2, r3, r4, r5, r6, r7, r8, r9, r⟩ := z
     exact ⟨ea, cls, a0, B, H', r1, r2, r3, r4, r5, r6, r7, r8, r9, hE _ _ _ r⟩))
 refine ⟨t, h1, h2.imp _ M _ H _ _ ⟨⟨?_, fun i x e => ?_⟩, m⟩ (h3 xs M q h) ⟨?_, ?_, fun _ _ _ _ h => h.elim, fun _ _ _ _ h => h.elim⟩⟩
 · have := r.length
   simp [L2.start, this]
 · have hl := r.length
   unfold L2.start
   by_cases hi : i < xs.length
   · rw [List.getElem?_append_left (by simpa using hi), List.getElem?_map] at e
     cases ex : xs[i]? with
     | none => rw [ex] at e; cases e
     | some y =>
       rw [ex] at e; cases e
       obtain ⟨v, hv, rv⟩ := r.at ex
       refine ⟨v, ?_, rv⟩
       rw [List.getElem?_append_left (by simp; lia), List.getElem?_map, hv]; rfl
   · rw [List.getElem?_append_right (by simpa using hi), List.getElem?_replicate] at e
     split at e <;> cases e
 · rintro ρ' M' σ' H' ⟨M0, s, hq⟩ ts o
   exact k' _ M0 _ H' hq ts (o.hp.sub s) WR.v
 · rintro x M' v H' ⟨M0, s, hq⟩ ts m' r'
   exact k' x M0 v H' hq ts (m'.sub s) r'
end
end WL
namespace L2
open PySem PySem.Spec PyProof.Rows PySem.Calls
section
variable {X : Cx}
theorem own_fly {P : Program} {w : World} {K : PySem.W.Frag} {mg : Str -> Option Value} {base : Heap} {N : List Str} {qual : Str} {scope : Scope} {f : Addr} {cd : Value} {A : Around} {outer : List Env} {s : Shared} {H : Hp} {E : XK} :
   PassesOwn (model P w) (cxOf (Fly P w) P w K mg base N qual scope f cd A outer s H E).A (cxOf (Fly P w) P w K mg base N qual scope f cd A outer s H E).env (cxOf (Fly P w) P w K mg base N qual scope f cd A outer s H E).xe :=
 PassesOwn.leaving (Q₁ := fun e s2 => Fly P w outer H s E e s2)
noncomputable def tFvS (te : TE) : TE := fun σ H Q => te σ H fun v H1 => ∃ y, v = .str y /\ y.length <= sizeLine /\ Q (.str y) H1
theorem pe_fvS {e : Expr} {te : TE} {pos : Pos} (he : PE X e te) : PE X (.FormattedValue e (-1) none pos) (tFvS te) := by
 intro pins s σ H Q I h
 refine FormattedValue_plain (thn (he pins s σ H _ I h) ?_)
 rintro v s1 ⟨x, H1, I1, r, y, rfl, hy, q⟩
 obtain ⟨t, rfl⟩ := (show ∃ t, v = Value.str y t from r)
 exact formatField_str (fun t' tk => ⟨.str y, H1, I1.tok tk, ⟨t', rfl⟩, q⟩) hy
noncomputable def tFvI (te : TE) : TE := fun σ H Q => te σ H fun v H1 => ∃ i : Int, v = .int i /\ i.natAbs.log2 < 1920 /\ Q (.str (toString i)) H1
theorem pe_fvI {e : Expr} {te : TE} {pos : Pos} (he : PE X e te) : PE X (.FormattedValue e (-1) none pos) (tFvI te) := by
 intro pins s σ H Q I h
 refine FormattedValue_plain (thn (he pins s σ H _ I h) ?_)
 rintro v s1 ⟨x, H1, I1, r, i, rfl, hi, q⟩
 obtain ⟨t, rfl⟩ := (show ∃ t, v = Value.int i t from r)
 exact formatField_int_small hi ⟨.str _, H1, I1.tok _, ⟨_, rfl⟩, q⟩
noncomputable def tJ0 (out : Str) : TE := fun _ H Q => out.length <= sizeLine /\ Q (.str out) H
noncomputable def tJ1 (te : TE) (k : Str -> TE) (out : Str) : TE := fun σ H Q => te σ H fun v H1 => ∃ y, v = .str y /\ (out ++ y).length <= sizeLine /\ k (out ++ y) σ H1 Q
noncomputable def PJ (X : Cx) (es : List Expr) (k : Str -> TE) : Prop := ∀ (out : Str) (pins : List (Addr × Obj)) (s : Shared) (σ : St) (H : Hp) (Q : VK), Inv X pins σ H s -> k out σ H Q -> wpAny (model X.prog X.w) X.A (joinParts out (evalEach es X.env)) (EP X pins σ Q) X.xe s
theorem pj_nil : PJ X [] tJ0 := fun out pins s σ H Q I ⟨hz, q⟩ => joinParts_nil ⟨.str out, H, I.tok _, ⟨_, rfl⟩, q⟩ hz
theorem pj_cons {e : Expr} {es : List Expr} {te : TE} {k : Str -> TE} (he : PE X e te) (hk : PJ X es k) (hs : evalEach (e :: es) X.env = eval e X.env :: evalEach es X.env := by rfl) : PJ X (e :: es) (tJ1 te k) := by
 intro out pins s σ H Q I h
 rw [hs]
 refine joinParts_cons (thn (he pins s σ H _ I h) ?_)
 rintro v s1 ⟨x, H1, I1, r, y, rfl, hz, q⟩
 obtain ⟨t, rfl⟩ := (show ∃ t, v = Value.str y t from r)
 exact ⟨hz, hk _ pins s1 σ H1 Q I1 q⟩
theorem pe_fstr {e e' : Expr} {es : List Expr} {k : Str -> TE} {pos : Pos} (h : PJ X (e :: e' :: es) k) : PE X (.JoinedStr (e :: e' :: es) pos) (k Str.empty) :=
 fun pins s σ H Q I hq => JoinedStr_many (h Str.empty pins s σ H Q I hq)
end
end L2
namespace WL
open PySem L2 PySem.Spec PyProof.Rows
section
variable {K : PySem.W.Frag}
noncomputable def wFvS (a : WE) : WE := fun ρ M q => a ρ M fun x M1 => ∃ y, x = ws y /\ y.length <= sizeLine /\ q (ws y) M1
instance {t : TE} {a : WE} [ia : IE K t a] : IE K (tFvS t) (wFvS a) where
 imp := fun ρ M σ H q Q o h k => ia.imp ρ M σ H _ _ o h fun x M1 v H1 ⟨y, e, hz, h1⟩ t1 m1 r1 => by
   subst e
   exact ⟨y, r1.eq, hz, k _ M1 _ H1 h1 t1 m1 WR.v⟩
noncomputable def wFvI (a : WE) : WE := fun ρ M q => a ρ M fun x M1 => ∃ i : Int, x = wi i /\ i.natAbs.log2 < 1920 /\ q (ws (toString i)) M1
instance {t : TE} {a : WE} [ia : IE K t a] : IE K (tFvI t) (wFvI a) where
 imp := fun ρ M σ H q Q o h k => ia.imp ρ M σ H _ _ o h fun x M1 v H1 ⟨y, e, hz, h1⟩ t1 m1 r1 => by
   subst e
   exact ⟨y, r1.eq, hz, k _ M1 _ H1 h1 t1 m1 WR.v⟩
noncomputable def wJ0 (out : Str) : WE := fun _ M q => out.length <= sizeLine /\ q (ws out) M
instance {out : Str} : IE K (tJ0 out) (wJ0 out) where
 imp := fun ρ M σ H q Q o ⟨hz, h⟩ k => ⟨hz, k _ M _ H h (TSame.refl H) o.hp WR.v⟩
noncomputable def wJ1 (a : WE) (f : Str -> WE) (out : Str) : WE := fun ρ M q => a ρ M fun x M1 => ∃ y, x = ws y /\ (out ++ y).length <= sizeLine /\ f (out ++ y) ρ M1 q
instance {t : TE} {a : WE} {f : Str -> TE} {g : Str -> WE} {out : Str} [ia : IE K t a] [ig : ∀ o, IE K (f o) (g o)] : IE K (tJ1 t f out) (wJ1 a g out) where
 imp := fun ρ M σ H q Q o h k => ia.imp ρ M σ H _ _ o h fun x M1 v H1 ⟨y, e, hz, h1⟩ t1 m1 r1 => by
   subst e
   exact ⟨y, r1.eq, hz, (ig _).imp ρ M1 σ H1 q Q (o.mv t1 m1) h1 fun x2 M2 v2 H2 q2 t2 m2 r2 => k x2 M2 v2 H2 q2 (t1.trans t2) m2 r2⟩
end
end WL
namespace L2
open PySem PySem.Spec PyProof.Rows PySem.Calls PySem.W
noncomputable def _root_.PySem.Value.theStr : Value -> Str
 | .str n _ => n
 | _ => ""
theorem top_mod {K : PySem.W.Frag} {mg : Str -> Option Value} {h₀ : Heap} (m : Mod K mg h₀) (p : Program) : ∃ loose mb, PySem.W.TopRead p loose mg mb h₀ := by
 obtain ⟨mb, b, hb⟩ := m.blt
 obtain ⟨o, es, ep, ho, hd, hs, hn⟩ := m.glob
 refine ⟨es.toList.map (fun e => e.key.theStr), mb, m.glob, b, m.nolimit, hb, fun x _ hx _ _ _ => ?_⟩
 rw [<- hn x]
 show (es.find? fun e => e.key.isStr x).map _ = none
 rw [Array.find?_eq_none.mpr]
 · rfl
 · intro e he hk
   obtain ⟨n, q, hq⟩ := hs e he
   refine hx (List.mem_map.mpr ⟨e, by simpa using he, ?_⟩)
   rw [hq] at hk ⊢
   first | exact beq_iff_eq.mp hk | exact (beq_iff_eq.mp hk).symm | exact of_decide_eq_true hk | exact (of_decide_eq_true hk).symm
theorem own_mod {K : PySem.W.Frag} {mg : Str -> Option Value} {h₀ : Heap} {x : Str} {C : Addr} {bmB : List Value} {newId : String} (m : Mod K mg h₀) (e : nsIn K mainGlobals x = some (some (.ref C))) (q : excIn K C bmB newId = true) : OwnCls x C bmB newId mg h₀  := by
 obtain ⟨_, _, T⟩ := top_mod m default
 exact own_of_in m.kin T e q
structure ExcC (K : PySem.W.Frag) (x : Str) (C : Addr) : Prop where
 ns : nsIn K mainGlobals x = some (some (.ref C))
 exc : excIn K C bmV "ValueError.__new__" = true
 k : ExcK K C
section
variable {X : Cx}
theorem ps_raiseK {E : XK} {x : Str} {C : Addr} {np cpos pos : Pos} {e₀ : Expr} {rest : List Expr} {t : TA} (hF : Flies X E) (hc : X.calm = true) (hg : Gl X x) (O : ExcC X.K x C) (ha : PA X (e₀ :: rest) t)
   (hdb : (x == ("__debug__" : Str)) = false := by decide) (he : starEach (e₀ :: rest) X.env = (false, eval e₀ X.env) :: starEach rest X.env := by rfl) (hpl : (backTo cpos (starEach rest X.env)).any (·.1) = false := by rfl) :
   PS X (.Raise (some (.Call (.Name x np) (e₀ :: rest) [] cpos)) none pos) (tRaise C E t) := fun pins s σ H D I h => ps_raise hF hc hg (own_mod I.ok.mod O.ns O.exc) ha hdb he hpl pins s σ H D I h
theorem ps_tryK {k : Nat} {f C : Addr} {fd : FuncData} {ps : List Str} {sp : Sp} {fx x n y : Str} {p yp np hpos cpos apos pos : Pos} {e₀ : Expr} {es : List Expr} {b₀ : Stmt} {suite : List Stmt} {ta : TA} {ts : TS} {i iy : Nat}
   (hst : X.stack = X.env :: X.outer) (hfr : X.env.frame = some X.env.locals) (F : FnOk X.prog X.w X.K X.mg X.base (Fly X.prog X.w) k f fd ps sp) (hr : Room k X.A) (hgf : Gl X fx) (hm : X.mg fx = some (.ref f)) (hkf : PySem.W.keepIn X.K (.ref f) = true) (hb : Binds X.K fd ps [])
   (ha : PA X.nox (e₀ :: es) ta) (hN : X.N.Nodup) (hiy : X.N[iy]? = some y) (hy : X.env.kindOf y = some .local) (hg : Gl X x) (O : ExcC X.K x C) (hi : X.N[i]? = some n) (hn : X.env.kindOf n = some .local)
   (hsu : ∀ ea, PSs (X.inExc (.ref ea)) (b₀ :: suite) ts)
   (hs : swapsWith (.Call (.Name fx p) (e₀ :: es) [] cpos) (some (.Name y yp)) apos.line X.env = pure false := by rfl) (hdf : (fx == ("__debug__" : Str)) = false := by decide) (hdx : (x == ("__debug__" : Str)) = false := by decide)
   (he : starEach (e₀ :: es) X.env = (false, eval e₀ X.env) :: starEach es X.env := by rfl) (hpl : (backTo cpos (starEach es X.env)).any (·.1) = false := by rfl) :
   PS X (.Try [.Assign [.Name y yp] (.Call (.Name fx p) (e₀ :: es) [] cpos) apos] [.ExceptHandler (some (.Name x np)) (some n) (b₀ :: suite) hpos] [] [] pos) (tTry sp [] iy i C ta ts) :=
 fun pins s σ H D I h => ps_try hst hfr F hr hgf hm hkf hb .nil ha hN hiy hy hg (own_mod I.ok.mod O.ns O.exc) hi hn hsu hs hdf hdx he hpl pins s σ H D I h
end
end L2
namespace WL
open PySem L2
noncomputable def rIsN : R2 := fun x y H Q => y = .non /\ Q (.bl (decide (x = V.non))) H
noncomputable def nonW : W -> Bool
 | .v x => decide (x = V.non)
 | .tup _ => false
noncomputable def wIsN : WR2 := fun x y M q => y = wn /\ q (wb (nonW x)) M
instance {K : PySem.W.Frag} : IR K rIsN wIsN where
 imp := by
   rintro x y v u M H q Q m r1 r2 ⟨rfl, h⟩ k
   refine ⟨r2.eq, k _ M _ H h (TSame.refl H) m ?_⟩
   cases x with
   | v x => rw [r1.eq]; exact WR.v
   | tup l => obtain ⟨a, vs, rfl, _⟩ := r1.tup; exact WR.v
noncomputable def rNotN : R2 := fun x y H Q => y = .non /\ Q (.bl (!decide (x = V.non))) H
noncomputable def wNotN : WR2 := fun x y M q => y = wn /\ q (wb (!nonW x)) M
instance {K : PySem.W.Frag} : IR K rNotN wNotN where
 imp := by
   rintro x y v u M H q Q m r1 r2 ⟨rfl, h⟩ k
   refine ⟨r2.eq, k _ M _ H h (TSame.refl H) m ?_⟩
   cases x with
   | v x => rw [r1.eq]; exact WR.v
   | tup l => obtain ⟨a, vs, rfl, _⟩ := r1.tup; exact WR.v
theorem op_notNW {X : Cx} : OpR X (compareOp .IsNot) rNotN := op_notN
theorem op_isNW {X : Cx} : OpR X (compareOp .Is) rIsN := op_isN
end WL
namespace WL
open PySem L2
theorem join_i {β : Sort _} {R : WSt -> Mp -> Prop} {G : Prop} (ρ : β -> WSt) (M : β -> Mp) (P : β -> Prop) (use : (∀ b, P b -> hold R (ρ b) (M b)) -> G) (rest : ∀ b, P b -> hold R (ρ b) (M b)) : G := use rest
theorem eq_dat {M : Mp} {q : WK} {x y : W} {d : Dt} (hx : DR M x d) (hy : DR M y d) (hd : dpt d <= 50) (hs : sameSeq d d = true) (h : q (wb true) M) : wEqD x y M q := ⟨d, d, hx, hy, hs, hd, by rw [eqD_refl]; exact h⟩
theorem ne_dat {M : Mp} {q : WK} {x y : W} {d : Dt} (hx : DR M x d) (hy : DR M y d) (hd : dpt d <= 50) (hs : sameSeq d d = true) (h : q (wb false) M) : wNeD x y M q := ⟨d, d, hx, hy, hs, hd, by rw [eqD_refl]; exact h⟩
noncomputable def dOfF {α : Type} (f : α -> W) (g : α -> Dt) : Prop := ∀ a, dOf (f a) = some (g a)
theorem dOfs_map {α : Type} {f : α -> W} {g : α -> Dt} (h : dOfF f g) : ∀ l : List α, dOfs (l.map f) = some (l.map g)
 | [] => rfl
 | a :: l => by rw [List.map_cons, dOfs, h a, dOfs_map h l]; rfl
theorem dpts_map {α : Type} {g : α -> Dt} {n : Nat} (h : ∀ a, dpt (g a) <= n) : ∀ l : List α, dpts (l.map g) <= n
 | [] => by simp [dpts]
 | a :: l => by
   rw [List.map_cons, dpts]
   have := h a
   have := dpts_map h l
   lia
theorem DR.list {α : Type} {M : Mp} {a : Addr} {f : α -> W} {g : α -> Dt} {l : List α} (h : dOfF f g) (ha : M a = some (.lst (l.map f))) : DR M (wr a) (.lst (l.map g)) := .inr ⟨a, _, _, rfl, ha, dOfs_map h l, rfl⟩
end WL
namespace WL
open PySem L2
theorem isE_ref {K : PySem.W.Frag} {M : Mp} {q : WK} {a C D : Addr} {b : Bool} (ha : M a = some (.exc C)) (k : ExcK K C) (e : PySem.W.kitOne K (.ref C) (.ref D) = some b) (h : q (wb b) M) : wIsE K [wr a, .v (.ref D)] M q := ⟨a, C, .ref D, .ref D, b, rfl, ha, k, rfl, fun _ h => h, e, h⟩
theorem isE_ty {K : PySem.W.Frag} {M : Mp} {q : WK} {a C : Addr} {D : String} {b : Bool} (ha : M a = some (.exc C)) (k : ExcK K C) (e : PySem.W.kitOne K (.ref C) (.type D) = some b) (h : q (wb b) M) : wIsE K [wr a, .v (.ty D)] M q := ⟨a, C, .ty D, .type D, b, rfl, ha, k, rfl, fun _ h => h, e, h⟩
end WL
namespace WL
open PySem L2
theorem atI_4 {α : Type} {a b c d e : α} {l : List α} : atI (a :: b :: c :: d :: e :: l) 4 = some e := atI_nat (j := 4) (by rfl)
theorem atI_5 {α : Type} {a b c d e f : α} {l : List α} : atI (a :: b :: c :: d :: e :: f :: l) 5 = some f := atI_nat (j := 5) (by rfl)
theorem atI_6 {α : Type} {a b c d e f g : α} {l : List α} : atI (a :: b :: c :: d :: e :: f :: g :: l) 6 = some g := atI_nat (j := 6) (by rfl)
theorem atI_7 {α : Type} {a b c d e f g h : α} {l : List α} : atI (a :: b :: c :: d :: e :: f :: g :: h :: l) 7 = some h := atI_nat (j := 7) (by rfl)
theorem atI_8 {α : Type} {a b c d e f g h i : α} {l : List α} : atI (a :: b :: c :: d :: e :: f :: g :: h :: i :: l) 8 = some i := atI_nat (j := 8) (by rfl)
theorem atI_c {α : Type} : (∀ (a b c d e : α) (l : List α), atI (a :: b :: c :: d :: e :: l) 4 = some e) /\ (∀ (a b c d e f : α) (l : List α), atI (a :: b :: c :: d :: e :: f :: l) 5 = some f) /\ (∀ (a b c d e f g : α) (l : List α), atI (a :: b :: c :: d :: e :: f :: g :: l) 6 = some g) /\ (∀ (a b c d e f g h : α) (l : List α), atI (a :: b :: c :: d :: e :: f :: g :: h :: l) 7 = some h) /\ (∀ (a b c d e f g h i : α) (l : List α), atI (a :: b :: c :: d :: e :: f :: g :: h :: i :: l) 8 = some i) :=
 ⟨fun _ _ _ _ _ _ => atI_4, fun _ _ _ _ _ _ _ => atI_5, fun _ _ _ _ _ _ _ _ => atI_6, fun _ _ _ _ _ _ _ _ _ => atI_7, fun _ _ _ _ _ _ _ _ _ _ => atI_8⟩
end WL
namespace L2
open PySem PySem.Spec PyProof.Rows
noncomputable def Keeps (S : Nat -> Prop) (g : TG) : Prop := ∀ (σ : St) (v : V) (H : Hp) (Q : St -> Hp -> Prop), g v σ H Q -> g v σ H fun σ2 H2 => (σ2.length = σ.length /\ ∀ i, ¬ S i -> σ2[i]? = σ[i]?) /\ Q σ2 H2
theorem kps_name {S : Nat -> Prop} {n : Nat} (h : S n) : Keeps S (gName n) := by
 intro σ v H Q q
 refine ⟨⟨by simp, fun i hi => ?_⟩, q⟩
 rw [List.getElem?_set_ne]
 intro e; subst e; exact hi h
theorem kps_two {K : PySem.W.Frag} {S : Nat -> Prop} {n m : Nat} (h : S n) (h' : S m) : Keeps S (gTup K 2 (gCons (gName n) (gCons (gName m) gNil))) := by
 rintro σ v H Q ⟨a, xs, e, hs, hl, x, r, rfl, y, r', rfl, rfl, q⟩
 refine ⟨a, _, e, hs, hl, x, _, rfl, y, _, rfl, rfl, ⟨by simp, fun i hi => ?_⟩, q⟩
 rw [List.getElem?_set_ne, List.getElem?_set_ne]
 · intro e; subst e; exact hi h
 · intro e; subst e; exact hi h'
theorem cap_own {own : Nat} {fr : List Nat} {σ : St} {i : Nat} {v : V} (h : (capσ own fr σ)[i]? = some (some v)) : own <= i := by
 unfold capσ at h
 rcases Nat.lt_or_ge i own with c | c
 · rw [List.getElem?_append_left (by simpa using c), List.getElem?_replicate, if_pos c] at h
   cases h
 · exact c
noncomputable def inW (wi2 : TI) (g2 : TG) (tc2 : TT) (te : TE) (σ2 : St) (p : Addr) (H4 : Hp) (N : List V -> Hp -> Prop) : Prop :=
 wi2 σ2 H4 fun J2 H5 => ∃ Z : Nat -> Nat -> List V -> Hp -> Prop, (∃ m zs, Z 0 m zs H5) /\ ∀ j k zs H6, Z j k zs H6 -> H6 p = some (.lst zs) /\
   ((J2.stop j H6 /\ N zs H6) \/ (J2.go j H6 /\ zs.length < sizeLine /\ ∀ y H7, J2.yld j H6 y H7 -> g2 y σ2 H7 fun σ3 H8 => tc2 σ3 H8 fun c H9 =>
     if c = true then te σ3 H9 fun z H10 => ∃ ws, H10 p = some (.lst ws) /\ ws.length < sizeLine /\ ∃ k', k' < k /\ Z (j + 1) k' (ws ++ [z]) (upd H10 p (.lst (ws ++ [z]))) else ∃ ws k', k' < k /\ Z (j + 1) k' ws H9))
noncomputable def compW2 (J : It) (own : Nat) (fr : List Nat) (g : TG) (tc : TT) (wi2 : TI) (g2 : TG) (tc2 : TT) (te : TE) (σ : St) (p : Addr) (H1 : Hp) (Q : VK) : Prop :=
 ∃ W : Nat -> Nat -> List V -> Hp -> Prop, (∃ m, W 0 m [] (upd H1 p (.lst []))) /\ ∀ i m ys H', W i m ys H' -> H' p = some (.lst ys) /\
   ((J.stop i H' /\ Q (.ref p) H') \/ (J.go i H' /\ ∀ x H2, J.yld i H' x H2 -> g x (capσ own fr σ) H2 fun σ2 H3 => tc σ2 H3 fun b H4 =>
     if b = true then inW wi2 g2 tc2 te σ2 p H4 fun zs H5 => ∃ m', m' < m /\ W (i + 1) m' zs H5 else ∃ zs m', m' < m /\ W (i + 1) m' zs H4))
noncomputable def tComp2 (wi : TI) (own : Nat) (fr : List Nat) (g : TG) (tc : TT) (wi2 : TI) (g2 : TG) (tc2 : TT) (te : TE) : TE := fun σ H Q => wi σ H fun J H1 => ∀ p, H1 p = none -> compW2 J own fr g tc wi2 g2 tc2 te σ p H1 Q
section
variable {prog : Program} {w : World} {A : Around} {R : Result -> Shared -> Prop} {s : Shared}
noncomputable abbrev lc2 (elt tg iter : Expr) (ifs : List Expr) (tg2 iter2 : Expr) (ifs2 : List Expr) (scope : Scope) (pos : Pos) : Expr := .ListComp elt [⟨tg, iter, ifs, 0⟩, ⟨tg2, iter2, ifs2, 0⟩] scope pos
theorem turn2_0 (elt tg iter : Expr) (ifs : List Expr) (tg2 iter2 : Expr) (ifs2 : List Expr) (scope : Scope) (pos : Pos) (it acc : Value) (env : Env) :
   compTurn (lc2 elt tg iter ifs tg2 iter2 ifs2 scope pos) 0 it acc env = (do
     standAt iter.pos
     let r <- pyNext it
     match r with
     | none => pure (.done .next)
     | some v => do
       letOwnedTupleGo tg it v
       assign tg env v
       let ok <- forIn ifs true fun c r => if r = true then do let ok <- isTrue c env (eval c env); pure (ForInStep.yield ok) else pure (ForInStep.yield r)
       if ok = true then do
         let x <- eval iter2 env
         standAt iter2.pos
         let x <- foldedSetIterable iter2 env x
         let i2 <- holding [x] (pyIter x)
         let _ <- runOwn (.compStart (lc2 elt tg iter ifs tg2 iter2 ifs2 scope pos) 1 i2 acc env) env
         again (.compLoop (lc2 elt tg iter ifs tg2 iter2 ifs2 scope pos) 0 it acc env)
       else again (.compLoop (lc2 elt tg iter ifs tg2 iter2 ifs2 scope pos) 0 it acc env)) := by rfl
theorem turn2_1 (elt tg iter : Expr) (ifs : List Expr) (tg2 iter2 : Expr) (ifs2 : List Expr) (scope : Scope) (pos : Pos) (it acc : Value) (env : Env) :
   compTurn (lc2 elt tg iter ifs tg2 iter2 ifs2 scope pos) 1 it acc env = (do
     standAt iter2.pos
     let r <- pyNext it
     match r with
     | none => pure (.done .next)
     | some v => do
       letOwnedTupleGo tg2 it v
       assign tg2 env v
       let ok <- forIn ifs2 true fun c r => if r = true then do let ok <- isTrue c env (eval c env); pure (ForInStep.yield ok) else pure (ForInStep.yield r)
       if ok = true then do
         ((do let _ <- call (.builtin "list.append") [acc, <- eval elt env]) : Sem Unit)
         again (.compLoop (lc2 elt tg iter ifs tg2 iter2 ifs2 scope pos) 1 it acc env)
       else again (.compLoop (lc2 elt tg iter ifs tg2 iter2 ifs2 scope pos) 1 it acc env)) := by rfl
theorem start2_1 {elt tg iter : Expr} {ifs : List Expr} {tg2 iter2 : Expr} {ifs2 : List Expr} {scope : Scope} {pos : Pos} {it acc : Value} {env : Env}
   (h0 : codeAny (model prog w) A (.compLoop (lc2 elt tg iter ifs tg2 iter2 ifs2 scope pos) 1 it acc env) R s)
   (h : wpAny (model prog w) A (pyIter it) (fun it' s' => codeAny (model prog w) A (.compLoop (lc2 elt tg iter ifs tg2 iter2 ifs2 scope pos) 1 it' acc env) R s')
     (notedBy (model prog w) A env fun x s' => R (.error x) s') s) :
   codeAny (model prog w) A (.compStart (lc2 elt tg iter ifs tg2 iter2 ifs2 scope pos) 1 it acc env) R s := by
 refine codeAny_of_tree ?_
 show wpAny _ _ ((compStart (lc2 elt tg iter ifs tg2 iter2 ifs2 scope pos) 1 it acc env).onRaise (fun x => do noteFrame x env; standAt theWindowsPlace)) _ _ s
 refine wpAny_notedAt ?_
 unfold compStart
 show wpAny _ _ (ask >>= _) _ _ s
 refine wpAny_bind (wpAny_askSetting (wpAny_ite ?_))
 split
 · first
     | exact wpAny_bind (wpAny_pure (wpAny_pure (And.intro rfl h0)))
     | exact wpAny_pure (And.intro rfl h0)
 · first
     | exact wpAny_bind (wpAny_rule (wpAny_bind (wpAny_standAt (wpAny_bind (wpAny_mono h (fun it' s' h' => wpAny_pure (And.intro rfl h')) fun _ _ x => x)))))
     | (refine wpAny_bind (wpAny_rule ?_); show wpAny _ _ (standAt iter2.pos >>= _) _ _ s; exact wpAny_bind (wpAny_standAt (wpAny_bind (wpAny_mono h (fun it' s' h' => wpAny_pure (And.intro rfl h')) fun _ _ x => x))))
theorem loop2_1 {elt tg iter : Expr} {ifs : List Expr} {tg2 iter2 : Expr} {ifs2 : List Expr} {scope : Scope} {pos : Pos} {it acc : Value} {env : Env} (I : Nat -> Shared -> Prop)
   (turn : ∀ n s, I n s -> wpAny (model prog w) A (pyNext it) (fun r s₁ => match r with
     | none => R (.ok .next) s₁
     | some v => wpAny (model prog w) A (letOwnedTupleGo tg2 it v) (fun _ s₀ => wpAny (model prog w) A (assign tg2 env v) (fun _ s₂ =>
         wpAny (model prog w) A (forIn ifs2 true fun c r => if r = true then do let ok <- isTrue c env (eval c env); pure (ForInStep.yield ok) else pure (ForInStep.yield r)) (fun ok s₃ => if ok = true then wpAny (model prog w) A (eval elt env) (fun x s₄ =>
           wpAny (model prog w) A (call (.builtin "list.append") [acc, x]) (fun _ s₅ => ∃ m, m < n /\ I m s₅) (fun _ _ => False) s₄) (fun _ _ => False) s₃
           else ∃ m, m < n /\ I m s₃) (fun _ _ => False) s₂)
         (fun _ _ => False) s₀) (fun _ _ => False) s₁) (fun _ _ => False) s)
   (n : Nat) (h : I n s) : codeAny (model prog w) A (.compLoop (lc2 elt tg iter ifs tg2 iter2 ifs2 scope pos) 1 it acc env) R s := by
 refine codeAny_loop rfl I (fun n s hI => ?_) n h
 show wpAny _ A ((compTurn (lc2 elt tg iter ifs tg2 iter2 ifs2 scope pos) 1 it acc env).onRaise (fun x => do noteFrame x env; theTreesLotGoes x)) _ _ s
 refine wpAny_noted ?_
 rw [turn2_1]
 refine wpAny_bind (wpAny_standAt (wpAny_bind (wpAny_mono (turn n s hI) (fun r s₁ h₁ => ?_) fun _ _ h' => h'.elim)))
 cases r with
 | none => exact wpAny_pure h₁
 | some v =>
   refine wpAny_bind (wpAny_mono h₁ (fun _ s₀ h₀' => ?_) fun _ _ h' => h'.elim)
   refine wpAny_bind (wpAny_mono h₀' (fun _ s₂ h₂ => ?_) fun _ _ h' => h'.elim)
   refine wpAny_bind (wpAny_mono h₂ (fun okb s₃ h₃ => ?_) fun _ _ h' => h'.elim)
   cases okb with
   | false => exact wpAny_pure ⟨rfl, h₃⟩
   | true => exact wpAny_bind (wpAny_bind (wpAny_mono h₃ (fun x s₄ h₄ => wpAny_bind (wpAny_mono h₄ (fun _ s₅ h₅ => wpAny_pure (wpAny_pure ⟨rfl, h₅⟩)) fun _ _ h' => h'.elim)) fun _ _ h' => h'.elim))
theorem loop2_0 {elt tg iter : Expr} {ifs : List Expr} {tg2 iter2 : Expr} {ifs2 : List Expr} {scope : Scope} {pos : Pos} {it acc : Value} {env : Env} (I : Nat -> Shared -> Prop) (hs : ∀ x, foldedSetIterable iter2 env x = pure x)
   (turn : ∀ n s, I n s -> wpAny (model prog w) A (pyNext it) (fun r s₁ => match r with
     | none => R (.ok .next) s₁
     | some v => wpAny (model prog w) A (letOwnedTupleGo tg it v) (fun _ s₀ => wpAny (model prog w) A (assign tg env v) (fun _ s₂ =>
         wpAny (model prog w) A (forIn ifs true fun c r => if r = true then do let ok <- isTrue c env (eval c env); pure (ForInStep.yield ok) else pure (ForInStep.yield r)) (fun ok s₃ => if ok = true then wpAny (model prog w) A (eval iter2 env) (fun x s₄ =>
           wpAny (model prog w) A (pyIter x) (fun i2 s₅ => codeAny (model prog w) (A.mark none) (.compStart (lc2 elt tg iter ifs tg2 iter2 ifs2 scope pos) 1 i2 acc env) (fun r s₆ => match r with | .ok _ => ∃ m, m < n /\ I m s₆ | .error _ => False) s₅) (fun _ _ => False) s₄) (fun _ _ => False) s₃
           else ∃ m, m < n /\ I m s₃) (fun _ _ => False) s₂)
         (fun _ _ => False) s₀) (fun _ _ => False) s₁) (fun _ _ => False) s)
   (n : Nat) (h : I n s) : codeAny (model prog w) A (.compLoop (lc2 elt tg iter ifs tg2 iter2 ifs2 scope pos) 0 it acc env) R s := by
 refine codeAny_loop rfl I (fun n s hI => ?_) n h
 show wpAny _ A ((compTurn (lc2 elt tg iter ifs tg2 iter2 ifs2 scope pos) 0 it acc env).onRaise (fun x => do noteFrame x env; theTreesLotGoes x)) _ _ s
 refine wpAny_noted ?_
 rw [turn2_0]
 refine wpAny_bind (wpAny_standAt (wpAny_bind (wpAny_mono (turn n s hI) (fun r s₁ h₁ => ?_) fun _ _ h' => h'.elim)))
 cases r with
 | none => exact wpAny_pure h₁
 | some v =>
   refine wpAny_bind (wpAny_mono h₁ (fun _ s₀ h₀' => ?_) fun _ _ h' => h'.elim)
   refine wpAny_bind (wpAny_mono h₀' (fun _ s₂ h₂ => ?_) fun _ _ h' => h'.elim)
   refine wpAny_bind (wpAny_mono h₂ (fun okb s₃ h₃ => ?_) fun _ _ h' => h'.elim)
   cases okb with
   | false => exact wpAny_pure ⟨rfl, h₃⟩
   | true =>
     refine wpAny_bind (wpAny_mono h₃ (fun x s₄ h₄ => ?_) fun _ _ h' => h'.elim)
     refine wpAny_bind (wpAny_standAt ?_)
     rw [hs]
     refine wpAny_bind (wpAny_pure (wpAny_bind (wpAny_holding (wpAny_mono h₄ (fun i2 s₅ h₅ => ?_) fun _ _ h' => h'.elim))))
     refine wpAny_bind (wpAny_runOwn ?_)
     refine codeAny_mono h₅ fun r s' z => ?_
     cases r with
     | ok f => exact wpAny_pure ⟨rfl, z⟩
     | error e => exact z.elim
end
section
variable {X : Cx} {pins : List (Addr × Obj)} {σ : St} {H : Hp} {s s3 : Shared}
theorem comp_block2 {tg iter elt : Expr} {ifs : List Expr} {tg2 iter2 : Expr} {ifs2 : List Expr} {pos : Pos} {own N' : List Str} {fr : List Nat} {n1 : Nat} {scope : Scope} {cl : List (Str × Addr)} {fp : List Addr} {it : Addr} {tn : Nat -> Heap -> Prop} {J : It} {g : TG} {tc : TT} {wi2 : TI} {g2 : TG} {tc2 : TT} {te : TE} {Q : VK}
   {E : Value -> Shared -> Prop} {RR : Value -> Addr -> Result -> Shared -> Prop}
   (hcalm : X.calm = true) (S : CScope X own fr N' scope) (hg : ∀ s3 H3, PG (compCx X N' scope cl fp s3 H3) tg g) (hn1 : n1 <= own.length) (hw : Keeps (fun i => i < n1) g) (hc : ∀ s3 H3, PTs (compCx X N' scope cl fp s3 H3) ifs tc)
   (hi2 : ∀ s3 H3, PI (compCx X N' scope cl fp s3 H3) tg2 iter2 wi2) (hg2 : ∀ s3 H3, PG (compCx X N' scope cl fp s3 H3) tg2 g2) (hw2 : Keeps (fun i => n1 <= i /\ i < own.length) g2) (hc2 : ∀ s3 H3, PTs (compCx X N' scope cl fp s3 H3) ifs2 tc2)
   (he : ∀ s3 H3, PE (compCx X N' scope cl fp s3 H3) elt te) (hs2 : ∀ s3 H3 x, foldedSetIterable iter2 (compCx X N' scope cl fp s3 H3).env x = pure x)
   (hcl : ∀ x c, cl.lookup x = some c -> X.env.cells.lookup x = some c) (hcl2 : ∀ y ∈ scope.names, y.2 = .free -> (cl.lookup y.1).isSome = true)
   (I : Inv X pins σ H s) (T : Turn X.prog X.w X.K tg J fp it tn) (st : tn 0 s.heap) (hfp : ∀ b ∈ fp, FpOk X pins H b) (h : ∀ p, H p = none -> compW2 J own.length fr g tc wi2 g2 tc2 te σ p H Q)
   (fin : ∀ (s3 : Shared) (H3 : Hp), Inv X pins σ H3 s3 -> (∀ b ∈ fp, FpOk X pins H3 b) -> ∀ (D : Addr) (σ' : St) (H' : Hp) (s' : Shared) (t : Nat), D < s3.heap.objs.size -> Inv (compCx X N' scope cl fp s3 H3) [] σ' H' s' -> Q (.ref D) H' -> RR (.ref D) s3.heap.objs.size (.ok .next) s') :
   wpAny (model X.prog X.w) X.A (newList []) (fun acc s₃ => wpAny (model X.prog X.w) X.A (newFunctionEnv scope X.env.globals cl [] X.env.qual none .none (some X.env)) (fun cenv s₄ =>
     codeAny (model X.prog X.w) X.A (.compStart (lc2 elt tg iter ifs tg2 iter2 ifs2 scope pos) 0 (.ref it) acc { cenv with scope := relabel scope X.env }) (RR acc cenv.locals) s₄) E s₃) E s := by
 refine wpAny_newObj_type ?_
 have hf : H s.heap.objs.size = none := I.hok.fresh (Nat.le_refl _)
 obtain ⟨W, ⟨m0, w0⟩, turn⟩ := h _ hf
 generalize e3 : ({ s with heap := s.heap.push { cls := .type "list", dict := none, data := .seq ([] : List Value).toArray } } : Shared) = s3
 have sz3 : s3.heap.objs.size = s.heap.objs.size + 1 := by rw [<- e3]; exact Heap.size_push ..
 have up3 : ∀ b o, s.heap.get? b = some o -> s3.heap.get? b = some o := fun b o e => by rw [<- e3]; exact Heap.get?_push_of_some _ e
 have I3 : Inv X pins σ (upd H s.heap.objs.size (.lst [])) s3 := by
   rw [<- e3]
   exact I.laid (t' := s.toks) (fun b u e => Heap.get?_push_of_some _ e) (Nat.le_refl _) ⟨Nat.zero_le _, [], 0, .nil, Heap.get?_push_size _ rfl⟩
 have ftn : ∀ b ∈ fp, b < s.heap.objs.size := fun b hb => by
   obtain ⟨o, e, _⟩ := T.obj 0 _ st b hb
   exact Heap.lt_size e
 have hfp3 : ∀ b ∈ fp, FpOk X pins (upd H s.heap.objs.size (.lst [])) b := fun b hb => ⟨by rw [upd_ne (Nat.ne_of_lt (ftn b hb))]; exact (hfp b hb).1, (hfp b hb).2⟩
 refine wpAny_newFunctionEnv S.nocell (by intro y hy; simp at hy) (fun h₁ hns₁ hsb₁ => ?_) S.kind
 have old : ∀ b o, s3.heap.get? b = some o -> h₁.get? b = some o := fun b o e => hsb₁.extBut b o (Nat.ne_of_lt (Heap.lt_size e)) (Heap.get?_push_of_some _ e)
 have Ic := inv_comp (t := s3.toks + ([] : List (Str × Value)).length) S I3 hcl hcl2 hfp3 (fun b hb => by rw [sz3]; exact Nat.lt_succ_of_lt (ftn b hb)) hns₁ old
 have st1 : tn 0 h₁ := T.keep 0 _ _ st fun b hb o e => old b o (up3 b o e)
 have stat : ∀ {H' : Hp}, (∀ b ∈ fp, H' b = none) -> ∀ b ∈ fp, FpOk (compCx X N' scope cl fp s3 (upd H s.heap.objs.size (.lst []))) [] H' b := fun hn b hb => by
   refine ⟨hn b hb, ?_, ?_, .inl hb, fun x c e => (hfp b hb).2.2.2.2.1 x c (hcl x c e), fun p hp => absurd (show p ∈ ([] : List (Addr × Obj)) from hp) (by simp)⟩
   · show b ≠ s3.heap.objs.size
     rw [sz3]; exact Nat.ne_of_lt (Nat.lt_succ_of_lt (ftn b hb))
   · exact Ic.ok.exfs b hb
 have loop : codeAny (model X.prog X.w) X.A (.compLoop (lc2 elt tg iter ifs tg2 iter2 ifs2 scope pos) 0 (.ref it) (.ref s.heap.objs.size) (compEnvC scope cl s3.heap.objs.size X.env)) (RR (.ref s.heap.objs.size) s3.heap.objs.size) { s3 with heap := h₁, toks := s3.toks + ([] : List (Str × Value)).length } := by
   refine loop2_0 (fun n s' => ∃ i ys H', Inv (compCx X N' scope cl fp s3 (upd H s.heap.objs.size (.lst []))) [] (capσ own.length fr σ) H' s' /\ tn i s'.heap /\ (∀ b ∈ fp, H' b = none) /\ W i n ys H') (hs2 s3 H) ?_ m0
     ⟨0, [], _, Ic, st1, fun b hb => (hfp3 b hb).1, w0⟩
   rintro n s4 ⟨i, ys, H4, I4, st4, fr4, w4⟩
   obtain ⟨hacc, alt⟩ := turn i n ys H4 w4
   rcases alt with ⟨stop, q⟩ | ⟨go, step⟩
   · refine thn (T.done (compCx X N' scope cl fp s3 (upd H s.heap.objs.size (.lst []))) rfl rfl rfl hcalm i [] s4 _ H4 (fun _ _ => False) I4 (stat fr4) st4 stop) fun r s5 z => z.elim fun hr I5 => ?_
     subst hr
     exact fin s3 _ I3 hfp3 _ _ H4 s5 s5.toks (by rw [sz3]; exact Nat.lt_succ_self _) I5 q
   · refine thn (T.item (compCx X N' scope cl fp s3 (upd H s.heap.objs.size (.lst []))) rfl rfl rfl hcalm i [] s4 _ H4 (fun _ _ => False) I4 (stat fr4) st4 go) fun r s5 z => z.elim fun u z => z.elim fun hr h5 => ?_
     subst hr
     refine thn h5 fun _ s6 z => z.elim fun x z => z.elim fun H6 z => z.elim fun I6 z => z.elim fun r6 z => z.elim fun y6 z => z.elim fun st6 fr6 => ?_
     have I6' := I6.pinned (stat fr6) (T.obj _ _ st6)
     have stp := hw _ x H6 _ (step x H6 y6)
     refine thn (hg s3 _ _ s6 _ H6 x u _ I6' r6 stp) fun _ s7 z => z.elim fun σ7 z => z.elim fun H7 z => z.elim fun I7 z => z.elim fun wk q7 => ?_
     have wk1 : ∀ (j : Nat) v, (capσ own.length fr σ)[j]? = some (some v) -> σ7[j]? = some (some v) := fun j v e => by
       rw [wk.2 j (by have := cap_own e; lia)]; exact e
     have wk2 : ∀ j, n1 <= j -> j < own.length -> ∀ v, σ7[j]? ≠ some (some v) := fun j h1 h2 v e => by
       rw [wk.2 j (by lia)] at e
       have := cap_own e; lia
     have again : ∀ {σ9 : St} {H9 : Hp} {s9 : Shared} {ys' : List V}, σ9.length = σ7.length -> (∀ (j : Nat) v, σ7[j]? = some (some v) -> σ9[j]? = some (some v)) -> Inv (compCx X N' scope cl fp s3 (upd H s.heap.objs.size (.lst []))) ([] ++ pinsAt fp s6.heap) σ9 H9 s9 -> (∃ m', m' < n /\ W (i + 1) m' ys' H9) ->
         ∃ m, m < n /\ ∃ i ys H', Inv (compCx X N' scope cl fp s3 (upd H s.heap.objs.size (.lst []))) [] (capσ own.length fr σ) H' s9 /\ tn i s9.heap /\ (∀ b ∈ fp, H' b = none) /\ W i m ys H' := fun {σ9 H9 s9 ys'} hl9 hv9 I9 ⟨m', hm, w9⟩ => by
       refine ⟨m', hm, i + 1, ys', H9, (I9.unpinned).weak ?_ fun j v e => hv9 j v (wk1 j v e), T.keep _ _ _ st6 fun b hb o e => (I9.pin (b, o) (List.mem_append_right _ (List.mem_append_right _ (mem_pinsAt hb e)))).1, fun b hb => ?_, w9⟩
       · rw [hl9, wk.1]
       · obtain ⟨o, e, d⟩ := T.obj _ _ st6 b hb
         exact (I9.pin (b, o) (List.mem_append_right _ (List.mem_append_right _ (mem_pinsAt hb e)))).2.1
     refine thn (hc s3 _ _ s7 σ7 H7 _ I7 q7) fun ok s8 z => z.elim fun H8 z => z.elim fun I8 q8 => ?_
     cases ok with
     | false =>
       simp only [Bool.false_eq_true, if_false] at q8 ⊢
       obtain ⟨zs, q8⟩ := q8
       exact again rfl (fun _ _ e => e) I8 q8
     | true =>
       simp only [if_true] at q8 ⊢
       refine thn (hi2 s3 _ _ s8 σ7 H8 _ I8 q8) fun v2 s9 h9 => thn h9 fun itv s10 h10 => ?_
       obtain ⟨it2, fp2, tn2, J2, H10, e10, I10, T2, st10, f10, Z, ⟨mz, z0, hz0⟩, turn2⟩ := h10
       subst e10
       have stat2 : ∀ {H' : Hp}, (∀ b ∈ fp2, H' b = none) -> ∀ b ∈ fp2, FpOk (compCx X N' scope cl fp s3 (upd H s.heap.objs.size (.lst []))) ([] ++ pinsAt fp s6.heap) H' b := fun hn b hb => ⟨hn b hb, (f10 b hb).2⟩
       have loop1 : codeAny (model X.prog X.w) X.A (.compLoop (lc2 elt tg iter ifs tg2 iter2 ifs2 scope pos) 1 (.ref it2) (.ref s.heap.objs.size) (compEnvC scope cl s3.heap.objs.size X.env)) (fun r s₆ => match r with
           | .ok _ => ∃ m, m < n /\ ∃ i ys H', Inv (compCx X N' scope cl fp s3 (upd H s.heap.objs.size (.lst []))) [] (capσ own.length fr σ) H' s₆ /\ tn i s₆.heap /\ (∀ b ∈ fp, H' b = none) /\ W i m ys H'
           | .error _ => False) s10 := by
         refine loop2_1 (fun k s' => ∃ j zs H', Inv (compCx X N' scope cl fp s3 (upd H s.heap.objs.size (.lst []))) ([] ++ pinsAt fp s6.heap) σ7 H' s' /\ tn2 j s'.heap /\ (∀ b ∈ fp2, H' b = none) /\ Z j k zs H') ?_ mz ⟨0, z0, H10, I10, st10, fun b hb => (f10 b hb).1, hz0⟩
         rintro k s11 ⟨j, zs, H11, I11, st11, fr11, z11⟩
         obtain ⟨hp11, alt2⟩ := turn2 j k zs H11 z11
         rcases alt2 with ⟨stop2, qN⟩ | ⟨go2, hsz2, step2⟩
         · refine thn (T2.done (compCx X N' scope cl fp s3 (upd H s.heap.objs.size (.lst []))) rfl rfl rfl hcalm j _ s11 _ H11 (fun _ _ => False) I11 (stat2 fr11) st11 stop2) fun r s12 z => z.elim fun hr I12 => ?_
           subst hr
           exact again rfl (fun _ _ e => e) I12 qN
         · refine thn (T2.item (compCx X N' scope cl fp s3 (upd H s.heap.objs.size (.lst []))) rfl rfl rfl hcalm j _ s11 _ H11 (fun _ _ => False) I11 (stat2 fr11) st11 go2) fun r s12 z => z.elim fun u2 z => z.elim fun hr h12 => ?_
           subst hr
           refine thn h12 fun _ s13 z => z.elim fun x2 z => z.elim fun H13 z => z.elim fun I13 z => z.elim fun r13 z => z.elim fun y13 z => z.elim fun st13 fr13 => ?_
           have I13' := I13.pinned (stat2 fr13) (T2.obj _ _ st13)
           have stp2 := hw2 _ x2 H13 _ (step2 x2 H13 y13)
           refine thn (hg2 s3 _ _ s13 _ H13 x2 u2 _ I13' r13 stp2) fun _ s14 z => z.elim fun σ14 z => z.elim fun H14 z => z.elim fun I14 z => z.elim fun wk14 q14 => ?_
           have back2 : ∀ {H9 : Hp} {s9 : Shared} {ws : List V}, Inv (compCx X N' scope cl fp s3 (upd H s.heap.objs.size (.lst []))) (([] ++ pinsAt fp s6.heap) ++ pinsAt fp2 s13.heap) σ14 H9 s9 -> (∃ k', k' < k /\ Z (j + 1) k' ws H9) ->
               ∃ m, m < k /\ ∃ j zs H', Inv (compCx X N' scope cl fp s3 (upd H s.heap.objs.size (.lst []))) ([] ++ pinsAt fp s6.heap) σ7 H' s9 /\ tn2 j s9.heap /\ (∀ b ∈ fp2, H' b = none) /\ Z j m zs H' := fun {H9 s9 ws} I9 ⟨k', hk', z9⟩ => by
             refine ⟨k', hk', j + 1, ws, H9, (I9.unpinned).weak wk14.1.symm fun a v e => ?_, T2.keep _ _ _ st13 fun b hb o e => (I9.pin (b, o) (List.mem_append_right _ (List.mem_append_right _ (mem_pinsAt hb e)))).1, fun b hb => ?_, z9⟩
             · rw [wk14.2 a fun hS => wk2 a hS.1 hS.2 v e]; exact e
             · obtain ⟨o, e, d⟩ := T2.obj _ _ st13 b hb
               exact (I9.pin (b, o) (List.mem_append_right _ (List.mem_append_right _ (mem_pinsAt hb e)))).2.1
           refine thn (hc2 s3 _ _ s14 σ14 H14 _ I14 q14) fun ok2 s15 z => z.elim fun H15 z => z.elim fun I15 q15 => ?_
           cases ok2 with
           | false =>
             simp only [Bool.false_eq_true, if_false] at q15 ⊢
             obtain ⟨ws, q15⟩ := q15
             exact back2 I15 q15
           | true =>
             simp only [if_true] at q15 ⊢
             refine thn (he s3 _ _ s15 σ14 H15 _ I15 q15) fun y s16 z => z.elim fun yv z => z.elim fun H16 z => z.elim fun I16 z => z.elim fun ry z => z.elim fun ws z => z.elim fun hp16 z => z.elim fun hz16 q16 => ?_
             refine thn (mt_append _ s16 σ14 H16 (.ref s.heap.objs.size) [yv] (.ref s.heap.objs.size) [y] (fun v H' => H' = upd H16 s.heap.objs.size (.lst (ws ++ [yv]))) I16 rfl (.cons ry .nil) ⟨_, ws, yv, rfl, rfl, hp16, hz16, rfl⟩) fun v s17 z => z.elim fun _ z => z.elim fun H17 z => z.elim fun I17 z => z.elim fun _ e17 => ?_
             subst e17
             exact back2 I17 q16
       show codeAny _ X.A _ _ s10
       exact start2_1 loop1 (T2.self _ 0 _ _ _ st10 loop1)
 exact codeAny_compStart_list loop (T.self _ 0 _ _ _ st1 loop)
end
section
variable {X : Cx}
theorem ps_setComp2 {i : Nat} {x : Str} {tg iter elt : Expr} {ifs : List Expr} {tg2 iter2 : Expr} {ifs2 : List Expr} {pos spos pos' : Pos} {own N' : List Str} {fr : List Nat} {n1 : Nat} {scope : Scope} {wi : TI} {g : TG} {tc : TT} {wi2 : TI} {g2 : TG} {tc2 : TT} {te : TE} (hcalm : X.calm = true) (hN : X.N.Nodup) (hx : X.N[i]? = some x) (hl : Loc X.env.scope x) (S : CScope X own fr N' scope) (hi : PI X tg iter wi)
   (hg : ∀ cl fp s3 H3, PG (compCx X N' scope cl fp s3 H3) tg g) (hn1 : n1 <= own.length) (hw : Keeps (fun i => i < n1) g) (hc : ∀ cl fp s3 H3, PTs (compCx X N' scope cl fp s3 H3) ifs tc)
   (hi2 : ∀ cl fp s3 H3, PI (compCx X N' scope cl fp s3 H3) tg2 iter2 wi2) (hg2 : ∀ cl fp s3 H3, PG (compCx X N' scope cl fp s3 H3) tg2 g2) (hw2 : Keeps (fun i => n1 <= i /\ i < own.length) g2) (hc2 : ∀ cl fp s3 H3, PTs (compCx X N' scope cl fp s3 H3) ifs2 tc2)
   (he : ∀ cl fp s3 H3, PE (compCx X N' scope cl fp s3 H3) elt te)
   (hsw : swapsWith (.ListComp elt [⟨tg, iter, ifs, 0⟩, ⟨tg2, iter2, ifs2, 0⟩] scope pos) (some (.Name x pos')) spos.line X.env = pure true)
   (hs : ∀ x, foldedSetIterable iter X.env x = pure x := by intro _; rfl) (hs2 : ∀ cl fp s3 H3 x, foldedSetIterable iter2 (compCx X N' scope cl fp s3 H3).env x = pure x := by intro _ _ _ _ _; rfl) (hf : X.fn x = true \/ X.env.scope.names.lookup x = some .local := by first | exact .inl rfl | exact .inr rfl | assumption) :
   PS X (.Assign [.Name x pos'] (.ListComp elt [⟨tg, iter, ifs, 0⟩, ⟨tg2, iter2, ifs2, 0⟩] scope pos) spos) (tAsg (tComp2 wi own.length fr g tc wi2 g2 tc2 te) (gName i)) := by
 intro pins s σ H D I h
 obtain ⟨cl, hclos, hcl, hcl2⟩ := closure_of (I.ok.cellsOf S)
 rw [exec_Assign_Name_used _ _ _ _ hsw]
 refine wpAny_bind (wpAny_standAt (wpAny_bind ?_))
 show wpAny _ X.A (do let _ <- comprehension (lc2 elt tg iter ifs tg2 iter2 ifs2 scope pos) scope X.env _ (newList []) false (eval iter X.env) (some (assign (.Name x pos') X.env))) _ _ s
 refine wpAny_bind (thn (wpAny_comprehension_free (use := some (assign (.Name x pos') X.env)) (Q := fun _ s' => SP X pins D .next s') rfl hs hclos S.kind S.loc
   (thn (hi pins s σ H _ I h) fun v s1 h1 => thn h1 fun itv s2 h2 => ?_)) fun _ s' hq => wpAny_pure (wpAny_pure hq))
 obtain ⟨it, fp, tn, J, H2, e, I2, T, st2, f2, h2⟩ := h2
 subst e
 refine comp_block2 (RR := fun acc C => compPost (model X.prog X.w) X.A X.xe (some (assign (.Name x pos') X.env)) (fun _ s' => SP X pins D .next s') acc C) hcalm S (hg cl fp) hn1 hw (hc cl fp) (hi2 cl fp) (hg2 cl fp) hw2 (hc2 cl fp) (he cl fp) (hs2 cl fp) hcl hcl2 I2 T st2 f2 h2 ?_
 intro s3 H3 I3 f3 Da σ' H' s' t hD Ic q
 obtain ⟨m, hn, _⟩ := Ic.loc
 have I5 := comp_back I3 f3 Ic
 show wpAny _ X.A (assign (.Name x pos') X.env (.ref Da)) _ _ s'
 refine wpAny_assign_Name (store_ok2 I5 hN hx hl (show RelV (.ref Da) (.ref Da) from rfl) (fun s6 I6 hsb => ?_) hf)
 obtain ⟨a, sb, ha⟩ := hsb
 have hne : s3.heap.objs.size ≠ a := by
   rcases ha with rfl | ha
   · exact Nat.ne_of_gt I3.lt
   · obtain ⟨v, z⟩ := I3.cell x a ha
     exact Nat.ne_of_gt z.lt
 refine ⟨m, hn.sameBut sb hne, fun h' hsb' => ⟨_, H', comp_drop I3 rfl I6 Ic.free hsb', q⟩⟩
end
end L2
namespace WL
open PySem L2
section
variable {K : PySem.W.Frag}
noncomputable def in2K (xs2 : List W) (keep2 : Mp -> Prop) (g2 : WG) (c2 : WT) (el : WE) (ρ2 : WSt) (p : Addr) (ys : List W) (M4 : Mp) (N : List W -> Mp -> Prop) : Prop :=
 ∃ I2 : Nat -> List W -> Mp -> Prop, I2 0 ys M4 /\ (∀ j zs M, j <= xs2.length -> I2 j zs M -> keep2 M /\ M p = some (.lst zs) /\ zs.length < sizeLine) /\
   (∀ j y zs M, xs2[j]? = some y -> I2 j zs M -> g2 y ρ2 M fun ρ3 M5 => c2 ρ3 M5 fun b M6 => if b = true then el ρ3 M6 fun z M7 => M7 p = some (.lst zs) /\ I2 (j + 1) (zs ++ [z]) (um M7 p (.lst (zs ++ [z]))) else I2 (j + 1) zs M6) /\
   ∀ zs M, I2 xs2.length zs M -> N zs M
noncomputable def comp2K (xs : List W) (keep : Mp -> Prop) (own : Nat) (fr : List Nat) (g : WG) (c : WT) (it2 : WI) (g2 : WG) (c2 : WT) (el : WE) (ρ : WSt) (M1 : Mp) (q : WK) : Prop := ∀ p, M1 p = none -> ∃ I : Nat -> List W -> Mp -> Prop, I 0 [] (um M1 p (.lst [])) /\
 (∀ i ys M, i <= xs.length -> I i ys M -> keep M /\ M p = some (.lst ys)) /\
 (∀ i x ys M, xs[i]? = some x -> I i ys M -> g x (capρ own fr ρ) M fun ρ2 M2 => c ρ2 M2 fun b M3 => if b = true then it2 ρ2 M3 fun xs2 keep2 M4 => in2K xs2 keep2 g2 c2 el ρ2 p ys M4 (I (i + 1)) else I (i + 1) ys M3) /\
 ∀ ys M, I xs.length ys M -> q (wr p) M
noncomputable def wComp2 (it : WI) (own : Nat) (fr : List Nat) (g : WG) (c : WT) (it2 : WI) (g2 : WG) (c2 : WT) (el : WE) : WE := fun ρ M q => it ρ M fun xs keep M1 => comp2K xs keep own fr g c it2 g2 c2 el ρ M1 q
theorem wComp2_e {it : WI} {own : Nat} {fr : List Nat} {g : WG} {c : WT} {it2 : WI} {g2 : WG} {c2 : WT} {el : WE} {ρ : WSt} {M : Mp} {q : WK} : wComp2 it own fr g c it2 g2 c2 el ρ M q = it ρ M fun xs keep M1 => comp2K xs keep own fr g c it2 g2 c2 el ρ M1 q := rfl
instance {ti : TI} {own : Nat} {fr : List Nat} {g : TG} {tc : TT} {ti2 : TI} {g2 : TG} {tc2 : TT} {te : TE} {it : WI} {w : WG} {c : WT} {it2 : WI} {w2 : WG} {c2 : WT} {el : WE} [ii : II K ti it] [ig : IG K g w] [ic : IT K tc c] [ii2 : II K ti2 it2] [ig2 : IG K g2 w2] [ic2 : IT K tc2 c2] [ie : IE K te el] :
   IE K (tComp2 ti own fr g tc ti2 g2 tc2 te) (wComp2 it own fr w c it2 w2 c2 el) where
 imp := fun ρ M σ H q Q o h k => ii.imp ρ M σ H _ _ o h fun xs keep J M1 H1 h1 t1 m1 ok => by
   intro p hp
   obtain ⟨I, h0, hk, hs, hd⟩ := h1 p (m1.fresh hp)
   have tp := L2.Same.ts (same_upd (o := .lst []) hp)
   refine ⟨fun i m vs H' => m = xs.length - i /\ i <= xs.length /\ ∃ ys M', I i ys M' /\ TSame H1 H' /\ MOk K M' H' /\ WRs K H' ys vs /\ H' p = some (.lst vs), ⟨_, rfl, Nat.zero_le _, [], _, h0, tp, m1.newL hp WRs.nil, WRs.nil, upd_same⟩, ?_⟩
   rintro i m vs H' ⟨rfl, hi, ys, M', hI, ts, m', rv, hv⟩
   refine ⟨hv, ?_⟩
   obtain ⟨kp, hMp⟩ := hk i ys M' hi hI
   obtain ⟨k1, k2, k3⟩ := ok i M' H' ts m' kp
   by_cases hlt : i < xs.length
   · refine .inr ⟨k2 hlt, fun v H2 y => ?_⟩
     obtain ⟨ty, my, x, hx, r⟩ := k3 v H2 hlt y
     replace ts := ts.trans ty
     have oc : Ok K (capρ own fr ρ) M' (capσ own fr σ) H2 := ⟨(o.env.ts (t1.trans ts)).cap own fr, my⟩
     refine ig.imp x v _ M' _ H2 _ _ oc r (hs i x ys M' hx hI) fun ρ3 M3 σ3 H3 h3 t3 o3 => ic.imp ρ3 M3 σ3 H3 _ _ o3 h3 fun b M4 H4 h4 t4 m4 => ?_
     cases b with
     | true =>
       simp only [if_true] at h4 ⊢
       refine ii2.imp ρ3 M4 σ3 H4 _ _ (o3.mv t4 m4) h4 fun xs2 keep2 J2 M5 H5 h5 t5 m5 ok2 => ?_
       obtain ⟨I2, h20, hk2, hs2, hd2⟩ := h5
       have tt5 := ts.trans ((t3.trans t4).trans t5)
       have at5 : ∀ {M6 : Mp} {H6 : Hp} {zs : List W}, M6 p = some (.lst zs) -> MOk K M6 H6 -> ∃ vs, H6 p = some (.lst vs) /\ WRs K H6 zs vs := fun h m => by
         obtain ⟨vs, hv, rr⟩ := m p _ h
         exact ⟨vs, hv, rr⟩
       obtain ⟨vs5, hv5, rr5⟩ := at5 (hk2 0 ys M5 (Nat.zero_le _) h20).2.1 m5
       refine ⟨fun j m vs H' => m = xs2.length - j /\ j <= xs2.length /\ ∃ zs M', I2 j zs M' /\ TSame H5 H' /\ MOk K M' H' /\ WRs K H' zs vs /\ H' p = some (.lst vs), ⟨_, vs5, rfl, Nat.zero_le _, ys, M5, h20, TSame.refl _, m5, rr5, hv5⟩, ?_⟩
       rintro j m2 vs6 H6 ⟨rfl, hj, zs, M6, hI2, ts6, m6, rv6, hv6⟩
       refine ⟨hv6, ?_⟩
       obtain ⟨kp2, hMp2, hzl⟩ := hk2 j zs M6 hj hI2
       obtain ⟨a1, a2, a3⟩ := ok2 j M6 H6 ts6 m6 kp2
       by_cases hlt2 : j < xs2.length
       · refine .inr ⟨a2 hlt2, by rw [rv6.length]; exact hzl, fun u7 H7 y7 => ?_⟩
         obtain ⟨ty7, my7, x7, hx7, r7⟩ := a3 u7 H7 hlt2 y7
         have o7 : Ok K ρ3 M6 σ3 H7 := ⟨o3.env.ts ((t4.trans t5).trans (ts6.trans ty7)), my7⟩
         refine ig2.imp x7 u7 ρ3 M6 σ3 H7 _ _ o7 r7 (hs2 j x7 zs M6 hx7 hI2) fun ρ8 M8 σ8 H8 h8 t8 o8 => ic2.imp ρ8 M8 σ8 H8 _ _ o8 h8 fun b9 M9 H9 h9 t9 m9 => ?_
         cases b9 with
         | true =>
           simp only [if_true] at h9 ⊢
           refine ie.imp ρ8 M9 σ8 H9 _ _ (o8.mv t9 m9) h9 fun z M10 u H10 ⟨h10, h11⟩ t10 m10 r10 => ?_
           obtain ⟨vs10, hv10, rr10⟩ := m10 p _ h10
           have t11 := ts_lst (u := .lst (vs10 ++ [u])) hv10
           refine ⟨vs10, hv10, by rw [rr10.length]; exact hzl, _, ?_, rfl, hlt2, _, _, h11, ((((ts6.trans ty7).trans t8).trans t9).trans t10).trans t11, m10.putL hv10 (rr10.snoc r10), (rr10.snoc r10).ts t11, upd_same⟩
           lia
         | false =>
           simp only [Bool.false_eq_true, if_false] at h9 ⊢
           obtain ⟨vs10, hv10, rr10⟩ := at5 (hk2 (j + 1) zs M9 hlt2 h9).2.1 m9
           refine ⟨vs10, _, ?_, rfl, hlt2, _, _, h9, ((ts6.trans ty7).trans t8).trans t9, m9, rr10, hv10⟩
           lia
       · have e' : j = xs2.length := by lia
         subst e'
         refine .inl ⟨a1 rfl, _, ?_, rfl, hlt, zs, M6, hd2 zs M6 hI2, tt5.trans ts6, m6, rv6, hv6⟩
         lia
     | false =>
       simp only [Bool.false_eq_true, if_false] at h4 ⊢
       obtain ⟨vs5, hv5, rr5⟩ := m4 p _ (hk (i + 1) ys M4 hlt h4).2
       refine ⟨vs5, _, ?_, rfl, hlt, _, _, h4, ts.trans (t3.trans t4), m4, rr5, hv5⟩
       lia
   · have e' : i = xs.length := by lia
     subst e'
     exact .inl ⟨k1 rfl, k _ M' _ H' (hd ys M' hI) (t1.trans ts) m' WR.v⟩
theorem map_at {α : Type} {f : α -> W} {l : List α} {i : Nat} {x : W} (h : (l.map f)[i]? = some x) : ∃ a, l[i]? = some a /\ x = f a := by
 rw [List.getElem?_map] at h
 cases e : l[i]? with
 | none => rw [e] at h; cases h
 | some a => rw [e] at h; cases h; exact ⟨a, rfl, rfl⟩
theorem comp2_map {α β : Type} {l : List α} {fW : α -> W} (inner : α -> List β) (gW : β -> W) (eW : α -> β -> W) {keep : Mp -> Prop} {M1 : Mp} {own : Nat} {fr : List Nat} {ρ : WSt} {g : WG} {c : WT} {it2 : WI} {g2 : WG} {c2 : WT} {el : WE} {q : WK}
   (hz : (l.map fun a => (inner a).length).sum < sizeLine) (hkeep : ∀ M, Sm M1 M -> keep M)
   (hs : ∀ a ∈ l, ∀ M, Sm M1 M -> ∀ (B : WSt -> List W -> (Mp -> Prop) -> Mp -> Prop) (N0 : Mp -> Prop),
     (∀ ρ2 keep2, (∀ M', Sm M1 M' -> keep2 M') -> (∀ b ∈ inner a, ∀ M', Sm M1 M' -> ∀ N : Option W -> Mp -> Prop, N (some (eW a b)) M' -> g2 (gW b) ρ2 M' fun ρ3 M5 => c2 ρ3 M5 fun b M6 => iteK b (el ρ3 M6 fun z M7 => N (some z) M7) (N none M6)) -> B ρ2 ((inner a).map gW) keep2 M) ->
     g (fW a) (capρ own fr ρ) M fun ρ2 M2 => c ρ2 M2 fun b M3 => iteK b (it2 ρ2 M3 fun xs2 keep2 M4 => B ρ2 xs2 keep2 M4) (N0 M3))
   (hq : ∀ p, M1 p = none -> q (wr p) (um M1 p (.lst (l.map fun a => (inner a).map (eW a)).flatten))) :
   comp2K (l.map fW) keep own fr g c it2 g2 c2 el ρ M1 q := by
 intro p hp
 have hlen : ∀ k : List α, (k.map fun a => (inner a).map (eW a)).flatten.length = (k.map fun a => (inner a).length).sum := fun k => by
   rw [List.length_flatten, List.map_map]
   congr 1
   apply List.map_congr_left
   intro a _
   simp
 have htake : ∀ i : Nat, ((l.take i).map fun a => (inner a).length).sum <= (l.map fun a => (inner a).length).sum := fun i => by
   have e : (l.map fun a => (inner a).length) = ((l.take i).map fun a => (inner a).length) ++ ((l.drop i).map fun a => (inner a).length) := by rw [<- List.map_append, List.take_append_drop]
   rw [e, List.sum_append]
   lia
 refine ⟨fun i ys M => M = um M1 p (.lst ys) /\ ys = ((l.take i).map fun a => (inner a).map (eW a)).flatten, ⟨rfl, by simp⟩, ?_, ?_, ?_⟩
 · rintro i ys M hi ⟨rfl, rfl⟩
   exact ⟨hkeep _ (sm_um hp), um_same⟩
 · rintro i x ys M hx ⟨rfl, rfl⟩
   obtain ⟨a, ha, rfl⟩ := map_at hx
   have e : l.take (i + 1) = l.take i ++ [a] := by rw [List.take_add_one, ha]; rfl
   have eF : ((l.take (i + 1)).map fun a => (inner a).map (eW a)).flatten = ((l.take i).map fun a => (inner a).map (eW a)).flatten ++ (inner a).map (eW a) := by rw [e, List.map_append, List.flatten_append]; simp
   have eS : ((l.take (i + 1)).map fun a => (inner a).length).sum = ((l.take i).map fun a => (inner a).length).sum + (inner a).length := by rw [e, List.map_append, List.sum_append]; simp
   refine hs a (List.mem_of_getElem? ha) _ (sm_um hp) (fun ρ2 xs2 keep2 M4 => in2K xs2 keep2 g2 c2 el ρ2 p ((l.take i).map fun a => (inner a).map (eW a)).flatten M4 fun ys M => M = um M1 p (.lst ys) /\ ys = ((l.take (i + 1)).map fun a => (inner a).map (eW a)).flatten) (fun M => M = um M1 p (.lst ((l.take i).map fun a => (inner a).map (eW a)).flatten) /\ ((l.take i).map fun a => (inner a).map (eW a)).flatten = ((l.take (i + 1)).map fun a => (inner a).map (eW a)).flatten) ?_
   intro ρ2 keep2 hk2 hs2
   refine ⟨fun j zs M => M = um M1 p (.lst zs) /\ zs = ((l.take i).map fun a => (inner a).map (eW a)).flatten ++ ((inner a).take j).map (eW a), ⟨rfl, by simp⟩, ?_, ?_, ?_⟩
   · rintro j zs M hj ⟨rfl, rfl⟩
     refine ⟨hk2 _ (sm_um hp), um_same, ?_⟩
     rw [List.length_append, hlen, List.length_map, List.length_take]
     have b3 := htake (i + 1)
     rw [eS] at b3
     lia
   · rintro j y zs M hy ⟨rfl, rfl⟩
     obtain ⟨b, hb, rfl⟩ := map_at hy
     have e2 : (inner a).take (j + 1) = (inner a).take j ++ [b] := by rw [List.take_add_one, hb]; rfl
     refine hs2 b (List.mem_of_getElem? hb) _ (sm_um hp) (fun o M4 => match o with
       | some z => M4 p = some (.lst (((l.take i).map fun a => (inner a).map (eW a)).flatten ++ ((inner a).take j).map (eW a))) /\ (um M4 p (.lst (((l.take i).map fun a => (inner a).map (eW a)).flatten ++ ((inner a).take j).map (eW a) ++ [z])) = um M1 p (.lst (((l.take i).map fun a => (inner a).map (eW a)).flatten ++ ((inner a).take j).map (eW a) ++ [z])) /\ ((l.take i).map fun a => (inner a).map (eW a)).flatten ++ ((inner a).take j).map (eW a) ++ [z] = ((l.take i).map fun a => (inner a).map (eW a)).flatten ++ ((inner a).take (j + 1)).map (eW a))
       | none => M4 = um M1 p (.lst (((l.take i).map fun a => (inner a).map (eW a)).flatten ++ ((inner a).take j).map (eW a))) /\ ((l.take i).map fun a => (inner a).map (eW a)).flatten ++ ((inner a).take j).map (eW a) = ((l.take i).map fun a => (inner a).map (eW a)).flatten ++ ((inner a).take (j + 1)).map (eW a)) ?_
     exact ⟨um_same, um_um, by rw [e2, List.map_append]; simp⟩
   · rintro zs M ⟨rfl, rfl⟩
     exact ⟨rfl, by rw [eF, List.length_map, List.take_length]⟩
 · rintro ys M ⟨rfl, rfl⟩
   rw [List.length_map, List.take_length]
   exact hq p hp
theorem comp_map {α : Type} {l : List α} {fW : α -> W} (pr : α -> Bool) (eW : α -> W) {keep : Mp -> Prop} {M1 : Mp} {own : Nat} {fr : List Nat} {ρ : WSt} {g : WG} {c : WT} {el : WE} {q : WK} (hz : l.length <= sizeLine) (hkeep : ∀ M, Sm M1 M -> keep M)
   (hs : ∀ a ∈ l, ∀ (M : Mp) (N : Option W -> Mp -> Prop), Sm M1 M -> N (if pr a = true then some (eW a) else none) M -> g (fW a) (capρ own fr ρ) M fun ρ2 M2 => c ρ2 M2 fun b M3 => iteK b (el ρ2 M3 fun y M4 => N (some y) M4) (N none M3))
   (hq : ∀ p, M1 p = none -> q (wr p) (um M1 p (.lst ((l.filter pr).map eW)))) : compK (l.map fW) keep own fr g c el ρ M1 q := by
 refine ⟨by rw [List.length_map]; exact hz, fun p hp => ⟨fun i ys M => M = um M1 p (.lst ys) /\ ys = ((l.take i).filter pr).map eW, ⟨rfl, by simp⟩, ?_, ?_, ?_⟩⟩
 · rintro i ys M hi ⟨rfl, rfl⟩
   refine ⟨hkeep _ (sm_um hp), um_same, ?_⟩
   rw [List.length_map]
   refine Nat.le_trans (List.length_filter_le _ _) ?_
   rw [List.length_take]; lia
 · rintro i x ys M hx ⟨rfl, rfl⟩
   obtain ⟨a, ha, rfl⟩ := map_at hx
   have e : l.take (i + 1) = l.take i ++ [a] := by rw [List.take_add_one, ha]; rfl
   refine hs a (List.mem_of_getElem? ha) _ (fun o M4 => match o with
     | some y => M4 p = some (.lst (((l.take i).filter pr).map eW)) /\ (um M4 p (.lst (((l.take i).filter pr).map eW ++ [y])) = um M1 p (.lst (((l.take i).filter pr).map eW ++ [y])) /\ ((l.take i).filter pr).map eW ++ [y] = ((l.take (i + 1)).filter pr).map eW)
     | none => M4 = um M1 p (.lst (((l.take i).filter pr).map eW)) /\ ((l.take i).filter pr).map eW = ((l.take (i + 1)).filter pr).map eW) (sm_um hp) ?_
   cases hf : pr a with
   | false =>
     rw [if_neg (by simp)]
     exact ⟨rfl, by rw [e, List.filter_append]; simp [hf]⟩
   | true =>
     rw [if_pos rfl]
     exact ⟨um_same, um_um, by rw [e, List.filter_append]; simp [hf]⟩
 · rintro ys M ⟨rfl, rfl⟩
   rw [List.length_map, List.take_length]
   exact hq p hp
theorem comp_all {α : Type} {l : List α} {fW : α -> W} (eW : α -> W) {keep : Mp -> Prop} {M1 : Mp} {own : Nat} {fr : List Nat} {ρ : WSt} {g : WG} {c : WT} {el : WE} {q : WK} (hz : l.length <= sizeLine) (hkeep : ∀ M, Sm M1 M -> keep M)
   (hs : ∀ a ∈ l, ∀ (M : Mp) (N : Option W -> Mp -> Prop), Sm M1 M -> N (some (eW a)) M -> g (fW a) (capρ own fr ρ) M fun ρ2 M2 => c ρ2 M2 fun b M3 => iteK b (el ρ2 M3 fun y M4 => N (some y) M4) (N none M3))
   (hq : ∀ p, M1 p = none -> q (wr p) (um M1 p (.lst (l.map eW)))) : compK (l.map fW) keep own fr g c el ρ M1 q := by
 refine comp_map (fun _ => true) eW hz hkeep (fun a ha M N s h => hs a ha M N s (by simpa using h)) fun p hp => ?_
 have e : l.filter (fun _ => true) = l := List.filter_eq_self.mpr fun _ _ => rfl
 rw [e]
 exact hq p hp
end
end WL
namespace WL
open PySem L2
noncomputable def pNever : WSp := fun _ _ _ => False
theorem fn_never {P : Program} {w : World} {K : PySem.W.Frag} {mg : Str -> Option Value} {base : Heap} {CX : CXT} {k : Nat} {f : Addr} {fd : FuncData} {ps : List Str} : FnOk P w K mg base CX k f fd ps (spW K pNever) :=
 ⟨fun vs H Q E ⟨_, _, _, _, _, h, _⟩ => h.elim, fun A outer s H args us vs Q E hr => by
   intros
   rename_i h
   first
     | (obtain ⟨_, _, _, _, _, h, _⟩ := h; exact h.elim)⟩
end WL
namespace WQ
open PySem L2 WL WP
noncomputable def sumN (f : Int -> Int) (e : Int) : Nat -> Int -> Int
 | 0, _ => 0
 | n + 1, x => sumN f e n x + f (x - e * n)
noncomputable def sumB (f : Int -> Int) (e : Int) : Nat -> Int -> Int
 | 0, _ => 0
 | n + 1, x => sumB f e n x - f (x + e * (n + 1 : Nat))
noncomputable def sumI (f : Int -> Int) (e n x : Int) : Int := if n < 0 then sumB f e (-n).toNat x else sumN f e n.toNat x
theorem sumI_succ (f : Int -> Int) (e n x : Int) : sumI f e (n + 1) x = sumI f e n x + f (x - e * n) := by
 unfold sumI
 by_cases h : n < 0
 · rw [if_pos h]
   obtain ⟨m, hm⟩ : ∃ m : Nat, (-n).toNat = m + 1 := ⟨(-n).toNat - 1, by lia⟩
   have en : n = -((m : Int) + 1) := by lia
   have ex : x - e * n = x + e * ((m + 1 : Nat) : Int) := by
     rw [en, Int.mul_neg]; push_cast; lia
   rw [hm, sumB, ex]
   by_cases h1 : n + 1 < 0
   · rw [if_pos h1, show (-(n + 1)).toNat = m by lia]; lia
   · rw [if_neg h1, show (n + 1).toNat = 0 by lia]
     have : m = 0 := by lia
     subst this
     simp only [sumN, sumB]; lia
 · rw [if_neg h, if_neg (by lia), show (n + 1).toNat = n.toNat + 1 by lia, sumN]
   have : ((n.toNat : Nat) : Int) = n := by lia
   rw [this]
theorem sumI_back (f : Int -> Int) (e : Int) : ∀ (n : Nat) (x : Int), sumI f e n x + sumI f e (-n) (x - e * n) = 0
 | 0, x => rfl
 | n + 1, x => by
   have ih := sumI_back f e n x
   have h1 := sumI_succ f e n x
   have h2 := sumI_succ f e (-(n + 1 : Nat)) (x - e * (n + 1 : Nat))
   have e1 : (-((n + 1 : Nat) : Int)) + 1 = -(n : Int) := by lia
   rw [e1] at h2
   have e2 : (((n + 1 : Nat)) : Int) = (n : Int) + 1 := by lia
   rw [e2] at h2 ⊢
   have e3 : x - e * ((n : Int) + 1) - e * -((n : Int) + 1) = x := by rw [Int.mul_neg]; lia
   rw [e3] at h2
   have sh : ∀ (m : Nat) (z : Int), sumB f e m (z - e) = sumB f e m z - f z + f (z + e * m) := by
     intro m
     induction m with
     | zero => intro z; simp only [sumB]; rw [Int.ofNat_zero, Int.mul_zero, Int.add_zero]; lia
     | succ m ihm =>
       intro z
       have a1 : z - e + e * ((m + 1 : Nat) : Int) = z + e * m := by
         push_cast; rw [Int.mul_add, Int.mul_one]; lia
       rw [sumB, ihm, sumB, a1]
       lia
   have hs := sh (n + 1) (x - e * n)
   have hs2 : sumI f e (-((n : Int) + 1)) (x - e * ((n : Int) + 1)) = sumB f e (n + 1) (x - e * n - e) := by
     unfold sumI
     rw [if_pos (by lia), show (- -((n : Int) + 1)).toNat = n + 1 by lia]
     congr 1
     rw [Int.mul_add, Int.mul_one]; lia
   have hs3 : sumI f e (-(n : Int)) (x - e * n) = sumB f e n (x - e * n) := by
     unfold sumI
     by_cases h0 : n = 0
     · subst h0; rfl
     · rw [if_pos (by lia), show (- -(n : Int)).toNat = n by lia]
   have hs4 : sumB f e (n + 1) (x - e * n) = sumB f e n (x - e * n) - f (x - e * n + e * ((n + 1 : Nat) : Int)) := rfl
   have e5 : x - e * n + e * ((n + 1 : Nat) : Int) = x + e := by push_cast; rw [Int.mul_add, Int.mul_one]; lia
   rw [hs2, hs, hs4, e5, h1]
   rw [hs3] at ih
   lia
theorem sumN_neg {f g : Int -> Int} {e : Int} (h : ∀ x, g x = -f (x + e)) : ∀ (n : Nat) (x : Int), sumN g (-e) n x = sumB f e n x
 | 0, _ => rfl
 | n + 1, x => by
   rw [sumN, sumB, sumN_neg h n x, h]
   have : x - -e * n + e = x + e * ((n + 1 : Nat) : Int) := by
     rw [Int.neg_mul]; push_cast; rw [Int.mul_add, Int.mul_one]; lia
   rw [this]; lia
theorem sumN_mod {p : Int} {f g : Int -> Int} {e : Int} (h : ∀ x, f x % p = g x % p) : ∀ (n : Nat) (x : Int), sumN f e n x % p = sumN g e n x % p
 | 0, _ => rfl
 | n + 1, x => by
   rw [sumN, sumN, Int.add_emod, sumN_mod h n x, h, <- Int.add_emod]
theorem sumN_still (f : Int -> Int) (x : Int) : ∀ n : Nat, sumN f 0 n x = f x * n
 | 0 => by simp [sumN]
 | n + 1 => by rw [sumN, sumN_still f x n, Int.zero_mul, Int.sub_zero]; push_cast; rw [Int.mul_add, Int.mul_one]
structure IsRep (p : Int) (a : Rd) (n : Int) (r : Rd) : Prop where
 en : r.1 = a.1 * n
 pt : IsPat p r.2
 at_ : ∀ x, tot r.2 x = sumI (tot a.2) a.1 n x % p
theorem IsRep.eq {p : Int} (hp : 0 < p) {a : Rd} {n : Int} {r r' : Rd} (h : IsRep p a n r) (h' : IsRep p a n r') : r = r' :=
 rd_ext (h.en.trans h'.en.symm) (pat_of_tot hp h.pt h'.pt fun x => (h.at_ x).trans (h'.at_ x).symm)
theorem IsRep.of_back {p : Int} (hp : 0 < p) {a r : Rd} {n : Int} (hn : n < 0) (h : IsRep p (bk p a) (-n) r) : IsRep p a n r := by
 refine ⟨?_, h.pt, fun x => ?_⟩
 · rw [h.en]
   show -a.1 * -n = a.1 * n
   rw [Int.neg_mul_neg]
 · rw [h.at_]
   unfold sumI
   rw [if_neg (by lia), if_pos hn]
   show sumN (tot (bk p a).2) (-a.1) (-n).toNat x % p = _
   rw [<- sumN_neg (f := tot a.2) (g := fun x => -tot a.2 (x + a.1)) (fun _ => rfl)]
   exact sumN_mod (fun y => by rw [tot_bk hp, Int.emod_emod_of_dvd _ (Int.dvd_refl p)]) _ _
noncomputable def rowsP (e : Int) (n : Nat) (q : Int × Int) : Pt := (List.range n).map fun (k : Nat) => (q.1 + e * k, q.2)
noncomputable def manyP (e : Int) (n : Nat) (l : Pt) : Pt := (l.map (rowsP e n)).flatten
theorem tot_rows (e x : Int) (q : Int × Int) : ∀ n : Nat, tot (rowsP e n q) x = sumN (tot [q]) e n x
 | 0 => rfl
 | n + 1 => by
   have : rowsP e (n + 1) q = rowsP e n q ++ [(q.1 + e * n, q.2)] := by
     unfold rowsP; rw [List.range_succ, List.map_append]; rfl
   rw [this, tot_append, tot_rows e x q n, sumN]
   congr 1
   simp only [tot]
   by_cases c : q.1 + e * n = x
   · rw [if_pos c, if_pos (by lia)]
   · rw [if_neg c, if_neg (by lia)]
theorem sumN_add (f g : Int -> Int) (e x : Int) : ∀ n : Nat, sumN (fun y => f y + g y) e n x = sumN f e n x + sumN g e n x
 | 0 => rfl
 | n + 1 => by rw [sumN, sumN, sumN, sumN_add f g e x n]; lia
theorem sumN_nil (e x : Int) : ∀ n : Nat, sumN (fun _ => 0) e n x = 0
 | 0 => rfl
 | n + 1 => by rw [sumN, sumN_nil e x n]; rfl
theorem tot_many (e : Int) (n : Nat) (x : Int) : ∀ l : Pt, tot (manyP e n l) x = sumN (tot l) e n x
 | [] => by
   have : tot ([] : Pt) = fun _ => 0 := rfl
   rw [this, sumN_nil]; rfl
 | q :: l => by
   have e1 : manyP e n (q :: l) = rowsP e n q ++ manyP e n l := rfl
   have e2 : tot (q :: l) = fun y => tot [q] y + tot l y := by
     funext y
     have := tot_append [q] l y
     exact this
   rw [e1, tot_append, tot_rows, tot_many e n x l, e2, sumN_add]
theorem many_len (e : Int) (n : Nat) : ∀ l : Pt, (manyP e n l).length = l.length * n
 | [] => by simp [manyP]
 | q :: l => by
   have e1 : manyP e n (q :: l) = rowsP e n q ++ manyP e n l := rfl
   rw [e1, List.length_append, many_len e n l, rowsP, List.length_map, List.length_range, List.length_cons, Nat.succ_mul]; lia
theorem tot_repsN (b : Rd) (x : Int) : ∀ n : Nat, tot (reps b n) x = sumN (tot b.2) b.1 n x
 | 0 => rfl
 | n + 1 => by
   rw [reps, tot_append, tot_repsN b x n, tot_mv, sumN]
   have : x - (n : Int) * b.1 = x - b.1 * n := by rw [Int.mul_comm]
   rw [this]
noncomputable def pRep0 : WSp := fun xs M q => ∃ (p : Int) (a : Rd) (n : Int), xs = [wi p, rdW a, wi n] /\ 0 < p /\ p < 1000 /\ IsPat p a.2 /\ a.2.length <= 40000 /\ 0 <= n /\ (a.1 ≠ 0 -> n < 100000 /\ a.2.length * n.toNat <= 100000) /\
 ∀ r : Rd, IsRep p a n r -> (a.1 = 0 -> r.2.length <= a.2.length) -> (a.1 ≠ 0 -> r.2.length <= a.2.length * n.natAbs) -> q (rdW r) M
noncomputable def pRep : WSp := fun xs M q => ∃ (p : Int) (a : Rd) (n : Int), xs = [wi p, rdW a, wi n] /\ 0 < p /\ p < 1000 /\ IsPat p a.2 /\ a.2.length <= 40000 /\ (a.1 ≠ 0 -> -100000 < n /\ n < 100000 /\ a.2.length * n.natAbs <= 100000) /\
 ∀ r : Rd, IsRep p a n r -> (a.1 = 0 -> r.2.length <= a.2.length) -> (a.1 ≠ 0 -> r.2.length <= a.2.length * n.natAbs) -> q (rdW r) M
end WQ
namespace L2
open PySem PySem.Spec PyProof.Rows
noncomputable def rgN (a b c : Int) : Nat := (Builtin.Range.rangeSize a b c).toNat
noncomputable def RgOk (a b c : Int) : Prop := c ≠ 0 /\ c.natAbs < 1000000 /\ a.natAbs < 1000000000 /\ b.natAbs < 1000000000
end L2
namespace WL
open PySem L2
noncomputable def stepW (lo c : Int) (n : Nat) : List W := (List.range n).map fun (k : Nat) => wi (lo + (k : Int) * c)
section
variable {K : PySem.W.Frag}
noncomputable def jRng3 (a : WA) : WI := fun ρ M q => a ρ M fun xs M1 => ∃ i j c : Int, xs = [wi i, wi j, wi c] /\ RgOk i j c /\ q (stepW i c (rgN i j c)) (fun _ => True) M1
theorem jRng3_e {a : WA} {ρ : WSt} {M : Mp} {q : List W -> (Mp -> Prop) -> Mp -> Prop} : jRng3 a ρ M q = a ρ M fun xs M1 => ∃ i j c : Int, xs = [wi i, wi j, wi c] /\ RgOk i j c /\ q (stepW i c (rgN i j c)) (fun _ => True) M1 := rfl
end
end WL
namespace HT
open PySem PySem.Spec PyProof.Rows
section
variable {prog : Program} {w : World} {A : Around} {E : Value -> Shared -> Prop} {s : Shared}
theorem getItem_tuple_whole {t sl : Addr} {items : Array Value} {vl vu : Value} {lo hi : Option Int} {Q : Value -> Shared -> Prop} (ht : IsTup s.heap t items) (hs : s.heap.IsSliceOf sl vl vu .none) (pl : IsPart vl lo) (pu : IsPart vu hi)
   (hw : sIx items.size 0 lo = 0 /\ sIx items.size items.size hi = items.size) (h : Q (.ref t) s) : wpAny (model prog w) A (getItem (.ref t) (.ref sl)) Q E s := by
 obtain ⟨os, hos, hcs, hds⟩ := id hs
 have hTs : s.TypeIs (.ref sl) "slice" := ⟨os, hos, hcs⟩
 unfold getItem
 try with_reducible refine wpAny_holding ?_
 first | refine wpAny_bind (wpAny_pure ?_) | skip
 refine wpAny_bind (wpAny_sequenceKey ht.typeIs (by decide) ?_)
 refine wpAny_bind (wpAny_callSpecial?_slot (name := Str.ofString "__getitem__") ht.typeIs PyProof.Rows.slot_tuple_getitem
   (wpAny_call_entry PyProof.Rows.slot_tuple_getitem ht.typeIs entry_tuple_getitem ?_ (args_tuple_getitem _ _)))
 show wpAny _ _ (Builtin.Tuple.tupleItemsOf (.ref t) >>= _) _ _ s
 refine wpAny_bind (tupleItemsOf_ ht ?_)
 refine wpAny_bind (wpAny_typeOf hTs ?_)
 rw [if_pos (by decide)]
 refine wpAny_bind (sliceApplied_gen hs pl pu ?_)
 have hyes : (((sIx items.size 0 lo : Nat) : Int) == 0 && (1 : Int) == 1 && (sIx items.size items.size hi - sIx items.size 0 lo) == items.size) = true := by
   rw [hw.1, hw.2]; simp
 show wpAny _ _ (if (((sIx items.size 0 lo : Nat) : Int) == 0 && (1 : Int) == 1 && (sIx items.size items.size hi - sIx items.size 0 lo) == items.size) = true then _ else _) _ _ s
 rw [if_pos hyes]
 refine wpAny_bind (m := Builtin.Tuple.tupleIsExact _) ?_
 unfold Builtin.Tuple.tupleIsExact
 refine wpAny_bind (wpAny_typeOf ht.typeIs (wpAny_pure ?_))
 rw [if_pos (by decide)]
 first
   | exact wpAny_bind (wpAny_rule (wpAny_pure ⟨_, rfl, wpAny_pure h⟩))
   | exact wpAny_bind (wpAny_rule (wpAny_bind (wpAny_pure (wpAny_pure ⟨_, rfl, wpAny_pure h⟩))))
   | exact wpAny_bind (wpAny_bind (wpAny_rule (wpAny_pure (wpAny_pure ⟨_, rfl, wpAny_pure h⟩))))
   | exact wpAny_bind (wpAny_bind (wpAny_rule (wpAny_pure ⟨_, rfl, wpAny_pure h⟩)))
end
end HT
namespace L2
open PySem PySem.Spec PyProof.Rows
section
variable {X : Cx}
noncomputable def rSlA (K : PySem.W.Frag) : V -> Option Int -> Option Int -> Hp -> VK -> Prop := fun x lo hi H Q => ∃ a xs, x = .ref a /\ SqT K H a xs /\
 ((HT.sIx xs.length 0 lo = 0 /\ HT.sIx xs.length xs.length hi = xs.length) -> Q (.ref a) H) /\ (¬ (HT.sIx xs.length 0 lo = 0 /\ HT.sIx xs.length xs.length hi = xs.length) -> ∀ p, H p = none -> Q (.ref p) (upd H p (.tup (cutV xs lo hi))))
theorem sl_tupA : SlR X (rSlA X.K) := by
 intro pins s σ H x v vl vu lo hi sl Q I rx hs pl pu h
 obtain ⟨a, xs, rfl, hx, q1, q2⟩ := h
 by_cases hw : HT.sIx xs.length 0 lo = 0 /\ HT.sIx xs.length xs.length hi = xs.length
 · cases rx
   obtain ⟨its, r, ht, hz⟩ := I.tuple hx
   have hlen : its.toArray.size = xs.length := by rw [List.size_toArray]; exact r.length.symm
   refine ⟨"tuple", _, PyProof.Rows.slot_tuple_getitem.lookup, ht.typeIs, ?_⟩
   exact HT.getItem_tuple_whole ht hs pl pu (by rw [hlen]; exact hw) ⟨.ref a, H, I, rfl, q1 hw⟩
 · exact sl_tup pins s σ H (.ref a) v vl vu lo hi sl Q I rx hs pl pu ⟨a, xs, rfl, hx, hw, q2 hw⟩
end
end L2
namespace WL
open PySem L2
section
variable {K : PySem.W.Frag}
noncomputable def wSlA : WSl := fun x lo hi M q => ∃ l, x = .tup l /\ q (.tup (cutW l lo hi)) M
theorem cutW_whole {l : List W} {lo hi : Option Int} (h : HT.sIx l.length 0 lo = 0 /\ HT.sIx l.length l.length hi = l.length) : cutW l lo hi = l := by
 unfold cutW
 rw [h.1, h.2, List.drop_zero, Nat.sub_zero, List.take_length]
instance : ISl K (rSlA K) wSlA where
 imp := by
   rintro x v lo hi M H q Q m r1 ⟨l, rfl, h⟩ k
   obtain ⟨a, vs, rfl, hv, r⟩ := r1.tup
   refine ⟨a, vs, rfl, hv, fun hw => ?_, fun hw p hp => ?_⟩
   · rw [r.length] at hw
     rw [cutW_whole hw] at h
     exact k _ M _ H h (TSame.refl H) m (WR.mkT hv r)
   · exact k _ M _ _ h (L2.Same.ts (same_upd hp)) (m.new hp) (WR.mkT (SqT.of upd_same) ((r.cut lo hi).ts (L2.Same.ts (same_upd hp))))
theorem wSlA_e {l : List W} {lo hi : Option Int} {M : Mp} {q : WK} : wSlA (.tup l) lo hi M q = q (.tup (cutW l lo hi)) M := by
 apply propext; constructor
 · rintro ⟨_, h, k⟩; cases h; exact k
 · intro h; exact ⟨_, rfl, h⟩
end
end WL
namespace WL
open PySem L2
section
variable {K : PySem.W.Frag}
noncomputable def seqK (x : W) (M : Mp) (q : List W -> (Mp -> Prop) -> Mp -> Prop) : Prop := (∃ p l, x = wr p /\ M p = some (.lst l) /\ q l (fun M' => M' p = some (.lst l)) M) \/ ∃ l, x = .tup l /\ q l (fun _ => True) M
noncomputable def jSeq (a : WE) : WI := fun ρ M q => a ρ M fun x M1 => seqK x M1 q
theorem jSeq_e {a : WE} {ρ : WSt} {M : Mp} {q : List W -> (Mp -> Prop) -> Mp -> Prop} : jSeq a ρ M q = a ρ M fun x M1 => seqK x M1 q := rfl
end
end WL
namespace WQ
open PySem L2 WL WP
noncomputable def cv (a b : List Int) : Nat -> Nat -> Int
 | 0, _ => 0
 | k + 1, n => cv a b k n + if k <= n then a.getD k 0 * b.getD (n - k) 0 else 0
structure IsPart (p : Int) (one other q r : List Int) : Prop where
 qs : IsSum p q
 rs : IsSum p r
 len : r.length < other.length
 ql : q.length <= one.length
 eq : ∀ n, one.getD n 0 % p = (cv q other q.length n + r.getD n 0) % p
end WQ
namespace WQ
open PySem L2 WL WP
theorem ixN_int {n : Nat} {i : Int} (h0 : 0 <= i) (h1 : i < n) : ixN n i = some i.toNat := by
 unfold ixN; rw [if_pos h0, if_pos h1]
end WQ
namespace WL
open PySem L2
section
variable {K : PySem.W.Frag}
noncomputable def strK (x : W) (k : Str -> Prop) : Prop := ∃ y, x = ws y /\ k y
theorem strK_e {y : Str} {k : Str -> Prop} : strK (.v (.str y)) k = k y := by
 apply propext; constructor
 · rintro ⟨_, h, k⟩; cases h; exact k
 · intro h; exact ⟨_, rfl, h⟩
theorem wFvI_e {a : WE} {ρ : WSt} {M : Mp} {q : WK} : wFvI a ρ M q = a ρ M fun x M1 => intK x fun i => andK (i.natAbs.log2 < 1920) (q (ws (toString i)) M1) := by
 unfold wFvI intK andK
 congr 1
theorem wFvS_e {a : WE} {ρ : WSt} {M : Mp} {q : WK} : wFvS a ρ M q = a ρ M fun x M1 => strK x fun y => andK (y.length <= sizeLine) (q (ws y) M1) := by
 unfold wFvS strK andK
 congr 1
theorem wJ0_e {out : Str} {ρ : WSt} {M : Mp} {q : WK} : wJ0 out ρ M q = andK (out.length <= sizeLine) (q (ws out) M) := rfl
theorem wJ1_e {a : WE} {f : Str -> WE} {out : Str} {ρ : WSt} {M : Mp} {q : WK} : wJ1 a f out ρ M q = a ρ M fun x M1 => strK x fun y => andK ((out ++ y).length <= sizeLine) (f (out ++ y) ρ M1 q) := by
 unfold wJ1 strK andK
 congr 1
end
end WL
namespace WQ
open PySem L2 WL WP
theorem cps_app (a b : Str) : (a ++ b).cps.toList = a.cps.toList ++ b.cps.toList := by
 show (a.cps ++ b.cps).toList = _
 simp
theorem str_len (a : Str) : a.length = a.cps.toList.length := by
 show a.cps.size = _
 simp
theorem len_app (a b : Str) : (a ++ b).length = a.length + b.length := by
 rw [str_len, cps_app, List.length_append, <- str_len, <- str_len]
end WQ
namespace WQ
open PySem L2 WL WP
theorem strS_len (s : String) : (Str.ofString s).length = s.toList.length := by
 rw [Str.ofString_eq_toList]
 show ((s.toList.map Char.toNat).toArray).size = _
 simp
theorem num_len {i : Int} (h : i.natAbs < 10 ^ 60) : (Str.ofString (toString i)).length <= 61 := by
 rw [strS_len]
 have hd : ∀ n : Nat, n < 10 ^ 60 -> (Nat.repr n).toList.length <= 60 := fun n hn => by
   rw [Nat.repr_eq_ofList_toDigits, String.toList_ofList]
   exact (Nat.length_toDigits_le_iff (by decide) (by decide)).mpr hn
 cases i with
 | ofNat n =>
   show (Nat.repr n).toList.length <= 61
   have := hd n h
   lia
 | negSucc n =>
   show ("-" ++ Nat.repr (n + 1)).toList.length <= 61
   rw [String.toList_append, List.length_append]
   have := hd (n + 1) h
   have e : ("-" : String).toList.length = 1 := by decide
   lia
end WQ
namespace WQ
open PySem L2 WL WP
theorem small_len {n : Nat} (h : n <= 5000) : n <= sizeLine := Nat.le_trans h (by rw [sizeLine_eq]; decide)
end WQ
namespace WQ
open PySem L2 WL WP
noncomputable def cs (n r : Int) (l : Pt) : Int := ((l.filter fun z => decide (z.1 % n = r)).map (·.2)).sum
end WQ
namespace WQ
open PySem L2 WL WP
theorem ixT_all {M : Mp} {q : WK} {xs : List W} {y : Int} (P : W -> Prop) (h0 : 0 <= y) (h1 : y < xs.length) (hP : ∀ x ∈ xs, P x) (k : ∀ x, P x -> q x M) : wIxT (.tup xs) (wi y) M q := by
 have hy : y.toNat < xs.length := by lia
 exact ⟨xs, y, xs[y.toNat], rfl, rfl, atI_int h0 (List.getElem?_eq_getElem hy), k _ (hP _ (List.getElem_mem hy))⟩
end WQ
namespace WQ
open PySem L2 WL WP
noncomputable abbrev Cf := Nat -> Int
noncomputable def act : Nat -> Cf -> Cf -> Int
 | 0, f, g => f 0 * g 0
 | n + 1, f, g => f 0 * g (n + 1) + act n (fun i => f (i + 1)) g
noncomputable def co (l : List Int) : Cf := fun i => l.getD i 0
noncomputable def Mult (p : Int) (a g : Cf) : Prop := ∃ (E : Cf) (N : Nat), (∀ i, N <= i -> E i % p = 0) /\ ∀ n, a n % p = act n E g % p
noncomputable def Two (p : Int) (a g h : Cf) : Prop := ∃ (A B : Cf) (N : Nat), (∀ i, N <= i -> A i % p = 0 /\ B i % p = 0) /\ ∀ n, a n % p = (act n A g + act n B h) % p
end WQ
namespace WL
open PySem L2
variable {K : PySem.W.Frag}
noncomputable def sPar3 (i j k : Nat) (a : WA) : WS := fun D ρ M => a ρ M fun xs M1 => ∃ x y z, xs = [x, y, z] /\ D.nx (((ρ.set i (some x)).set j (some y)).set k (some z)) M1
noncomputable def threeK (xs : List W) (k : W -> W -> W -> Prop) : Prop := ∃ x y z, xs = [x, y, z] /\ k x y z
theorem sPar3_e {i j k : Nat} {a : WA} {D : WEnds} {ρ : WSt} {M : Mp} : sPar3 i j k a D ρ M = a ρ M fun xs M1 => threeK xs fun x y z => D.nx (((ρ.set i (some x)).set j (some y)).set k (some z)) M1 := rfl
end WL
namespace L2
open PySem PySem.Spec PyProof.Rows
noncomputable def lookS (kvs : List (Str × V)) (k : Str) : Option V := (kvs.find? fun kv => decide (kv.1 = k)).map (·.2)
end L2
namespace WL
open PySem L2
variable {K : PySem.W.Frag}
class KT (K : PySem.W.Frag) (kvs : List (Str × V)) (tb : outParam (List (Str × W))) : Prop where
 rel : ∀ k : Str, ((tb.find? fun kv => decide (kv.1 = k)).map (·.2) = none /\ lookS kvs k = none) \/ ∃ x v, (tb.find? fun kv => decide (kv.1 = k)).map (·.2) = some x /\ lookS kvs k = some v /\ ∀ H, WR K H x v
end WL
namespace WQ
open PySem L2 WL WP
noncomputable def FV (p : Int) (a : Rd) (v : Int) : Prop := ∃ lo hi, IsMin (spots a) lo /\ IsMax (spots a) hi /\ v = fwv p a lo hi
open Classical in
noncomputable def fv (p : Int) (a : Rd) : Int := if h : ∃ v, FV p a v then h.choose else 0
noncomputable def names : List Str := ["on", "back", "up", "down"]
noncomputable def stp (p : Int) (s : Str) : Rd := if s = "on" then (1, []) else if s = "back" then (-1, []) else if s = "up" then (0, [(0, 1)]) else (0, [(0, p - 1)])
noncomputable def far (p : Int) (a : Rd) (s : Str) : Bool := decide (fv p (jn p a (stp p s)) > fv p a)
end WQ
namespace WQ
open PySem L2 WL WP
noncomputable def pairsOf (p : Int) (z : Int × Int) : Pt := if z.2 <= p - z.2 then List.replicate z.2.toNat (z.1, 1) else List.replicate (p - z.2).toNat (z.1, -1)
end WQ
namespace WQ
open PySem L2 WL WP
noncomputable def ways : Int -> Pt -> Int
 | _, [] => 0
 | here, z :: r => absI (here - z.1) + ways z.1 r
end WQ
namespace WQ
open PySem L2 WL WP
structure Inv (n : Nat) (s : Int × Pt) (lo hi : Int) : Prop where
 l0 : lo <= 0
 h0 : 0 <= hi
 l1 : lo <= s.1
 h1 : s.1 <= hi
 pl : ∀ z ∈ s.2, lo <= z.1 /\ z.1 <= hi
 on : ∀ z ∈ s.2, z.2 = 1 \/ z.2 = -1
 le : 2 * (hi - lo) - absI s.1 + s.2.length <= n
end WQ
namespace WQ
open PySem L2 WL WP
noncomputable def csum (n : Int) : Pt -> Int -> Int
 | [], _ => 0
 | z :: r, k => (if z.1 % n = k then z.2 else 0) + csum n r k
end WQ
namespace WQ
open PySem L2 WL WP
noncomputable def fl (p : Int) (m : Nat) (f : Pt) : List Int := (List.range m).map fun (k : Nat) => csum m f k % p
end WQ
namespace WQ
open PySem L2 WL WP
structure Wk (a : Rd) (sp : Int) (wk : List Int) (st sg t : Int) (N : Nat) : Prop where
 s1 : sg = 1 \/ sg = -1
 t0 : 0 < t
 sp : sp = sg * t
 wk : wk = (List.range N).map fun (k : Nat) => st + sg * (k : Int)
 all : ∀ z ∈ a.2, ∃ j : Nat, j < N /\ z.1 = st + sg * (j : Int)
end WQ
namespace WQ
open PySem L2 WL WP
inductive Ln where
 | rest | mem (k : Int) | join (a b : Nat) | times (a : Nat) (n : Int)
deriving DecidableEq
noncomputable def sev (r : Pt) (n : Int) : Pt := if n < 0 then (List.replicate (-n).toNat (r.reverse.map fun z => (z.1, -z.2))).flatten else (List.replicate n.toNat r).flatten
noncomputable def rowLn (acc : List Pt) : Ln -> Pt
 | .rest => []
 | .mem k => [(k, 1)]
 | .join a b => acc.getD a [] ++ acc.getD b []
 | .times a n => sev (acc.getD a []) n
noncomputable def rowsL (ls : List Ln) : List Pt := ls.foldl (fun acc l => acc ++ [rowLn acc l]) []
theorem list_snoc {α : Type} (l : List α) (h : l ≠ []) : ∃ r x, l = r ++ [x] := ⟨l.dropLast, l.getLast h, (List.dropLast_concat_getLast h).symm⟩
noncomputable def rw_ (ls : List Ln) (i : Nat) : Pt := (rowsL ls).getD i []
noncomputable def nmd : Ln -> List Nat
 | .join a b => [a, b]
 | .times a _ => [a]
 | _ => []
end WQ
namespace WQ
open PySem L2 WL WP
structure WI (ls : List Ln) (last i : Nat) (l : List Nat) : Prop where
 nd : l.Nodup
 la : last ∈ l
 bd : ∀ j ∈ l, j <= last /\ (rw_ ls j).length <= (rw_ ls last).length
 cl : ∀ j ∈ l, last < j + i -> rw_ ls j ≠ [] -> ∀ ln, ls[j]? = some ln -> ∀ b ∈ nmd ln, b ∈ l
end WQ
namespace L2
open PySem PySem.Spec PyProof.Rows
section
variable {X : Cx} {k : Nat} {f : Addr} {fd : FuncData} {ps : List Str} {sp : Sp} {E : XK} {x : Str} {p pos : Pos} {e : Expr} {es : List Expr} {t : TA} {st : Stmt}
theorem pe_callXF (hP : Passes (Fly X.prog X.w) X E) (C : Fnc X.K X.mg x ps st f fd) (F : FnOk X.prog X.w X.K X.mg X.base (Fly X.prog X.w) k f fd ps sp) (hr : Room k X.A) (hg : Gl X x)
   (ha : PA X (e :: es) t) (hdb : (x == ("__debug__" : Str)) = false := by decide) (he : starEach (e :: es) X.env = (false, eval e X.env) :: starEach es X.env := by rfl) (hpl : (backTo pos (starEach es X.env)).any (·.1) = false := by rfl) :
   PE X (.Call (.Name x p) (e :: es) [] pos) (tCall sp [] E t) := pe_call F hr hg C.at_ C.fn.kp C.bd .nil hP ha hdb he hpl
end
end L2
namespace WQ
open PySem L2 WL WP
inductive Zl where
 | rest | mem (k : Int) | join (a b : Int) | times (a n : Int) | oth (s : Str) (k : Int)
noncomputable def zW : Zl -> W
 | .rest => .tup [ws "rest"]
 | .mem k => .tup [ws "member", wi k]
 | .join a b => .tup [ws "join", wi a, wi b]
 | .times a n => .tup [ws "times", wi a, wi n]
 | .oth s k => .tup [ws s, wi k]
noncomputable def ZOk (m n : Nat) : Zl -> Prop
 | .rest => True
 | .mem k => 0 <= k /\ k < m
 | .join a b => (0 <= a /\ a < n) /\ 0 <= b /\ b < n
 | .times a _ => 0 <= a /\ a < n
 | .oth _ _ => False
noncomputable def ZSm : Zl -> Prop
 | .rest => True
 | .mem k => k.natAbs <= 1000
 | .join a b => a.natAbs <= 1000 /\ b.natAbs <= 1000
 | .times a n => a.natAbs <= 1000 /\ n.natAbs <= 1000
 | .oth s _ => s ≠ "rest" /\ s ≠ "member" /\ s ≠ "join" /\ s ≠ "times" /\ s.length <= 100
noncomputable def ZEv (p : Int) (ms acc : List Rd) : Zl -> Rd -> Prop
 | .rest, r => r = (0, [])
 | .mem k, r => ms[k.toNat]? = some r
 | .join a b, r => ∃ x y, acc[a.toNat]? = some x /\ acc[b.toNat]? = some y /\ r = jn p x y
 | .times a n, r => ∃ x, acc[a.toNat]? = some x /\ IsRep p x n r
 | .oth _ _, _ => False
theorem ZEv.eq {p : Int} (p0 : 0 < p) {ms acc : List Rd} {z : Zl} {r r' : Rd} (h : ZEv p ms acc z r) (h' : ZEv p ms acc z r') : r = r' := by
 cases z with
 | rest => exact Eq.trans h (Eq.symm h')
 | mem k => exact Option.some.inj (Eq.trans (Eq.symm h) h')
 | join a b =>
   obtain ⟨x, y, h1, h2, rfl⟩ := h
   obtain ⟨x', y', h3, h4, rfl⟩ := h'
   rw [h1] at h3; rw [h2] at h4; cases h3; cases h4; rfl
 | times a n =>
   obtain ⟨x, h1, h2⟩ := h
   obtain ⟨x', h3, h4⟩ := h'
   rw [h1] at h3; cases h3; exact h2.eq p0 h4
 | oth s k => exact h.elim
noncomputable def RB (p : Int) (n : Nat) (r : Rd) : Prop := IsPat p r.2 /\ r.2.length <= n
noncomputable def zsz (sz : List Nat) : Zl -> Nat
 | .rest => 0
 | .mem _ => 1
 | .join a b => sz.getD a.toNat 0 + sz.getD b.toNat 0
 | .times a n => sz.getD a.toNat 0 * n.natAbs
 | .oth _ _ => 0
noncomputable def RBs (p : Int) (acc : List Rd) (sz : List Nat) : Prop := sz.length = acc.length /\ ∀ i r, acc[i]? = some r -> RB p (3 * sz.getD i 0) r
theorem rep_zero {p : Int} (p0 : 0 < p) {a r : Rd} (h : IsRep p a 0 r) : r = (0, []) :=
 h.eq p0 ⟨by show (0 : Int) = a.1 * 0; lia, IsPat.nil, fun x => by
   show (0 : Int) = _
   simp [sumI, sumN]⟩
theorem RBs.step {p : Int} (p0 : 0 < p) {ms acc : List Rd} {sz : List Nat} (h : RBs p acc sz) (hm : ∀ r ∈ ms, RB p 3 r) {z : Zl} {r : Rd} (e : ZEv p ms acc z r) (hl : ∀ a n, z = .times a n -> ∀ x, acc[a.toNat]? = some x -> r.2.length <= x.2.length * max 1 n.natAbs) : RB p (3 * zsz sz z) r := by
 cases z with
 | rest =>
   cases (show r = (0, []) from e)
   exact ⟨IsPat.nil, Nat.zero_le _⟩
 | mem k => exact hm r (List.mem_of_getElem? e)
 | join a b =>
   obtain ⟨x, y, h1, h2, rfl⟩ := e
   obtain ⟨_, l1⟩ := h.2 _ _ h1
   obtain ⟨_, l2⟩ := h.2 _ _ h2
   have := jn_len p x y
   refine ⟨jn_pat p0 _ _, ?_⟩
   show _ <= 3 * (sz.getD a.toNat 0 + sz.getD b.toNat 0)
   lia
 | times a n =>
   obtain ⟨x, h1, h2⟩ := e
   obtain ⟨_, l1⟩ := h.2 _ _ h1
   refine ⟨h2.pt, ?_⟩
   show _ <= 3 * (sz.getD a.toNat 0 * n.natAbs)
   by_cases hn : n = 0
   · subst hn
     rw [rep_zero p0 h2]; exact Nat.zero_le _
   · have := hl a n rfl x h1
     have e1 : max 1 n.natAbs = n.natAbs := by lia
     rw [e1] at this
     rw [<- Nat.mul_assoc]
     exact Nat.le_trans this (Nat.mul_le_mul_right _ l1)
 | oth s k => exact e.elim
theorem RBs.snoc {p : Int} {acc : List Rd} {sz : List Nat} (h : RBs p acc sz) {r : Rd} {n : Nat} (hr : RB p (3 * n) r) : RBs p (acc ++ [r]) (sz ++ [n]) := by
 refine ⟨by rw [List.length_append, List.length_append, h.1]; rfl, fun i x hx => ?_⟩
 rw [List.getD_eq_getElem?_getD]
 by_cases hi : i < acc.length
 · rw [List.getElem?_append_left hi] at hx
   rw [List.getElem?_append_left (by rw [h.1]; exact hi), <- List.getD_eq_getElem?_getD]
   exact h.2 i x hx
 · rw [List.getElem?_append_right (by lia)] at hx
   have h0 : i - acc.length = 0 := by
     cases hk : i - acc.length with
     | zero => rfl
     | succ k => rw [hk] at hx; cases hx
   rw [List.getElem?_append_right (by rw [h.1]; lia), h.1, h0]
   rw [h0] at hx
   cases hx
   exact hr
noncomputable def ZAll (p : Int) (ms : List Rd) (zs : List Zl) (rs : List Rd) : Prop := rs.length = zs.length /\ ∀ i z r, zs[i]? = some z -> rs[i]? = some r -> ZEv p ms (rs.take i) z r
theorem ZAll.nil {p : Int} {ms : List Rd} : ZAll p ms [] [] := ⟨rfl, fun i z r h _ => by cases h⟩
theorem ZAll.snoc {p : Int} {ms : List Rd} {zs : List Zl} {rs : List Rd} (h : ZAll p ms zs rs) {z : Zl} {r : Rd} (e : ZEv p ms rs z r) : ZAll p ms (zs ++ [z]) (rs ++ [r]) := by
 refine ⟨by rw [List.length_append, List.length_append, h.1]; rfl, fun i y x hy hx => ?_⟩
 by_cases hi : i < rs.length
 · rw [List.getElem?_append_left hi] at hx
   rw [List.getElem?_append_left (by rw [<- h.1]; exact hi)] at hy
   rw [List.take_append_of_le_length (by lia)]
   exact h.2 i y x hy hx
 · have hil := (List.getElem?_eq_some_iff.mp hx).1
   rw [List.length_append] at hil
   have hie : i = rs.length := by simp at hil; lia
   subst hie
   rw [List.getElem?_append_right (Nat.le_refl _), Nat.sub_self] at hx
   rw [List.getElem?_append_right (by rw [h.1]; exact Nat.le_refl _), h.1, Nat.sub_self] at hy
   cases hx; cases hy
   rw [List.take_append_of_le_length (Nat.le_refl _), List.take_length]
   exact e
theorem ZAll.eq {p : Int} (p0 : 0 < p) {ms : List Rd} : ∀ (n : Nat) {zs : List Zl} {rs rs' : List Rd}, zs.length = n -> ZAll p ms zs rs -> ZAll p ms zs rs' -> rs = rs' := by
 intro n zs rs rs' hn h h'
 have key : ∀ i, i <= n -> rs.take i = rs'.take i := by
   intro i
   induction i with
   | zero => intro _; rfl
   | succ i ih =>
     intro hi
     have h1 := ih (by lia)
     rw [List.take_add_one, List.take_add_one, h1]
     obtain ⟨z, hz⟩ : ∃ z, zs[i]? = some z := ⟨_, List.getElem?_eq_getElem (by lia)⟩
     obtain ⟨r, hr⟩ : ∃ r, rs[i]? = some r := ⟨_, List.getElem?_eq_getElem (by have := h.1; lia)⟩
     obtain ⟨r', hr'⟩ : ∃ r, rs'[i]? = some r := ⟨_, List.getElem?_eq_getElem (by have := h'.1; lia)⟩
     have e1 := h.2 i z r hz hr
     have e2 := h'.2 i z r' hz hr'
     rw [h1] at e1
     rw [hr, hr', e1.eq p0 e2]
 have := key n (Nat.le_refl _)
 rwa [List.take_of_length_le (by rw [h.1]; lia), List.take_of_length_le (by rw [h'.1]; lia)] at this
end WQ
namespace WQ
open PySem L2 WL WP
noncomputable def hI (s x : Int) : Int := if s = 0 then 0 else x / s
end WQ
namespace WL
theorem len0 {α : Type} {l : List α} (h : l.length = 0) : l = [] := List.length_eq_zero_iff.mp h
theorem len1 {α : Type} {l : List α} (h : l.length = 1) : ∃ a, l = [a] := List.length_eq_one_iff.mp h
theorem lenS {α : Type} {l : List α} {n : Nat} (h : l.length = n + 1) : ∃ a r, l = a :: r /\ r.length = n := by
 cases l with
 | nil => cases h
 | cons a r => exact ⟨a, r, rfl, by simpa using h⟩
theorem len2 {α : Type} {l : List α} (h : l.length = 2) : ∃ a b, l = [a, b] := by obtain ⟨a, r, rfl, g⟩ := lenS h; obtain ⟨b, rfl⟩ := len1 g; exact ⟨a, b, rfl⟩
theorem len3 {α : Type} {l : List α} (h : l.length = 3) : ∃ a b c, l = [a, b, c] := by obtain ⟨a, r, rfl, g⟩ := lenS h; obtain ⟨b, c, rfl⟩ := len2 g; exact ⟨a, b, c, rfl⟩
theorem len4 {α : Type} {l : List α} (h : l.length = 4) : ∃ a b c d, l = [a, b, c, d] := by obtain ⟨a, r, rfl, g⟩ := lenS h; obtain ⟨b, c, d, rfl⟩ := len3 g; exact ⟨a, b, c, d, rfl⟩
theorem len5 {α : Type} {l : List α} (h : l.length = 5) : ∃ a b c d e, l = [a, b, c, d, e] := by obtain ⟨a, r, rfl, g⟩ := lenS h; obtain ⟨b, c, d, e, rfl⟩ := len4 g; exact ⟨a, b, c, d, e, rfl⟩
end WL
end
set_option maxHeartbeats 4000000
set_option synthInstance.maxSize 100000
set_option synthInstance.maxHeartbeats 0
open PySem L2 WL WP WQ PyProof.Rows
local macro_rules | `(tactic| simp? [$xs,*]) => do let a <- ("lstK_e dicK_e optK_e andK_e iteK_t iteK_f isB_e refK_e tupK_e keyK_i wVar_0 wVar_1 wVar_2 wVar_3 wVar_4 wVar_5 wVar_6 wVar_7 wVar_8 wVar_9 wVar_10 wVar_11 wVar_12 wVar_13 wVar_14 wVar_15 wVar_16 wVar_17 wVar_18 wVar_19 wVar_20 wVar_21 wVar_22 wVar_23 wC_e wOp_e wUn_e wI_e wI0_e wU_e wEq_i wNe_i wEq_s wTest_e wAnd_e wOr_e wNot_e wAndV_e wOrV_e wNotV_e wIf_e wChain_e wNil_e wCons_e wTup_e wLst_e wIxL_e wIxT_e wNoPart_e intK_e wPart_e wSl_e wCB_e wCall_e wLen_l wLen_t wAbs_e wMax2_e wListOf_l wListOf_t wTupleOf_l wIsX_e wBM_e wAppend_e wExtend_e wCat_e wTruth_e wDNew_e wDGet_e wDGet2_e sNext_e sBreak_e sCont_e sDrop_e sRet_e sRetN_e sIf_e sAsg_e sPar_e sAug_e sAugS_e sDPutW_e sFor_e sWhile_e vName_e vNil_e vCons_e vTup_e vSub_e wSetL_e jList_e jTup_e oneK_e jRng1_e wComp_e wYes_e wComp2_e jRng3_e wSlA_e strK_e wFvI_e wFvS_e wJ0_e wJ1_e jSeq_e sPar3_e".splitOn " ").toArray.mapM fun s => `(Lean.Parser.Tactic.simpLemma| ↓ $(Lean.mkIdent s.toName):term); let b <- ("kit_int_int kit_int_bool kit_int_str kit_int_tuple kit_int_list kit_bool_int kit_bool_bool kit_bool_str kit_bool_tuple kit_bool_list kit_str_int kit_str_bool kit_str_str kit_str_tuple kit_str_list kit_NoneType_int kit_NoneType_bool kit_NoneType_str kit_NoneType_tuple kit_NoneType_list kit_tuple_int kit_tuple_bool kit_tuple_str kit_tuple_tuple kit_tuple_list kit_list_int kit_list_bool kit_list_str kit_list_tuple kit_list_list sl1 sl2 sl3 sl4 sl5 sl0 List.map_cons List.map_nil List.length_cons List.length_nil Nat.zero_add List.cons_append List.nil_append List.set_cons_zero List.set_cons_succ um_same um_um atI_0 atI_1 atI_2 atI_3 ixN_1 ixN_2 ixN_3 Bool.not_true Bool.not_false List.getElem?_cons_zero List.getElem?_cons_succ Option.join_some and_self and_true true_and Option.getD_some Option.getD_none tyW capρ".splitOn " ").toArray.mapM fun s => `(Lean.Parser.Tactic.simpLemma| $(Lean.mkIdent s.toName):term); `(tactic| try simp only [$a,*, $b,*, Nat.reduceAdd, Nat.reduceSub, List.reduceReplicate, $xs,*])
local macro_rules | `(tactic| dsimp? [$xs,*]) => `(tactic| (simp? [↓sSeq_h, $xs,*]; repeat (with_reducible refine hold_i ?_; simp? [↓sSeq_h, $xs,*])))
noncomputable section
namespace K25
open PySem L2 WL WP WQ PyProof.Rows
noncomputable def top (i : Nat) : Stmt := PySem.Challenge.pw_duskround_k25_lines_worked.main.body.getD i (.Pass ⟨0, 0, 0, 0⟩)
noncomputable abbrev s_tidy : Stmt := top 5
noncomputable abbrev s_added : Stmt := top 6
noncomputable abbrev s_moved : Stmt := top 7
noncomputable abbrev s_timed : Stmt := top 8
noncomputable abbrev s_still : Stmt := top 10
noncomputable abbrev s_joined : Stmt := top 11
noncomputable abbrev s_backward : Stmt := top 12
noncomputable abbrev s_repeated : Stmt := top 13
noncomputable abbrev s_picked : Stmt := top 15
noncomputable abbrev s_line_round : Stmt := top 16
noncomputable abbrev s_worked : Stmt := top 17
noncomputable abbrev s_l_begin : Stmt := top 19
noncomputable abbrev s_l_take : Stmt := top 20
noncomputable abbrev s_l_p : Stmt := top 21
noncomputable abbrev s_l_tidy : Stmt := top 22
noncomputable abbrev s_l_pattern : Stmt := top 23
noncomputable abbrev s_l_round : Stmt := top 24
noncomputable abbrev s_l_sum : Stmt := top 25
noncomputable abbrev s_l_join : Stmt := top 26
noncomputable abbrev s_l_back : Stmt := top 27
noncomputable abbrev s_l_times : Stmt := top 28
noncomputable abbrev s_l_int : Stmt := top 29
noncomputable abbrev s_l_line : Stmt := top 30
noncomputable abbrev s_l_lines : Stmt := top 31
noncomputable abbrev s_l_is_pattern : Stmt := top 32
noncomputable abbrev s_l_is_round : Stmt := top 33
noncomputable abbrev s_l_draw_line : Stmt := top 34
noncomputable abbrev s_l_size_of : Stmt := top 35
noncomputable abbrev s_l_bad : Stmt := top 36
noncomputable abbrev s_law : Stmt := top 37
set_option genInjectivity false in
set_option genSizeOf false in
structure Adr where
 f_tidy : Addr
 d_tidy : FuncData
 f_added : Addr
 d_added : FuncData
 f_moved : Addr
 d_moved : FuncData
 f_timed : Addr
 d_timed : FuncData
 f_still : Addr
 d_still : FuncData
 f_joined : Addr
 d_joined : FuncData
 f_backward : Addr
 d_backward : FuncData
 f_repeated : Addr
 d_repeated : FuncData
 f_picked : Addr
 d_picked : FuncData
 f_line_round : Addr
 d_line_round : FuncData
 f_worked : Addr
 d_worked : FuncData
 f_l_begin : Addr
 d_l_begin : FuncData
 f_l_take : Addr
 d_l_take : FuncData
 f_l_p : Addr
 d_l_p : FuncData
 f_l_tidy : Addr
 d_l_tidy : FuncData
 f_l_pattern : Addr
 d_l_pattern : FuncData
 f_l_round : Addr
 d_l_round : FuncData
 f_l_sum : Addr
 d_l_sum : FuncData
 f_l_join : Addr
 d_l_join : FuncData
 f_l_back : Addr
 d_l_back : FuncData
 f_l_times : Addr
 d_l_times : FuncData
 f_l_int : Addr
 d_l_int : FuncData
 f_l_line : Addr
 d_l_line : FuncData
 f_l_lines : Addr
 d_l_lines : FuncData
 f_l_is_pattern : Addr
 d_l_is_pattern : FuncData
 f_l_is_round : Addr
 d_l_is_round : FuncData
 f_l_draw_line : Addr
 d_l_draw_line : FuncData
 f_l_size_of : Addr
 d_l_size_of : FuncData
 f_l_bad : Addr
 d_l_bad : FuncData
 f_law : Addr
 d_law : FuncData
 c_BadLine : Addr
 c_NoRound : Addr
 c_StreetError : Addr
structure Txt (K : PySem.W.Frag) (mg : Str -> Option Value) (A : Adr) : Prop where
 b_ValueError : mg "ValueError" = none
 b_abs : mg "abs" = none
 b_all : mg "all" = none
 b_bool : mg "bool" = none
 b_int : mg "int" = none
 b_isinstance : mg "isinstance" = none
 b_len : mg "len" = none
 b_list : mg "list" = none
 b_max : mg "max" = none
 b_range : mg "range" = none
 b_sorted : mg "sorted" = none
 b_str : mg "str" = none
 b_tuple : mg "tuple" = none
 tidy : Fnc K mg "tidy" ["p", "pairs"] s_tidy A.f_tidy A.d_tidy
 added : Fnc K mg "added" ["p", "one", "other"] s_added A.f_added A.d_added
 moved : Fnc K mg "moved" ["pattern", "by"] s_moved A.f_moved A.d_moved
 timed : Fnc K mg "timed" ["p", "pattern", "n"] s_timed A.f_timed A.d_timed
 still : Fnc K mg "still" [] s_still A.f_still A.d_still
 joined : Fnc K mg "joined" ["p", "one", "other"] s_joined A.f_joined A.d_joined
 backward : Fnc K mg "backward" ["p", "one"] s_backward A.f_backward A.d_backward
 repeated : Fnc K mg "repeated" ["p", "one", "n"] s_repeated A.f_repeated A.d_repeated
 picked : Fnc K mg "picked" ["things", "at"] s_picked A.f_picked A.d_picked
 line_round : Fnc K mg "line_round" ["p", "members", "ahead", "line"] s_line_round A.f_line_round A.d_line_round
 worked : Fnc K mg "worked" ["p", "members", "lines"] s_worked A.f_worked A.d_worked
 l_begin : Fnc K mg "_law_begin" ["_law_script"] s_l_begin A.f_l_begin A.d_l_begin
 l_take : Fnc K mg "_law_take" ["_law_draw", "_law_many"] s_l_take A.f_l_take A.d_l_take
 l_p : Fnc K mg "_law_p" ["_law_draw"] s_l_p A.f_l_p A.d_l_p
 l_tidy : Fnc K mg "_law_tidy" ["_law_p_here", "_law_pairs"] s_l_tidy A.f_l_tidy A.d_l_tidy
 l_pattern : Fnc K mg "_law_pattern" ["_law_draw", "_law_p_here", "_law_most", "_law_far"] s_l_pattern A.f_l_pattern A.d_l_pattern
 l_round : Fnc K mg "_law_round" ["_law_draw", "_law_p_here", "_law_end", "_law_most", "_law_far"] s_l_round A.f_l_round A.d_l_round
 l_sum : Fnc K mg "_law_sum" ["_law_p_here", "_law_one", "_law_other", "_law_by", "_law_many"] s_l_sum A.f_l_sum A.d_l_sum
 l_join : Fnc K mg "_law_join" ["_law_p_here", "_law_one", "_law_other"] s_l_join A.f_l_join A.d_l_join
 l_back : Fnc K mg "_law_back" ["_law_p_here", "_law_one"] s_l_back A.f_l_back A.d_l_back
 l_times : Fnc K mg "_law_times" ["_law_p_here", "_law_one", "_law_n"] s_l_times A.f_l_times A.d_l_times
 l_int : Fnc K mg "_law_int" ["_law_thing"] s_l_int A.f_l_int A.d_l_int
 l_line : Fnc K mg "_law_line" ["_law_p_here", "_law_members", "_law_made", "_law_line_here"] s_l_line A.f_l_line A.d_l_line
 l_lines : Fnc K mg "_law_lines" ["_law_p_here", "_law_members", "_law_lines_here"] s_l_lines A.f_l_lines A.d_l_lines
 l_is_pattern : Fnc K mg "_law_is_pattern" ["_law_p_here", "_law_thing"] s_l_is_pattern A.f_l_is_pattern A.d_l_is_pattern
 l_is_round : Fnc K mg "_law_is_round" ["_law_p_here", "_law_thing"] s_l_is_round A.f_l_is_round A.d_l_is_round
 l_draw_line : Fnc K mg "_law_draw_line" ["_law_draw", "_law_sizes", "_law_many"] s_l_draw_line A.f_l_draw_line A.d_l_draw_line
 l_size_of : Fnc K mg "_law_size_of" ["_law_sizes", "_law_line_here"] s_l_size_of A.f_l_size_of A.d_l_size_of
 l_bad : Fnc K mg "_law_bad" ["_law_draw", "_law_at", "_law_many"] s_l_bad A.f_l_bad A.d_l_bad
 law : Fnc K mg "law" ["_law_script"] s_law A.f_law A.d_law
 m_BadLine : mg "BadLine" = some (.ref A.c_BadLine)
 m_NoRound : mg "NoRound" = some (.ref A.c_NoRound)
 m_StreetError : mg "StreetError" = some (.ref A.c_StreetError)
 x_BadLine : ExcC K "BadLine" A.c_BadLine
 i_BadLine_NoRound : PySem.W.kitOne K (.ref A.c_BadLine) (.ref A.c_NoRound) = some false
 i_BadLine_StreetError : PySem.W.kitOne K (.ref A.c_BadLine) (.ref A.c_StreetError) = some true
 i_BadLine_ValueError : PySem.W.kitOne K (.ref A.c_BadLine) (.type "ValueError") = some true
theorem sc_tidy : FnScope ["p", "pairs", "turned", "place", "setting"] ["p", "pairs"] (defScope s_tidy) := ⟨rfl, rfl, rfl, by decide +kernel, rfl, by decide +kernel, by decide +kernel⟩
theorem sc_added : FnScope ["p", "one", "other"] ["p", "one", "other"] (defScope s_added) := ⟨rfl, rfl, rfl, by decide +kernel, rfl, by decide +kernel, by decide +kernel⟩
theorem sc_moved : FnScope ["pattern", "by"] ["pattern", "by"] (defScope s_moved) := ⟨rfl, rfl, rfl, by decide +kernel, rfl, by decide +kernel, by decide +kernel⟩
theorem sc_timed : FnScope ["p", "pattern", "n"] ["p", "pattern", "n"] (defScope s_timed) := ⟨rfl, rfl, rfl, by decide +kernel, rfl, by decide +kernel, by decide +kernel⟩
theorem sc_still : FnScope [] [] (defScope s_still) := ⟨rfl, rfl, rfl, by decide +kernel, rfl, by decide +kernel, by decide +kernel⟩
theorem sc_joined : FnScope ["p", "one", "other", "end", "pattern", "more", "behind"] ["p", "one", "other"] (defScope s_joined) := ⟨rfl, rfl, rfl, by decide +kernel, rfl, by decide +kernel, by decide +kernel⟩
theorem sc_backward : FnScope ["p", "one", "end", "pattern"] ["p", "one"] (defScope s_backward) := ⟨rfl, rfl, rfl, by decide +kernel, rfl, by decide +kernel, by decide +kernel⟩
theorem sc_repeated : FnScope ["p", "one", "n", "end", "pattern", "pairs"] ["p", "one", "n"] (defScope s_repeated) := ⟨rfl, rfl, rfl, by decide +kernel, rfl, by decide +kernel, by decide +kernel⟩
theorem sc_picked : FnScope ["things", "at"] ["things", "at"] (defScope s_picked) := ⟨rfl, rfl, rfl, by decide +kernel, rfl, by decide +kernel, by decide +kernel⟩
theorem sc_line_round : FnScope ["p", "members", "ahead", "line", "word"] ["p", "members", "ahead", "line"] (defScope s_line_round) := ⟨rfl, rfl, rfl, by decide +kernel, rfl, by decide +kernel, by decide +kernel⟩
theorem sc_worked : FnScope ["p", "members", "lines", "ahead", "line"] ["p", "members", "lines"] (defScope s_worked) := ⟨rfl, rfl, rfl, by decide +kernel, rfl, by decide +kernel, by decide +kernel⟩
theorem sc_l_begin : FnScope ["_law_script"] ["_law_script"] (defScope s_l_begin) := ⟨rfl, rfl, rfl, by decide +kernel, rfl, by decide +kernel, by decide +kernel⟩
theorem sc_l_take : FnScope ["_law_draw", "_law_many", "_law_number", "_law_got"] ["_law_draw", "_law_many"] (defScope s_l_take) := ⟨rfl, rfl, rfl, by decide +kernel, rfl, by decide +kernel, by decide +kernel⟩
theorem sc_l_p : FnScope ["_law_draw"] ["_law_draw"] (defScope s_l_p) := ⟨rfl, rfl, rfl, by decide +kernel, rfl, by decide +kernel, by decide +kernel⟩
theorem sc_l_tidy : FnScope ["_law_p_here", "_law_pairs", "_law_sums", "_law_place", "_law_setting"] ["_law_p_here", "_law_pairs"] (defScope s_l_tidy) := ⟨rfl, rfl, rfl, by decide +kernel, rfl, by decide +kernel, by decide +kernel⟩
theorem sc_l_pattern : FnScope ["_law_draw", "_law_p_here", "_law_most", "_law_far", "_law_pairs", "_law_k", "_law_place"] ["_law_draw", "_law_p_here", "_law_most", "_law_far"] (defScope s_l_pattern) := ⟨rfl, rfl, rfl, by decide +kernel, rfl, by decide +kernel, by decide +kernel⟩
theorem sc_l_round : FnScope ["_law_draw", "_law_p_here", "_law_end", "_law_most", "_law_far", "_law_goal"] ["_law_draw", "_law_p_here", "_law_end", "_law_most", "_law_far"] (defScope s_l_round) := ⟨rfl, rfl, rfl, by decide +kernel, rfl, by decide +kernel, by decide +kernel⟩
theorem sc_l_sum : FnScope ["_law_p_here", "_law_one", "_law_other", "_law_by", "_law_many"] ["_law_p_here", "_law_one", "_law_other", "_law_by", "_law_many"] (defScope s_l_sum) := ⟨rfl, rfl, rfl, by decide +kernel, rfl, by decide +kernel, by decide +kernel⟩
theorem sc_l_join : FnScope ["_law_p_here", "_law_one", "_law_other"] ["_law_p_here", "_law_one", "_law_other"] (defScope s_l_join) := ⟨rfl, rfl, rfl, by decide +kernel, rfl, by decide +kernel, by decide +kernel⟩
theorem sc_l_back : FnScope ["_law_p_here", "_law_one"] ["_law_p_here", "_law_one"] (defScope s_l_back) := ⟨rfl, rfl, rfl, by decide +kernel, rfl, by decide +kernel, by decide +kernel⟩
theorem sc_l_times : FnScope ["_law_p_here", "_law_one", "_law_n", "_law_base", "_law_pairs", "_law_k"] ["_law_p_here", "_law_one", "_law_n"] (defScope s_l_times) := ⟨rfl, rfl, rfl, by decide +kernel, rfl, by decide +kernel, by decide +kernel⟩
theorem sc_l_int : FnScope ["_law_thing"] ["_law_thing"] (defScope s_l_int) := ⟨rfl, rfl, rfl, by decide +kernel, rfl, by decide +kernel, by decide +kernel⟩
theorem sc_l_line : FnScope ["_law_p_here", "_law_members", "_law_made", "_law_line_here"] ["_law_p_here", "_law_members", "_law_made", "_law_line_here"] (defScope s_l_line) := ⟨rfl, rfl, rfl, by decide +kernel, rfl, by decide +kernel, by decide +kernel⟩
theorem sc_l_lines : FnScope ["_law_p_here", "_law_members", "_law_lines_here", "_law_made", "_law_line_here", "_law_one"] ["_law_p_here", "_law_members", "_law_lines_here"] (defScope s_l_lines) := ⟨rfl, rfl, rfl, by decide +kernel, rfl, by decide +kernel, by decide +kernel⟩
theorem sc_l_is_pattern : FnScope ["_law_p_here", "_law_thing", "_law_k", "_law_pair"] ["_law_p_here", "_law_thing"] (defScope s_l_is_pattern) := ⟨rfl, rfl, rfl, by decide +kernel, rfl, by decide +kernel, by decide +kernel⟩
theorem sc_l_is_round : FnScope ["_law_p_here", "_law_thing"] ["_law_p_here", "_law_thing"] (defScope s_l_is_round) := ⟨rfl, rfl, rfl, by decide +kernel, rfl, by decide +kernel, by decide +kernel⟩
theorem sc_l_draw_line : FnScope ["_law_draw", "_law_sizes", "_law_many", "_law_at", "_law_way", "_law_one", "_law_other", "_law_n"] ["_law_draw", "_law_sizes", "_law_many"] (defScope s_l_draw_line) := ⟨rfl, rfl, rfl, by decide +kernel, rfl, by decide +kernel, by decide +kernel⟩
theorem sc_l_size_of : FnScope ["_law_sizes", "_law_line_here"] ["_law_sizes", "_law_line_here"] (defScope s_l_size_of) := ⟨rfl, rfl, rfl, by decide +kernel, rfl, by decide +kernel, by decide +kernel⟩
theorem sc_l_bad : FnScope ["_law_draw", "_law_at", "_law_many", "_law_word", "_law_beyond", "_law_out", "_law_good", "_law_some"] ["_law_draw", "_law_at", "_law_many"] (defScope s_l_bad) := ⟨rfl, rfl, rfl, by decide +kernel, rfl, by decide +kernel, by decide +kernel⟩
theorem sc_law : FnScope ["_law_script", "_law_draw", "_law_p_here", "_law_members", "_law_lines_here", "_law_sizes", "_law_k", "_law_line_here", "_law_bad_here", "_law_at", "_law_handed", "_law_told", "_law_found", "e"] ["_law_script"] (defScope s_law) := ⟨rfl, rfl, rfl, by decide +kernel, rfl, by decide +kernel, by decide +kernel⟩
section
variable {P : Program} {w : World} {K : PySem.W.Frag} {mg : Str -> Option Value} {base : Heap} {A : Adr}
theorem ok_l_begin (T : Txt K mg A) : FnOk P w K mg base CX0 1 A.f_l_begin A.d_l_begin ["_law_script"] (spBegin K) := by
 refine T.l_begin.fn.ok sc_l_begin (fun vs H Q E h => ?_) (fun cdv A' outer s H vs Q E hr h => ?_)
 · obtain ⟨a, ns, rfl, _⟩ := h
   rfl
 · obtain ⟨a, ns, rfl, hs, k⟩ := h
   have nd := sc_l_begin.nd
   refine ⟨_, (pss_one (ps_ret (pe_lst (@pa_cons _ _ _ _ _ (@pe_callTy _ _ _ _ _ _ _ _ _ call_listW (by rfl) T.b_list Boot.«list» (@pa_cons _ _ _ _ _ (pe_slice sl_list (pv 0) po_none (po_some pe_int)) pa_nil (by rfl)) (by decide) (by decide) (by rfl) (by rfl)) (@pa_cons _ _ _ _ _ pe_int (@pa_cons _ _ _ _ _ pe_int (@pa_cons _ _ _ _ _ pe_int pa_nil (by rfl)) (by rfl)) (by rfl)) (by rfl))))), ?_⟩
   have ec : ∃ ms : List Int, cutV (ns.map V.int) none (some 63) = ms.map V.int := by
     refine ⟨(ns.drop (HT.sIx (ns.map V.int).length 0 none)).take (HT.sIx (ns.map V.int).length (ns.map V.int).length (some 63) - HT.sIx (ns.map V.int).length 0 none), ?_⟩
     unfold cutV
     rw [List.map_take, List.map_drop]
   obtain ⟨ms, em⟩ := ec
   refine ⟨_, rfl, _, rfl, _, _, rfl, hs, fun p hp => ⟨_, _, rfl, .inl (SqL.of upd_same), fun l hl => ⟨by show 4 <= sizeLine; decide, fun d hd => ?_⟩⟩⟩
   have hld : l ≠ d := fun e => by rw [e, upd_same] at hd; cases hd
   refine k d l ms _ hld.symm upd_same ?_
   rw [upd_ne hld, upd_same, em]
theorem ok_l_take (T : Txt K mg A) : FnOk P w K mg base CX0 1 A.f_l_take A.d_l_take ["_law_draw", "_law_many"] (spW K pTake) := by
 refine okS T.l_take.fn sc_l_take (by rintro vs M q ⟨d, l, n, rfl, _⟩; rfl) fun cdv A' outer s H E hr => ?_
 have nd := sc_l_take.nd
 refine ⟨_, (pss_cons (ps_if (pw_and (pt_cmpR op_lt (pe_ix ix_list (pv 0) pe_int (fun _ _ => rfl)) (pv 1) (@nomark _ _ (by decide) (by decide))) (pw_and1 (pt_cmpR op_lt (pe_ix ix_list (pv 0) pe_int (fun _ _ => rfl)) (@pe_callB _ _ _ _ _ _ _ _ _ call_lenW (by rfl) T.b_len Boot.«len» (@pa_cons _ _ _ _ _ (pe_ix ix_list (pv 0) pe_int (fun _ _ => rfl)) pa_nil (by rfl)) (by decide) (by decide) (by rfl) (by rfl)) (@nomark _ _ (by decide) (by decide))))).pt (pss_cons (@ps_set _ _ (2) _ _ _ _ nd rfl (by first | exact Or.inl rfl | exact Or.inr rfl) (pe_ix ix_list (pe_ix ix_list (pv 0) pe_int (fun _ _ => rfl)) (pe_ix ix_list (pv 0) pe_int (fun _ _ => rfl)) (fun _ _ => rfl)) (by rfl) (by first | exact .inl rfl | exact .inr rfl | assumption)) (pss_cons (@ps_asg _ _ _ _ _ _ (pe_op op_add (pe_ix ix_list (pv 0) pe_int (fun _ _ => rfl)) pe_int) (@pg_sub _ _ _ _ _ _ _ (pv 0) pe_int set_list (by intro _; rfl)) (by rfl) (by rfl) (by rfl)) (pss_cons (@ps_asg _ _ _ _ _ _ pe_int (@pg_sub _ _ _ _ _ _ _ (pv 0) pe_int set_list (by intro _; rfl)) (by rfl) (by rfl) (by rfl)) (pss_one (ps_if (pt_cmpR op_ge (@pe_callB _ _ _ _ _ _ _ _ _ call_absW (by rfl) T.b_abs Boot.«abs» (@pa_cons _ _ _ _ _ (pv 2) pa_nil (by rfl)) (by decide) (by decide) (by rfl) (by rfl)) (pe_op op_pow pe_int pe_int) (@nomark _ _ (by decide) (by decide))) (pss_one (@ps_asg _ _ _ _ _ _ (@pe_callB _ _ _ _ _ _ _ _ _ call_absW (by rfl) T.b_abs Boot.«abs» (@pa_cons _ _ _ _ _ (pv 2) pa_nil (by rfl)) (by decide) (by decide) (by rfl) (by rfl)) (@pg_sub _ _ _ _ _ _ _ (pv 0) pe_int set_list (by intro _; rfl)) (by rfl) (by rfl) (by rfl))) (pss_one (@ps_asg _ _ _ _ _ _ (pe_op op_mod (pe_op op_add (pe_op op_add (pe_op op_mul (pe_ix ix_list (pv 0) pe_int (fun _ _ => rfl)) pe_int) (pe_op op_mul (pe_op op_mod (pv 2) pe_int) pe_int)) pe_int) pe_int) (@pg_sub _ _ _ _ _ _ _ (pv 0) pe_int set_list (by intro _; rfl)) (by rfl) (by rfl) (by rfl)))))))) pss_nil) (pss_cons (ps_if (pt_cmpR op_ge (pe_ix ix_list (pv 0) pe_int (fun _ _ => rfl)) (pv 1) (@nomark _ _ (by decide) (by decide))) (pss_cons (@ps_set _ _ (3) _ _ _ _ nd rfl (by first | exact Or.inl rfl | exact Or.inr rfl) (pe_op op_mod (pe_ix ix_list (pv 0) pe_int (fun _ _ => rfl)) (pv 1)) (by rfl) (by first | exact .inl rfl | exact .inr rfl | assumption)) (pss_cons (@ps_asg _ _ _ _ _ _ (pe_op op_fdiv (pe_ix ix_list (pv 0) pe_int (fun _ _ => rfl)) (pv 1)) (@pg_sub _ _ _ _ _ _ _ (pv 0) pe_int set_list (by intro _; rfl)) (by rfl) (by rfl) (by rfl)) (pss_one (ps_ret (pv 3))))) pss_nil) (pss_cons (@ps_asg _ _ _ _ _ _ (pe_op op_mod (pe_op op_add (pe_op op_mul (pe_ix ix_list (pv 0) pe_int (fun _ _ => rfl)) pe_int) pe_int) pe_int) (@pg_sub _ _ _ _ _ _ _ (pv 0) pe_int set_list (by intro _; rfl)) (by rfl) (by rfl) (by rfl)) (pss_one (ps_ret (pe_op op_mod (pe_op op_fdiv (pe_ix ix_list (pv 0) pe_int (fun _ _ => rfl)) pe_int) (pv 1))))))), ?_⟩
 try dsimp only [cxOf]
 refine ⟨_, inferInstance, ?_⟩
 rintro vs M q ⟨d, l, n, rfl, ⟨ns, i, c, sd, hd, hl, hi, hne⟩, n0, n1, k⟩
 refine if_mid (fun ρ M' => ∃ (o1 o2 : Option W) (i' c' s' : Int), ρ = [some (wr d), some (wi n), o1, o2] /\ M' d = some (.lst [wr l, wi i', wi c', wi s']) /\ NB d M M' /\ 0 <= i') ?_ fun N hN => ?_
 · rintro ρ M' ⟨o1, o2, i', c', s', rfl, h, nb, hi'⟩
   have fin : ∀ (r c' s' : Int), 0 <= r -> r < n -> ∃ M0, Sm M0 (um M' d (.lst [wr l, wi i', wi c', wi s'])) /\ q (wi r) M0 := fun r c' s' h0 h1 =>
     exM (k r _ h0 h1 ⟨ns, i', c', s', um_same, by rw [um_ne (Ne.symm hne), nb l (Ne.symm hne)]; exact hl, hi', hne⟩ (nb.trans NB.put))
   have cm3 : ∀ x, CMul x 16807 = True := fun x => by simp [CMul]
   have cd1 : ∀ x, CDiv x n = True := fun x => by simp [CDiv, n0, n1]
   have cd2 : ∀ x, CDiv x 64 = True := fun x => by simp [CDiv]
   have z2 : ((0 : Int) < 2147483647) = True := by decide
   simp? [↓sSeq_e, h, n0, cm3, cd1, cd2, z2]
   exact iteK_d (fun _ => fin _ _ _ (Int.emod_nonneg _ (by lia)) (Int.emod_lt_of_pos _ n0)) fun _ => fin _ _ _ (Int.emod_nonneg _ (by lia)) (Int.emod_lt_of_pos _ n0)
 · have nx : ∀ (o1 o2 : Option W) (i' c' s' : Int), 0 <= i' -> N [some (wr d), some (wi n), o1, o2] (um M d (.lst [wr l, wi i', wi c', wi s'])) := fun _ _ _ _ _ h => hN _ _ ⟨_, _, _, _, _, rfl, um_same, NB.put, h⟩
   have nx0 : ∀ (o1 o2 : Option W), N [some (wr d), some (wi n), o1, o2] M := fun _ _ => hN _ _ ⟨_, _, _, _, _, rfl, hd, NB.refl d M, hi⟩
   have cp : CPow 10 18 = True := by simp [CPow]
   have cm : ∀ x, CMul x 48271 = True := fun x => by simp [CMul]
   have cm2 : ∀ x, CMul x 69621 = True := fun x => by simp [CMul]
   have z1 : ((0 : Int) < 2147483629) = True := by decide
   have z2 : ((0 : Int) < 2147483647) = True := by decide
   by_cases hlt : i < ns.length
   · have hx : atI (ns.map wi) i = some (wi (ns[i.toNat]'(by lia))) := atI_int hi (by rw [List.getElem?_map, List.getElem?_eq_getElem (by lia)]; rfl)
     simp? [↓sSeq_e, hd, hl, hx, List.length_map, cp, cm, cm2, z1, z2]
     exact iteK_d (fun _ => iteK_d (fun _ => iteK_d (fun _ => nx _ _ _ _ _ (by lia)) fun _ => nx _ _ _ _ _ (by lia)) fun _ => nx0 _ _) fun _ => nx0 _ _
   · simp? [↓sSeq_e, hd, hl, hlt, List.length_map, decide_false]
     exact iteK_d (fun _ => nx0 _ _) fun _ => nx0 _ _
theorem ok_l_p (T : Txt K mg A) : FnOk P w K mg base CX0 2 A.f_l_p A.d_l_p ["_law_draw"] (spW K pP) := by
 have G_l_take := ok_l_take (P := P) (w := w) (base := base) T
 refine okS T.l_p.fn sc_l_p (by rintro vs M q ⟨d, l, rfl, _⟩; rfl) fun cdv A' outer s H E hr => ?_
 have nd := sc_l_p.nd
 refine ⟨_, (pss_one (ps_ret (pe_ix ix_tup (pe_tup (@pa_cons _ _ _ _ _ pe_int (@pa_cons _ _ _ _ _ pe_int (@pa_cons _ _ _ _ _ pe_int (@pa_cons _ _ _ _ _ pe_int pa_nil (by rfl)) (by rfl)) (by rfl)) (by rfl))) (@pe_callF _ _ _ _ _ _ _ _ _ _ _ _ _ T.l_take G_l_take (hr.mono (by decide)) (by rfl) (@pa_cons _ _ _ _ _ (pv 0) (@pa_cons _ _ _ _ _ pe_int pa_nil (by rfl)) (by rfl)) (by decide) (by rfl) (by rfl)) (fun _ _ => rfl)))), ?_⟩
 try dsimp only [cxOf]
 refine ⟨_, inferInstance, ?_⟩
 rintro vs M q ⟨d, l, rfl, hD, k⟩
 simp? [↓sSeq_e]
 refine ⟨d, l, 4, rfl, hD, by decide, by decide, fun r M1 r0 r1 D1 b1 => ?_⟩
 have hr4 : r = 0 \/ r = 1 \/ r = 2 \/ r = 3 := by omega
 rcases hr4 with rfl | rfl | rfl | rfl <;> simp? [↓sSeq_e]
 · exact exM (k 2 _ (by decide) D1 b1)
 · exact exM (k 3 _ (by decide) D1 b1)
 · exact exM (k 5 _ (by decide) D1 b1)
 · exact exM (k 7 _ (by decide) D1 b1)
theorem ok_l_int (T : Txt K mg A) : FnOk P w K mg base CX0 1 A.f_l_int A.d_l_int ["_law_thing"] (spW K pInt) := by
 refine okS T.l_int.fn sc_l_int (by rintro vs M q ⟨i, rfl, _⟩; rfl) fun cdv A' outer s H E hr => ?_
 have nd := sc_l_int.nd
 refine ⟨_, (pss_one (ps_ret (pe_and (@pe_callB _ _ _ _ _ _ _ _ _ call_isX (by rfl) T.b_isinstance Boot.«isinstance» (@pa_cons _ _ _ _ _ (pv 0) (@pa_cons _ _ _ _ _ (@pe_bltn _ _ _ _ _ (by rfl) T.b_int Boot.«int» (show RelV (.ty "int") _ from rfl) (by decide) (by decide)) pa_nil (by rfl)) (by rfl)) (by decide) (by decide) (by rfl) (by rfl)) (pe_one (pe_not (@pe_callB _ _ _ _ _ _ _ _ _ call_isX (by rfl) T.b_isinstance Boot.«isinstance» (@pa_cons _ _ _ _ _ (pv 0) (@pa_cons _ _ _ _ _ (@pe_bltn _ _ _ _ _ (by rfl) T.b_bool Boot.«bool» (show RelV (.ty "bool") _ from rfl) (by decide) (by decide)) pa_nil (by rfl)) (by rfl)) (by decide) (by decide) (by rfl) (by rfl))))))), ?_⟩
 try dsimp only [cxOf]
 refine ⟨_, inferInstance, ?_⟩
 rintro vs M q ⟨i, rfl, k⟩
 simp? [↓sSeq_e]
 exact exM k
theorem ok_tidy (T : Txt K mg A) : FnOk P w K mg base CX0 1 A.f_tidy A.d_tidy ["p", "pairs"] (spW K pTidy) := by
 refine okS T.tidy.fn sc_tidy (by rintro vs M q ⟨a, p, ps, rfl, _⟩; rfl) fun cdv A' outer s H E hr => ?_
 have nd := sc_tidy.nd
 refine ⟨_, (pss_cons (@ps_set _ _ (2) _ _ _ _ nd rfl (by first | exact Or.inl rfl | exact Or.inr rfl) pe_dnewK (by rfl) (by first | exact .inl rfl | exact .inr rfl | assumption)) (pss_cons (@ps_for _ _ _ _ _ _ _ _ PassesOwn.never rfl (pi_list (pv 1)) (@pg_tup _ _ _ _ _ (2) rfl (@pgs_cons _ _ _ _ _ (@pg_name _ _ (3) _ nd rfl (by first | exact Or.inl rfl | exact Or.inr rfl) (by first | exact .inl rfl | exact .inr rfl | assumption)) (@pgs_cons _ _ _ _ _ (@pg_name _ _ (4) _ nd rfl (by first | exact Or.inl rfl | exact Or.inr rfl) (by first | exact .inl rfl | exact .inr rfl | assumption)) pgs_nil (by rfl)) (by rfl)) (by rfl) (by rfl)) (pss_one (ps_dput (hu_of hr) (pv 2) (pv 3) (pe_op op_mod (pe_op op_add (pe_dget2 (hu_of hr) (pv 2) (pv 3) pe_int ⟨by rfl, by rfl, by rfl, by rfl⟩) (pv 4)) (pv 0)) rfl)) (by intro _; rfl)) (pss_one (ps_ret (@pe_callTy _ _ _ _ _ _ _ _ _ call_tupleW (by rfl) T.b_tuple Boot.«tuple» (@pa_cons _ _ _ _ _ (@pe_comp _ _ _ _ _ _ _ _ _ _ _ _ _ _ rfl (CScope.of (sc := defScope s_tidy) (N := ["p", "pairs", "turned", "place", "setting"]) (own := ["place"]) (fr := [2]) (N' := ["place", "turned"]) rfl rfl rfl (by decide +kernel) rfl (by decide +kernel) (by decide +kernel) (by decide +kernel) (by decide +kernel) (by decide +kernel)) (pi_list (@pe_callB _ _ _ _ _ _ _ _ _ (call_sortedK rfl) (by rfl) T.b_sorted Boot.«sorted» (@pa_cons _ _ _ _ _ (pv 2) pa_nil (by rfl)) (by decide) (by decide) (by rfl) (by rfl))) (fun _ _ _ _ => (@pg_name _ _ (0) _ (by show (["place", "turned"] : List Str).Nodup ; decide +kernel) rfl (by first | exact Or.inl rfl | exact Or.inr rfl) (by first | exact .inl rfl | exact .inr rfl | assumption))) capg_name (fun _ _ _ _ => (pts_one (pt_cmpR op_ne (pe_dget (hu_of hr) (pv 1) (pv 0) (fun _ _ => rfl)) pe_int (@nomark _ _ (by decide) (by decide))))) (fun _ _ _ _ => (pe_tup (@pa_cons _ _ _ _ _ (pv 0) (@pa_cons _ _ _ _ _ (pe_dget (hu_of hr) (pv 1) (pv 0) (fun _ _ => rfl)) pa_nil (by rfl)) (by rfl)))) (by intro _; rfl)) pa_nil (by rfl)) (by decide) (by decide) (by rfl) (by rfl)))))), ?_⟩
 try dsimp only [cxOf]
 refine ⟨_, inferInstance, ?_⟩
 rintro vs M q ⟨a, p, ps, rfl, ha, p0, h64, hbig, k⟩
 simp? [↓sSeq_e]
 intro d hd
 have nad : a ≠ d := m_ne ha hd
 simp? [↓sSeq_e, um_ne nad, ha]
 refine for_i (fun i ρ M' => ∃ (o1 o2 : Option W) (m : Pt), ρ = [some (wi p), some (wr a), some (wr d), o1, o2] /\ M' = um M d (.dK (kvW m)) /\ (m.map (·.1)).Nodup /\ m.length <= i /\ (∀ x, look m x = tot (ps.take i) x % p) /\ ∀ k ∈ m.map (·.1), ∃ q ∈ ps, q.1 = k)
   ⟨none, none, [], rfl, rfl, List.nodup_nil, Nat.le_refl _, fun x => by simp [look, tot], by simp⟩ ?_ ?_ ?_
 · rintro i ρ M' _ ⟨o1, o2, m, rfl, rfl, _⟩
   rw [um_ne nad]; exact ha
 · rintro i x ρ M' hx ⟨o1, o2, m, rfl, rfl, hn, hl, ht, hin⟩ N hN
   obtain ⟨z, hz, rfl⟩ := pairs_at hx
   have hil := (List.getElem?_eq_some_iff.mp hz).1
   have hs : ((kvW m).length < sizeLine) = True := by rw [kvW, List.length_map]; exact eq_true (bigL (by omega))
   simp? [↓sSeq_e, pairW, getD_kv, p0, hs, putW_kv]
   refine hN _ _ ⟨_, _, _, rfl, rfl, nd_putI hn, Nat.le_trans len_putI (by omega), fun x => ?_, fun k hk => (mem_putI hk).elim (fun e => ⟨z, List.mem_of_getElem? hz, e.symm⟩) (hin k)⟩
   rw [look_putI, List.take_add_one, hz]
   show _ = tot (ps.take i ++ [z]) x % p
   rw [tot_snoc]
   by_cases hx : x = z.1
   · subst hx
     rw [if_pos rfl, if_pos rfl, ht, Int.emod_add_emod]
   · rw [if_neg hx, if_neg (Ne.symm hx), Int.add_zero]; exact ht x
 · rintro ρ M' ⟨o1, o2, m, rfl, rfl, hn, hl, ht, hin⟩
   rw [List.length_map] at hl ht
   rw [List.take_length] at ht
   simp? [↓sSeq_e]
   refine ⟨d, kvW m, m.map (·.1), rfl, um_same, kvW_keys m, (by rw [List.length_map]; exact big (by omega)), fun sp ns hsp hperm hsort => ?_⟩
   have hdsp : d ≠ sp := m_ne um_same hsp
   have hns : ns.length <= 100000 := by rw [hperm.length_eq, List.length_map]; omega
   simp? [↓sSeq_e]
   refine comp_pureK (fun x => match x with | .v (.int n) => if look m n = 0 then none else some (pairW (n, look m n)) | _ => none) (by rw [List.length_map]; exact big hns) (fun M3 s3 => s3 _ _ um_same) ?_ fun t ht0 => ?_
   · intro i x hx M3 N s3 hN
     obtain ⟨n, hn', rfl⟩ := ints_at' hx
     have hdM : M3 d = some (.dK (kvW m)) := s3 _ _ (by rw [um_ne hdsp, um_same])
     have hnk : n ∈ m.map (·.1) := hperm.mem_iff.mp (List.mem_of_getElem? hn')
     simp? [↓sSeq_e, hdM, val_kv hnk]
     refine iteK_n (fun h => ?_) fun h => ?_
     · simp only [h, if_false] at hN
       exact hN
     · simp only [h, if_true] at hN
       exact hN
   · simp? [↓sSeq_e]
     refine ⟨M, ((Sm.um (Sm.refl M) hd).trans (sm_um hsp)).trans (sm_um ht0), ?_⟩
     · have e : (ns.map wi).filterMap (fun x => match x with | .v (.int n) => if look m n = 0 then none else some (pairW (n, look m n)) | _ => none) = (nrm p ps).map pairW := by
         rw [<- sel_nrm p0 hn ht hperm hsort, List.filterMap_map]
         unfold sel
         rw [List.map_filterMap]
         congr 1
         funext n
         simp only [Function.comp]
         split <;> rfl
       rw [e]
       exact k
theorem ok_l_tidy (T : Txt K mg A) : FnOk P w K mg base CX0 1 A.f_l_tidy A.d_l_tidy ["_law_p_here", "_law_pairs"] (spW K pTidy) := by
 refine okS T.l_tidy.fn sc_l_tidy (by rintro vs M q ⟨a, p, ps, rfl, _⟩; rfl) fun cdv A' outer s H E hr => ?_
 have nd := sc_l_tidy.nd
 refine ⟨_, (pss_cons (@ps_set _ _ (2) _ _ _ _ nd rfl (by first | exact Or.inl rfl | exact Or.inr rfl) pe_dnewK (by rfl) (by first | exact .inl rfl | exact .inr rfl | assumption)) (pss_cons (@ps_for _ _ _ _ _ _ _ _ PassesOwn.never rfl (pi_list (pv 1)) (@pg_tup _ _ _ _ _ (2) rfl (@pgs_cons _ _ _ _ _ (@pg_name _ _ (3) _ nd rfl (by first | exact Or.inl rfl | exact Or.inr rfl) (by first | exact .inl rfl | exact .inr rfl | assumption)) (@pgs_cons _ _ _ _ _ (@pg_name _ _ (4) _ nd rfl (by first | exact Or.inl rfl | exact Or.inr rfl) (by first | exact .inl rfl | exact .inr rfl | assumption)) pgs_nil (by rfl)) (by rfl)) (by rfl) (by rfl)) (pss_one (ps_dput (hu_of hr) (pv 2) (pv 3) (pe_op op_mod (pe_op op_add (pe_dget2 (hu_of hr) (pv 2) (pv 3) pe_int ⟨by rfl, by rfl, by rfl, by rfl⟩) (pv 4)) (pv 0)) rfl)) (by intro _; rfl)) (pss_one (ps_ret (@pe_callTy _ _ _ _ _ _ _ _ _ call_tupleW (by rfl) T.b_tuple Boot.«tuple» (@pa_cons _ _ _ _ _ (@pe_comp _ _ _ _ _ _ _ _ _ _ _ _ _ _ rfl (CScope.of (sc := defScope s_l_tidy) (N := ["_law_p_here", "_law_pairs", "_law_sums", "_law_place", "_law_setting"]) (own := ["_law_place"]) (fr := [2]) (N' := ["_law_place", "_law_sums"]) rfl rfl rfl (by decide +kernel) rfl (by decide +kernel) (by decide +kernel) (by decide +kernel) (by decide +kernel) (by decide +kernel)) (pi_list (@pe_callB _ _ _ _ _ _ _ _ _ (call_sortedK rfl) (by rfl) T.b_sorted Boot.«sorted» (@pa_cons _ _ _ _ _ (pv 2) pa_nil (by rfl)) (by decide) (by decide) (by rfl) (by rfl))) (fun _ _ _ _ => (@pg_name _ _ (0) _ (by show (["_law_place", "_law_sums"] : List Str).Nodup ; decide +kernel) rfl (by first | exact Or.inl rfl | exact Or.inr rfl) (by first | exact .inl rfl | exact .inr rfl | assumption))) capg_name (fun _ _ _ _ => (pts_one (pt_cmpR op_gt (pe_dget (hu_of hr) (pv 1) (pv 0) (fun _ _ => rfl)) pe_int (@nomark _ _ (by decide) (by decide))))) (fun _ _ _ _ => (pe_tup (@pa_cons _ _ _ _ _ (pv 0) (@pa_cons _ _ _ _ _ (pe_dget (hu_of hr) (pv 1) (pv 0) (fun _ _ => rfl)) pa_nil (by rfl)) (by rfl)))) (by intro _; rfl)) pa_nil (by rfl)) (by decide) (by decide) (by rfl) (by rfl)))))), ?_⟩
 try dsimp only [cxOf]
 refine ⟨_, inferInstance, ?_⟩
 rintro vs M q ⟨a, p, ps, rfl, ha, p0, h64, hbig, k⟩
 simp? [↓sSeq_e]
 intro d hd
 have nad : a ≠ d := m_ne ha hd
 simp? [↓sSeq_e, um_ne nad, ha]
 refine for_i (fun i ρ M' => ∃ (o1 o2 : Option W) (m : Pt), ρ = [some (wi p), some (wr a), some (wr d), o1, o2] /\ M' = um M d (.dK (kvW m)) /\ (m.map (·.1)).Nodup /\ m.length <= i /\ (∀ x, look m x = tot (ps.take i) x % p) /\ ∀ k ∈ m.map (·.1), ∃ q ∈ ps, q.1 = k)
   ⟨none, none, [], rfl, rfl, List.nodup_nil, Nat.le_refl _, fun x => by simp [look, tot], by simp⟩ ?_ ?_ ?_
 · rintro i ρ M' _ ⟨o1, o2, m, rfl, rfl, _⟩
   rw [um_ne nad]; exact ha
 · rintro i x ρ M' hx ⟨o1, o2, m, rfl, rfl, hn, hl, ht, hin⟩ N hN
   obtain ⟨z, hz, rfl⟩ := pairs_at hx
   have hil := (List.getElem?_eq_some_iff.mp hz).1
   have hs : ((kvW m).length < sizeLine) = True := by rw [kvW, List.length_map]; exact eq_true (bigL (by omega))
   simp? [↓sSeq_e, pairW, getD_kv, p0, hs, putW_kv]
   refine hN _ _ ⟨_, _, _, rfl, rfl, nd_putI hn, Nat.le_trans len_putI (by omega), fun x => ?_, fun k hk => (mem_putI hk).elim (fun e => ⟨z, List.mem_of_getElem? hz, e.symm⟩) (hin k)⟩
   rw [look_putI, List.take_add_one, hz]
   show _ = tot (ps.take i ++ [z]) x % p
   rw [tot_snoc]
   by_cases hx : x = z.1
   · subst hx
     rw [if_pos rfl, if_pos rfl, ht, Int.emod_add_emod]
   · rw [if_neg hx, if_neg (Ne.symm hx), Int.add_zero]; exact ht x
 · rintro ρ M' ⟨o1, o2, m, rfl, rfl, hn, hl, ht, hin⟩
   rw [List.length_map] at hl ht
   rw [List.take_length] at ht
   simp? [↓sSeq_e]
   refine ⟨d, kvW m, m.map (·.1), rfl, um_same, kvW_keys m, (by rw [List.length_map]; exact big (by omega)), fun sp ns hsp hperm hsort => ?_⟩
   have hdsp : d ≠ sp := m_ne um_same hsp
   have hns : ns.length <= 100000 := by rw [hperm.length_eq, List.length_map]; omega
   simp? [↓sSeq_e]
   refine comp_pureK (fun x => match x with | .v (.int n) => if look m n = 0 then none else some (pairW (n, look m n)) | _ => none) (by rw [List.length_map]; exact big hns) (fun M3 s3 => s3 _ _ um_same) ?_ fun t ht0 => ?_
   · intro i x hx M3 N s3 hN
     obtain ⟨n, hn', rfl⟩ := ints_at' hx
     have hdM : M3 d = some (.dK (kvW m)) := s3 _ _ (by rw [um_ne hdsp, um_same])
     have hnk : n ∈ m.map (·.1) := hperm.mem_iff.mp (List.mem_of_getElem? hn')
     simp? [↓sSeq_e, hdM, val_kv hnk]
     have hge : 0 <= look m n := by rw [ht]; exact Int.emod_nonneg _ (by omega)
     refine iteK_d (fun h => ?_) fun h => ?_
     · have h' : ¬ look m n = 0 := by omega
       simp only [h', if_false] at hN
       exact hN
     · have h' : look m n = 0 := by omega
       simp only [h', if_true] at hN
       exact hN
   · simp? [↓sSeq_e]
     refine ⟨M, ((Sm.um (Sm.refl M) hd).trans (sm_um hsp)).trans (sm_um ht0), ?_⟩
     · have e : (ns.map wi).filterMap (fun x => match x with | .v (.int n) => if look m n = 0 then none else some (pairW (n, look m n)) | _ => none) = (nrm p ps).map pairW := by
         rw [<- sel_nrm p0 hn ht hperm hsort, List.filterMap_map]
         unfold sel
         rw [List.map_filterMap]
         congr 1
         funext n
         simp only [Function.comp]
         split <;> rfl
       rw [e]
       exact k
theorem ok_l_pattern (T : Txt K mg A) : FnOk P w K mg base CX0 2 A.f_l_pattern A.d_l_pattern ["_law_draw", "_law_p_here", "_law_most", "_law_far"] (spW K pPattern) := by
 have G_l_take := ok_l_take (P := P) (w := w) (base := base) T
 have G_l_tidy := ok_l_tidy (P := P) (w := w) (base := base) T
 refine okS T.l_pattern.fn sc_l_pattern (by rintro vs M q ⟨d, l, p, most, far, rfl, _⟩; rfl) fun cdv A' outer s H E hr => ?_
 have nd := sc_l_pattern.nd
 refine ⟨_, (pss_cons (@ps_set _ _ (4) _ _ _ _ nd rfl (by first | exact Or.inl rfl | exact Or.inr rfl) (pe_lst pa_nil) (by rfl) (by first | exact .inl rfl | exact .inr rfl | assumption)) (pss_cons (@ps_for _ _ _ _ _ _ _ _ PassesOwn.never rfl (@pi_range1 _ _ _ _ _ _ (by rfl) T.b_range (@pa_cons _ _ _ _ _ (@pe_callF _ _ _ _ _ _ _ _ _ _ _ _ _ T.l_take G_l_take (hr.mono (by decide)) (by rfl) (@pa_cons _ _ _ _ _ (pv 0) (@pa_cons _ _ _ _ _ (pe_op op_add (pv 2) pe_int) pa_nil (by rfl)) (by rfl)) (by decide) (by rfl) (by rfl)) pa_nil (by rfl)) (by rfl)) (@pg_name _ _ (5) _ nd rfl (by first | exact Or.inl rfl | exact Or.inr rfl) (by first | exact .inl rfl | exact .inr rfl | assumption)) (pss_cons (@ps_set _ _ (6) _ _ _ _ nd rfl (by first | exact Or.inl rfl | exact Or.inr rfl) (pe_op op_sub (@pe_callF _ _ _ _ _ _ _ _ _ _ _ _ _ T.l_take G_l_take (hr.mono (by decide)) (by rfl) (@pa_cons _ _ _ _ _ (pv 0) (@pa_cons _ _ _ _ _ (pe_op op_add (pe_op op_mul pe_int (pv 3)) pe_int) pa_nil (by rfl)) (by rfl)) (by decide) (by rfl) (by rfl)) (pv 3)) (by rfl) (by first | exact .inl rfl | exact .inr rfl | assumption)) (pss_one (@ps_expr _ _ _ _ (@pe_bm _ _ _ _ _ _ _ _ _ _ _ _ PySem.F.plainAttrs_list PySem.F.slot_list_append PySem.F.type_list_append mt_append (pv 4) (@pa_cons _ _ _ _ _ (pe_tup (@pa_cons _ _ _ _ _ (pv 6) (@pa_cons _ _ _ _ _ (pe_op op_add pe_int (@pe_callF _ _ _ _ _ _ _ _ _ _ _ _ _ T.l_take G_l_take (hr.mono (by decide)) (by rfl) (@pa_cons _ _ _ _ _ (pv 0) (@pa_cons _ _ _ _ _ (pe_op op_sub (pv 1) pe_int) pa_nil (by rfl)) (by rfl)) (by decide) (by rfl) (by rfl))) pa_nil (by rfl)) (by rfl))) pa_nil (by rfl)) (by rfl) (by rfl) (by rfl) (by rfl) (by rfl)) (by rfl)))) (by intro _; rfl)) (pss_one (ps_ret (@pe_callF _ _ _ _ _ _ _ _ _ _ _ _ _ T.l_tidy G_l_tidy (hr.mono (by decide)) (by rfl) (@pa_cons _ _ _ _ _ (pv 1) (@pa_cons _ _ _ _ _ (pv 4) pa_nil (by rfl)) (by rfl)) (by decide) (by rfl) (by rfl)))))), ?_⟩
 try dsimp only [cxOf]
 refine ⟨_, inferInstance, ?_⟩
 rintro vs M q ⟨d, l, p, most, far, rfl, hD, p2, p3, m0, m1, f0, f1, k⟩
 simp? [↓sSeq_h]
 intro a ha
 obtain ⟨nad, nal⟩ := hD.ne ha
 refine hold_i ?_
 simp? [↓sSeq_h]
 refine ⟨d, l, most + 1, rfl, hD.put ha, by omega, by omega, fun n M1 n0 n1 D1 b1 => ?_⟩
 have ha1 : M1 a = some (.lst []) := by rw [b1 a nad, um_same]
 simp? [↓sSeq_h]
 refine ⟨⟨by omega, by omega⟩, for_i (fun i ρ M' => ∃ (o1 o2 : Option W) (ps : Pt), ρ = [some (wr d), some (wi p), some (wi most), some (wi far), some (wr a), o1, o2] /\ Dr M' d l /\ M' a = some (.lst (ps.map pairW)) /\ ps.length = i /\ (∀ z ∈ ps, -far <= z.1 /\ z.1 <= far /\ 0 < z.2 /\ z.2 < p) /\ (∀ b, b ≠ d -> b ≠ a -> M' b = M b))
   ⟨none, none, [], rfl, D1, ha1, rfl, by simp, fun b h1 h2 => by rw [b1 b h1, um_ne h2]⟩ (fun _ _ _ _ _ => trivial) ?_ ?_⟩
 · rintro i x ρ M' hx ⟨o1, o2, ps, rfl, D2, ha2, hl, hz, hb⟩ N hN
   obtain ⟨hi, rfl⟩ := range_at hx
   have cm : ∀ x, CMul 2 x = True := fun x => by simp [CMul]
   simp? [↓sSeq_h, cm]
   refine ⟨d, l, 2 * far + 1, rfl, D2, by omega, by omega, fun r M3 r0 r1 D3 b3 => ?_⟩
   simp? [↓sSeq_h]
   refine hold_i ?_
   have ha3 : M3 a = some (.lst (ps.map pairW)) := by rw [b3 a nad]; exact ha2
   simp? [↓sSeq_h, ha3]
   refine ⟨d, l, p - 1, rfl, D3, by omega, by omega, fun s' M4 s0 s1 D4 b4 => ?_⟩
   have ha4 : M4 a = some (.lst (ps.map pairW)) := by rw [b4 a nad]; exact ha3
   have hs : ((ps.map pairW).length < sizeLine) = True := by rw [List.length_map]; exact eq_true (bigL (by omega))
   simp? [↓sSeq_h, ha4, hs]
   refine hN _ _ ⟨_, _, ps ++ [(r - far, 1 + s')], rfl, D4.put' nad nal, ?_, by simp [hl], fun z hz' => ?_, fun b h1 h2 => ?_⟩
   · rw [um_same, List.map_append]; rfl
   · rcases List.mem_append.mp hz' with hz' | hz'
     · exact hz z hz'
     · rw [List.mem_singleton.mp hz']; exact ⟨by show -far <= r - far; omega, by show r - far <= far; omega, by show 0 < 1 + s'; omega, by show 1 + s' < p; omega⟩
   · rw [um_ne h2, b4 b h1, b3 b h1, hb b h1 h2]
 · rintro ρ M' ⟨o1, o2, ps, rfl, D2, ha2, hl, hz, hb⟩
   rw [range_len] at hl
   dsimp only
   refine hold_i ?_
   simp? [↓sSeq_h]
   refine ⟨a, p, ps, rfl, ha2, by omega, few_len (by omega), by omega, ?_⟩
   refine ⟨fun b => if b = a then none else M' b, fun b o e => ?_, k ps _ (by omega) hz ?_ ?_⟩
   · dsimp only at e
     split at e
     · cases e
     · exact e
   · obtain ⟨ns, i, c, s', h1, h2, h3, h4⟩ := D2
     exact ⟨ns, i, c, s', by dsimp only; rw [if_neg (Ne.symm nad)]; exact h1, by dsimp only; rw [if_neg (Ne.symm nal)]; exact h2, h3, h4⟩
   · intro b hb'
     dsimp only
     split
     · rename_i e; rw [e]; exact ha.symm
     · rename_i e; exact hb b hb' e
theorem ok_moved (T : Txt K mg A) : FnOk P w K mg base CX0 1 A.f_moved A.d_moved ["pattern", "by"] (spW K pMoved) := by
 refine okS T.moved.fn sc_moved (by rintro vs M q ⟨pat, b, rfl, _⟩; rfl) fun cdv A' outer s H E hr => ?_
 have nd := sc_moved.nd
 refine ⟨_, (pss_one (ps_ret (@pe_callTy _ _ _ _ _ _ _ _ _ call_tupleW (by rfl) T.b_tuple Boot.«tuple» (@pa_cons _ _ _ _ _ (@pe_comp _ _ _ _ _ _ _ _ _ _ _ _ _ _ rfl (CScope.of (sc := defScope s_moved) (N := ["pattern", "by"]) (own := ["place", "setting"]) (fr := [1]) (N' := ["place", "setting", "by"]) rfl rfl rfl (by decide +kernel) rfl (by decide +kernel) (by decide +kernel) (by decide +kernel) (by decide +kernel) (by decide +kernel)) (pi_tup (pv 0)) (fun _ _ _ _ => (@pg_tup _ _ _ _ _ (2) rfl (@pgs_cons _ _ _ _ _ (@pg_name _ _ (0) _ (by show (["place", "setting", "by"] : List Str).Nodup ; decide +kernel) rfl (by first | exact Or.inl rfl | exact Or.inr rfl) (by first | exact .inl rfl | exact .inr rfl | assumption)) (@pgs_cons _ _ _ _ _ (@pg_name _ _ (1) _ (by show (["place", "setting", "by"] : List Str).Nodup ; decide +kernel) rfl (by first | exact Or.inl rfl | exact Or.inr rfl) (by first | exact .inl rfl | exact .inr rfl | assumption)) pgs_nil (by rfl)) (by rfl)) (by rfl) (by rfl))) capg_two (fun _ _ _ _ => pts_nil) (fun _ _ _ _ => (pe_tup (@pa_cons _ _ _ _ _ (pe_op op_add (pv 0) (pv 2)) (@pa_cons _ _ _ _ _ (pv 1) pa_nil (by rfl)) (by rfl)))) (by intro _; rfl)) pa_nil (by rfl)) (by decide) (by decide) (by rfl) (by rfl)))), ?_⟩
 try dsimp only [cxOf]
 refine ⟨_, inferInstance, ?_⟩
 rintro vs M q ⟨pat, b, rfl, hl, k⟩
 simp? [↓sSeq_e, patW]
 refine comp_pureK (fun x => match x with | .tup [.v (.int x), s] => some (.tup [wi (x + b), s]) | _ => none) (by rw [List.length_map]; exact big hl) (fun _ _ => trivial) ?_ fun t ht => ?_
 · intro i x hx M3 N s3 hN
   obtain ⟨z, hz, rfl⟩ := pairs_at hx
   simp? [↓sSeq_e, pairW]
   exact hN
 · simp? [↓sSeq_e]
   refine ⟨M, sm_um ht, ?_⟩
   have e : (pat.map pairW).filterMap (fun x => match x with | .tup [.v (.int x), s] => some (.tup [wi (x + b), s]) | _ => none) = (mv b pat).map pairW := by
     rw [List.filterMap_map, mv, List.map_map]
     exact List.filterMap_eq_map.symm ▸ rfl
   rw [e]; exact k
theorem ok_l_is_pattern (T : Txt K mg A) : FnOk P w K mg base CX0 2 A.f_l_is_pattern A.d_l_is_pattern ["_law_p_here", "_law_thing"] (spW K pIsPat) := by
 have G_l_int := ok_l_int (P := P) (w := w) (base := base) T
 refine okS T.l_is_pattern.fn sc_l_is_pattern (by rintro vs M q ⟨p, pat, rfl, _⟩; rfl) fun cdv A' outer s H E hr => ?_
 have nd := sc_l_is_pattern.nd
 refine ⟨_, (pss_cons (ps_if (pt_not (@pt_val _ _ _ (@pe_callB _ _ _ _ _ _ _ _ _ call_isX (by rfl) T.b_isinstance Boot.«isinstance» (@pa_cons _ _ _ _ _ (pv 1) (@pa_cons _ _ _ _ _ (@pe_bltn _ _ _ _ _ (by rfl) T.b_tuple Boot.«tuple» (show RelV (.ty "tuple") _ from rfl) (by decide) (by decide)) pa_nil (by rfl)) (by rfl)) (by decide) (by decide) (by rfl) (by rfl)) (by intro _; rfl))) (pss_one (ps_ret pe_bl)) pss_nil) (pss_cons (@ps_for _ _ _ _ _ _ _ _ PassesOwn.never rfl (@pi_range1 _ _ _ _ _ _ (by rfl) T.b_range (@pa_cons _ _ _ _ _ (@pe_callB _ _ _ _ _ _ _ _ _ call_lenW (by rfl) T.b_len Boot.«len» (@pa_cons _ _ _ _ _ (pv 1) pa_nil (by rfl)) (by decide) (by decide) (by rfl) (by rfl)) pa_nil (by rfl)) (by rfl)) (@pg_name _ _ (2) _ nd rfl (by first | exact Or.inl rfl | exact Or.inr rfl) (by first | exact .inl rfl | exact .inr rfl | assumption)) (pss_cons (@ps_set _ _ (3) _ _ _ _ nd rfl (by first | exact Or.inl rfl | exact Or.inr rfl) (pe_ix ix_tup (pv 1) (pv 2) (fun _ _ => rfl)) (by rfl) (by first | exact .inl rfl | exact .inr rfl | assumption)) (pss_cons (ps_if (pw_or (pt_not (@pt_val _ _ _ (@pe_callB _ _ _ _ _ _ _ _ _ call_isX (by rfl) T.b_isinstance Boot.«isinstance» (@pa_cons _ _ _ _ _ (pv 3) (@pa_cons _ _ _ _ _ (@pe_bltn _ _ _ _ _ (by rfl) T.b_tuple Boot.«tuple» (show RelV (.ty "tuple") _ from rfl) (by decide) (by decide)) pa_nil (by rfl)) (by rfl)) (by decide) (by decide) (by rfl) (by rfl)) (by intro _; rfl))) (pw_or1 (pt_cmpR op_ne (@pe_callB _ _ _ _ _ _ _ _ _ call_lenW (by rfl) T.b_len Boot.«len» (@pa_cons _ _ _ _ _ (pv 3) pa_nil (by rfl)) (by decide) (by decide) (by rfl) (by rfl)) pe_int (@nomark _ _ (by decide) (by decide))))).pt (pss_one (ps_ret pe_bl)) pss_nil) (pss_cons (ps_if (pw_or (pt_not (@pt_val _ _ _ (@pe_callF _ _ _ _ _ _ _ _ _ _ _ _ _ T.l_int G_l_int (hr.mono (by decide)) (by rfl) (@pa_cons _ _ _ _ _ (pe_ix ix_tup (pv 3) pe_int (fun _ _ => rfl)) pa_nil (by rfl)) (by decide) (by rfl) (by rfl)) (by intro _; rfl))) (pw_or (pt_not (@pt_val _ _ _ (@pe_callF _ _ _ _ _ _ _ _ _ _ _ _ _ T.l_int G_l_int (hr.mono (by decide)) (by rfl) (@pa_cons _ _ _ _ _ (pe_ix ix_tup (pv 3) pe_int (fun _ _ => rfl)) pa_nil (by rfl)) (by decide) (by rfl) (by rfl)) (by intro _; rfl))) (pw_or1 (pt_not (@pt_chain _ _ _ _ _ _ _ _ _ _ _ _ op_lt op_lt pe_int (pe_ix ix_tup (pv 3) pe_int (fun _ _ => rfl)) (pv 0) (by with_unfolding_all rfl)))))).pt (pss_one (ps_ret pe_bl)) pss_nil) (pss_one (ps_if (pw_and (pt_cmpR op_gt (pv 2) pe_int (@nomark _ _ (by decide) (by decide))) (pw_and1 (pt_cmpR op_ge (pe_ix ix_tup (pe_ix ix_tup (pv 1) (pe_op op_sub (pv 2) pe_int) (fun _ _ => rfl)) pe_int (fun _ _ => rfl)) (pe_ix ix_tup (pv 3) pe_int (fun _ _ => rfl)) (@nomark _ _ (by decide) (by decide))))).pt (pss_one (ps_ret pe_bl)) pss_nil))))) (by intro _; rfl)) (pss_one (ps_ret pe_bl)))), ?_⟩
 try dsimp only [cxOf]
 refine ⟨_, inferInstance, ?_⟩
 rintro vs M q ⟨p, pat, rfl, ⟨h1, h2⟩, hl, k⟩
 have hl' : (pat.map pairW).length = pat.length := List.length_map _
 simp? [↓sSeq_e, patW, hl']
 refine ⟨⟨by omega, by omega⟩, for_i (fun i ρ M' => ∃ o1 o2 : Option W, ρ = [some (wi p), some (patW pat), o1, o2] /\ M' = M) ⟨none, none, rfl, rfl⟩ (fun _ _ _ _ _ => trivial) ?_ ?_⟩
 · rintro i x ρ M' hx ⟨o1, o2, rfl, rfl⟩ N hN
   obtain ⟨hi, rfl⟩ := range_at hx
   have hi' : i < pat.length := by omega
   have ha : atI (pat.map pairW) (0 + (i : Int)) = some (pairW pat[i]) := by
     rw [Int.zero_add]; exact atI_nat (by rw [List.getElem?_map, List.getElem?_eq_getElem hi']; rfl)
   have hz := h1 pat[i] (List.getElem_mem hi')
   simp? [↓sSeq_e, patW, ha, pairW]
   refine ⟨_, rfl, ?_⟩
   simp? [↓sSeq_e]
   refine ⟨_, rfl, ?_⟩
   simp? [↓sSeq_e, hz.1, hz.2, decide_true]
   refine iteK_d (fun h => ?_) fun h => hN _ _ ⟨_, _, rfl, rfl⟩
   have hi1 : i - 1 < pat.length := by omega
   have ha' : atI (pat.map pairW) (0 + (i : Int) - 1) = some (pairW pat[i - 1]) := by
     have : (0 + (i : Int) - 1) = ((i - 1 : Nat) : Int) := by omega
     rw [this]; exact atI_nat (by rw [List.getElem?_map, List.getElem?_eq_getElem hi1]; rfl)
   have hlt := List.pairwise_iff_getElem.mp h2 (i - 1) i hi1 hi' (by omega)
   simp? [↓sSeq_e, ha', pairW]
   exact iteK_d (fun h => by omega) fun _ => hN _ _ ⟨_, _, rfl, rfl⟩
 · rintro ρ M' ⟨o1, o2, rfl, rfl⟩
   simp? [↓sSeq_e]
   exact exM k
theorem ok_added (T : Txt K mg A) : FnOk P w K mg base CX0 2 A.f_added A.d_added ["p", "one", "other"] (spW K pAdded) := by
 have G_tidy := ok_tidy (P := P) (w := w) (base := base) T
 refine okS T.added.fn sc_added (by rintro vs M q ⟨p, a, b, rfl, _⟩; rfl) fun cdv A' outer s H E hr => ?_
 have nd := sc_added.nd
 refine ⟨_, (pss_one (ps_ret (@pe_callF _ _ _ _ _ _ _ _ _ _ _ _ _ T.tidy G_tidy (hr.mono (by decide)) (by rfl) (@pa_cons _ _ _ _ _ (pv 0) (@pa_cons _ _ _ _ _ (pe_op op_cat (@pe_callTy _ _ _ _ _ _ _ _ _ call_listW (by rfl) T.b_list Boot.«list» (@pa_cons _ _ _ _ _ (pv 1) pa_nil (by rfl)) (by decide) (by decide) (by rfl) (by rfl)) (@pe_callTy _ _ _ _ _ _ _ _ _ call_listW (by rfl) T.b_list Boot.«list» (@pa_cons _ _ _ _ _ (pv 2) pa_nil (by rfl)) (by decide) (by decide) (by rfl) (by rfl))) pa_nil (by rfl)) (by rfl)) (by decide) (by rfl) (by rfl)))), ?_⟩
 try dsimp only [cxOf]
 refine ⟨_, inferInstance, ?_⟩
 rintro vs M q ⟨p, a, b, rfl, p0, hf, ha, hb, k⟩
 simp? [↓sSeq_e, patW]
 intro u hu
 simp? [↓sSeq_e]
 intro v hv
 have huv : u ≠ v := m_ne um_same hv
 have hs : ((a.map pairW).length + (b.map pairW).length <= sizeLine) = True := eq_true (big (by rw [List.length_map, List.length_map]; omega))
 simp? [↓sSeq_e, um_ne huv, hs]
 intro c hc
 simp? [↓sSeq_e]
 refine ⟨c, p, a ++ b, rfl, by rw [um_same, List.map_append], p0, hf, by rw [List.length_append]; omega, ?_⟩
 exact ⟨M, ((sm_um hu).trans (sm_um hv)).trans (sm_um hc), k⟩
theorem ok_timed (T : Txt K mg A) : FnOk P w K mg base CX0 2 A.f_timed A.d_timed ["p", "pattern", "n"] (spW K pTimed) := by
 have G_tidy := ok_tidy (P := P) (w := w) (base := base) T
 refine okS T.timed.fn sc_timed (by rintro vs M q ⟨p, a, n, rfl, _⟩; rfl) fun cdv A' outer s H E hr => ?_
 have nd := sc_timed.nd
 refine ⟨_, (pss_one (ps_ret (@pe_callF _ _ _ _ _ _ _ _ _ _ _ _ _ T.tidy G_tidy (hr.mono (by decide)) (by rfl) (@pa_cons _ _ _ _ _ (pv 0) (@pa_cons _ _ _ _ _ (@pe_comp _ _ _ _ _ _ _ _ _ _ _ _ _ _ rfl (CScope.of (sc := defScope s_timed) (N := ["p", "pattern", "n"]) (own := ["place", "setting"]) (fr := [2]) (N' := ["place", "setting", "n"]) rfl rfl rfl (by decide +kernel) rfl (by decide +kernel) (by decide +kernel) (by decide +kernel) (by decide +kernel) (by decide +kernel)) (pi_tup (pv 1)) (fun _ _ _ _ => (@pg_tup _ _ _ _ _ (2) rfl (@pgs_cons _ _ _ _ _ (@pg_name _ _ (0) _ (by show (["place", "setting", "n"] : List Str).Nodup ; decide +kernel) rfl (by first | exact Or.inl rfl | exact Or.inr rfl) (by first | exact .inl rfl | exact .inr rfl | assumption)) (@pgs_cons _ _ _ _ _ (@pg_name _ _ (1) _ (by show (["place", "setting", "n"] : List Str).Nodup ; decide +kernel) rfl (by first | exact Or.inl rfl | exact Or.inr rfl) (by first | exact .inl rfl | exact .inr rfl | assumption)) pgs_nil (by rfl)) (by rfl)) (by rfl) (by rfl))) capg_two (fun _ _ _ _ => pts_nil) (fun _ _ _ _ => (pe_tup (@pa_cons _ _ _ _ _ (pv 0) (@pa_cons _ _ _ _ _ (pe_op op_mul (pv 1) (pv 2)) pa_nil (by rfl)) (by rfl)))) (by intro _; rfl)) pa_nil (by rfl)) (by rfl)) (by decide) (by rfl) (by rfl)))), ?_⟩
 try dsimp only [cxOf]
 refine ⟨_, inferInstance, ?_⟩
 rintro vs M q ⟨p, a, n, rfl, p0, hf, ha, hz, k⟩
 simp? [↓sSeq_e, patW]
 refine comp_pureK (fun x => match x with | .tup [x, .v (.int s)] => some (.tup [x, wi (s * n)]) | _ => none) (by rw [List.length_map]; exact big (by omega)) (fun _ _ => trivial) ?_ fun t ht => ?_
 · intro i x hx M3 N s3 hN
   obtain ⟨z, hz', rfl⟩ := pairs_at hx
   have := hz z (List.mem_of_getElem? hz')
   have cm : CMul z.2 n = True := eq_true (.inl ⟨by omega, by omega⟩)
   simp? [↓sSeq_e, pairW, cm]
   exact hN
 · have e : (a.map pairW).filterMap (fun x => match x with | .tup [x, .v (.int s)] => some (.tup [x, wi (s * n)]) | _ => none) = (tm n a).map pairW := by
     rw [List.filterMap_map, tm, List.map_map]
     exact List.filterMap_eq_map.symm ▸ rfl
   rw [e]
   simp? [↓sSeq_e]
   refine ⟨t, p, tm n a, rfl, um_same, p0, hf, by rw [tm, List.length_map]; omega, M, sm_um ht, k⟩
theorem ok_l_sum (T : Txt K mg A) : FnOk P w K mg base CX0 2 A.f_l_sum A.d_l_sum ["_law_p_here", "_law_one", "_law_other", "_law_by", "_law_many"] (spW K pSum) := by
 have G_l_tidy := ok_l_tidy (P := P) (w := w) (base := base) T
 refine okS T.l_sum.fn sc_l_sum (by rintro vs M q ⟨p, a, b, y, n, rfl, _⟩; rfl) fun cdv A' outer s H E hr => ?_
 have nd := sc_l_sum.nd
 refine ⟨_, (pss_one (ps_ret (@pe_callF _ _ _ _ _ _ _ _ _ _ _ _ _ T.l_tidy G_l_tidy (hr.mono (by decide)) (by rfl) (@pa_cons _ _ _ _ _ (pv 0) (@pa_cons _ _ _ _ _ (pe_op op_cat (@pe_callTy _ _ _ _ _ _ _ _ _ call_listW (by rfl) T.b_list Boot.«list» (@pa_cons _ _ _ _ _ (pv 1) pa_nil (by rfl)) (by decide) (by decide) (by rfl) (by rfl)) (@pe_comp _ _ _ _ _ _ _ _ _ _ _ _ _ _ rfl (CScope.of (sc := defScope s_l_sum) (N := ["_law_p_here", "_law_one", "_law_other", "_law_by", "_law_many"]) (own := ["_law_place", "_law_setting"]) (fr := [3, 4]) (N' := ["_law_place", "_law_setting", "_law_by", "_law_many"]) rfl rfl rfl (by decide +kernel) rfl (by decide +kernel) (by decide +kernel) (by decide +kernel) (by decide +kernel) (by decide +kernel)) (pi_tup (pv 2)) (fun _ _ _ _ => (@pg_tup _ _ _ _ _ (2) rfl (@pgs_cons _ _ _ _ _ (@pg_name _ _ (0) _ (by show (["_law_place", "_law_setting", "_law_by", "_law_many"] : List Str).Nodup ; decide +kernel) rfl (by first | exact Or.inl rfl | exact Or.inr rfl) (by first | exact .inl rfl | exact .inr rfl | assumption)) (@pgs_cons _ _ _ _ _ (@pg_name _ _ (1) _ (by show (["_law_place", "_law_setting", "_law_by", "_law_many"] : List Str).Nodup ; decide +kernel) rfl (by first | exact Or.inl rfl | exact Or.inr rfl) (by first | exact .inl rfl | exact .inr rfl | assumption)) pgs_nil (by rfl)) (by rfl)) (by rfl) (by rfl))) capg_two (fun _ _ _ _ => pts_nil) (fun _ _ _ _ => (pe_tup (@pa_cons _ _ _ _ _ (pe_op op_add (pv 0) (pv 2)) (@pa_cons _ _ _ _ _ (pe_op op_mul (pv 1) (pv 3)) pa_nil (by rfl)) (by rfl)))) (by intro _; rfl))) pa_nil (by rfl)) (by rfl)) (by decide) (by rfl) (by rfl)))), ?_⟩
 try dsimp only [cxOf]
 refine ⟨_, inferInstance, ?_⟩
 rintro vs M q ⟨p, a, b, y, n, rfl, p0, hf, ha, hb, hz, k⟩
 simp? [↓sSeq_e, patW]
 intro u hu
 simp? [↓sSeq_e]
 refine comp_pureK (fun x => match x with | .tup [.v (.int x), .v (.int s)] => some (.tup [wi (x + y), wi (s * n)]) | _ => none) (by rw [List.length_map]; exact big (by omega)) (fun _ _ => trivial) ?_ fun t ht => ?_
 · intro i x hx M3 N s3 hN
   obtain ⟨z, hz', rfl⟩ := pairs_at hx
   have := hz z (List.mem_of_getElem? hz')
   have cm : CMul z.2 n = True := eq_true (.inl ⟨by omega, by omega⟩)
   simp? [↓sSeq_e, pairW, cm]
   exact hN
 · have e : (b.map pairW).filterMap (fun x => match x with | .tup [.v (.int x), .v (.int s)] => some (.tup [wi (x + y), wi (s * n)]) | _ => none) = (mvt y n b).map pairW := by
     rw [List.filterMap_map, mvt, List.map_map]
     exact List.filterMap_eq_map.symm ▸ rfl
   rw [e]
   have hut : u ≠ t := m_ne um_same ht
   have hs : ((a.map pairW).length + ((mvt y n b).map pairW).length <= sizeLine) = True := eq_true (big (by rw [List.length_map, List.length_map, mvt, List.length_map]; omega))
   simp? [↓sSeq_e, um_ne hut, hs]
   intro c hc
   simp? [↓sSeq_e]
   refine ⟨c, p, a ++ mvt y n b, rfl, by rw [um_same, List.map_append], p0, hf, by rw [List.length_append, mvt, List.length_map]; omega, ?_⟩
   exact ⟨M, ((sm_um hu).trans (sm_um ht)).trans (sm_um hc), k⟩
theorem ok_l_round (T : Txt K mg A) : FnOk P w K mg base CX0 3 A.f_l_round A.d_l_round ["_law_draw", "_law_p_here", "_law_end", "_law_most", "_law_far"] (spW K pRound) := by
 have G_l_take := ok_l_take (P := P) (w := w) (base := base) T
 have G_l_pattern := ok_l_pattern (P := P) (w := w) (base := base) T
 refine okS T.l_round.fn sc_l_round (by rintro vs M q ⟨d, l, p, en, most, far, rfl, _⟩; rfl) fun cdv A' outer s H E hr => ?_
 have nd := sc_l_round.nd
 refine ⟨_, (pss_cons (@ps_set _ _ (5) _ _ _ _ nd rfl (by first | exact Or.inl rfl | exact Or.inr rfl) (pe_op op_sub (@pe_callF _ _ _ _ _ _ _ _ _ _ _ _ _ T.l_take G_l_take (hr.mono (by decide)) (by rfl) (@pa_cons _ _ _ _ _ (pv 0) (@pa_cons _ _ _ _ _ (pe_op op_add (pe_op op_mul pe_int (pv 2)) pe_int) pa_nil (by rfl)) (by rfl)) (by decide) (by rfl) (by rfl)) (pv 2)) (by rfl) (by first | exact .inl rfl | exact .inr rfl | assumption)) (pss_one (ps_ret (pe_tup (@pa_cons _ _ _ _ _ (pv 5) (@pa_cons _ _ _ _ _ (@pe_callF _ _ _ _ _ _ _ _ _ _ _ _ _ T.l_pattern G_l_pattern (hr.mono (by decide)) (by rfl) (@pa_cons _ _ _ _ _ (pv 0) (@pa_cons _ _ _ _ _ (pv 1) (@pa_cons _ _ _ _ _ (pv 3) (@pa_cons _ _ _ _ _ (pv 4) pa_nil (by rfl)) (by rfl)) (by rfl)) (by rfl)) (by decide) (by rfl) (by rfl)) pa_nil (by rfl)) (by rfl)))))), ?_⟩
 try dsimp only [cxOf]
 refine ⟨_, inferInstance, ?_⟩
 rintro vs M q ⟨d, l, p, en, most, far, rfl, hD, p2, p3, e0, e1, m0, m1, f0, f1, k⟩
 have cm : ∀ x, CMul 2 x = True := fun x => by simp [CMul]
 simp? [↓sSeq_e, cm]
 refine ⟨d, l, 2 * en + 1, rfl, hD, by omega, by omega, fun r M1 r0 r1 D1 b1 => ?_⟩
 simp? [↓sSeq_e]
 refine ⟨d, l, p, most, far, rfl, D1, p2, p3, m0, m1, f0, f1, fun ps M2 hl hz D2 b2 => ?_⟩
 simp? [↓sSeq_e]
 exact exM (k (r - en) ps _ (by omega) (by omega) hl hz D2 (NB.trans b1 b2))
theorem ok_still (T : Txt K mg A) : FnOk P w K mg base CX0 1 A.f_still A.d_still [] (spW K pStill) := by
 refine okS T.still.fn sc_still (by rintro vs M q ⟨rfl, _⟩; rfl) fun cdv A' outer s H E hr => ?_
 have nd := sc_still.nd
 refine ⟨_, (pss_one (ps_ret (pe_tup (@pa_cons _ _ _ _ _ pe_int (@pa_cons _ _ _ _ _ (pe_tup pa_nil) pa_nil (by rfl)) (by rfl))))), ?_⟩
 try dsimp only [cxOf]
 refine ⟨_, inferInstance, ?_⟩
 rintro vs M q ⟨rfl, k⟩
 simp? [↓sSeq_e]
 exact exM k
theorem ok_joined (T : Txt K mg A) : FnOk P w K mg base CX0 3 A.f_joined A.d_joined ["p", "one", "other"] (spW K pJoined) := by
 have G_added := ok_added (P := P) (w := w) (base := base) T
 have G_moved := ok_moved (P := P) (w := w) (base := base) T
 refine okS T.joined.fn sc_joined (by rintro vs M q ⟨p, a, b, rfl, _⟩; rfl) fun cdv A' outer s H E hr => ?_
 have nd := sc_joined.nd
 refine ⟨_, (pss_cons (@ps_asg _ _ _ _ _ _ (pv 1) (@pg_tup _ _ _ _ _ (2) rfl (@pgs_cons _ _ _ _ _ (@pg_name _ _ (3) _ nd rfl (by first | exact Or.inl rfl | exact Or.inr rfl) (by first | exact .inl rfl | exact .inr rfl | assumption)) (@pgs_cons _ _ _ _ _ (@pg_name _ _ (4) _ nd rfl (by first | exact Or.inl rfl | exact Or.inr rfl) (by first | exact .inl rfl | exact .inr rfl | assumption)) pgs_nil (by rfl)) (by rfl)) (by rfl) (by rfl)) (by rfl) (by rfl) (by rfl)) (pss_cons (@ps_asg _ _ _ _ _ _ (pv 2) (@pg_tup _ _ _ _ _ (2) rfl (@pgs_cons _ _ _ _ _ (@pg_name _ _ (5) _ nd rfl (by first | exact Or.inl rfl | exact Or.inr rfl) (by first | exact .inl rfl | exact .inr rfl | assumption)) (@pgs_cons _ _ _ _ _ (@pg_name _ _ (6) _ nd rfl (by first | exact Or.inl rfl | exact Or.inr rfl) (by first | exact .inl rfl | exact .inr rfl | assumption)) pgs_nil (by rfl)) (by rfl)) (by rfl) (by rfl)) (by rfl) (by rfl) (by rfl)) (pss_one (ps_ret (pe_tup (@pa_cons _ _ _ _ _ (pe_op op_add (pv 3) (pv 5)) (@pa_cons _ _ _ _ _ (@pe_callF _ _ _ _ _ _ _ _ _ _ _ _ _ T.added G_added (hr.mono (by decide)) (by rfl) (@pa_cons _ _ _ _ _ (pv 0) (@pa_cons _ _ _ _ _ (pv 4) (@pa_cons _ _ _ _ _ (@pe_callF _ _ _ _ _ _ _ _ _ _ _ _ _ T.moved G_moved (hr.mono (by decide)) (by rfl) (@pa_cons _ _ _ _ _ (pv 6) (@pa_cons _ _ _ _ _ (pv 3) pa_nil (by rfl)) (by rfl)) (by decide) (by rfl) (by rfl)) pa_nil (by rfl)) (by rfl)) (by rfl)) (by decide) (by rfl) (by rfl)) pa_nil (by rfl)) (by rfl))))))), ?_⟩
 try dsimp only [cxOf]
 refine ⟨_, inferInstance, ?_⟩
 rintro vs M q ⟨p, a, b, rfl, p0, hf, ha, hb, k⟩
 simp? [↓sSeq_e, rdW]
 refine ⟨b.2, a.1, rfl, by omega, ?_⟩
 simp? [↓sSeq_e]
 refine ⟨p, a.2, mv a.1 b.2, rfl, p0, hf, ha, by rw [mv_len]; exact hb, ?_⟩
 simp? [↓sSeq_e]
 exact exM k
theorem ok_backward (T : Txt K mg A) : FnOk P w K mg base CX0 3 A.f_backward A.d_backward ["p", "one"] (spW K pBack) := by
 have G_timed := ok_timed (P := P) (w := w) (base := base) T
 have G_moved := ok_moved (P := P) (w := w) (base := base) T
 refine okS T.backward.fn sc_backward (by rintro vs M q ⟨p, a, rfl, _⟩; rfl) fun cdv A' outer s H E hr => ?_
 have nd := sc_backward.nd
 refine ⟨_, (pss_cons (@ps_asg _ _ _ _ _ _ (pv 1) (@pg_tup _ _ _ _ _ (2) rfl (@pgs_cons _ _ _ _ _ (@pg_name _ _ (2) _ nd rfl (by first | exact Or.inl rfl | exact Or.inr rfl) (by first | exact .inl rfl | exact .inr rfl | assumption)) (@pgs_cons _ _ _ _ _ (@pg_name _ _ (3) _ nd rfl (by first | exact Or.inl rfl | exact Or.inr rfl) (by first | exact .inl rfl | exact .inr rfl | assumption)) pgs_nil (by rfl)) (by rfl)) (by rfl) (by rfl)) (by rfl) (by rfl) (by rfl)) (pss_one (ps_ret (pe_tup (@pa_cons _ _ _ _ _ (pe_un un_neg (pv 2)) (@pa_cons _ _ _ _ _ (@pe_callF _ _ _ _ _ _ _ _ _ _ _ _ _ T.timed G_timed (hr.mono (by decide)) (by rfl) (@pa_cons _ _ _ _ _ (pv 0) (@pa_cons _ _ _ _ _ (@pe_callF _ _ _ _ _ _ _ _ _ _ _ _ _ T.moved G_moved (hr.mono (by decide)) (by rfl) (@pa_cons _ _ _ _ _ (pv 3) (@pa_cons _ _ _ _ _ (pe_un un_neg (pv 2)) pa_nil (by rfl)) (by rfl)) (by decide) (by rfl) (by rfl)) (@pa_cons _ _ _ _ _ (pe_un un_neg pe_int) pa_nil (by rfl)) (by rfl)) (by rfl)) (by decide) (by rfl) (by rfl)) pa_nil (by rfl)) (by rfl)))))), ?_⟩
 try dsimp only [cxOf]
 refine ⟨_, inferInstance, ?_⟩
 rintro vs M q ⟨p, a, rfl, p0, hf, ha, hz, k⟩
 simp? [↓sSeq_e, rdW]
 refine ⟨a.2, -a.1, rfl, by omega, ?_⟩
 simp? [↓sSeq_e]
 refine ⟨p, mv (-a.1) a.2, -1, rfl, p0, few_tm hf, by rw [mv_len]; exact ha, fun z hz' => ?_, ?_⟩
 · obtain ⟨y, hy, rfl⟩ := List.mem_map.mp hz'
   exact hz y hy
 simp? [↓sSeq_e]
 exact exM k
theorem ok_l_join (T : Txt K mg A) : FnOk P w K mg base CX0 3 A.f_l_join A.d_l_join ["_law_p_here", "_law_one", "_law_other"] (spW K pJoin) := by
 have G_l_sum := ok_l_sum (P := P) (w := w) (base := base) T
 refine okS T.l_join.fn sc_l_join (by rintro vs M q ⟨p, a, b, rfl, _⟩; rfl) fun cdv A' outer s H E hr => ?_
 have nd := sc_l_join.nd
 refine ⟨_, (pss_one (ps_ret (pe_tup (@pa_cons _ _ _ _ _ (pe_op op_add (pe_ix ix_tup (pv 1) pe_int (fun _ _ => rfl)) (pe_ix ix_tup (pv 2) pe_int (fun _ _ => rfl))) (@pa_cons _ _ _ _ _ (@pe_callF _ _ _ _ _ _ _ _ _ _ _ _ _ T.l_sum G_l_sum (hr.mono (by decide)) (by rfl) (@pa_cons _ _ _ _ _ (pv 0) (@pa_cons _ _ _ _ _ (pe_ix ix_tup (pv 1) pe_int (fun _ _ => rfl)) (@pa_cons _ _ _ _ _ (pe_ix ix_tup (pv 2) pe_int (fun _ _ => rfl)) (@pa_cons _ _ _ _ _ (pe_ix ix_tup (pv 1) pe_int (fun _ _ => rfl)) (@pa_cons _ _ _ _ _ pe_int pa_nil (by rfl)) (by rfl)) (by rfl)) (by rfl)) (by rfl)) (by decide) (by rfl) (by rfl)) pa_nil (by rfl)) (by rfl))))), ?_⟩
 try dsimp only [cxOf]
 refine ⟨_, inferInstance, ?_⟩
 rintro vs M q ⟨p, a, b, rfl, p0, hf, ha, hb, hz, k⟩
 have e : mvt a.1 1 b.2 = mv a.1 b.2 := by rw [mvt_tm, tm_one]
 simp? [↓sSeq_e, rdW]
 refine ⟨p, a.2, b.2, a.1, 1, rfl, p0, by rw [e]; exact hf, ha, hb, hz, ?_⟩
 rw [e]
 simp? [↓sSeq_e]
 exact exM k
theorem ok_l_back (T : Txt K mg A) : FnOk P w K mg base CX0 3 A.f_l_back A.d_l_back ["_law_p_here", "_law_one"] (spW K pBack) := by
 have G_l_sum := ok_l_sum (P := P) (w := w) (base := base) T
 refine okS T.l_back.fn sc_l_back (by rintro vs M q ⟨p, a, rfl, _⟩; rfl) fun cdv A' outer s H E hr => ?_
 have nd := sc_l_back.nd
 refine ⟨_, (pss_one (ps_ret (pe_tup (@pa_cons _ _ _ _ _ (pe_un un_neg (pe_ix ix_tup (pv 1) pe_int (fun _ _ => rfl))) (@pa_cons _ _ _ _ _ (@pe_callF _ _ _ _ _ _ _ _ _ _ _ _ _ T.l_sum G_l_sum (hr.mono (by decide)) (by rfl) (@pa_cons _ _ _ _ _ (pv 0) (@pa_cons _ _ _ _ _ (pe_tup pa_nil) (@pa_cons _ _ _ _ _ (pe_ix ix_tup (pv 1) pe_int (fun _ _ => rfl)) (@pa_cons _ _ _ _ _ (pe_un un_neg (pe_ix ix_tup (pv 1) pe_int (fun _ _ => rfl))) (@pa_cons _ _ _ _ _ (pe_un un_neg pe_int) pa_nil (by rfl)) (by rfl)) (by rfl)) (by rfl)) (by rfl)) (by decide) (by rfl) (by rfl)) pa_nil (by rfl)) (by rfl))))), ?_⟩
 try dsimp only [cxOf]
 refine ⟨_, inferInstance, ?_⟩
 rintro vs M q ⟨p, a, rfl, p0, hf, ha, hz, k⟩
 have e : mvt (-a.1) (-1) a.2 = tm (-1) (mv (-a.1) a.2) := mvt_tm
 simp? [↓sSeq_e, rdW]
 refine ⟨p, [], a.2, -a.1, -1, rfl, p0, by rw [e]; exact few_tm hf, by decide, ha, hz, ?_⟩
 rw [e, List.nil_append]
 simp? [↓sSeq_e]
 exact exM k
theorem ok_l_is_round (T : Txt K mg A) : FnOk P w K mg base CX0 3 A.f_l_is_round A.d_l_is_round ["_law_p_here", "_law_thing"] (spW K pIsRound) := by
 have G_l_int := ok_l_int (P := P) (w := w) (base := base) T
 have G_l_is_pattern := ok_l_is_pattern (P := P) (w := w) (base := base) T
 refine okS T.l_is_round.fn sc_l_is_round (by rintro vs M q ⟨p, a, rfl, _⟩; rfl) fun cdv A' outer s H E hr => ?_
 have nd := sc_l_is_round.nd
 refine ⟨_, (pss_cons (ps_if (pw_or (pt_not (@pt_val _ _ _ (@pe_callB _ _ _ _ _ _ _ _ _ call_isX (by rfl) T.b_isinstance Boot.«isinstance» (@pa_cons _ _ _ _ _ (pv 1) (@pa_cons _ _ _ _ _ (@pe_bltn _ _ _ _ _ (by rfl) T.b_tuple Boot.«tuple» (show RelV (.ty "tuple") _ from rfl) (by decide) (by decide)) pa_nil (by rfl)) (by rfl)) (by decide) (by decide) (by rfl) (by rfl)) (by intro _; rfl))) (pw_or1 (pt_cmpR op_ne (@pe_callB _ _ _ _ _ _ _ _ _ call_lenW (by rfl) T.b_len Boot.«len» (@pa_cons _ _ _ _ _ (pv 1) pa_nil (by rfl)) (by decide) (by decide) (by rfl) (by rfl)) pe_int (@nomark _ _ (by decide) (by decide))))).pt (pss_one (ps_ret pe_bl)) pss_nil) (pss_one (ps_ret (pe_and (@pe_callF _ _ _ _ _ _ _ _ _ _ _ _ _ T.l_int G_l_int (hr.mono (by decide)) (by rfl) (@pa_cons _ _ _ _ _ (pe_ix ix_tup (pv 1) pe_int (fun _ _ => rfl)) pa_nil (by rfl)) (by decide) (by rfl) (by rfl)) (pe_one (@pe_callF _ _ _ _ _ _ _ _ _ _ _ _ _ T.l_is_pattern G_l_is_pattern (hr.mono (by decide)) (by rfl) (@pa_cons _ _ _ _ _ (pv 0) (@pa_cons _ _ _ _ _ (pe_ix ix_tup (pv 1) pe_int (fun _ _ => rfl)) pa_nil (by rfl)) (by rfl)) (by decide) (by rfl) (by rfl))))))), ?_⟩
 try dsimp only [cxOf]
 refine ⟨_, inferInstance, ?_⟩
 rintro vs M q ⟨p, a, rfl, hp, hl, k⟩
 have e2 : decide ((((0 + 1 + 1 : Nat)) : Int) = 2) = true := by decide
 have e2' : decide (((2 : Nat) : Int) = 2) = true := by decide
 simp? [↓sSeq_e, rdW, e2, e2']
 refine ⟨_, rfl, ?_⟩
 simp? [↓sSeq_e]
 exact ⟨p, a.2, rfl, hp, hl, exM k⟩
end
end K25
open PySem L2 WL WP WQ PyProof.Rows
namespace K25
open PySem L2 WL WP WQ PyProof.Rows
section
variable {P : Program} {w : World} {K : PySem.W.Frag} {mg : Str -> Option Value} {base : Heap} {A : Adr}
theorem ok_repeated0 (T : Txt K mg A) : FnOk P w K mg base CX0 4 A.f_repeated A.d_repeated ["p", "one", "n"] (spW K pRep0) := by
 have G_backward := ok_backward (P := P) (w := w) (base := base) T
 have G_timed := ok_timed (P := P) (w := w) (base := base) T
 have G_tidy := ok_tidy (P := P) (w := w) (base := base) T
 have G_repeated : FnOk P w K mg base CX0 3 A.f_repeated A.d_repeated ["p", "one", "n"] (spW K pNever) := fn_never
 refine okS T.repeated.fn sc_repeated (by rintro vs M q ⟨p, a, n, rfl, _⟩; rfl) fun cdv A' outer s H E hr => ?_
 have nd := sc_repeated.nd
 refine ⟨_, (pss_cons (ps_if (pt_cmpR op_lt (pv 2) pe_int (@nomark _ _ (by decide) (by decide))) (pss_one (ps_ret (@pe_callF _ _ _ _ _ _ _ _ _ _ _ _ _ T.repeated G_repeated (hr.mono (by decide)) (by rfl) (@pa_cons _ _ _ _ _ (pv 0) (@pa_cons _ _ _ _ _ (@pe_callF _ _ _ _ _ _ _ _ _ _ _ _ _ T.backward G_backward (hr.mono (by decide)) (by rfl) (@pa_cons _ _ _ _ _ (pv 0) (@pa_cons _ _ _ _ _ (pv 1) pa_nil (by rfl)) (by rfl)) (by decide) (by rfl) (by rfl)) (@pa_cons _ _ _ _ _ (pe_un un_neg (pv 2)) pa_nil (by rfl)) (by rfl)) (by rfl)) (by decide) (by rfl) (by rfl)))) pss_nil) (pss_cons (@ps_asg _ _ _ _ _ _ (pv 1) (@pg_tup _ _ _ _ _ (2) rfl (@pgs_cons _ _ _ _ _ (@pg_name _ _ (3) _ nd rfl (by first | exact Or.inl rfl | exact Or.inr rfl) (by first | exact .inl rfl | exact .inr rfl | assumption)) (@pgs_cons _ _ _ _ _ (@pg_name _ _ (4) _ nd rfl (by first | exact Or.inl rfl | exact Or.inr rfl) (by first | exact .inl rfl | exact .inr rfl | assumption)) pgs_nil (by rfl)) (by rfl)) (by rfl) (by rfl)) (by rfl) (by rfl) (by rfl)) (pss_cons (ps_if (pt_cmpR op_eq (pv 3) pe_int (@nomark _ _ (by decide) (by decide))) (pss_one (ps_ret (pe_tup (@pa_cons _ _ _ _ _ pe_int (@pa_cons _ _ _ _ _ (@pe_callF _ _ _ _ _ _ _ _ _ _ _ _ _ T.timed G_timed (hr.mono (by decide)) (by rfl) (@pa_cons _ _ _ _ _ (pv 0) (@pa_cons _ _ _ _ _ (pv 4) (@pa_cons _ _ _ _ _ (pv 2) pa_nil (by rfl)) (by rfl)) (by rfl)) (by decide) (by rfl) (by rfl)) pa_nil (by rfl)) (by rfl))))) pss_nil) (pss_cons (@ps_setComp2 _ (5) _ _ _ _ _ _ _ _ _ _ _ _ _ _ (2) _ _ _ _ _ _ _ _ rfl nd rfl (Or.inl rfl) (CScope.of (sc := defScope s_repeated) (N := ["p", "one", "n", "end", "pattern", "pairs"]) (own := ["place", "setting", "k"]) (fr := [3, 2]) (N' := ["place", "setting", "k", "end", "n"]) rfl rfl rfl (by decide +kernel) rfl (by decide +kernel) (by decide +kernel) (by decide +kernel) (by decide +kernel) (by decide +kernel)) (pi_tup (pv 4)) (fun _ _ _ _ => (@pg_tup _ _ _ _ _ (2) rfl (@pgs_cons _ _ _ _ _ (@pg_name _ _ (0) _ (by show (["place", "setting", "k", "end", "n"] : List Str).Nodup ; decide +kernel) rfl (by first | exact Or.inl rfl | exact Or.inr rfl) (by first | exact .inl rfl | exact .inr rfl | assumption)) (@pgs_cons _ _ _ _ _ (@pg_name _ _ (1) _ (by show (["place", "setting", "k", "end", "n"] : List Str).Nodup ; decide +kernel) rfl (by first | exact Or.inl rfl | exact Or.inr rfl) (by first | exact .inl rfl | exact .inr rfl | assumption)) pgs_nil (by rfl)) (by rfl)) (by rfl) (by rfl))) (by decide) (kps_two (by show _ < _; decide) (by show _ < _; decide)) (fun _ _ _ _ => pts_nil) (fun _ _ _ _ => (@pi_range1 _ _ _ _ _ _ (by rfl) T.b_range (@pa_cons _ _ _ _ _ (pv 4) pa_nil (by rfl)) (by rfl))) (fun _ _ _ _ => (@pg_name _ _ (2) _ (by show (["place", "setting", "k", "end", "n"] : List Str).Nodup ; decide +kernel) rfl (by first | exact Or.inl rfl | exact Or.inr rfl) (by first | exact .inl rfl | exact .inr rfl | assumption))) (kps_name (by show _ <= _ /\ _ < _; decide)) (fun _ _ _ _ => pts_nil) (fun _ _ _ _ => (pe_tup (@pa_cons _ _ _ _ _ (pe_op op_add (pv 0) (pe_op op_mul (pv 3) (pv 2))) (@pa_cons _ _ _ _ _ (pv 1) pa_nil (by rfl)) (by rfl)))) rfl (by intro _; rfl) (by intro _ _ _ _ _; rfl) (by first | exact .inl rfl | exact .inr rfl | assumption)) (pss_one (ps_ret (pe_tup (@pa_cons _ _ _ _ _ (pe_op op_mul (pv 3) (pv 2)) (@pa_cons _ _ _ _ _ (@pe_callF _ _ _ _ _ _ _ _ _ _ _ _ _ T.tidy G_tidy (hr.mono (by decide)) (by rfl) (@pa_cons _ _ _ _ _ (pv 0) (@pa_cons _ _ _ _ _ (pv 5) pa_nil (by rfl)) (by rfl)) (by decide) (by rfl) (by rfl)) pa_nil (by rfl)) (by rfl))))))))), ?_⟩
 try dsimp only [cxOf]
 refine ⟨_, inferInstance, ?_⟩
 rintro vs M q ⟨p, a, n, rfl, p0, p1, hP, hl, n0, hb, k⟩
 have hneg : decide (n < 0) = false := decide_eq_false (by omega)
 have sA := small_of hP p1
 dsimp? [rdW, hneg]
 refine iteK_d (fun h => ?_) fun h => ?_
 · simp? [↓sSeq_h]
   refine ⟨p, a.2, n, rfl, p0, few, hl, sA, ?_⟩
   simp? [↓sSeq_h]
   refine exM (k (0, nrm p (tm n a.2)) ⟨?_, nrm_pat p0 _, fun x => ?_⟩ (fun _ => ?_) fun h' => absurd h h')
   · rw [h, Int.zero_mul]
   · rw [tot_nrm p0, tot_tm]
     unfold sumI
     rw [if_neg (by omega), h, sumN_still]
     have : ((n.toNat : Nat) : Int) = n := by omega
     rw [this]
   · exact Nat.le_trans (nrm_len _ _) (by rw [tm, List.length_map]; exact Nat.le_refl _)
 · obtain ⟨nb, hlen⟩ := hb h
   have cm : ∀ j : Int, j < 100000 -> 0 <= j -> CMul a.1 j = True := fun j h1 h2 => eq_true (.inr ⟨by omega, by omega⟩)
   dsimp? [patW]
   refine comp2_map (fun _ => List.range n.toNat) (fun (k : Nat) => wi (0 + (k : Int))) (fun z k => pairW (z.1 + a.1 * (0 + (k : Int)), z.2)) ?_ (fun _ _ => trivial) ?_ fun t ht => ?_
   · refine bigL ?_
     simp only [List.length_range]
     rw [List.map_const', List.sum_replicate_nat]
     exact hlen
   · intro z hz M3 s3 B N0 hB
     simp? [↓sSeq_e, pairW]
     refine ⟨⟨by omega, by omega⟩, hB _ _ (fun _ _ => trivial) ?_⟩
     intro j hj M4 s4 N hN
     have hj := List.mem_range.mp hj
     simp? [↓sSeq_e, cm (0 + (j : Int)) (by omega) (by omega)]
     exact hN
   · have e : (a.2.map fun z => (List.range n.toNat).map fun (k : Nat) => pairW (z.1 + a.1 * (0 + (k : Int)), z.2)).flatten = (manyP a.1 n.toNat a.2).map pairW := by
       rw [manyP, List.map_flatten, List.map_map]
       congr 1
       apply List.map_congr_left
       intro z _
       simp only [Function.comp_apply, rowsP, List.map_map]
       apply List.map_congr_left
       intro j _
       rw [Int.zero_add]; rfl
     rw [e]
     have cn : CMul a.1 n = True := cm n nb n0
     dsimp? [cn]
     refine ⟨t, p, manyP a.1 n.toNat a.2, rfl, um_same, p0, few, by rw [many_len]; exact hlen, ?_⟩
     simp? [↓sSeq_h]
     refine ⟨M, sm_um ht, k (a.1 * n, nrm p (manyP a.1 n.toNat a.2)) ⟨rfl, nrm_pat p0 _, fun x => ?_⟩ (fun h' => absurd h' h) fun _ => ?_⟩
     · rw [tot_nrm p0, tot_many]
       unfold sumI
       rw [if_neg (by omega)]
     · refine Nat.le_trans (nrm_len _ _) ?_
       rw [many_len]
       have : n.toNat = n.natAbs := by omega
       rw [this]; exact Nat.le_refl _
theorem ok_repeated (T : Txt K mg A) : FnOk P w K mg base CX0 5 A.f_repeated A.d_repeated ["p", "one", "n"] (spW K pRep) := by
 have G_backward := ok_backward (P := P) (w := w) (base := base) T
 have G_timed := ok_timed (P := P) (w := w) (base := base) T
 have G_tidy := ok_tidy (P := P) (w := w) (base := base) T
 have G_repeated := ok_repeated0 (P := P) (w := w) (base := base) T
 refine okS T.repeated.fn sc_repeated (by rintro vs M q ⟨p, a, n, rfl, _⟩; rfl) fun cdv A' outer s H E hr => ?_
 have nd := sc_repeated.nd
 refine ⟨_, (pss_cons (ps_if (pt_cmpR op_lt (pv 2) pe_int (@nomark _ _ (by decide) (by decide))) (pss_one (ps_ret (@pe_callF _ _ _ _ _ _ _ _ _ _ _ _ _ T.repeated G_repeated (hr.mono (by decide)) (by rfl) (@pa_cons _ _ _ _ _ (pv 0) (@pa_cons _ _ _ _ _ (@pe_callF _ _ _ _ _ _ _ _ _ _ _ _ _ T.backward G_backward (hr.mono (by decide)) (by rfl) (@pa_cons _ _ _ _ _ (pv 0) (@pa_cons _ _ _ _ _ (pv 1) pa_nil (by rfl)) (by rfl)) (by decide) (by rfl) (by rfl)) (@pa_cons _ _ _ _ _ (pe_un un_neg (pv 2)) pa_nil (by rfl)) (by rfl)) (by rfl)) (by decide) (by rfl) (by rfl)))) pss_nil) (pss_cons (@ps_asg _ _ _ _ _ _ (pv 1) (@pg_tup _ _ _ _ _ (2) rfl (@pgs_cons _ _ _ _ _ (@pg_name _ _ (3) _ nd rfl (by first | exact Or.inl rfl | exact Or.inr rfl) (by first | exact .inl rfl | exact .inr rfl | assumption)) (@pgs_cons _ _ _ _ _ (@pg_name _ _ (4) _ nd rfl (by first | exact Or.inl rfl | exact Or.inr rfl) (by first | exact .inl rfl | exact .inr rfl | assumption)) pgs_nil (by rfl)) (by rfl)) (by rfl) (by rfl)) (by rfl) (by rfl) (by rfl)) (pss_cons (ps_if (pt_cmpR op_eq (pv 3) pe_int (@nomark _ _ (by decide) (by decide))) (pss_one (ps_ret (pe_tup (@pa_cons _ _ _ _ _ pe_int (@pa_cons _ _ _ _ _ (@pe_callF _ _ _ _ _ _ _ _ _ _ _ _ _ T.timed G_timed (hr.mono (by decide)) (by rfl) (@pa_cons _ _ _ _ _ (pv 0) (@pa_cons _ _ _ _ _ (pv 4) (@pa_cons _ _ _ _ _ (pv 2) pa_nil (by rfl)) (by rfl)) (by rfl)) (by decide) (by rfl) (by rfl)) pa_nil (by rfl)) (by rfl))))) pss_nil) (pss_cons (@ps_setComp2 _ (5) _ _ _ _ _ _ _ _ _ _ _ _ _ _ (2) _ _ _ _ _ _ _ _ rfl nd rfl (Or.inl rfl) (CScope.of (sc := defScope s_repeated) (N := ["p", "one", "n", "end", "pattern", "pairs"]) (own := ["place", "setting", "k"]) (fr := [3, 2]) (N' := ["place", "setting", "k", "end", "n"]) rfl rfl rfl (by decide +kernel) rfl (by decide +kernel) (by decide +kernel) (by decide +kernel) (by decide +kernel) (by decide +kernel)) (pi_tup (pv 4)) (fun _ _ _ _ => (@pg_tup _ _ _ _ _ (2) rfl (@pgs_cons _ _ _ _ _ (@pg_name _ _ (0) _ (by show (["place", "setting", "k", "end", "n"] : List Str).Nodup ; decide +kernel) rfl (by first | exact Or.inl rfl | exact Or.inr rfl) (by first | exact .inl rfl | exact .inr rfl | assumption)) (@pgs_cons _ _ _ _ _ (@pg_name _ _ (1) _ (by show (["place", "setting", "k", "end", "n"] : List Str).Nodup ; decide +kernel) rfl (by first | exact Or.inl rfl | exact Or.inr rfl) (by first | exact .inl rfl | exact .inr rfl | assumption)) pgs_nil (by rfl)) (by rfl)) (by rfl) (by rfl))) (by decide) (kps_two (by show _ < _; decide) (by show _ < _; decide)) (fun _ _ _ _ => pts_nil) (fun _ _ _ _ => (@pi_range1 _ _ _ _ _ _ (by rfl) T.b_range (@pa_cons _ _ _ _ _ (pv 4) pa_nil (by rfl)) (by rfl))) (fun _ _ _ _ => (@pg_name _ _ (2) _ (by show (["place", "setting", "k", "end", "n"] : List Str).Nodup ; decide +kernel) rfl (by first | exact Or.inl rfl | exact Or.inr rfl) (by first | exact .inl rfl | exact .inr rfl | assumption))) (kps_name (by show _ <= _ /\ _ < _; decide)) (fun _ _ _ _ => pts_nil) (fun _ _ _ _ => (pe_tup (@pa_cons _ _ _ _ _ (pe_op op_add (pv 0) (pe_op op_mul (pv 3) (pv 2))) (@pa_cons _ _ _ _ _ (pv 1) pa_nil (by rfl)) (by rfl)))) rfl (by intro _; rfl) (by intro _ _ _ _ _; rfl) (by first | exact .inl rfl | exact .inr rfl | assumption)) (pss_one (ps_ret (pe_tup (@pa_cons _ _ _ _ _ (pe_op op_mul (pv 3) (pv 2)) (@pa_cons _ _ _ _ _ (@pe_callF _ _ _ _ _ _ _ _ _ _ _ _ _ T.tidy G_tidy (hr.mono (by decide)) (by rfl) (@pa_cons _ _ _ _ _ (pv 0) (@pa_cons _ _ _ _ _ (pv 5) pa_nil (by rfl)) (by rfl)) (by decide) (by rfl) (by rfl)) pa_nil (by rfl)) (by rfl))))))))), ?_⟩
 try dsimp only [cxOf]
 refine ⟨_, inferInstance, ?_⟩
 rintro vs M q ⟨p, a, n, rfl, p0, p1, hP, hl, hb, k⟩
 by_cases hn : n < 0
 · have hneg : decide (n < 0) = true := decide_eq_true hn
   have sA := small_of hP p1
   dsimp? [hneg]
   refine ⟨p, a, rfl, p0, few, hl, sA, ?_⟩
   dsimp? []
   have hB := bk_len p a
   refine ⟨p, bk p a, -n, rfl, p0, p1, bk_pat p0 a, by omega, by omega, fun he => ?_, fun r hr hlr hlr2 => ?_⟩
   · have he' : a.1 ≠ 0 := fun z => he (by show -a.1 = 0; omega)
     obtain ⟨h1, h2, h3⟩ := hb he'
     refine ⟨by omega, Nat.le_trans (Nat.mul_le_mul hB (Nat.le_of_eq ?_)) h3⟩
     omega
   · dsimp? []
     have e : (-n).natAbs = n.natAbs := by omega
     rw [e] at hlr2
     have hm : (bk p a).2.length * n.natAbs <= a.2.length * n.natAbs := Nat.mul_le_mul_right _ hB
     exact exM (k r (hr.of_back p0 hn) (fun h => Nat.le_trans (hlr (by show -a.1 = 0; omega)) hB) fun h => Nat.le_trans (hlr2 (by show -a.1 ≠ 0; omega)) hm)
 have n0 : 0 <= n := by omega
 replace hb : a.1 ≠ 0 -> n < 100000 /\ a.2.length * n.toNat <= 100000 := fun h => by
   obtain ⟨_, h2, h3⟩ := hb h
   have e : n.toNat = n.natAbs := by omega
   rw [e]; exact ⟨h2, h3⟩
 have hneg : decide (n < 0) = false := decide_eq_false (by omega)
 have sA := small_of hP p1
 dsimp? [rdW, hneg]
 refine iteK_d (fun h => ?_) fun h => ?_
 · simp? [↓sSeq_h]
   refine ⟨p, a.2, n, rfl, p0, few, hl, sA, ?_⟩
   simp? [↓sSeq_h]
   refine exM (k (0, nrm p (tm n a.2)) ⟨?_, nrm_pat p0 _, fun x => ?_⟩ (fun _ => ?_) fun h' => absurd h h')
   · rw [h, Int.zero_mul]
   · rw [tot_nrm p0, tot_tm]
     unfold sumI
     rw [if_neg (by omega), h, sumN_still]
     have : ((n.toNat : Nat) : Int) = n := by omega
     rw [this]
   · exact Nat.le_trans (nrm_len _ _) (by rw [tm, List.length_map]; exact Nat.le_refl _)
 · obtain ⟨nb, hlen⟩ := hb h
   have cm : ∀ j : Int, j < 100000 -> 0 <= j -> CMul a.1 j = True := fun j h1 h2 => eq_true (.inr ⟨by omega, by omega⟩)
   dsimp? [patW]
   refine comp2_map (fun _ => List.range n.toNat) (fun (k : Nat) => wi (0 + (k : Int))) (fun z k => pairW (z.1 + a.1 * (0 + (k : Int)), z.2)) ?_ (fun _ _ => trivial) ?_ fun t ht => ?_
   · refine bigL ?_
     simp only [List.length_range]
     rw [List.map_const', List.sum_replicate_nat]
     exact hlen
   · intro z hz M3 s3 B N0 hB
     simp? [↓sSeq_e, pairW]
     refine ⟨⟨by omega, by omega⟩, hB _ _ (fun _ _ => trivial) ?_⟩
     intro j hj M4 s4 N hN
     have hj := List.mem_range.mp hj
     simp? [↓sSeq_e, cm (0 + (j : Int)) (by omega) (by omega)]
     exact hN
   · have e : (a.2.map fun z => (List.range n.toNat).map fun (k : Nat) => pairW (z.1 + a.1 * (0 + (k : Int)), z.2)).flatten = (manyP a.1 n.toNat a.2).map pairW := by
       rw [manyP, List.map_flatten, List.map_map]
       congr 1
       apply List.map_congr_left
       intro z _
       simp only [Function.comp_apply, rowsP, List.map_map]
       apply List.map_congr_left
       intro j _
       rw [Int.zero_add]; rfl
     rw [e]
     have cn : CMul a.1 n = True := cm n nb n0
     dsimp? [cn]
     refine ⟨t, p, manyP a.1 n.toNat a.2, rfl, um_same, p0, few, by rw [many_len]; exact hlen, ?_⟩
     simp? [↓sSeq_h]
     refine ⟨M, sm_um ht, k (a.1 * n, nrm p (manyP a.1 n.toNat a.2)) ⟨rfl, nrm_pat p0 _, fun x => ?_⟩ (fun h' => absurd h' h) fun _ => ?_⟩
     · rw [tot_nrm p0, tot_many]
       unfold sumI
       rw [if_neg (by omega)]
     · refine Nat.le_trans (nrm_len _ _) ?_
       rw [many_len]
       have : n.toNat = n.natAbs := by omega
       rw [this]; exact Nat.le_refl _
theorem ok_l_times (T : Txt K mg A) : FnOk P w K mg base CX0 4 A.f_l_times A.d_l_times ["_law_p_here", "_law_one", "_law_n"] (spW K pRep) := by
 have G_l_sum := ok_l_sum (P := P) (w := w) (base := base) T
 have G_l_back := ok_l_back (P := P) (w := w) (base := base) T
 have G_l_tidy := ok_l_tidy (P := P) (w := w) (base := base) T
 refine okS T.l_times.fn sc_l_times (by rintro vs M q ⟨p, a, n, rfl, _⟩; rfl) fun cdv A' outer s H E hr => ?_
 have nd := sc_l_times.nd
 refine ⟨_, (pss_cons (ps_if (pt_cmpR op_eq (pe_ix ix_tup (pv 1) pe_int (fun _ _ => rfl)) pe_int (@nomark _ _ (by decide) (by decide))) (pss_one (ps_ret (pe_tup (@pa_cons _ _ _ _ _ pe_int (@pa_cons _ _ _ _ _ (@pe_callF _ _ _ _ _ _ _ _ _ _ _ _ _ T.l_sum G_l_sum (hr.mono (by decide)) (by rfl) (@pa_cons _ _ _ _ _ (pv 0) (@pa_cons _ _ _ _ _ (pe_tup pa_nil) (@pa_cons _ _ _ _ _ (pe_ix ix_tup (pv 1) pe_int (fun _ _ => rfl)) (@pa_cons _ _ _ _ _ pe_int (@pa_cons _ _ _ _ _ (pv 2) pa_nil (by rfl)) (by rfl)) (by rfl)) (by rfl)) (by rfl)) (by decide) (by rfl) (by rfl)) pa_nil (by rfl)) (by rfl))))) pss_nil) (pss_cons (@ps_set _ _ (3) _ _ _ _ nd rfl (by first | exact Or.inl rfl | exact Or.inr rfl) (pv 1) (by rfl) (by first | exact .inl rfl | exact .inr rfl | assumption)) (pss_cons (ps_if (pt_cmpR op_lt (pv 2) pe_int (@nomark _ _ (by decide) (by decide))) (pss_one (@ps_set _ _ (3) _ _ _ _ nd rfl (by first | exact Or.inl rfl | exact Or.inr rfl) (@pe_callF _ _ _ _ _ _ _ _ _ _ _ _ _ T.l_back G_l_back (hr.mono (by decide)) (by rfl) (@pa_cons _ _ _ _ _ (pv 0) (@pa_cons _ _ _ _ _ (pv 1) pa_nil (by rfl)) (by rfl)) (by decide) (by rfl) (by rfl)) (by rfl) (by first | exact .inl rfl | exact .inr rfl | assumption))) pss_nil) (pss_cons (@ps_set _ _ (4) _ _ _ _ nd rfl (by first | exact Or.inl rfl | exact Or.inr rfl) (pe_lst pa_nil) (by rfl) (by first | exact .inl rfl | exact .inr rfl | assumption)) (pss_cons (@ps_for _ _ _ _ _ _ _ _ PassesOwn.never rfl (@pi_range1 _ _ _ _ _ _ (by rfl) T.b_range (@pa_cons _ _ _ _ _ (@pe_callB _ _ _ _ _ _ _ _ _ call_absW (by rfl) T.b_abs Boot.«abs» (@pa_cons _ _ _ _ _ (pv 2) pa_nil (by rfl)) (by decide) (by decide) (by rfl) (by rfl)) pa_nil (by rfl)) (by rfl)) (@pg_name _ _ (5) _ nd rfl (by first | exact Or.inl rfl | exact Or.inr rfl) (by first | exact .inl rfl | exact .inr rfl | assumption)) (pss_one (@ps_expr _ _ _ _ (@pe_bm _ _ _ _ _ _ _ _ _ _ _ _ PySem.F.plainAttrs_list PySem.F.slot_list_extend PySem.F.type_list_extend mt_extend (pv 4) (@pa_cons _ _ _ _ _ (@pe_comp _ _ _ _ _ _ _ _ _ _ _ _ _ _ rfl (CScope.of (sc := defScope s_l_times) (N := ["_law_p_here", "_law_one", "_law_n", "_law_base", "_law_pairs", "_law_k"]) (own := ["_law_place", "_law_setting"]) (fr := [5, 3]) (N' := ["_law_place", "_law_setting", "_law_k", "_law_base"]) rfl rfl rfl (by decide +kernel) rfl (by decide +kernel) (by decide +kernel) (by decide +kernel) (by decide +kernel) (by decide +kernel)) (pi_tup (pe_ix ix_tup (pv 3) pe_int (fun _ _ => rfl))) (fun _ _ _ _ => (@pg_tup _ _ _ _ _ (2) rfl (@pgs_cons _ _ _ _ _ (@pg_name _ _ (0) _ (by show (["_law_place", "_law_setting", "_law_k", "_law_base"] : List Str).Nodup ; decide +kernel) rfl (by first | exact Or.inl rfl | exact Or.inr rfl) (by first | exact .inl rfl | exact .inr rfl | assumption)) (@pgs_cons _ _ _ _ _ (@pg_name _ _ (1) _ (by show (["_law_place", "_law_setting", "_law_k", "_law_base"] : List Str).Nodup ; decide +kernel) rfl (by first | exact Or.inl rfl | exact Or.inr rfl) (by first | exact .inl rfl | exact .inr rfl | assumption)) pgs_nil (by rfl)) (by rfl)) (by rfl) (by rfl))) capg_two (fun _ _ _ _ => pts_nil) (fun _ _ _ _ => (pe_tup (@pa_cons _ _ _ _ _ (pe_op op_add (pv 0) (pe_op op_mul (pv 2) (pe_ix (show IxR _ (rIxT K) from ix_tup) (pv 3) pe_int (fun _ _ => rfl)))) (@pa_cons _ _ _ _ _ (pv 1) pa_nil (by rfl)) (by rfl)))) (by intro _; rfl)) pa_nil (by rfl)) (by rfl) (by rfl) (by rfl) (by rfl) (by rfl)) (by rfl))) (by intro _; rfl)) (pss_one (ps_ret (pe_tup (@pa_cons _ _ _ _ _ (pe_op op_mul (pe_ix ix_tup (pv 3) pe_int (fun _ _ => rfl)) (@pe_callB _ _ _ _ _ _ _ _ _ call_absW (by rfl) T.b_abs Boot.«abs» (@pa_cons _ _ _ _ _ (pv 2) pa_nil (by rfl)) (by decide) (by decide) (by rfl) (by rfl))) (@pa_cons _ _ _ _ _ (@pe_callF _ _ _ _ _ _ _ _ _ _ _ _ _ T.l_tidy G_l_tidy (hr.mono (by decide)) (by rfl) (@pa_cons _ _ _ _ _ (pv 0) (@pa_cons _ _ _ _ _ (pv 4) pa_nil (by rfl)) (by rfl)) (by decide) (by rfl) (by rfl)) pa_nil (by rfl)) (by rfl)))))))))), ?_⟩
 try dsimp only [cxOf]
 refine ⟨_, inferInstance, ?_⟩
 rintro vs M q ⟨p, a, n, rfl, p0, p1, hP, hl, hb, k⟩
 have sA := small_of hP p1
 dsimp? [rdW]
 refine iteK_d (fun h => ?_) fun h => ?_
 · refine ⟨p, [], a.2, 0, n, rfl, p0, few, by decide, by omega, sA, ?_⟩
   dsimp? []
   refine exM (k (0, nrm p (mvt 0 n a.2)) ⟨by rw [h, Int.zero_mul], nrm_pat p0 _, fun x => ?_⟩ (fun _ => ?_) fun h' => absurd h h')
   · rw [tot_nrm p0, mvt_tm, tot_tm, mv_zero, h]
     unfold sumI
     by_cases hn : n < 0
     · rw [if_pos hn, <- sumN_neg (f := tot a.2) (g := fun x => -tot a.2 (x + 0)) (fun _ => rfl)]
       show _ = sumN (fun x => -tot a.2 (x + 0)) 0 (-n).toNat x % p
       rw [sumN_still, Int.add_zero]
       have : (((-n).toNat : Nat) : Int) = -n := by omega
       rw [this, Int.neg_mul_neg]
     · rw [if_neg hn, sumN_still]
       have : ((n.toNat : Nat) : Int) = n := by omega
       rw [this]
   · refine Nat.le_trans (nrm_len _ _) ?_
     rw [mvt, List.length_map]; exact Nat.le_refl _
 · obtain ⟨b1, b2, b3⟩ := hb h
   refine hold_i ?_; simp? [↓sSeq_h]
   refine hold_i (if_mid (fun ρ M' => M' = M /\ ∃ b : WQ.Rd, ρ = [some (wi p), some (rdW a), some (wi n), some (rdW b), none, none] /\ IsPat p b.2 /\ b.2.length <= a.2.length /\ (b.2.length * n.natAbs <= 100000) /\ ∀ r, IsRep p b n.natAbs r -> IsRep p a n r) ?_ fun N hN => ?_)
   · rintro ρ M' ⟨rfl, b, rfl, hPb, hlb, hbn, hrep⟩
     have habs : (if n < 0 then -n else n) = (n.natAbs : Int) := by split <;> omega
     dsimp? []
     intro t ht
     dsimp? [habs]
     refine ⟨⟨by omega, by omega⟩, for_i (fun i ρ M'' => ∃ o1 : Option W, ρ = [some (wi p), some (rdW a), some (wi n), some (rdW b), some (wr t), o1] /\ M'' t = some (.lst ((reps b i).map pairW)) /\ Sm M' M'') ⟨none, rfl, um_same, sm_um ht⟩ (fun _ _ _ _ _ => trivial) ?_ ?_⟩
     · rintro i x ρ M'' hx ⟨o1, rfl, hM, sM⟩ N hN
       obtain ⟨hi, rfl⟩ := range_at hx
       have cm : CMul (0 + (i : Int)) b.1 = True := eq_true (.inl ⟨by omega, by omega⟩)
       dsimp? [hM, rdW, patW]
       refine comp_all (fun z => pairW (z.1 + (0 + (i : Int)) * b.1, z.2)) (big (by omega)) (fun _ _ => trivial) ?_ fun u hu => ?_
       · intro z hz M3 N3 s3 hN3
         simp? [↓sSeq_e, pairW, cm]
         exact hN3
       have e : b.2.map (fun z => pairW (z.1 + (0 + (i : Int)) * b.1, z.2)) = (mv ((i : Int) * b.1) b.2).map pairW := by
         rw [mv, List.map_map, Int.zero_add]; rfl
       rw [e]
       have htu : t ≠ u := m_ne hM hu
       have hlen : (((reps b i).map pairW).length + ((mv ((i : Int) * b.1) b.2).map pairW).length <= sizeLine) = True := eq_true (big (by
         rw [List.length_map, List.length_map, reps_len, mv_len]
         have h1 : (i + 1) * b.2.length <= n.natAbs * b.2.length := Nat.mul_le_mul_right _ (by omega)
         rw [Nat.succ_mul] at h1
         rw [Nat.mul_comm n.natAbs] at h1
         omega))
       dsimp? [um_ne htu, hM, hlen]
       refine hN _ _ ⟨_, rfl, ?_, fun c o e => ?_⟩
       · rw [um_same, reps, List.map_append]
       · rw [um_ne (m_ne e ht)]
         exact (sm_um hu) _ _ (sM c o e)
     · rintro ρ M'' ⟨o1, rfl, hM, sM⟩
       rw [range_len] at hM
       have en : ((n.natAbs : Int)).toNat = n.natAbs := by omega
       rw [en] at hM
       dsimp only
       have cm : CMul b.1 (n.natAbs : Int) = True := eq_true (.inr ⟨by omega, by omega⟩)
       dsimp? [habs, rdW, cm]
       refine ⟨t, p, reps b n.natAbs, rfl, hM, p0, few, by rw [reps_len, Nat.mul_comm]; omega, ?_⟩
       dsimp? []
       refine ⟨M', sM, k (b.1 * (n.natAbs : Int), nrm p (reps b n.natAbs)) (hrep _ ⟨rfl, nrm_pat p0 _, fun x => ?_⟩) (fun h' => absurd h' h) fun _ => ?_⟩
       · rw [tot_nrm p0, tot_repsN]
         unfold sumI
         rw [if_neg (by omega)]
         have : ((n.natAbs : Int)).toNat = n.natAbs := by omega
         rw [this]
       · refine Nat.le_trans (nrm_len _ _) ?_
         rw [reps_len, Nat.mul_comm]
         exact Nat.mul_le_mul_right _ hlb
   · dsimp? []
     have hB := bk_len p a
     refine iteK_d (fun hn => ?_) fun hn => ?_
     · dsimp? []
       refine ⟨p, a, rfl, p0, few, hl, sA, ?_⟩
       dsimp? []
       refine hN _ _ ⟨rfl, bk p a, rfl, bk_pat p0 a, hB, Nat.le_trans (Nat.mul_le_mul_right _ hB) b3, fun r hr => ?_⟩
       have e : ((n.natAbs : Nat) : Int) = -n := by omega
       rw [e] at hr
       exact hr.of_back p0 hn
     · dsimp? []
       refine hN _ _ ⟨rfl, a, rfl, hP, Nat.le_refl _, b3, fun r hr => ?_⟩
       have e : ((n.natAbs : Nat) : Int) = n := by omega
       rw [e] at hr
       exact hr
end
end K25
open PySem L2 WL WP WQ PyProof.Rows
namespace K25
open PySem L2 WL WP WQ PyProof.Rows
section
variable {P : Program} {w : World} {K : PySem.W.Frag} {mg : Str -> Option Value} {base : Heap} {A : Adr}
theorem small_log {i : Int} (h : i.natAbs <= 1000) : i.natAbs.log2 < 1920 := by
 have h1 : i.natAbs.log2 <= i.natAbs := Nat.log2_le_self _
 lia
theorem x_rest_rest : decide (("rest" : Str) = "rest") = true := by decide +kernel
theorem x_member_rest : decide (("member" : Str) = "rest") = false := by decide +kernel
theorem x_join_rest : decide (("join" : Str) = "rest") = false := by decide +kernel
theorem x_times_rest : decide (("times" : Str) = "rest") = false := by decide +kernel
theorem x_member_member : decide (("member" : Str) = "member") = true := by decide +kernel
theorem x_join_member : decide (("join" : Str) = "member") = false := by decide +kernel
theorem x_join_join : decide (("join" : Str) = "join") = true := by decide +kernel
theorem x_times_member : decide (("times" : Str) = "member") = false := by decide +kernel
theorem x_times_join : decide (("times" : Str) = "join") = false := by decide +kernel
theorem x_times_times : decide (("times" : Str) = "times") = true := by decide +kernel
theorem at_lt {α : Type} {l : List α} {i : Int} {x : α} (h0 : 0 <= i) (h : l[i.toNat]? = some x) : i < l.length := by
 have := (List.getElem?_eq_some_iff.mp h).1
 lia
noncomputable def pPick (C : Addr) : WSpX := fun xs M q e => ∃ (A : Addr) (rs : List WQ.Rd) (i : Int), xs = [wr A, wi i] /\ M A = some (.lst (rs.map rdW)) /\ i.natAbs <= 1000 /\ (¬(0 <= i /\ i < rs.length) -> e C M) /\ (∀ r, 0 <= i -> rs[i.toNat]? = some r -> q (rdW r) M)
theorem ok_picked (T : Txt K mg A) : FnOk P w K mg base (Fly P w) 1 A.f_picked A.d_picked ["things", "at"] (spX K (pPick A.c_BadLine)) := by
 refine okX T.picked.fn sc_picked (by rintro vs M q e ⟨a, rs, i, rfl, _⟩; rfl) fun cdv A' outer s H E e hr hF hP => ?_
 have nd := sc_picked.nd
 refine ⟨_, (pss_cons (ps_if (pw_or (pt_cmpR op_lt (pv 1) pe_int (@nomark _ _ (by decide) (by decide))) (pw_or1 (pt_cmpR op_ge (pv 1) (@pe_callB _ _ _ _ _ _ _ _ _ call_lenW (by rfl) T.b_len Boot.«len» (@pa_cons _ _ _ _ _ (pv 0) pa_nil (by rfl)) (by decide) (by decide) (by rfl) (by rfl)) (@nomark _ _ (by decide) (by decide))))).pt (pss_one (@ps_raiseK _ _ _ _ _ _ _ _ _ _ hF rfl (by rfl) T.x_BadLine (@pa_cons _ _ _ _ _ (pe_fstr (@pj_cons _ _ _ _ _ pe_str (@pj_cons _ _ _ _ _ (pe_fvI (pv 1)) (@pj_cons _ _ _ _ _ pe_str pj_nil (by rfl)) (by rfl)) (by rfl))) pa_nil (by rfl)) (by decide) (by rfl) (by rfl))) pss_nil) (pss_one (ps_ret (pe_ix ix_list (pv 0) (pv 1) (fun _ _ => rfl))))), ?_⟩
 try dsimp only [cxOf]
 refine ⟨_, inferInstance, ?_⟩
 rintro vs M q ⟨a, rs, i, rfl, ha, hi, ke, kq⟩
 dsimp? [ha, List.length_map]
 refine iteK_d (fun h => ?_) fun h => ?_
 · simp? [↓sSeq_h, wRaise, wJ1, wJ0, wFvI, wFvS]
   have l1 : (Str.empty ++ Str.ofString "there is no number ").length <= 100 := by decide +kernel
   have l2 : (Str.ofString (toString i)).length <= 61 := num_len (by lia)
   have l3 : (Str.ofString " here").length <= 100 := by decide +kernel
   have l4 : i.natAbs.log2 < 1920 := small_log hi
   exact ⟨small_len (by lia), l4, small_len (by rw [len_app]; lia), small_len (by rw [len_app, len_app]; lia), small_len (by rw [len_app, len_app]; lia), M, fun _ _ h => h, ke (by lia)⟩
 refine iteK_d (fun h2 => ?_) fun h2 => ?_
 · simp? [↓sSeq_h, wRaise, wJ1, wJ0, wFvI, wFvS]
   have l1 : (Str.empty ++ Str.ofString "there is no number ").length <= 100 := by decide +kernel
   have l2 : (Str.ofString (toString i)).length <= 61 := num_len (by lia)
   have l3 : (Str.ofString " here").length <= 100 := by decide +kernel
   have l4 : i.natAbs.log2 < 1920 := small_log hi
   exact ⟨small_len (by lia), l4, small_len (by rw [len_app]; lia), small_len (by rw [len_app, len_app]; lia), small_len (by rw [len_app, len_app]; lia), M, fun _ _ h => h, ke (by lia)⟩
 obtain ⟨r, hr⟩ : ∃ r, rs[i.toNat]? = some r := ⟨_, List.getElem?_eq_getElem (by lia)⟩
 have hat : atI (rs.map rdW) i = some (rdW r) := by
   have := atI_nat (xs := rs.map rdW) (j := i.toNat) (v := rdW r) (by rw [List.getElem?_map, hr]; rfl)
   rwa [show ((i.toNat : Nat) : Int) = i by lia] at this
 dsimp? [ha, hat]
 exact ⟨M, fun _ _ h => h, kq r (by lia) hr⟩
noncomputable def pLineR (C : Addr) : WSpX := fun xs M q e => ∃ (p : Int) (A B : Addr) (ms acc : List WQ.Rd) (z : Zl), xs = [wi p, wr A, wr B, zW z] /\ 0 < p /\ p < 1000 /\ M A = some (.lst (ms.map rdW)) /\ M B = some (.lst (acc.map rdW)) /\ ZSm z /\ (∀ r ∈ acc, RB p 200 r) /\
 (∀ a n, z = .times a n -> n.natAbs <= 400) /\ (¬ZOk ms.length acc.length z -> e C M) /\ ∀ r, ZOk ms.length acc.length z -> ZEv p ms acc z r -> (∀ a n, z = .times a n -> ∀ x, acc[a.toNat]? = some x -> r.2.length <= x.2.length * max 1 n.natAbs) -> q (rdW r) M
theorem ok_line_round (T : Txt K mg A) : FnOk P w K mg base (Fly P w) 6 A.f_line_round A.d_line_round ["p", "members", "ahead", "line"] (spX K (pLineR A.c_BadLine)) := by
 have G_still := ok_still (P := P) (w := w) (base := base) T
 have G_picked := ok_picked (P := P) (w := w) (base := base) T
 have G_joined := ok_joined (P := P) (w := w) (base := base) T
 have G_repeated := ok_repeated (P := P) (w := w) (base := base) T
 refine okX T.line_round.fn sc_line_round (by rintro vs M q e ⟨p, a, b, ms, acc, z, rfl, _⟩; rfl) fun cdv A' outer s H E e hr hF hP => ?_
 have nd := sc_line_round.nd
 refine ⟨_, (pss_cons (@ps_set _ _ (4) _ _ _ _ nd rfl (by first | exact Or.inl rfl | exact Or.inr rfl) (pe_ix ix_tup (pv 3) pe_int (fun _ _ => rfl)) (by rfl) (by first | exact .inl rfl | exact .inr rfl | assumption)) (pss_cons (ps_if (pt_cmpR op_eq (pv 4) pe_str (@nomark _ _ (by decide) (by decide))) (pss_one (ps_ret (@pe_call0F _ _ _ _ _ _ _ _ _ _ T.still G_still (hr.mono (by decide)) (by rfl) (by decide)))) pss_nil) (pss_cons (ps_if (pt_cmpR op_eq (pv 4) pe_str (@nomark _ _ (by decide) (by decide))) (pss_one (ps_ret (@pe_callXF _ _ _ _ _ _ _ _ _ _ _ _ _ _ hP T.picked G_picked (hr.mono (by decide)) (by rfl) (@pa_cons _ _ _ _ _ (pv 1) (@pa_cons _ _ _ _ _ (pe_ix ix_tup (pv 3) pe_int (fun _ _ => rfl)) pa_nil (by rfl)) (by rfl)) (by decide) (by rfl) (by rfl)))) pss_nil) (pss_cons (ps_if (pt_cmpR op_eq (pv 4) pe_str (@nomark _ _ (by decide) (by decide))) (pss_one (ps_ret (@pe_callF _ _ _ _ _ _ _ _ _ _ _ _ _ T.joined G_joined (hr.mono (by decide)) (by rfl) (@pa_cons _ _ _ _ _ (pv 0) (@pa_cons _ _ _ _ _ (@pe_callXF _ _ _ _ _ _ _ _ _ _ _ _ _ _ hP T.picked G_picked (hr.mono (by decide)) (by rfl) (@pa_cons _ _ _ _ _ (pv 2) (@pa_cons _ _ _ _ _ (pe_ix ix_tup (pv 3) pe_int (fun _ _ => rfl)) pa_nil (by rfl)) (by rfl)) (by decide) (by rfl) (by rfl)) (@pa_cons _ _ _ _ _ (@pe_callXF _ _ _ _ _ _ _ _ _ _ _ _ _ _ hP T.picked G_picked (hr.mono (by decide)) (by rfl) (@pa_cons _ _ _ _ _ (pv 2) (@pa_cons _ _ _ _ _ (pe_ix ix_tup (pv 3) pe_int (fun _ _ => rfl)) pa_nil (by rfl)) (by rfl)) (by decide) (by rfl) (by rfl)) pa_nil (by rfl)) (by rfl)) (by rfl)) (by decide) (by rfl) (by rfl)))) pss_nil) (pss_cons (ps_if (pt_cmpR op_eq (pv 4) pe_str (@nomark _ _ (by decide) (by decide))) (pss_one (ps_ret (@pe_callF _ _ _ _ _ _ _ _ _ _ _ _ _ T.repeated G_repeated (hr.mono (by decide)) (by rfl) (@pa_cons _ _ _ _ _ (pv 0) (@pa_cons _ _ _ _ _ (@pe_callXF _ _ _ _ _ _ _ _ _ _ _ _ _ _ hP T.picked G_picked (hr.mono (by decide)) (by rfl) (@pa_cons _ _ _ _ _ (pv 2) (@pa_cons _ _ _ _ _ (pe_ix ix_tup (pv 3) pe_int (fun _ _ => rfl)) pa_nil (by rfl)) (by rfl)) (by decide) (by rfl) (by rfl)) (@pa_cons _ _ _ _ _ (pe_ix ix_tup (pv 3) pe_int (fun _ _ => rfl)) pa_nil (by rfl)) (by rfl)) (by rfl)) (by decide) (by rfl) (by rfl)))) pss_nil) (pss_one (@ps_raiseK _ _ _ _ _ _ _ _ _ _ hF rfl (by rfl) T.x_BadLine (@pa_cons _ _ _ _ _ (pe_fstr (@pj_cons _ _ _ _ _ pe_str (@pj_cons _ _ _ _ _ (pe_fvS (pv 4)) pj_nil (by rfl)) (by rfl))) pa_nil (by rfl)) (by decide) (by rfl) (by rfl)))))))), ?_⟩
 try dsimp only [cxOf]
 refine ⟨_, inferInstance, ?_⟩
 rintro vs M q ⟨p, a, b, ms, acc, z, rfl, p0, p1, ha, hb, hz, hacc, hn, ke, kq⟩
 cases z with
 | rest =>
   dsimp? [zW, x_rest_rest]
   refine ⟨rfl, ?_⟩
   dsimp? []
   exact ⟨M, fun _ _ h => h, kq (0, []) trivial rfl fun _ _ h => by cases h⟩
 | mem k =>
   dsimp? [zW, x_member_rest, x_member_member, wCallX]
   refine ⟨a, ms, k, rfl, ha, hz, fun h => ⟨M, fun _ _ h => h, ke h⟩, fun r h0 hr => ?_⟩
   dsimp? []
   exact ⟨M, fun _ _ h => h, kq r ⟨h0, at_lt h0 hr⟩ hr fun _ _ h => by cases h⟩
 | join c d =>
   dsimp? [zW, x_join_rest, x_join_member, x_join_join, wCallX]
   refine ⟨b, acc, c, rfl, hb, hz.1, fun h => ⟨M, fun _ _ h => h, ke fun h' => h h'.1⟩, fun x h0 hx => ?_⟩
   dsimp? [wCallX]
   refine ⟨b, acc, d, rfl, hb, hz.2, fun h => ⟨M, fun _ _ h => h, ke fun h' => h h'.2⟩, fun y h0' hy => ?_⟩
   dsimp? []
   have h1 := hacc x (List.mem_of_getElem? hx)
   have h2 := hacc y (List.mem_of_getElem? hy)
   refine ⟨p, x, y, rfl, p0, few, Nat.le_trans h1.2 (by decide), Nat.le_trans h2.2 (by decide), ?_⟩
   dsimp? []
   exact ⟨M, fun _ _ h => h, kq _ ⟨⟨h0, at_lt h0 hx⟩, h0', at_lt h0' hy⟩ ⟨x, y, hx, hy, rfl⟩ fun _ _ h => by cases h⟩
 | times c n =>
   dsimp? [zW, x_times_rest, x_times_member, x_times_join, x_times_times, wCallX]
   refine ⟨b, acc, c, rfl, hb, hz.1, fun h => ⟨M, fun _ _ h => h, ke h⟩, fun x h0 hx => ?_⟩
   dsimp? []
   have h1 := hacc x (List.mem_of_getElem? hx)
   have h2 := hn c n rfl
   refine ⟨p, x, n, rfl, p0, p1, h1.1, Nat.le_trans h1.2 (by decide), fun _ => ⟨by lia, by lia, ?_⟩, fun r hr e1 e2 => ?_⟩
   · exact Nat.le_trans (Nat.mul_le_mul h1.2 h2) (by decide)
   dsimp? []
   refine ⟨M, fun _ _ h => h, kq r ⟨h0, at_lt h0 hx⟩ ⟨x, hx, hr⟩ fun c' n' h x' hx' => ?_⟩
   cases h
   rw [hx] at hx'; cases hx'
   by_cases h0 : x.1 = 0
   · refine Nat.le_trans (e1 h0) ?_
     have : x.2.length * 1 <= x.2.length * max 1 n.natAbs := Nat.mul_le_mul_left _ (by lia)
     lia
   · exact Nat.le_trans (e2 h0) (Nat.mul_le_mul_left _ (by lia))
 | oth t k =>
   obtain ⟨t1, t2, t3, t4, tl⟩ := hz
   have d1 : decide (t = "rest") = false := decide_eq_false t1
   have d2 : decide (t = "member") = false := decide_eq_false t2
   have d3 : decide (t = "join") = false := decide_eq_false t3
   have d4 : decide (t = "times") = false := decide_eq_false t4
   dsimp? [zW, d1, d2, d3, d4]
   simp? [↓sSeq_h, wRaise, wJ1, wJ0, wFvI, wFvS]
   have l1 : (Str.empty ++ Str.ofString "no line is called ").length <= 100 := by decide +kernel
   exact ⟨small_len (by lia), small_len (by lia), small_len (by rw [len_app]; lia), small_len (by rw [len_app]; lia), M, fun _ _ h => h, ke id⟩
noncomputable def pWorked (C : Addr) : WSpX := fun xs M q e => ∃ (p : Int) (A B : Addr) (ms : List WQ.Rd) (zs : List Zl) (n : Nat) (sz : List Nat), xs = [wi p, wr A, wr B] /\ 0 < p /\ p < 1000 /\ M A = some (.lst (ms.map rdW)) /\ M B = some (.lst (zs.map zW)) /\ zs.length <= 100 /\
 (∀ r ∈ ms, RB p 3 r) /\ (∀ z ∈ zs, ZSm z) /\ (∀ z ∈ zs, ∀ a n, z = .times a n -> n.natAbs <= 400) /\ n <= zs.length /\ sz.length = n /\
 (∀ i z, i < n -> zs[i]? = some z -> ZOk ms.length i z /\ sz.getD i 0 = zsz (sz.take i) z /\ (i + 1 < zs.length -> sz.getD i 0 <= 60) /\ sz.getD i 0 <= 600) /\
 ((∃ z, zs[n]? = some z /\ ¬ZOk ms.length n z /\ e C M) \/ (n = zs.length /\ ∀ u M' rs, M u = none -> Sm M M' -> M' u = some (.lst (rs.map rdW)) -> ZAll p ms zs rs -> (∀ r ∈ rs, RB p 1800 r) -> q (wr u) M'))
theorem ok_worked (T : Txt K mg A) : FnOk P w K mg base (Fly P w) 7 A.f_worked A.d_worked ["p", "members", "lines"] (spX K (pWorked A.c_BadLine)) := by
 have G_line_round := ok_line_round (P := P) (w := w) (base := base) T
 refine okX T.worked.fn sc_worked (by rintro vs M q e ⟨p, a, b, ms, zs, n, sz, rfl, _⟩; rfl) fun cdv A' outer s H E e hr hF hP => ?_
 have nd := sc_worked.nd
 refine ⟨_, (pss_cons (@ps_set _ _ (3) _ _ _ _ nd rfl (by first | exact Or.inl rfl | exact Or.inr rfl) (pe_lst pa_nil) (by rfl) (by first | exact .inl rfl | exact .inr rfl | assumption)) (pss_cons (@ps_for _ _ _ _ _ _ _ _ own_fly rfl (pi_list (pv 2)) (@pg_name _ _ (4) _ nd rfl (by first | exact Or.inl rfl | exact Or.inr rfl) (by first | exact .inl rfl | exact .inr rfl | assumption)) (pss_one (@ps_expr _ _ _ _ (@pe_bm _ _ _ _ _ _ _ _ _ _ _ _ PySem.F.plainAttrs_list PySem.F.slot_list_append PySem.F.type_list_append mt_append (pv 3) (@pa_cons _ _ _ _ _ (@pe_callXF _ _ _ _ _ _ _ _ _ _ _ _ _ _ hP T.line_round G_line_round (hr.mono (by decide)) (by rfl) (@pa_cons _ _ _ _ _ (pv 0) (@pa_cons _ _ _ _ _ (pv 1) (@pa_cons _ _ _ _ _ (pv 3) (@pa_cons _ _ _ _ _ (pv 4) pa_nil (by rfl)) (by rfl)) (by rfl)) (by rfl)) (by decide) (by rfl) (by rfl)) pa_nil (by rfl)) (by rfl) (by rfl) (by rfl) (by rfl) (by rfl)) (by rfl))) (by intro _; rfl)) (pss_one (ps_ret (pv 3))))), ?_⟩
 try dsimp only [cxOf]
 refine ⟨_, inferInstance, ?_⟩
 rintro vs M q ⟨p, a, b, ms, zs, n, sz, rfl, p0, p1, ha, hb, hl, hms, hsm, hnn, hnl, hsz, hok, kk⟩
 dsimp? []
 intro u hu
 have nau : a ≠ u := m_ne ha hu
 have nbu : b ≠ u := m_ne hb hu
 dsimp? [um_ne nbu, hb]
 refine for_i (fun i ρ M' => ∃ (o4 : Option W) (rs : List WQ.Rd), ρ = [some (wi p), some (wr a), some (wr b), some (wr u), o4] /\ M' u = some (.lst (rs.map rdW)) /\ i <= n /\ ZAll p ms (zs.take i) rs /\ RBs p rs (sz.take i) /\ Sm M M')
   ⟨none, [], rfl, um_same, Nat.zero_le _, ZAll.nil, ⟨rfl, fun i r h => by cases h⟩, sm_um hu⟩ (fun i ρ M' _ ⟨_, _, _, _, _, _, _, sM⟩ => sM _ _ hb) ?_ ?_
 · rintro i x ρ M' hx ⟨o4, rs, rfl, hu1, hin, hall, hrb, sM⟩ N hN
   obtain ⟨z, hz, rfl⟩ := map_at hx
   have hil := (List.getElem?_eq_some_iff.mp hz).1
   have hrl : rs.length = i := by rw [hall.1, List.length_take]; lia
   have hzm := List.mem_of_getElem? hz
   have hget : ∀ j, j < i -> (sz.take i).getD j 0 = sz.getD j 0 := fun j hj => by
     rw [List.getD_eq_getElem?_getD, List.getElem?_take, if_pos hj, <- List.getD_eq_getElem?_getD]
   have hbd : ∀ r ∈ rs, RB p 200 r := by
     intro r hr
     obtain ⟨j, hj⟩ := List.mem_iff_getElem?.mp hr
     have hji : j < i := by have := (List.getElem?_eq_some_iff.mp hj).1; lia
     obtain ⟨h1, h2⟩ := hrb.2 j r hj
     rw [hget j hji] at h2
     obtain ⟨y, hy⟩ : ∃ y, zs[j]? = some y := ⟨_, List.getElem?_eq_getElem (by lia)⟩
     have h3 := (hok j y (by lia) hy).2.2.1 (by lia)
     exact ⟨h1, by lia⟩
   dsimp? [wCallX, hu1]
   refine ⟨p, a, u, ms, rs, z, rfl, p0, p1, sM _ _ ha, hu1, hsm z hzm, hbd, hnn z hzm, fun hbad => ?_, fun r hzok hr hlen => ?_⟩
   · rw [hrl] at hbad
     by_cases hlt : i < n
     · exact absurd (hok i z hlt hz).1 hbad
     · rcases kk with ⟨z', _, _, he⟩ | ⟨he, _⟩
       · exact ⟨M, sM, he⟩
       · lia
   · have hlt : i < n := by
       apply Classical.byContradiction
       intro hge
       have e : i = n := by lia
       subst e
       rcases kk with ⟨z', h1, h2, _⟩ | ⟨he, _⟩
       · rw [hz] at h1; cases h1
         rw [hrl] at hzok; exact h2 hzok
       · lia
     have hlen2 : ((rs.map rdW).length < sizeLine) = True := eq_true (bigL (by rw [List.length_map]; lia))
     obtain ⟨_, e2, _, _⟩ := hok i z hlt hz
     dsimp? [hu1, hlen2]
     have et : zs.take (i + 1) = zs.take i ++ [z] := by rw [List.take_add_one, hz]; rfl
     have es : sz.take (i + 1) = sz.take i ++ [zsz (sz.take i) z] := by
       rw [List.take_add_one, <- e2, List.getD_eq_getElem?_getD, List.getElem?_eq_getElem (by lia)]; rfl
     refine hN _ _ ⟨_, rs ++ [r], rfl, ?_, hlt, ?_, ?_, fun c o h => by rw [um_ne (m_ne h hu)]; exact sM c o h⟩
     · rw [um_same, List.map_append]; rfl
     · rw [et]; exact hall.snoc hr
     · rw [es]; exact hrb.snoc (hrb.step p0 hms hr hlen)
 · rintro ρ M' ⟨o4, rs, rfl, hu1, hin, hall, hrb, sM⟩
   rw [List.length_map] at hin
   have hne : n = zs.length := by lia
   rcases kk with ⟨z', h1, h2, _⟩ | ⟨_, kq⟩
   · have := (List.getElem?_eq_some_iff.mp h1).1; lia
   rw [List.length_map, List.take_length] at hall
   dsimp only
   dsimp? []
   refine ⟨M', fun _ _ h => h, kq u M' rs hu sM hu1 hall fun r hr => ?_⟩
   obtain ⟨j, hj⟩ := List.mem_iff_getElem?.mp hr
   have hjl := (List.getElem?_eq_some_iff.mp hj).1
   rw [hall.1] at hjl
   obtain ⟨h1, h2⟩ := hrb.2 j r hj
   have hget : (sz.take (zs.map zW).length).getD j 0 = sz.getD j 0 := by
     rw [List.getD_eq_getElem?_getD, List.getElem?_take, if_pos (by rw [List.length_map]; exact hjl), <- List.getD_eq_getElem?_getD]
   rw [hget] at h2
   obtain ⟨y, hy⟩ : ∃ y, zs[j]? = some y := ⟨_, List.getElem?_eq_getElem hjl⟩
   have h3 := (hok j y (by lia) hy).2.2.2
   exact ⟨h1, by lia⟩
end
end K25
open PySem L2 WL WP WQ PyProof.Rows
namespace K25
open PySem L2 WL WP WQ PyProof.Rows
section
variable {P : Program} {w : World} {K : PySem.W.Frag} {mg : Str -> Option Value} {base : Heap} {A : Adr}
noncomputable abbrev szW (sz : List Nat) : List W := sz.map fun (n : Nat) => wi (n : Int)
theorem sz_at {sz : List Nat} {c : Nat} (h : c < sz.length) : atI (szW sz) (c : Int) = some (wi ((sz.getD c 0 : Nat) : Int)) := atI_nat (by
 rw [szW, List.getElem?_map, List.getD_eq_getElem?_getD, List.getElem?_eq_getElem h]; rfl)
noncomputable def pDrawL : WSp := fun xs M q => ∃ (d l a : Addr) (sz : List Nat) (m : Nat), xs = [wr d, wr a, wi m] /\ Dr M d l /\ M a = some (.lst (szW sz)) /\ sz.length <= 20 /\ (∀ n ∈ sz, n <= 60) /\ a ≠ d /\ m <= 4 /\ ∀ (z : Zl) (M' : Mp), ZOk m sz.length z -> ZSm z -> zsz sz z <= 60 -> (∀ a n, z = .times a n -> n.natAbs <= 400) -> Dr M' d l -> NB d M M' -> q (zW z) M'
noncomputable def pSizeOf : WSp := fun xs M q => ∃ (a : Addr) (sz : List Nat) (m : Nat) (z : Zl), xs = [wr a, zW z] /\ M a = some (.lst (szW sz)) /\ ZOk m sz.length z /\ (∀ a n, z = .times a n -> n.natAbs <= 400) /\ q (wi (zsz sz z : Nat)) M
noncomputable def pBadL : WSp := fun xs M q => ∃ (d l : Addr) (i m : Nat), xs = [wr d, wi i, wi m] /\ Dr M d l /\ i <= 20 /\ m <= 4 /\ ∀ (z : Zl) (M' : Mp), ¬ZOk m i z -> ZSm z -> (∀ a n, z = .times a n -> n.natAbs <= 400) -> Dr M' d l -> (∀ c o, c ≠ d -> M c = some o -> M' c = some o) -> q (zW z) M'
theorem ok_l_draw_line (T : Txt K mg A) : FnOk P w K mg base CX0 2 A.f_l_draw_line A.d_l_draw_line ["_law_draw", "_law_sizes", "_law_many"] (spW K pDrawL) := by
 have G_l_take := ok_l_take (P := P) (w := w) (base := base) T
 refine okS T.l_draw_line.fn sc_l_draw_line (by rintro vs M q ⟨d, l, a, sz, m, rfl, _⟩; rfl) fun cdv A' outer s H E hr => ?_
 have nd := sc_l_draw_line.nd
 refine ⟨_, (pss_cons (@ps_set _ _ (3) _ _ _ _ nd rfl (by first | exact Or.inl rfl | exact Or.inr rfl) (@pe_callB _ _ _ _ _ _ _ _ _ call_lenW (by rfl) T.b_len Boot.«len» (@pa_cons _ _ _ _ _ (pv 1) pa_nil (by rfl)) (by decide) (by decide) (by rfl) (by rfl)) (by rfl) (by first | exact .inl rfl | exact .inr rfl | assumption)) (pss_cons (@ps_set _ _ (4) _ _ _ _ nd rfl (by first | exact Or.inl rfl | exact Or.inr rfl) (@pe_callF _ _ _ _ _ _ _ _ _ _ _ _ _ T.l_take G_l_take (hr.mono (by decide)) (by rfl) (@pa_cons _ _ _ _ _ (pv 0) (@pa_cons _ _ _ _ _ pe_int pa_nil (by rfl)) (by rfl)) (by decide) (by rfl) (by rfl)) (by rfl) (by first | exact .inl rfl | exact .inr rfl | assumption)) (pss_cons (ps_if (pw_and (pt_cmpR op_eq (pv 4) pe_int (@nomark _ _ (by decide) (by decide))) (pw_and1 (pt_cmpR op_gt (pv 3) pe_int (@nomark _ _ (by decide) (by decide))))).pt (pss_cons (@ps_set _ _ (5) _ _ _ _ nd rfl (by first | exact Or.inl rfl | exact Or.inr rfl) (@pe_callF _ _ _ _ _ _ _ _ _ _ _ _ _ T.l_take G_l_take (hr.mono (by decide)) (by rfl) (@pa_cons _ _ _ _ _ (pv 0) (@pa_cons _ _ _ _ _ (pv 3) pa_nil (by rfl)) (by rfl)) (by decide) (by rfl) (by rfl)) (by rfl) (by first | exact .inl rfl | exact .inr rfl | assumption)) (pss_cons (@ps_set _ _ (6) _ _ _ _ nd rfl (by first | exact Or.inl rfl | exact Or.inr rfl) (@pe_callF _ _ _ _ _ _ _ _ _ _ _ _ _ T.l_take G_l_take (hr.mono (by decide)) (by rfl) (@pa_cons _ _ _ _ _ (pv 0) (@pa_cons _ _ _ _ _ (pv 3) pa_nil (by rfl)) (by rfl)) (by decide) (by rfl) (by rfl)) (by rfl) (by first | exact .inl rfl | exact .inr rfl | assumption)) (pss_one (ps_if (pt_cmpR op_le (pe_op op_add (pe_ix ix_list (pv 1) (pv 5) (fun _ _ => rfl)) (pe_ix ix_list (pv 1) (pv 6) (fun _ _ => rfl))) pe_int (@nomark _ _ (by decide) (by decide))) (pss_one (ps_ret (pe_tup (@pa_cons _ _ _ _ _ pe_str (@pa_cons _ _ _ _ _ (pv 5) (@pa_cons _ _ _ _ _ (pv 6) pa_nil (by rfl)) (by rfl)) (by rfl))))) pss_nil)))) pss_nil) (pss_cons (ps_if (pw_and (pt_cmpR op_eq (pv 4) pe_int (@nomark _ _ (by decide) (by decide))) (pw_and1 (pt_cmpR op_gt (pv 3) pe_int (@nomark _ _ (by decide) (by decide))))).pt (pss_cons (@ps_set _ _ (5) _ _ _ _ nd rfl (by first | exact Or.inl rfl | exact Or.inr rfl) (@pe_callF _ _ _ _ _ _ _ _ _ _ _ _ _ T.l_take G_l_take (hr.mono (by decide)) (by rfl) (@pa_cons _ _ _ _ _ (pv 0) (@pa_cons _ _ _ _ _ (pv 3) pa_nil (by rfl)) (by rfl)) (by decide) (by rfl) (by rfl)) (by rfl) (by first | exact .inl rfl | exact .inr rfl | assumption)) (pss_cons (@ps_set _ _ (7) _ _ _ _ nd rfl (by first | exact Or.inl rfl | exact Or.inr rfl) (pe_op op_sub (@pe_callF _ _ _ _ _ _ _ _ _ _ _ _ _ T.l_take G_l_take (hr.mono (by decide)) (by rfl) (@pa_cons _ _ _ _ _ (pv 0) (@pa_cons _ _ _ _ _ pe_int pa_nil (by rfl)) (by rfl)) (by decide) (by rfl) (by rfl)) pe_int) (by rfl) (by first | exact .inl rfl | exact .inr rfl | assumption)) (pss_one (ps_if (pt_cmpR op_le (pe_op op_mul (pe_ix ix_list (pv 1) (pv 5) (fun _ _ => rfl)) (@pe_callB _ _ _ _ _ _ _ _ _ call_absW (by rfl) T.b_abs Boot.«abs» (@pa_cons _ _ _ _ _ (pv 7) pa_nil (by rfl)) (by decide) (by decide) (by rfl) (by rfl))) pe_int (@nomark _ _ (by decide) (by decide))) (pss_one (ps_ret (pe_tup (@pa_cons _ _ _ _ _ pe_str (@pa_cons _ _ _ _ _ (pv 5) (@pa_cons _ _ _ _ _ (pv 7) pa_nil (by rfl)) (by rfl)) (by rfl))))) pss_nil)))) pss_nil) (pss_cons (ps_if (pw_or (pt_cmpR op_eq (pv 4) pe_int (@nomark _ _ (by decide) (by decide))) (pw_or1 (pt_cmpR op_eq (pv 2) pe_int (@nomark _ _ (by decide) (by decide))))).pt (pss_one (ps_ret (pe_tup (@pa_cons _ _ _ _ _ pe_str pa_nil (by rfl))))) pss_nil) (pss_one (ps_ret (pe_tup (@pa_cons _ _ _ _ _ pe_str (@pa_cons _ _ _ _ _ (@pe_callF _ _ _ _ _ _ _ _ _ _ _ _ _ T.l_take G_l_take (hr.mono (by decide)) (by rfl) (@pa_cons _ _ _ _ _ (pv 0) (@pa_cons _ _ _ _ _ (pv 2) pa_nil (by rfl)) (by rfl)) (by decide) (by rfl) (by rfl)) pa_nil (by rfl)) (by rfl)))))))))), ?_⟩
 try dsimp only [cxOf]
 refine ⟨_, inferInstance, ?_⟩
 rintro vs M q ⟨d, l, a, sz, m, rfl, hD, ha, hl, h60, nad, hm, k⟩
 have hgl : ∀ c, sz.getD c 0 <= 60 := fun c => by
   rw [List.getD_eq_getElem?_getD]
   cases hx : sz[c]? with
   | none => exact Nat.zero_le _
   | some x => exact h60 x (List.mem_of_getElem? hx)
 dsimp? [ha, List.length_map]
 refine ⟨d, l, 5, rfl, hD, by decide, by decide, fun w M1 w0 w1 D1 b1 => ?_⟩
 refine hold_i (if_mid (fun ρ M' => ∃ o5 o6 o7 : Option W, ρ = [some (wr d), some (wr a), some (wi m), some (wi (sz.length : Int)), some (wi w), o5, o6, o7] /\ Dr M' d l /\ NB d M M') ?_ fun N hN => ?_)
 rotate_left
 · dsimp? []
   refine iteK_d (fun h1 => ?_) fun h1 => hN _ _ ⟨_, _, _, rfl, D1, b1⟩
   dsimp? []
   refine iteK_d (fun h2 => ?_) fun h2 => hN _ _ ⟨_, _, _, rfl, D1, b1⟩
   dsimp? []
   refine ⟨d, l, sz.length, rfl, D1, by lia, by lia, fun c M2 c0 c1 D2 b2 => ?_⟩
   obtain ⟨c, rfl⟩ := Int.eq_ofNat_of_zero_le c0
   dsimp? []
   refine ⟨d, l, sz.length, rfl, D2, by lia, by lia, fun e M3 e0 e1 D3 b3 => ?_⟩
   obtain ⟨e, rfl⟩ := Int.eq_ofNat_of_zero_le e0
   have b4 := NB.trans (NB.trans b1 b2) b3
   have ha3 := (b4 a nad).trans ha
   dsimp? [ha3, sz_at (show c < sz.length by lia), sz_at (show e < sz.length by lia)]
   refine iteK_d (fun h3 => ?_) fun h3 => hN _ _ ⟨_, _, _, rfl, D3, b4⟩
   dsimp? []
   refine ⟨_, fun _ _ h => h, k (.join c e) _ ⟨⟨by lia, by lia⟩, by lia, by lia⟩ ⟨by lia, by lia⟩ ?_ (fun _ _ z => nomatch z) D3 b4⟩
   show sz.getD (c : Int).toNat 0 + sz.getD (e : Int).toNat 0 <= 60
   rw [Int.toNat_natCast, Int.toNat_natCast]; lia
 rintro ρ M2 ⟨o5, o6, o7, rfl, D2, b2⟩
 refine if_mid (fun ρ M' => ∃ o5 o6 o7 : Option W, ρ = [some (wr d), some (wr a), some (wi m), some (wi (sz.length : Int)), some (wi w), o5, o6, o7] /\ Dr M' d l /\ NB d M M') ?_ fun N hN => ?_
 rotate_left
 · dsimp? []
   refine iteK_d (fun h1 => ?_) fun h1 => hN _ _ ⟨_, _, _, rfl, D2, b2⟩
   dsimp? []
   refine iteK_d (fun h2 => ?_) fun h2 => hN _ _ ⟨_, _, _, rfl, D2, b2⟩
   dsimp? []
   refine ⟨d, l, sz.length, rfl, D2, by lia, by lia, fun c M3 c0 c1 D3 b3 => ?_⟩
   obtain ⟨c, rfl⟩ := Int.eq_ofNat_of_zero_le c0
   dsimp? []
   refine ⟨d, l, 9, rfl, D3, by decide, by decide, fun e M4 e0 e1 D4 b4 => ?_⟩
   have b5 := NB.trans (NB.trans b2 b3) b4
   have ha3 := (b5 a nad).trans ha
   have habs : (if e - 4 < 0 then -(e - 4) else e - 4) = ((e - 4).natAbs : Int) := by split <;> lia
   have hgc := hgl c
   have cm : CMul ((sz.getD c 0 : Nat) : Int) ((e - 4).natAbs : Int) = True := eq_true (.inr ⟨by lia, by lia⟩)
   dsimp? [ha3, sz_at (show c < sz.length by lia), habs, cm]
   refine iteK_d (fun h3 => ?_) fun h3 => hN _ _ ⟨_, _, _, rfl, D4, b5⟩
   dsimp? []
   refine ⟨_, fun _ _ h => h, k (.times c (e - 4)) _ ⟨by lia, by lia⟩ ⟨by lia, by lia⟩ ?_ (fun _ _ z => by cases z; lia) D4 b5⟩
   show sz.getD (c : Int).toNat 0 * (e - 4).natAbs <= 60
   rw [Int.toNat_natCast]
   have e2 : ((sz.getD c 0 * (e - 4).natAbs : Nat) : Int) = ((sz.getD c 0 : Nat) : Int) * ((e - 4).natAbs : Int) := Int.natCast_mul _ _
   lia
 rintro ρ M3 ⟨o5, o6, o7, rfl, D3, b3⟩
 dsimp? []
 have rest : ∃ M0, Sm M0 M3 /\ q (W.tup [ws "rest"]) M0 := ⟨_, fun _ _ h => h, k .rest _ trivial trivial (by show 0 <= 60; lia) (fun _ _ z => nomatch z) D3 b3⟩
 refine iteK_d (fun h1 => ?_) fun h1 => ?_
 · dsimp? []
   exact rest
 · dsimp? []
   refine iteK_d (fun h2 => ?_) fun h2 => ?_
   · dsimp? []
     exact rest
   dsimp? []
   refine ⟨d, l, m, rfl, D3, by lia, by lia, fun c M4 c0 c1 D4 b4 => ?_⟩
   dsimp? []
   exact ⟨_, fun _ _ h => h, k (.mem c) _ ⟨c0, c1⟩ (by show c.natAbs <= 1000; lia) (by show 1 <= 60; lia) (fun _ _ z => nomatch z) D4 (NB.trans b3 b4)⟩
theorem ok_l_size_of (T : Txt K mg A) : FnOk P w K mg base CX0 1 A.f_l_size_of A.d_l_size_of ["_law_sizes", "_law_line_here"] (spW K pSizeOf) := by
 refine okS T.l_size_of.fn sc_l_size_of (by rintro vs M q ⟨a, sz, m, z, rfl, _⟩; rfl) fun cdv A' outer s H E hr => ?_
 have nd := sc_l_size_of.nd
 refine ⟨_, (pss_cons (ps_if (pt_cmpR op_eq (pe_ix ix_tup (pv 1) pe_int (fun _ _ => rfl)) pe_str (@nomark _ _ (by decide) (by decide))) (pss_one (ps_ret pe_int)) pss_nil) (pss_cons (ps_if (pt_cmpR op_eq (pe_ix ix_tup (pv 1) pe_int (fun _ _ => rfl)) pe_str (@nomark _ _ (by decide) (by decide))) (pss_one (ps_ret pe_int)) pss_nil) (pss_cons (ps_if (pt_cmpR op_eq (pe_ix ix_tup (pv 1) pe_int (fun _ _ => rfl)) pe_str (@nomark _ _ (by decide) (by decide))) (pss_one (ps_ret (pe_op op_add (pe_ix ix_list (pv 0) (pe_ix ix_tup (pv 1) pe_int (fun _ _ => rfl)) (fun _ _ => rfl)) (pe_ix ix_list (pv 0) (pe_ix ix_tup (pv 1) pe_int (fun _ _ => rfl)) (fun _ _ => rfl))))) pss_nil) (pss_one (ps_ret (pe_op op_mul (pe_ix ix_list (pv 0) (pe_ix ix_tup (pv 1) pe_int (fun _ _ => rfl)) (fun _ _ => rfl)) (@pe_callB _ _ _ _ _ _ _ _ _ call_absW (by rfl) T.b_abs Boot.«abs» (@pa_cons _ _ _ _ _ (pe_ix ix_tup (pv 1) pe_int (fun _ _ => rfl)) pa_nil (by rfl)) (by decide) (by decide) (by rfl) (by rfl)))))))), ?_⟩
 try dsimp only [cxOf]
 refine ⟨_, inferInstance, ?_⟩
 rintro vs M q ⟨a, sz, m, z, rfl, ha, hok, hn, k⟩
 cases z with
 | rest =>
   dsimp? [zW, x_rest_rest]
   exact exM k
 | mem c =>
   dsimp? [zW, x_member_rest, x_member_member]
   exact exM k
 | join c e =>
   obtain ⟨⟨c0, c1⟩, e0, e1⟩ := hok
   obtain ⟨c, rfl⟩ := Int.eq_ofNat_of_zero_le c0
   obtain ⟨e, rfl⟩ := Int.eq_ofNat_of_zero_le e0
   dsimp? [zW, x_join_rest, x_join_member, x_join_join, ha, sz_at (show c < sz.length by lia), sz_at (show e < sz.length by lia)]
   have e : ((zsz sz (.join c e) : Nat) : Int) = ((sz.getD c 0 : Nat) : Int) + ((sz.getD e 0 : Nat) : Int) := by
     show ((sz.getD (c : Int).toNat 0 + sz.getD (e : Int).toNat 0 : Nat) : Int) = _
     rw [Int.toNat_natCast, Int.toNat_natCast]; lia
   rw [e] at k
   exact exM k
 | times c n =>
   obtain ⟨c0, c1⟩ := hok
   obtain ⟨c, rfl⟩ := Int.eq_ofNat_of_zero_le c0
   have h4 := hn _ _ rfl
   have habs : (if n < 0 then -n else n) = (n.natAbs : Int) := by split <;> lia
   have cm : CMul ((sz.getD c 0 : Nat) : Int) (n.natAbs : Int) = True := eq_true (.inr ⟨by lia, by lia⟩)
   dsimp? [zW, x_times_rest, x_times_member, x_times_join, ha, sz_at (show c < sz.length by lia), habs, cm]
   have e : ((zsz sz (.times c n) : Nat) : Int) = ((sz.getD c 0 : Nat) : Int) * (n.natAbs : Int) := by
     show ((sz.getD (c : Int).toNat 0 * n.natAbs : Nat) : Int) = _
     rw [Int.toNat_natCast, Int.natCast_mul]
   rw [e] at k
   exact exM k
 | oth s c => exact hok.elim
end
end K25
open PySem L2 WL WP WQ PyProof.Rows
namespace K25
open PySem L2 WL WP WQ PyProof.Rows
section
variable {P : Program} {w : World} {K : PySem.W.Frag} {mg : Str -> Option Value} {base : Heap} {A : Adr}
theorem ok_l_bad (T : Txt K mg A) : FnOk P w K mg base CX0 2 A.f_l_bad A.d_l_bad ["_law_draw", "_law_at", "_law_many"] (spW K pBadL) := by
 have G_l_take := ok_l_take (P := P) (w := w) (base := base) T
 refine okS T.l_bad.fn sc_l_bad (by rintro vs M q ⟨d, l, i, m, rfl, _⟩; rfl) fun cdv A' outer s H E hr => ?_
 have nd := sc_l_bad.nd
 refine ⟨_, (pss_cons (@ps_set _ _ (3) _ _ _ _ nd rfl (by first | exact Or.inl rfl | exact Or.inr rfl) (pe_ix ix_tup (pe_tup (@pa_cons _ _ _ _ _ pe_str (@pa_cons _ _ _ _ _ pe_str (@pa_cons _ _ _ _ _ pe_str (@pa_cons _ _ _ _ _ pe_str (@pa_cons _ _ _ _ _ pe_str pa_nil (by rfl)) (by rfl)) (by rfl)) (by rfl)) (by rfl))) (@pe_callF _ _ _ _ _ _ _ _ _ _ _ _ _ T.l_take G_l_take (hr.mono (by decide)) (by rfl) (@pa_cons _ _ _ _ _ (pv 0) (@pa_cons _ _ _ _ _ pe_int pa_nil (by rfl)) (by rfl)) (by decide) (by rfl) (by rfl)) (fun _ _ => rfl)) (by rfl) (by first | exact .inl rfl | exact .inr rfl | assumption)) (pss_cons (@ps_set _ _ (4) _ _ _ _ nd rfl (by first | exact Or.inl rfl | exact Or.inr rfl) (pe_ix ix_tup (pe_tup (@pa_cons _ _ _ _ _ (pe_un un_neg pe_int) (@pa_cons _ _ _ _ _ (pv 2) (@pa_cons _ _ _ _ _ (pe_op op_add (pv 2) pe_int) pa_nil (by rfl)) (by rfl)) (by rfl))) (@pe_callF _ _ _ _ _ _ _ _ _ _ _ _ _ T.l_take G_l_take (hr.mono (by decide)) (by rfl) (@pa_cons _ _ _ _ _ (pv 0) (@pa_cons _ _ _ _ _ pe_int pa_nil (by rfl)) (by rfl)) (by decide) (by rfl) (by rfl)) (fun _ _ => rfl)) (by rfl) (by first | exact .inl rfl | exact .inr rfl | assumption)) (pss_cons (@ps_set _ _ (5) _ _ _ _ nd rfl (by first | exact Or.inl rfl | exact Or.inr rfl) (pe_ix ix_tup (pe_tup (@pa_cons _ _ _ _ _ (pe_un un_neg pe_int) (@pa_cons _ _ _ _ _ (pv 1) (@pa_cons _ _ _ _ _ (pe_op op_add (pv 1) pe_int) (@pa_cons _ _ _ _ _ (pe_op op_add (pv 1) pe_int) pa_nil (by rfl)) (by rfl)) (by rfl)) (by rfl))) (@pe_callF _ _ _ _ _ _ _ _ _ _ _ _ _ T.l_take G_l_take (hr.mono (by decide)) (by rfl) (@pa_cons _ _ _ _ _ (pv 0) (@pa_cons _ _ _ _ _ pe_int pa_nil (by rfl)) (by rfl)) (by decide) (by rfl) (by rfl)) (fun _ _ => rfl)) (by rfl) (by first | exact .inl rfl | exact .inr rfl | assumption)) (pss_cons (@ps_set _ _ (6) _ _ _ _ nd rfl (by first | exact Or.inl rfl | exact Or.inr rfl) (@pe_callB _ _ _ _ _ _ _ _ _ (call_max2W rfl) (by rfl) T.b_max Boot.«max» (@pa_cons _ _ _ _ _ pe_int (@pa_cons _ _ _ _ _ (pe_op op_sub (pv 1) pe_int) pa_nil (by rfl)) (by rfl)) (by decide) (by decide) (by rfl) (by rfl)) (by rfl) (by first | exact .inl rfl | exact .inr rfl | assumption)) (pss_cons (@ps_set _ _ (7) _ _ _ _ nd rfl (by first | exact Or.inl rfl | exact Or.inr rfl) (pe_lst (@pa_cons _ _ _ _ _ (pe_tup (@pa_cons _ _ _ _ _ (pv 3) (@pa_cons _ _ _ _ _ pe_int pa_nil (by rfl)) (by rfl))) (@pa_cons _ _ _ _ _ (pe_tup (@pa_cons _ _ _ _ _ pe_str (@pa_cons _ _ _ _ _ (pv 4) pa_nil (by rfl)) (by rfl))) (@pa_cons _ _ _ _ _ (pe_tup (@pa_cons _ _ _ _ _ pe_str (@pa_cons _ _ _ _ _ (pv 5) (@pa_cons _ _ _ _ _ (pv 6) pa_nil (by rfl)) (by rfl)) (by rfl))) (@pa_cons _ _ _ _ _ (pe_tup (@pa_cons _ _ _ _ _ pe_str (@pa_cons _ _ _ _ _ (pv 6) (@pa_cons _ _ _ _ _ (pv 5) pa_nil (by rfl)) (by rfl)) (by rfl))) (@pa_cons _ _ _ _ _ (pe_tup (@pa_cons _ _ _ _ _ pe_str (@pa_cons _ _ _ _ _ (pv 5) (@pa_cons _ _ _ _ _ pe_int pa_nil (by rfl)) (by rfl)) (by rfl))) pa_nil (by rfl)) (by rfl)) (by rfl)) (by rfl)) (by rfl))) (by rfl) (by first | exact .inl rfl | exact .inr rfl | assumption)) (pss_one (ps_ret (pe_ix ix_list (pv 7) (@pe_callF _ _ _ _ _ _ _ _ _ _ _ _ _ T.l_take G_l_take (hr.mono (by decide)) (by rfl) (@pa_cons _ _ _ _ _ (pv 0) (@pa_cons _ _ _ _ _ pe_int pa_nil (by rfl)) (by rfl)) (by decide) (by rfl) (by rfl)) (fun _ _ => rfl))))))))), ?_⟩
 try dsimp only [cxOf]
 refine ⟨_, inferInstance, ?_⟩
 rintro vs M q ⟨d, l, i, m, rfl, hD, hi, hm, k⟩
 dsimp? []
 refine ⟨d, l, 5, rfl, hD, by decide, by decide, fun w M1 w0 w1 D1 b1 => ?_⟩
 refine ixT_all (fun x => ∃ s : Str, x = ws s /\ (s ≠ "rest" /\ s ≠ "member" /\ s ≠ "join" /\ s ≠ "times" /\ s.length <= 100)) (by lia) (by show w < ((5 : Nat) : Int); lia) (fun x hx => ?_) ?_
 · simp only [List.mem_cons, List.not_mem_nil, or_false] at hx
   rcases hx with rfl | rfl | rfl | rfl | rfl
   all_goals exact ⟨_, rfl, by decide +kernel⟩
 rintro x ⟨s, rfl, hs⟩
 dsimp? []
 refine ⟨d, l, 3, rfl, D1, by decide, by decide, fun v M2 v0 v1 D2 b2 => ?_⟩
 refine ixT_all (fun x => ∃ y : Int, x = wi y /\ (y < 0 \/ (m : Int) <= y) /\ y.natAbs <= 100) (by lia) (by show v < ((3 : Nat) : Int); lia) (fun x hx => ?_) ?_
 · simp only [List.mem_cons, List.not_mem_nil, or_false] at hx
   rcases hx with rfl | rfl | rfl
   all_goals exact ⟨_, rfl, by lia, by lia⟩
 rintro x ⟨be, rfl, be1, be2⟩
 dsimp? []
 refine ⟨d, l, 4, rfl, D2, by decide, by decide, fun u M3 u0 u1 D3 b3 => ?_⟩
 refine ixT_all (fun x => ∃ y : Int, x = wi y /\ (y < 0 \/ (i : Int) <= y) /\ y.natAbs <= 100) (by lia) (by show u < ((4 : Nat) : Int); lia) (fun x hx => ?_) ?_
 · simp only [List.mem_cons, List.not_mem_nil, or_false] at hx
   rcases hx with rfl | rfl | rfl | rfl
   all_goals exact ⟨_, rfl, by lia, by lia⟩
 rintro x ⟨ou, rfl, ou1, ou2⟩
 have b4 := NB.trans (NB.trans b1 b2) b3
 dsimp? []
 intro t ht
 generalize hg : (if (i : Int) - 1 > 0 then (i : Int) - 1 else 0) = g
 have g1 : g.natAbs <= 100 := by subst hg; split <;> lia
 have Dt := D3.put (o := .lst (([.oth s 0, .mem be, .join ou g, .join g ou, .times ou 2] : List Zl).map zW)) ht
 have hM4 : um M3 t (.lst (([.oth s 0, .mem be, .join ou g, .join g ou, .times ou 2] : List Zl).map zW)) t = some (.lst (([.oth s 0, .mem be, .join ou g, .join g ou, .times ou 2] : List Zl).map zW)) := um_same
 have hkp : ∀ c o, c ≠ d -> M c = some o -> um M3 t (.lst (([.oth s 0, .mem be, .join ou g, .join g ou, .times ou 2] : List Zl).map zW)) c = some o := fun c o h1 h2 => (sm_um ht) _ _ ((b4 c h1).trans h2)
 change hold _ _ (um M3 t (.lst (([.oth s 0, .mem be, .join ou g, .join g ou, .times ou 2] : List Zl).map zW)))
 generalize um M3 t (.lst (([.oth s 0, .mem be, .join ou g, .join g ou, .times ou 2] : List Zl).map zW)) = M4 at Dt hM4 hkp ⊢
 have hall : ∀ z ∈ ([.oth s 0, .mem be, .join ou g, .join g ou, .times ou 2] : List Zl), ¬ZOk m i z /\ ZSm z /\ (∀ a n, z = .times a n -> n.natAbs <= 400) := by
   intro z hz
   simp only [List.mem_cons, List.not_mem_nil, or_false] at hz
   rcases hz with rfl | rfl | rfl | rfl | rfl
   · exact ⟨id, hs, fun _ _ h => nomatch h⟩
   · exact ⟨fun h => by have h1 := h.1; have h2 := h.2; lia, (by show be.natAbs <= 1000; lia), fun _ _ h => nomatch h⟩
   · exact ⟨fun h => by have h1 := h.1.1; have h2 := h.1.2; lia, ⟨by lia, by lia⟩, fun _ _ h => nomatch h⟩
   · exact ⟨fun h => by have h1 := h.2.1; have h2 := h.2.2; lia, ⟨by lia, by lia⟩, fun _ _ h => nomatch h⟩
   · exact ⟨fun h => by have h1 := h.1; have h2 := h.2; lia, ⟨by lia, by lia⟩, fun _ _ h => by cases h; lia⟩
 have hlen5 : ([.oth s 0, .mem be, .join ou g, .join g ou, .times ou 2] : List Zl).length = 5 := rfl
 generalize ([.oth s 0, .mem be, .join ou g, .join g ou, .times ou 2] : List Zl) = L at hM4 hall hlen5
 dsimp? []
 refine ⟨d, l, 5, rfl, Dt, by decide, by decide, fun r M5 r0 r1 D5 b5 => ?_⟩
 have hM5 := (b5 t (D3.ne ht).1).trans hM4
 obtain ⟨r, rfl⟩ := Int.eq_ofNat_of_zero_le r0
 obtain ⟨z, hz⟩ : ∃ z, L[r]? = some z := ⟨_, List.getElem?_eq_getElem (by lia)⟩
 have hat : atI (L.map zW) (r : Int) = some (zW z) := atI_nat (by rw [List.getElem?_map, hz]; rfl)
 obtain ⟨z1, z2, z3⟩ := hall z (List.mem_of_getElem? hz)
 dsimp? [hM5, hat]
 exact exM (k z M5 z1 z2 z3 D5 fun c o h1 h2 => (b5 c h1).trans (hkp c o h1 h2))
end
end K25
open PySem L2 WL WP WQ PyProof.Rows
namespace K25
open PySem L2 WL WP WQ PyProof.Rows
section
variable {P : Program} {w : World} {K : PySem.W.Frag} {mg : Str -> Option Value} {base : Heap} {A : Adr}
noncomputable def pLLine : WSp := fun xs M q => ∃ (p : Int) (A B : Addr) (ms acc : List WQ.Rd) (z : Zl), xs = [wi p, wr A, wr B, zW z] /\ 0 < p /\ p < 1000 /\ M A = some (.lst (ms.map rdW)) /\ M B = some (.lst (acc.map rdW)) /\ (∀ r ∈ acc, RB p 200 r) /\
 (∀ a n, z = .times a n -> n.natAbs <= 400) /\ ZOk ms.length acc.length z /\ ∀ r M', ZEv p ms acc z r -> (∀ a n, z = .times a n -> ∀ x, acc[a.toNat]? = some x -> r.2.length <= x.2.length * max 1 n.natAbs) -> Sm M M' -> q (rdW r) M'
theorem ok_l_line (T : Txt K mg A) : FnOk P w K mg base CX0 5 A.f_l_line A.d_l_line ["_law_p_here", "_law_members", "_law_made", "_law_line_here"] (spW K pLLine) := by
 have G_l_int := ok_l_int (P := P) (w := w) (base := base) T
 have G_l_join := ok_l_join (P := P) (w := w) (base := base) T
 have G_l_times := ok_l_times (P := P) (w := w) (base := base) T
 refine okS T.l_line.fn sc_l_line (by rintro vs M q ⟨p, a, b, ms, acc, z, rfl, _⟩; rfl) fun cdv A' outer s H E hr => ?_
 have nd := sc_l_line.nd
 refine ⟨_, (pss_cons (ps_if (pw_or (pt_not (@pt_val _ _ _ (@pe_callB _ _ _ _ _ _ _ _ _ call_isX (by rfl) T.b_isinstance Boot.«isinstance» (@pa_cons _ _ _ _ _ (pv 3) (@pa_cons _ _ _ _ _ (@pe_bltn _ _ _ _ _ (by rfl) T.b_tuple Boot.«tuple» (show RelV (.ty "tuple") _ from rfl) (by decide) (by decide)) pa_nil (by rfl)) (by rfl)) (by decide) (by decide) (by rfl) (by rfl)) (by intro _; rfl))) (pw_or (pt_cmpR op_eq (@pe_callB _ _ _ _ _ _ _ _ _ call_lenW (by rfl) T.b_len Boot.«len» (@pa_cons _ _ _ _ _ (pv 3) pa_nil (by rfl)) (by decide) (by decide) (by rfl) (by rfl)) pe_int (@nomark _ _ (by decide) (by decide))) (pw_or1 (pt_not (@pt_val _ _ _ (@pe_callB _ _ _ _ _ _ _ _ _ call_isX (by rfl) T.b_isinstance Boot.«isinstance» (@pa_cons _ _ _ _ _ (pe_ix ix_tup (pv 3) pe_int (fun _ _ => rfl)) (@pa_cons _ _ _ _ _ (@pe_bltn _ _ _ _ _ (by rfl) T.b_str Boot.«str» (show RelV (.ty "str") _ from rfl) (by decide) (by decide)) pa_nil (by rfl)) (by rfl)) (by decide) (by decide) (by rfl) (by rfl)) (by intro _; rfl)))))).pt (pss_one (ps_ret pe_non)) pss_nil) (pss_cons (ps_if (pt_not (@pt_val _ _ _ (@pe_callB _ _ _ _ _ _ _ _ _ (call_allW rfl) (by rfl) T.b_all Boot.«all» (@pa_cons _ _ _ _ _ (@pe_comp _ _ _ _ _ _ _ _ _ _ _ _ _ _ rfl (CScope.of (sc := defScope s_l_line) (N := ["_law_p_here", "_law_members", "_law_made", "_law_line_here"]) (own := ["_law_number"]) (fr := []) (N' := ["_law_number"]) rfl rfl rfl (by decide +kernel) rfl (by decide +kernel) (by decide +kernel) (by decide +kernel) (by decide +kernel) (by decide +kernel)) (pi_tup (pe_slice sl_tupA (pv 3) (po_some pe_int) po_none)) (fun _ _ _ _ => (@pg_name _ _ (0) _ (by show (["_law_number"] : List Str).Nodup ; decide +kernel) rfl (by first | exact Or.inl rfl | exact Or.inr rfl) (by first | exact .inl rfl | exact .inr rfl | assumption))) capg_name (fun _ _ _ _ => pts_nil) (fun _ _ _ _ => (@pe_callF _ _ _ _ _ _ _ _ _ _ _ _ _ T.l_int G_l_int (hr.mono (by decide)) (by rfl) (@pa_cons _ _ _ _ _ (pv 0) pa_nil (by rfl)) (by decide) (by rfl) (by rfl))) (by intro _; rfl)) pa_nil (by rfl)) (by decide) (by decide) (by rfl) (by rfl)) (by intro _; rfl))) (pss_one (ps_ret pe_non)) pss_nil) (pss_cons (ps_if (pt_cmpR (op_eqD hr.u60) (pv 3) (pe_tup (@pa_cons _ _ _ _ _ pe_str pa_nil (by rfl))) (@nomark _ _ (by decide) (by decide))) (pss_one (ps_ret (pe_tup (@pa_cons _ _ _ _ _ pe_int (@pa_cons _ _ _ _ _ (pe_tup pa_nil) pa_nil (by rfl)) (by rfl))))) pss_nil) (pss_cons (ps_if (pw_and (pt_cmpR op_eq (pe_ix ix_tup (pv 3) pe_int (fun _ _ => rfl)) pe_str (@nomark _ _ (by decide) (by decide))) (pw_and (pt_cmpR op_eq (@pe_callB _ _ _ _ _ _ _ _ _ call_lenW (by rfl) T.b_len Boot.«len» (@pa_cons _ _ _ _ _ (pv 3) pa_nil (by rfl)) (by decide) (by decide) (by rfl) (by rfl)) pe_int (@nomark _ _ (by decide) (by decide))) (pw_and1 (@pt_chain _ _ _ _ _ _ _ _ _ _ _ _ op_le op_lt pe_int (pe_ix ix_tup (pv 3) pe_int (fun _ _ => rfl)) (@pe_callB _ _ _ _ _ _ _ _ _ call_lenW (by rfl) T.b_len Boot.«len» (@pa_cons _ _ _ _ _ (pv 1) pa_nil (by rfl)) (by decide) (by decide) (by rfl) (by rfl)) (by with_unfolding_all rfl))))).pt (pss_one (ps_ret (pe_ix ix_list (pv 1) (pe_ix ix_tup (pv 3) pe_int (fun _ _ => rfl)) (fun _ _ => rfl)))) pss_nil) (pss_cons (ps_if (pw_or (pt_cmpR op_ne (@pe_callB _ _ _ _ _ _ _ _ _ call_lenW (by rfl) T.b_len Boot.«len» (@pa_cons _ _ _ _ _ (pv 3) pa_nil (by rfl)) (by decide) (by decide) (by rfl) (by rfl)) pe_int (@nomark _ _ (by decide) (by decide))) (pw_or1 (pt_not (@pt_chain _ _ _ _ _ _ _ _ _ _ _ _ op_le op_lt pe_int (pe_ix ix_tup (pv 3) pe_int (fun _ _ => rfl)) (@pe_callB _ _ _ _ _ _ _ _ _ call_lenW (by rfl) T.b_len Boot.«len» (@pa_cons _ _ _ _ _ (pv 2) pa_nil (by rfl)) (by decide) (by decide) (by rfl) (by rfl)) (by with_unfolding_all rfl))))).pt (pss_one (ps_ret pe_non)) pss_nil) (pss_cons (ps_if (pw_and (pt_cmpR op_eq (pe_ix ix_tup (pv 3) pe_int (fun _ _ => rfl)) pe_str (@nomark _ _ (by decide) (by decide))) (pw_and1 (@pt_chain _ _ _ _ _ _ _ _ _ _ _ _ op_le op_lt pe_int (pe_ix ix_tup (pv 3) pe_int (fun _ _ => rfl)) (@pe_callB _ _ _ _ _ _ _ _ _ call_lenW (by rfl) T.b_len Boot.«len» (@pa_cons _ _ _ _ _ (pv 2) pa_nil (by rfl)) (by decide) (by decide) (by rfl) (by rfl)) (by with_unfolding_all rfl)))).pt (pss_one (ps_ret (@pe_callF _ _ _ _ _ _ _ _ _ _ _ _ _ T.l_join G_l_join (hr.mono (by decide)) (by rfl) (@pa_cons _ _ _ _ _ (pv 0) (@pa_cons _ _ _ _ _ (pe_ix ix_list (pv 2) (pe_ix ix_tup (pv 3) pe_int (fun _ _ => rfl)) (fun _ _ => rfl)) (@pa_cons _ _ _ _ _ (pe_ix ix_list (pv 2) (pe_ix ix_tup (pv 3) pe_int (fun _ _ => rfl)) (fun _ _ => rfl)) pa_nil (by rfl)) (by rfl)) (by rfl)) (by decide) (by rfl) (by rfl)))) pss_nil) (pss_cons (ps_if (pw_and (pt_cmpR op_eq (pe_ix ix_tup (pv 3) pe_int (fun _ _ => rfl)) pe_str (@nomark _ _ (by decide) (by decide))) (pw_and1 (pt_cmpR op_le (@pe_callB _ _ _ _ _ _ _ _ _ call_absW (by rfl) T.b_abs Boot.«abs» (@pa_cons _ _ _ _ _ (pe_ix ix_tup (pv 3) pe_int (fun _ _ => rfl)) pa_nil (by rfl)) (by decide) (by decide) (by rfl) (by rfl)) pe_int (@nomark _ _ (by decide) (by decide))))).pt (pss_one (ps_ret (@pe_callF _ _ _ _ _ _ _ _ _ _ _ _ _ T.l_times G_l_times (hr.mono (by decide)) (by rfl) (@pa_cons _ _ _ _ _ (pv 0) (@pa_cons _ _ _ _ _ (pe_ix ix_list (pv 2) (pe_ix ix_tup (pv 3) pe_int (fun _ _ => rfl)) (fun _ _ => rfl)) (@pa_cons _ _ _ _ _ (pe_ix ix_tup (pv 3) pe_int (fun _ _ => rfl)) pa_nil (by rfl)) (by rfl)) (by rfl)) (by decide) (by rfl) (by rfl)))) pss_nil) (pss_one (ps_ret pe_non))))))))), ?_⟩
 try dsimp only [cxOf]
 refine ⟨_, inferInstance, ?_⟩
 rintro vs M q ⟨p, a, b, ms, acc, z, rfl, p0, p1, ha, hb, hacc, hn, hok, k⟩
 have c10 : decide (((1 : Nat) : Int) = 0) = false := by decide
 have c20 : decide (((2 : Nat) : Int) = 0) = false := by decide
 have c30 : decide (((3 : Nat) : Int) = 0) = false := by decide
 have c22 : decide (((2 : Nat) : Int) = 2) = true := by decide
 have c33 : decide (((3 : Nat) : Int) = 3) = true := by decide
 have allI : ∀ (l : List Int) (x3 : W) (q' : WK), l.length <= 10 -> (∀ t M1, Sm M M1 -> M1 t = some (.lst (l.map fun _ => wb true)) -> q' (wr t) M1) -> compK (l.map wi) (fun _ => True) 1 [] (vName 0) wYes (wCall pInt (wCons (wVar 0) wNil)) [some (wi p), some (wr a), some (wr b), some x3] M q' := by
   intro l x3 q' hl kk
   refine comp_all (fun _ : Int => wb true) (big (by lia)) (fun _ _ => trivial) ?_ fun t ht => ?_
   · intro y hy M6 N6 s6 hN6
     simp? [↓sSeq_e]
     exact ⟨y, rfl, hN6⟩
   · exact kk t _ (sm_um ht) um_same
 cases z with
 | rest =>
   dsimp? [zW, c10]
   rw [show cutW [ws "rest"] (some 1) none = ([] : List Int).map wi from rfl]
   refine allI [] _ _ (by simp) fun t M1 sM h1 => ?_
   refine wAll_e (bs := []) h1 ?_
   dsimp? [Bool.not_true, List.all_cons, List.all_nil, id, Bool.and_true]
   refine eq_dat (d := .tup [.str "rest"]) (.inl rfl) (.inl rfl) (by decide) rfl ?_
   dsimp? []
   exact exM (k (0, []) M1 rfl (fun _ _ h => nomatch h) sM)
 | mem c =>
   obtain ⟨r0, r1⟩ := hok
   obtain ⟨c, rfl⟩ := Int.eq_ofNat_of_zero_le r0
   obtain ⟨r, hr⟩ : ∃ r, ms[c]? = some r := ⟨_, List.getElem?_eq_getElem (by lia)⟩
   have hat : atI (ms.map rdW) (c : Int) = some (rdW r) := atI_nat (by rw [List.getElem?_map, hr]; rfl)
   have e1 : decide ((0 : Int) <= (c : Int)) = true := decide_eq_true r0
   have e2 : decide ((c : Int) < (ms.length : Int)) = true := decide_eq_true r1
   dsimp? [zW, c20]
   rw [show cutW [ws "member", wi (c : Int)] (some 1) none = ([(c : Int)] : List Int).map wi from rfl]
   refine allI [(c : Int)] _ _ (by simp) fun t M1 sM h1 => ?_
   have ha1 := sM _ _ ha
   refine wAll_e (bs := [true]) h1 ?_
   dsimp? [Bool.not_true, List.all_cons, List.all_nil, id, Bool.and_true]
   refine ⟨.tup [.str "member", .int c], .tup [.str "rest"], .inl rfl, .inl rfl, rfl, Nat.le_of_ble_eq_true rfl, ?_⟩
   have hne : eqD (.tup [.str "member", .int c]) (.tup [.str "rest"]) = false := rfl
   dsimp? [hne]
   dsimp? [decide_true, decide_false, x_member_member, c22, ha1, List.length_map, e1, e2, hat]
   exact exM (k r M1 hr (fun _ _ h => nomatch h) sM)
 | join c e =>
   obtain ⟨⟨c0, c1⟩, d0, d1⟩ := hok
   obtain ⟨c, rfl⟩ := Int.eq_ofNat_of_zero_le c0
   obtain ⟨e, rfl⟩ := Int.eq_ofNat_of_zero_le d0
   obtain ⟨x, hx⟩ : ∃ r, acc[c]? = some r := ⟨_, List.getElem?_eq_getElem (by lia)⟩
   obtain ⟨y, hy⟩ : ∃ r, acc[e]? = some r := ⟨_, List.getElem?_eq_getElem (by lia)⟩
   have hat : atI (acc.map rdW) (c : Int) = some (rdW x) := atI_nat (by rw [List.getElem?_map, hx]; rfl)
   have hat2 : atI (acc.map rdW) (e : Int) = some (rdW y) := atI_nat (by rw [List.getElem?_map, hy]; rfl)
   have e1 : decide ((0 : Int) <= (c : Int)) = true := decide_eq_true c0
   have e2 : decide ((c : Int) < (acc.length : Int)) = true := decide_eq_true c1
   have e3 : decide ((0 : Int) <= (e : Int)) = true := decide_eq_true d0
   have e4 : decide ((e : Int) < (acc.length : Int)) = true := decide_eq_true d1
   have hX := hacc x (List.mem_of_getElem? hx)
   have hY := hacc y (List.mem_of_getElem? hy)
   dsimp? [zW, c30]
   rw [show cutW [ws "join", wi (c : Int), wi (e : Int)] (some 1) none = ([(c : Int), (e : Int)] : List Int).map wi from rfl]
   refine allI [(c : Int), (e : Int)] _ _ (by simp) fun t M1 sM h1 => ?_
   have hb1 := sM _ _ hb
   refine wAll_e (bs := [true, true]) h1 ?_
   dsimp? [Bool.not_true, List.all_cons, List.all_nil, id, Bool.and_true]
   refine ⟨.tup [.str "join", .int c, .int e], .tup [.str "rest"], .inl rfl, .inl rfl, rfl, Nat.le_of_ble_eq_true rfl, ?_⟩
   have hne : eqD (.tup [.str "join", .int c, .int e]) (.tup [.str "rest"]) = false := rfl
   dsimp? [hne]
   dsimp? [decide_true, decide_false, x_join_member, x_join_join, c33, Bool.not_true, hb1, List.length_map, e1, e2, e3, e4, hat, hat2]
   refine ⟨p, x, y, rfl, p0, few, Nat.le_trans hX.2 (by decide), Nat.le_trans hY.2 (by decide), small_of hY.1 p1, ?_⟩
   dsimp? []
   exact exM (k _ M1 ⟨x, y, hx, hy, rfl⟩ (fun _ _ h => nomatch h) sM)
 | times c n =>
   obtain ⟨c0, c1⟩ := hok
   obtain ⟨c, rfl⟩ := Int.eq_ofNat_of_zero_le c0
   obtain ⟨x, hx⟩ : ∃ r, acc[c]? = some r := ⟨_, List.getElem?_eq_getElem (by lia)⟩
   have hat : atI (acc.map rdW) (c : Int) = some (rdW x) := atI_nat (by rw [List.getElem?_map, hx]; rfl)
   have e1 : decide ((0 : Int) <= (c : Int)) = true := decide_eq_true c0
   have e2 : decide ((c : Int) < (acc.length : Int)) = true := decide_eq_true c1
   have hX := hacc x (List.mem_of_getElem? hx)
   have h4 := hn _ _ rfl
   have habs : decide ((if n < 0 then -n else n) <= 100000) = true := decide_eq_true (by split <;> lia)
   dsimp? [zW, c30]
   rw [show cutW [ws "times", wi (c : Int), wi n] (some 1) none = ([(c : Int), n] : List Int).map wi from rfl]
   refine allI [(c : Int), n] _ _ (by simp) fun t M1 sM h1 => ?_
   have hb1 := sM _ _ hb
   refine wAll_e (bs := [true, true]) h1 ?_
   dsimp? [Bool.not_true, List.all_cons, List.all_nil, id, Bool.and_true]
   refine ⟨.tup [.str "times", .int c, .int n], .tup [.str "rest"], .inl rfl, .inl rfl, rfl, Nat.le_of_ble_eq_true rfl, ?_⟩
   have hne : eqD (.tup [.str "times", .int c, .int n]) (.tup [.str "rest"]) = false := rfl
   dsimp? [hne]
   dsimp? [decide_true, decide_false, x_times_member, x_times_join, x_times_times, c33, Bool.not_true, hb1, List.length_map, e1, e2, habs, hat]
   refine ⟨p, x, n, rfl, p0, p1, hX.1, Nat.le_trans hX.2 (by decide), fun _ => ⟨by lia, by lia, Nat.le_trans (Nat.mul_le_mul hX.2 h4) (by decide)⟩, fun r hr b1 b2 => ?_⟩
   dsimp? []
   refine exM (k r M1 ⟨x, hx, hr⟩ (fun c' n' h x' hx' => ?_) sM)
   cases h
   have hxx : acc[(c : Int).toNat]? = some x := hx
   rw [hxx] at hx'; cases hx'
   by_cases h0 : x.1 = 0
   · refine Nat.le_trans (b1 h0) ?_
     have : x.2.length * 1 <= x.2.length * max 1 n.natAbs := Nat.mul_le_mul_left _ (by lia)
     lia
   · exact Nat.le_trans (b2 h0) (Nat.mul_le_mul_left _ (by lia))
 | oth s c => exact hok.elim
end
end K25
open PySem L2 WL WP WQ PyProof.Rows
namespace K25
open PySem L2 WL WP WQ PyProof.Rows
section
variable {P : Program} {w : World} {K : PySem.W.Frag} {mg : Str -> Option Value} {base : Heap} {A : Adr}
noncomputable def pLLines : WSp := fun xs M q => ∃ (p : Int) (A B : Addr) (ms : List WQ.Rd) (zs : List Zl) (sz : List Nat), xs = [wi p, wr A, wr B] /\ 0 < p /\ p < 1000 /\ M A = some (.lst (ms.map rdW)) /\ M B = some (.lst (zs.map zW)) /\ zs.length <= 100 /\
 (∀ r ∈ ms, RB p 3 r) /\ (∀ z ∈ zs, ∀ a n, z = .times a n -> n.natAbs <= 400) /\ sz.length = zs.length /\
 (∀ i z, zs[i]? = some z -> ZOk ms.length i z /\ sz.getD i 0 = zsz (sz.take i) z /\ (i + 1 < zs.length -> sz.getD i 0 <= 60)) /\
 ∀ u M' rs, M u = none -> Sm M M' -> M' u = some (.lst (rs.map rdW)) -> ZAll p ms zs rs -> q (wr u) M'
theorem ok_l_lines (T : Txt K mg A) : FnOk P w K mg base CX0 6 A.f_l_lines A.d_l_lines ["_law_p_here", "_law_members", "_law_lines_here"] (spW K pLLines) := by
 have G_l_line := ok_l_line (P := P) (w := w) (base := base) T
 refine okS T.l_lines.fn sc_l_lines (by rintro vs M q ⟨p, a, b, ms, zs, sz, rfl, _⟩; rfl) fun cdv A' outer s H E hr => ?_
 have nd := sc_l_lines.nd
 refine ⟨_, (pss_cons (ps_if (pt_not (@pt_val _ _ _ (@pe_callB _ _ _ _ _ _ _ _ _ call_isX (by rfl) T.b_isinstance Boot.«isinstance» (@pa_cons _ _ _ _ _ (pv 2) (@pa_cons _ _ _ _ _ (@pe_bltn _ _ _ _ _ (by rfl) T.b_list Boot.«list» (show RelV (.ty "list") _ from rfl) (by decide) (by decide)) pa_nil (by rfl)) (by rfl)) (by decide) (by decide) (by rfl) (by rfl)) (by intro _; rfl))) (pss_one (ps_ret (pe_lst pa_nil))) pss_nil) (pss_cons (@ps_set _ _ (3) _ _ _ _ nd rfl (by first | exact Or.inl rfl | exact Or.inr rfl) (pe_lst pa_nil) (by rfl) (by first | exact .inl rfl | exact .inr rfl | assumption)) (pss_cons (@ps_for _ _ _ _ _ _ _ _ PassesOwn.never rfl (pi_list (pv 2)) (@pg_name _ _ (4) _ nd rfl (by first | exact Or.inl rfl | exact Or.inr rfl) (by first | exact .inl rfl | exact .inr rfl | assumption)) (pss_cons (@ps_set _ _ (5) _ _ _ _ nd rfl (by first | exact Or.inl rfl | exact Or.inr rfl) (@pe_callF _ _ _ _ _ _ _ _ _ _ _ _ _ T.l_line G_l_line (hr.mono (by decide)) (by rfl) (@pa_cons _ _ _ _ _ (pv 0) (@pa_cons _ _ _ _ _ (pv 1) (@pa_cons _ _ _ _ _ (pv 3) (@pa_cons _ _ _ _ _ (pv 4) pa_nil (by rfl)) (by rfl)) (by rfl)) (by rfl)) (by decide) (by rfl) (by rfl)) (by rfl) (by first | exact .inl rfl | exact .inr rfl | assumption)) (pss_cons (ps_if (pt_cmpR op_isNW (pv 5) pe_non (@nomark _ _ (by decide) (by decide))) (pss_one (ps_ret (pe_lst pa_nil))) pss_nil) (pss_one (@ps_expr _ _ _ _ (@pe_bm _ _ _ _ _ _ _ _ _ _ _ _ PySem.F.plainAttrs_list PySem.F.slot_list_append PySem.F.type_list_append mt_append (pv 3) (@pa_cons _ _ _ _ _ (pv 5) pa_nil (by rfl)) (by rfl) (by rfl) (by rfl) (by rfl) (by rfl)) (by rfl))))) (by intro _; rfl)) (pss_one (ps_ret (pv 3)))))), ?_⟩
 try dsimp only [cxOf]
 refine ⟨_, inferInstance, ?_⟩
 rintro vs M q ⟨p, a, b, ms, zs, sz, rfl, p0, p1, ha, hb, hl, hms, hnn, hsz, hok, kq⟩
 dsimp? [hb, Bool.not_true]
 intro u hu
 have nau : a ≠ u := m_ne ha hu
 have nbu : b ≠ u := m_ne hb hu
 dsimp? [um_ne nbu, hb]
 refine for_i (fun i ρ M' => ∃ (o4 o5 : Option W) (rs : List WQ.Rd), ρ = [some (wi p), some (wr a), some (wr b), some (wr u), o4, o5] /\ M' u = some (.lst (rs.map rdW)) /\ ZAll p ms (zs.take i) rs /\ RBs p rs (sz.take i) /\ Sm M M')
   ⟨none, none, [], rfl, um_same, ZAll.nil, ⟨rfl, fun i r h => by cases h⟩, sm_um hu⟩ (fun i ρ M' _ ⟨_, _, _, _, _, _, _, sM⟩ => sM _ _ hb) ?_ ?_
 · rintro i x ρ M' hx ⟨o4, o5, rs, rfl, hu1, hall, hrb, sM⟩ N hN
   obtain ⟨z, hz, rfl⟩ := map_at hx
   have hil := (List.getElem?_eq_some_iff.mp hz).1
   have hrl : rs.length = i := by rw [hall.1, List.length_take]; lia
   have hzm := List.mem_of_getElem? hz
   have hget : ∀ j, j < i -> (sz.take i).getD j 0 = sz.getD j 0 := fun j hj => by
     rw [List.getD_eq_getElem?_getD, List.getElem?_take, if_pos hj, <- List.getD_eq_getElem?_getD]
   have hbd : ∀ r ∈ rs, RB p 200 r := by
     intro r hr
     obtain ⟨j, hj⟩ := List.mem_iff_getElem?.mp hr
     have hji : j < i := by have := (List.getElem?_eq_some_iff.mp hj).1; lia
     obtain ⟨h1, h2⟩ := hrb.2 j r hj
     rw [hget j hji] at h2
     obtain ⟨y, hy⟩ : ∃ y, zs[j]? = some y := ⟨_, List.getElem?_eq_getElem (by lia)⟩
     have h3 := (hok j y hy).2.2 (by lia)
     exact ⟨h1, by lia⟩
   obtain ⟨e1, e2, _⟩ := hok i z hz
   dsimp? []
   refine ⟨p, a, u, ms, rs, z, rfl, p0, p1, sM _ _ ha, hu1, hbd, hnn z hzm, by rw [hrl]; exact e1, fun r M2 hr hlen s2 => ?_⟩
   have hlen2 : ((rs.map rdW).length < sizeLine) = True := eq_true (bigL (by rw [List.length_map]; lia))
   have hu2 := s2 _ _ hu1
   dsimp? []
   refine ⟨rfl, ?_⟩
   have hnw : nonW (rdW r) = false := rfl
   dsimp? [hnw]
   dsimp? [hu2, hlen2]
   have et : zs.take (i + 1) = zs.take i ++ [z] := by rw [List.take_add_one, hz]; rfl
   have es : sz.take (i + 1) = sz.take i ++ [zsz (sz.take i) z] := by
     rw [List.take_add_one, <- e2, List.getD_eq_getElem?_getD, List.getElem?_eq_getElem (by lia)]; rfl
   refine hN _ _ ⟨_, _, rs ++ [r], rfl, ?_, ?_, ?_, fun c o h => by rw [um_ne (m_ne h hu)]; exact s2 _ _ (sM c o h)⟩
   · rw [um_same, List.map_append]; rfl
   · rw [et]; exact hall.snoc hr
   · rw [es]; exact hrb.snoc (hrb.step p0 hms hr hlen)
 · rintro ρ M' ⟨o4, o5, rs, rfl, hu1, hall, hrb, sM⟩
   rw [List.length_map, List.take_length] at hall
   dsimp only
   dsimp? []
   exact exM (kq u M' rs hu sM hu1 hall)
end
end K25
open PySem L2 WL WP WQ PyProof.Rows
namespace K25
open PySem L2 WL WP WQ PyProof.Rows
section
variable {P : Program} {w : World} {K : PySem.W.Frag} {mg : Str -> Option Value} {base : Heap} {A : Adr}
structure Gd (m : Nat) (zs : List Zl) (sz : List Nat) : Prop where
 len : sz.length = zs.length
 ok : ∀ i z, zs[i]? = some z -> ZOk m i z /\ sz.getD i 0 = zsz (sz.take i) z /\ (i + 1 < zs.length -> sz.getD i 0 <= 60) /\ sz.getD i 0 <= 600
 sm : ∀ z ∈ zs, ZSm z
 tm : ∀ z ∈ zs, ∀ a n, z = .times a n -> n.natAbs <= 400
theorem Gd.nil {m : Nat} : Gd m [] [] := ⟨rfl, fun i z h => by (simp at h), fun z h => by (simp at h), fun z h => by (simp at h)⟩
theorem Gd.snoc {m : Nat} {zs : List Zl} {sz : List Nat} (h : Gd m zs sz) (h60 : ∀ n ∈ sz, n <= 60) {z : Zl} (z1 : ZOk m zs.length z) (z2 : ZSm z) (z3 : ∀ a n, z = .times a n -> n.natAbs <= 400) (z4 : zsz sz z <= 600) : Gd m (zs ++ [z]) (sz ++ [zsz sz z]) := by
 refine ⟨by rw [List.length_append, List.length_append, h.len]; rfl, fun i y hy => ?_, fun y hy => ?_, fun y hy => ?_⟩
 · by_cases hi : i < zs.length
   · rw [List.getElem?_append_left hi] at hy
     obtain ⟨o1, o2, o3, o4⟩ := h.ok i y hy
     have hg : (sz ++ [zsz sz z]).getD i 0 = sz.getD i 0 := by
       rw [List.getD_eq_getElem?_getD, List.getElem?_append_left (by rw [h.len]; exact hi), <- List.getD_eq_getElem?_getD]
     have hx : sz.getD i 0 <= 60 := by
       rw [List.getD_eq_getElem?_getD, List.getElem?_eq_getElem (by rw [h.len]; exact hi)]
       exact h60 _ (List.getElem_mem _)
     rw [hg, List.take_append_of_le_length (by rw [h.len]; lia)]
     exact ⟨o1, o2, fun _ => hx, o4⟩
   · have hil := (List.getElem?_eq_some_iff.mp hy).1
     rw [List.length_append] at hil
     have hie : i = zs.length := by (simp at hil; lia)
     subst hie
     rw [List.getElem?_append_right (Nat.le_refl _), Nat.sub_self] at hy
     cases hy
     have hg : (sz ++ [zsz sz z]).getD zs.length 0 = zsz sz z := by
       rw [List.getD_eq_getElem?_getD, List.getElem?_append_right (by rw [h.len]; exact Nat.le_refl _), h.len, Nat.sub_self]; rfl
     rw [hg, List.take_append_of_le_length (by rw [h.len]; exact Nat.le_refl _), List.take_of_length_le (by rw [h.len]; exact Nat.le_refl _)]
     exact ⟨z1, rfl, fun hh => by (rw [List.length_append] at hh; simp at hh), z4⟩
 · rcases List.mem_append.mp hy with hy | hy
   · exact h.sm y hy
   · rw [List.mem_singleton.mp hy]; exact z2
 · rcases List.mem_append.mp hy with hy | hy
   · exact h.tm y hy
   · rw [List.mem_singleton.mp hy]; exact z3
structure Lw (c a b d l : Addr) (M : Mp) (ms : List WQ.Rd) (zs : List Zl) (sz : List Nat) : Prop where
 c : M c = some (.lst (ms.map rdW))
 a : M a = some (.lst (zs.map zW))
 b : M b = some (.lst (szW sz))
 dr : Dr M d l
theorem Lw.nb {c a b d l : Addr} {M M' : Mp} {ms : List WQ.Rd} {zs : List Zl} {sz : List Nat} (h : Lw c a b d l M ms zs sz) (nC : c ≠ d) (nA : a ≠ d) (nB : b ≠ d) (k : NB d M M') (D : Dr M' d l) : Lw c a b d l M' ms zs sz :=
 ⟨(k c nC).trans h.c, (k a nA).trans h.a, (k b nB).trans h.b, D⟩
noncomputable def Wp (m : Nat) (zs : List Zl) (bh : Bool) : Prop := (∀ z ∈ zs, ZSm z) /\ (∀ z ∈ zs, ∀ a n, z = .times a n -> n.natAbs <= 400) /\ ∃ (n : Nat) (sz : List Nat), n <= zs.length /\ sz.length = n /\
 (∀ i z, i < n -> zs[i]? = some z -> ZOk m i z /\ sz.getD i 0 = zsz (sz.take i) z /\ (i + 1 < zs.length -> sz.getD i 0 <= 60) /\ sz.getD i 0 <= 600) /\ (bh = true -> ∃ z, zs[n]? = some z /\ ¬ZOk m n z) /\ (bh = false -> n = zs.length)
theorem Gd.wp {m : Nat} {zs : List Zl} {sz : List Nat} (h : Gd m zs sz) : Wp m zs false := ⟨h.sm, h.tm, zs.length, sz, Nat.le_refl _, h.len, fun i z _ hz => h.ok i z hz, (by intro x; cases x), fun _ => rfl⟩
theorem Gd.bad {m k : Nat} {zs : List Zl} {sz : List Nat} (h : Gd m zs sz) (hk : k < zs.length) {z : Zl} (z1 : ¬ZOk m k z) (z2 : ZSm z) (z3 : ∀ a n, z = .times a n -> n.natAbs <= 400) : Wp m (zs.set k z) true := by
 refine ⟨fun y hy => ?_, fun y hy => ?_, k, sz.take k, by rw [List.length_set]; lia, by rw [List.length_take, h.len]; lia, fun i y hi hy => ?_, fun _ => ⟨z, by rw [List.getElem?_set_self hk], z1⟩, (by intro x; cases x)⟩
 · rcases List.mem_or_eq_of_mem_set hy with hy | rfl
   · exact h.sm y hy
   · exact z2
 · rcases List.mem_or_eq_of_mem_set hy with hy | rfl
   · exact h.tm y hy
   · exact z3
 · rw [List.getElem?_set_ne (by lia)] at hy
   have hg : (sz.take k).getD i 0 = sz.getD i 0 := by
     rw [List.getD_eq_getElem?_getD, List.getElem?_take, if_pos hi, <- List.getD_eq_getElem?_getD]
   have ht : (sz.take k).take i = sz.take i := by rw [List.take_take, Nat.min_eq_left (by lia)]
   rw [hg, ht, List.length_set]
   exact h.ok i y hy
noncomputable def rD (r : WQ.Rd) : Dt := .tup [.int r.1, patD r.2]
theorem dOf_r : dOfF rdW rD := fun r => dOf_rd r
theorem rD_dpt (r : WQ.Rd) : dpt (rD r) <= 3 := by
 have := dpts_pairs r.2
 have e : dpt (patD r.2) <= 2 := by unfold patD; rw [dpt]; lia
 unfold rD
 simp only [dpt, dpts]
 lia
noncomputable def zD : Zl -> Dt
 | .rest => .tup [.str "rest"]
 | .mem k => .tup [.str "member", .int k]
 | .join a b => .tup [.str "join", .int a, .int b]
 | .times a n => .tup [.str "times", .int a, .int n]
 | .oth s k => .tup [.str s, .int k]
theorem dOf_z : dOfF zW zD := fun l => by cases l <;> rfl
end
end K25
open PySem L2 WL WP WQ PyProof.Rows
namespace K25
open PySem L2 WL WP WQ PyProof.Rows
section
variable {P : Program} {w : World} {K : PySem.W.Frag} {mg : Str -> Option Value} {base : Heap} {A : Adr}
theorem ok_law (T : Txt K mg A) : FnOk P w K mg base CX0 8 A.f_law A.d_law ["_law_script"] (spLaw K) := by
 have G_l_begin := ok_l_begin (P := P) (w := w) (base := base) T
 have G_l_p := ok_l_p (P := P) (w := w) (base := base) T
 have G_l_take := ok_l_take (P := P) (w := w) (base := base) T
 have G_l_round := ok_l_round (P := P) (w := w) (base := base) T
 have G_worked := ok_worked (P := P) (w := w) (base := base) T
 have G_l_lines := ok_l_lines (P := P) (w := w) (base := base) T
 have G_l_draw_line := ok_l_draw_line (P := P) (w := w) (base := base) T
 have G_l_size_of := ok_l_size_of (P := P) (w := w) (base := base) T
 have G_l_bad := ok_l_bad (P := P) (w := w) (base := base) T
 have G_l_is_round := ok_l_is_round (P := P) (w := w) (base := base) T
 refine okLaw T.law.fn sc_law (by decide) fun cdv A' outer s H E hr => ?_
 have nd := sc_law.nd
 refine ⟨_, (pss_cons (@ps_set _ _ (1) _ _ _ _ nd rfl (by first | exact Or.inl rfl | exact Or.inr rfl) (@pe_callF _ _ _ _ _ _ _ _ _ _ _ _ _ T.l_begin G_l_begin (hr.mono (by decide)) (by rfl) (@pa_cons _ _ _ _ _ (pv 0) pa_nil (by rfl)) (by decide) (by rfl) (by rfl)) (by rfl) (by first | exact .inl rfl | exact .inr rfl | assumption)) (pss_cons (@ps_set _ _ (2) _ _ _ _ nd rfl (by first | exact Or.inl rfl | exact Or.inr rfl) (@pe_callF _ _ _ _ _ _ _ _ _ _ _ _ _ T.l_p G_l_p (hr.mono (by decide)) (by rfl) (@pa_cons _ _ _ _ _ (pv 1) pa_nil (by rfl)) (by decide) (by rfl) (by rfl)) (by rfl) (by first | exact .inl rfl | exact .inr rfl | assumption)) (pss_cons (@ps_setComp _ (3) _ _ _ _ _ _ _ _ _ _ _ _ _ _ _ _ rfl nd rfl (Or.inl rfl) (CScope.of (sc := defScope s_law) (N := ["_law_script", "_law_draw", "_law_p_here", "_law_members", "_law_lines_here", "_law_sizes", "_law_k", "_law_line_here", "_law_bad_here", "_law_at", "_law_handed", "_law_told", "_law_found", "e"]) (own := ["_law_k"]) (fr := [1, 2]) (N' := ["_law_k", "_law_draw", "_law_p_here"]) rfl rfl rfl (by decide +kernel) rfl (by decide +kernel) (by decide +kernel) (by decide +kernel) (by decide +kernel) (by decide +kernel)) (@pi_range1 _ _ _ _ _ _ (by rfl) T.b_range (@pa_cons _ _ _ _ _ (@pe_callF _ _ _ _ _ _ _ _ _ _ _ _ _ T.l_take G_l_take (hr.mono (by decide)) (by rfl) (@pa_cons _ _ _ _ _ (pv 1) (@pa_cons _ _ _ _ _ pe_int pa_nil (by rfl)) (by rfl)) (by decide) (by rfl) (by rfl)) pa_nil (by rfl)) (by rfl)) (fun _ _ _ _ => (@pg_name _ _ (0) _ (by show (["_law_k", "_law_draw", "_law_p_here"] : List Str).Nodup ; decide +kernel) rfl (by first | exact Or.inl rfl | exact Or.inr rfl) (by first | exact .inl rfl | exact .inr rfl | assumption))) capg_name (fun _ _ _ _ => pts_nil) (fun _ _ _ _ => (@pe_callF _ _ _ _ _ _ _ _ _ _ _ _ _ T.l_round G_l_round (hr.mono (by decide)) (by rfl) (@pa_cons _ _ _ _ _ (pv 1) (@pa_cons _ _ _ _ _ (pv 2) (@pa_cons _ _ _ _ _ pe_int (@pa_cons _ _ _ _ _ pe_int (@pa_cons _ _ _ _ _ pe_int pa_nil (by rfl)) (by rfl)) (by rfl)) (by rfl)) (by rfl)) (by decide) (by rfl) (by rfl))) rfl (by intro _; rfl) (by first | exact .inl rfl | exact .inr rfl | assumption)) (pss_cons (@ps_set _ _ (4) _ _ _ _ nd rfl (by first | exact Or.inl rfl | exact Or.inr rfl) (pe_lst pa_nil) (by rfl) (by first | exact .inl rfl | exact .inr rfl | assumption)) (pss_cons (@ps_set _ _ (5) _ _ _ _ nd rfl (by first | exact Or.inl rfl | exact Or.inr rfl) (pe_lst pa_nil) (by rfl) (by first | exact .inl rfl | exact .inr rfl | assumption)) (pss_cons (@ps_for _ _ _ _ _ _ _ _ PassesOwn.never rfl (@pi_range1 _ _ _ _ _ _ (by rfl) T.b_range (@pa_cons _ _ _ _ _ (@pe_callF _ _ _ _ _ _ _ _ _ _ _ _ _ T.l_take G_l_take (hr.mono (by decide)) (by rfl) (@pa_cons _ _ _ _ _ (pv 1) (@pa_cons _ _ _ _ _ pe_int pa_nil (by rfl)) (by rfl)) (by decide) (by rfl) (by rfl)) pa_nil (by rfl)) (by rfl)) (@pg_name _ _ (6) _ nd rfl (by first | exact Or.inl rfl | exact Or.inr rfl) (by first | exact .inl rfl | exact .inr rfl | assumption)) (pss_cons (@ps_set _ _ (7) _ _ _ _ nd rfl (by first | exact Or.inl rfl | exact Or.inr rfl) (@pe_callF _ _ _ _ _ _ _ _ _ _ _ _ _ T.l_draw_line G_l_draw_line (hr.mono (by decide)) (by rfl) (@pa_cons _ _ _ _ _ (pv 1) (@pa_cons _ _ _ _ _ (pv 5) (@pa_cons _ _ _ _ _ (@pe_callB _ _ _ _ _ _ _ _ _ call_lenW (by rfl) T.b_len Boot.«len» (@pa_cons _ _ _ _ _ (pv 3) pa_nil (by rfl)) (by decide) (by decide) (by rfl) (by rfl)) pa_nil (by rfl)) (by rfl)) (by rfl)) (by decide) (by rfl) (by rfl)) (by rfl) (by first | exact .inl rfl | exact .inr rfl | assumption)) (pss_cons (@ps_expr _ _ _ _ (@pe_bm _ _ _ _ _ _ _ _ _ _ _ _ PySem.F.plainAttrs_list PySem.F.slot_list_append PySem.F.type_list_append mt_append (pv 4) (@pa_cons _ _ _ _ _ (pv 7) pa_nil (by rfl)) (by rfl) (by rfl) (by rfl) (by rfl) (by rfl)) (by rfl)) (pss_one (@ps_expr _ _ _ _ (@pe_bm _ _ _ _ _ _ _ _ _ _ _ _ PySem.F.plainAttrs_list PySem.F.slot_list_append PySem.F.type_list_append mt_append (pv 5) (@pa_cons _ _ _ _ _ (@pe_callF _ _ _ _ _ _ _ _ _ _ _ _ _ T.l_size_of G_l_size_of (hr.mono (by decide)) (by rfl) (@pa_cons _ _ _ _ _ (pv 5) (@pa_cons _ _ _ _ _ (pv 7) pa_nil (by rfl)) (by rfl)) (by decide) (by rfl) (by rfl)) pa_nil (by rfl)) (by rfl) (by rfl) (by rfl) (by rfl) (by rfl)) (by rfl))))) (by intro _; rfl)) (pss_cons (ps_if (pw_and (pt_cmpR op_gt (@pe_callB _ _ _ _ _ _ _ _ _ call_lenW (by rfl) T.b_len Boot.«len» (@pa_cons _ _ _ _ _ (pv 3) pa_nil (by rfl)) (by decide) (by decide) (by rfl) (by rfl)) pe_int (@nomark _ _ (by decide) (by decide))) (pw_and1 (pt_cmpR op_eq (@pe_callF _ _ _ _ _ _ _ _ _ _ _ _ _ T.l_take G_l_take (hr.mono (by decide)) (by rfl) (@pa_cons _ _ _ _ _ (pv 1) (@pa_cons _ _ _ _ _ pe_int pa_nil (by rfl)) (by rfl)) (by decide) (by rfl) (by rfl)) pe_int (@nomark _ _ (by decide) (by decide))))).pt (pss_cons (@ps_expr _ _ _ _ (@pe_bm _ _ _ _ _ _ _ _ _ _ _ _ PySem.F.plainAttrs_list PySem.F.slot_list_append PySem.F.type_list_append mt_append (pv 4) (@pa_cons _ _ _ _ _ (pe_tup (@pa_cons _ _ _ _ _ pe_str (@pa_cons _ _ _ _ _ (@pe_callF _ _ _ _ _ _ _ _ _ _ _ _ _ T.l_take G_l_take (hr.mono (by decide)) (by rfl) (@pa_cons _ _ _ _ _ (pv 1) (@pa_cons _ _ _ _ _ (@pe_callB _ _ _ _ _ _ _ _ _ call_lenW (by rfl) T.b_len Boot.«len» (@pa_cons _ _ _ _ _ (pv 3) pa_nil (by rfl)) (by decide) (by decide) (by rfl) (by rfl)) pa_nil (by rfl)) (by rfl)) (by decide) (by rfl) (by rfl)) pa_nil (by rfl)) (by rfl))) pa_nil (by rfl)) (by rfl) (by rfl) (by rfl) (by rfl) (by rfl)) (by rfl)) (pss_one (@ps_expr _ _ _ _ (@pe_bm _ _ _ _ _ _ _ _ _ _ _ _ PySem.F.plainAttrs_list PySem.F.slot_list_append PySem.F.type_list_append mt_append (pv 4) (@pa_cons _ _ _ _ _ (pe_tup (@pa_cons _ _ _ _ _ pe_str (@pa_cons _ _ _ _ _ (pe_op op_sub (@pe_callB _ _ _ _ _ _ _ _ _ call_lenW (by rfl) T.b_len Boot.«len» (@pa_cons _ _ _ _ _ (pv 4) pa_nil (by rfl)) (by decide) (by decide) (by rfl) (by rfl)) pe_int) (@pa_cons _ _ _ _ _ (pe_op op_sub (@pe_callF _ _ _ _ _ _ _ _ _ _ _ _ _ T.l_take G_l_take (hr.mono (by decide)) (by rfl) (@pa_cons _ _ _ _ _ (pv 1) (@pa_cons _ _ _ _ _ pe_int pa_nil (by rfl)) (by rfl)) (by decide) (by rfl) (by rfl)) pe_int) pa_nil (by rfl)) (by rfl)) (by rfl))) pa_nil (by rfl)) (by rfl) (by rfl) (by rfl) (by rfl) (by rfl)) (by rfl)))) pss_nil) (pss_cons (@ps_set _ _ (8) _ _ _ _ nd rfl (by first | exact Or.inl rfl | exact Or.inr rfl) (pe_and (pe_cmpR op_eq (@pe_callF _ _ _ _ _ _ _ _ _ _ _ _ _ T.l_take G_l_take (hr.mono (by decide)) (by rfl) (@pa_cons _ _ _ _ _ (pv 1) (@pa_cons _ _ _ _ _ pe_int pa_nil (by rfl)) (by rfl)) (by decide) (by rfl) (by rfl)) pe_int (@nomark _ _ (by decide) (by decide))) (pe_one (pe_cmpR op_gt (@pe_callB _ _ _ _ _ _ _ _ _ call_lenW (by rfl) T.b_len Boot.«len» (@pa_cons _ _ _ _ _ (pv 4) pa_nil (by rfl)) (by decide) (by decide) (by rfl) (by rfl)) pe_int (@nomark _ _ (by decide) (by decide))))) (by rfl) (by first | exact .inl rfl | exact .inr rfl | assumption)) (pss_cons (ps_if (@pt_val _ _ _ (pv 8) (by intro _; rfl)) (pss_cons (@ps_set _ _ (9) _ _ _ _ nd rfl (by first | exact Or.inl rfl | exact Or.inr rfl) (@pe_callF _ _ _ _ _ _ _ _ _ _ _ _ _ T.l_take G_l_take (hr.mono (by decide)) (by rfl) (@pa_cons _ _ _ _ _ (pv 1) (@pa_cons _ _ _ _ _ (@pe_callB _ _ _ _ _ _ _ _ _ call_lenW (by rfl) T.b_len Boot.«len» (@pa_cons _ _ _ _ _ (pv 4) pa_nil (by rfl)) (by decide) (by decide) (by rfl) (by rfl)) pa_nil (by rfl)) (by rfl)) (by decide) (by rfl) (by rfl)) (by rfl) (by first | exact .inl rfl | exact .inr rfl | assumption)) (pss_one (@ps_asg _ _ _ _ _ _ (@pe_callF _ _ _ _ _ _ _ _ _ _ _ _ _ T.l_bad G_l_bad (hr.mono (by decide)) (by rfl) (@pa_cons _ _ _ _ _ (pv 1) (@pa_cons _ _ _ _ _ (pv 9) (@pa_cons _ _ _ _ _ (@pe_callB _ _ _ _ _ _ _ _ _ call_lenW (by rfl) T.b_len Boot.«len» (@pa_cons _ _ _ _ _ (pv 3) pa_nil (by rfl)) (by decide) (by decide) (by rfl) (by rfl)) pa_nil (by rfl)) (by rfl)) (by rfl)) (by decide) (by rfl) (by rfl)) (@pg_sub _ _ _ _ _ _ _ (pv 4) (pv 9) set_list (by intro _; rfl)) (by rfl) (by rfl) (by rfl)))) pss_nil) (pss_cons (@ps_set _ _ (10) _ _ _ _ nd rfl (by first | exact Or.inl rfl | exact Or.inr rfl) (pe_lst (@pa_cons _ _ _ _ _ (@pe_callTy _ _ _ _ _ _ _ _ _ call_listW (by rfl) T.b_list Boot.«list» (@pa_cons _ _ _ _ _ (pv 3) pa_nil (by rfl)) (by decide) (by decide) (by rfl) (by rfl)) (@pa_cons _ _ _ _ _ (@pe_callTy _ _ _ _ _ _ _ _ _ call_listW (by rfl) T.b_list Boot.«list» (@pa_cons _ _ _ _ _ (pv 4) pa_nil (by rfl)) (by decide) (by decide) (by rfl) (by rfl)) pa_nil (by rfl)) (by rfl))) (by rfl) (by first | exact .inl rfl | exact .inr rfl | assumption)) (pss_cons (@ps_set _ _ (11) _ _ _ _ nd rfl (by first | exact Or.inl rfl | exact Or.inr rfl) pe_non (by rfl) (by first | exact .inl rfl | exact .inr rfl | assumption)) (pss_cons (@ps_set _ _ (12) _ _ _ _ nd rfl (by first | exact Or.inl rfl | exact Or.inr rfl) pe_non (by rfl) (by first | exact .inl rfl | exact .inr rfl | assumption)) (pss_cons (@ps_tryK _ _ _ _ _ _ _ _ _ _ _ _ _ _ _ _ _ _ _ _ _ _ _ _ (13) (12) rfl rfl G_worked (hr.mono (by decide)) (by rfl) T.worked.at_ T.worked.fn.kp T.worked.bd (@pa_cons _ _ _ _ _ (pv 2) (@pa_cons _ _ _ _ _ (pe_ix ix_list (pv 10) pe_int (fun _ _ => rfl)) (@pa_cons _ _ _ _ _ (pe_ix ix_list (pv 10) pe_int (fun _ _ => rfl)) pa_nil (by rfl)) (by rfl)) (by rfl)) nd rfl (by rfl) (by rfl) T.x_BadLine rfl (by rfl) (fun ea => (pss_one (@ps_set _ _ (11) _ _ _ _ nd rfl (by first | exact Or.inl rfl | exact Or.inr rfl) (pe_tup (@pa_cons _ _ _ _ _ (@pe_callB _ _ _ _ _ _ _ _ _ (show CallR _ _ (rIsE K) from call_isE) (by rfl) T.b_isinstance Boot.«isinstance» (@pa_cons _ _ _ _ _ (pv 13) (@pa_cons _ _ _ _ _ (@pe_glob _ _ _ _ _ (by rfl) T.m_StreetError (show RelV (.ref A.c_StreetError) _ from rfl) (by decide)) pa_nil (by rfl)) (by rfl)) (by decide) (by decide) (by rfl) (by rfl)) (@pa_cons _ _ _ _ _ (@pe_callB _ _ _ _ _ _ _ _ _ (show CallR _ _ (rIsE K) from call_isE) (by rfl) T.b_isinstance Boot.«isinstance» (@pa_cons _ _ _ _ _ (pv 13) (@pa_cons _ _ _ _ _ (@pe_bltn _ _ _ _ _ (by rfl) T.b_ValueError Boot.«ValueError» (show RelV (.ty "ValueError") _ from rfl) (by decide) (by decide)) pa_nil (by rfl)) (by rfl)) (by decide) (by decide) (by rfl) (by rfl)) (@pa_cons _ _ _ _ _ (@pe_callB _ _ _ _ _ _ _ _ _ (show CallR _ _ (rIsE K) from call_isE) (by rfl) T.b_isinstance Boot.«isinstance» (@pa_cons _ _ _ _ _ (pv 13) (@pa_cons _ _ _ _ _ (@pe_glob _ _ _ _ _ (by rfl) T.m_NoRound (show RelV (.ref A.c_NoRound) _ from rfl) (by decide)) pa_nil (by rfl)) (by rfl)) (by decide) (by decide) (by rfl) (by rfl)) pa_nil (by rfl)) (by rfl)) (by rfl))) (by rfl) (by first | exact .inl rfl | exact .inr rfl | assumption)))) (by rfl) (by decide) (by decide) (by rfl) (by rfl)) (pss_cons (ps_if (pw_or (pt_cmpR (op_neD hr.u60) (pe_ix ix_list (pv 10) pe_int (fun _ _ => rfl)) (pv 3) (@nomark _ _ (by decide) (by decide))) (pw_or1 (pt_cmpR (op_neD hr.u60) (pe_ix ix_list (pv 10) pe_int (fun _ _ => rfl)) (pv 4) (@nomark _ _ (by decide) (by decide))))).pt (pss_one (ps_ret pe_bl)) pss_nil) (pss_cons (ps_if (@pt_val _ _ _ (pv 8) (by intro _; rfl)) (pss_one (ps_ret (pe_cmpR (op_eqD hr.u60) (pv 11) (pe_tup (@pa_cons _ _ _ _ _ pe_bl (@pa_cons _ _ _ _ _ pe_bl (@pa_cons _ _ _ _ _ pe_bl pa_nil (by rfl)) (by rfl)) (by rfl))) (@nomark _ _ (by decide) (by decide))))) pss_nil) (pss_cons (ps_if (pw_or (pt_cmpR op_notNW (pv 11) pe_non (@nomark _ _ (by decide) (by decide))) (pw_or (pt_not (@pt_val _ _ _ (@pe_callB _ _ _ _ _ _ _ _ _ call_isX (by rfl) T.b_isinstance Boot.«isinstance» (@pa_cons _ _ _ _ _ (pv 12) (@pa_cons _ _ _ _ _ (@pe_bltn _ _ _ _ _ (by rfl) T.b_list Boot.«list» (show RelV (.ty "list") _ from rfl) (by decide) (by decide)) pa_nil (by rfl)) (by rfl)) (by decide) (by decide) (by rfl) (by rfl)) (by intro _; rfl))) (pw_or1 (pt_cmpR op_ne (@pe_callB _ _ _ _ _ _ _ _ _ call_lenW (by rfl) T.b_len Boot.«len» (@pa_cons _ _ _ _ _ (pv 12) pa_nil (by rfl)) (by decide) (by decide) (by rfl) (by rfl)) (@pe_callB _ _ _ _ _ _ _ _ _ call_lenW (by rfl) T.b_len Boot.«len» (@pa_cons _ _ _ _ _ (pv 4) pa_nil (by rfl)) (by decide) (by decide) (by rfl) (by rfl)) (@nomark _ _ (by decide) (by decide)))))).pt (pss_one (ps_ret pe_bl)) pss_nil) (pss_one (ps_ret (pe_and (@pe_callB _ _ _ _ _ _ _ _ _ (call_allW rfl) (by rfl) T.b_all Boot.«all» (@pa_cons _ _ _ _ _ (@pe_comp _ _ _ _ _ _ _ _ _ _ _ _ _ _ rfl (CScope.of (sc := defScope s_law) (N := ["_law_script", "_law_draw", "_law_p_here", "_law_members", "_law_lines_here", "_law_sizes", "_law_k", "_law_line_here", "_law_bad_here", "_law_at", "_law_handed", "_law_told", "_law_found", "e"]) (own := ["_law_one"]) (fr := [2]) (N' := ["_law_one", "_law_p_here"]) rfl rfl rfl (by decide +kernel) rfl (by decide +kernel) (by decide +kernel) (by decide +kernel) (by decide +kernel) (by decide +kernel)) (pi_list (pv 12)) (fun _ _ _ _ => (@pg_name _ _ (0) _ (by show (["_law_one", "_law_p_here"] : List Str).Nodup ; decide +kernel) rfl (by first | exact Or.inl rfl | exact Or.inr rfl) (by first | exact .inl rfl | exact .inr rfl | assumption))) capg_name (fun _ _ _ _ => pts_nil) (fun _ _ _ _ => (@pe_callF _ _ _ _ _ _ _ _ _ _ _ _ _ T.l_is_round G_l_is_round (hr.mono (by decide)) (by rfl) (@pa_cons _ _ _ _ _ (pv 1) (@pa_cons _ _ _ _ _ (pv 0) pa_nil (by rfl)) (by rfl)) (by decide) (by rfl) (by rfl))) (by intro _; rfl)) pa_nil (by rfl)) (by decide) (by decide) (by rfl) (by rfl)) (pe_one (pe_cmpR (op_eqD hr.u60) (pv 12) (@pe_callF _ _ _ _ _ _ _ _ _ _ _ _ _ T.l_lines G_l_lines (hr.mono (by decide)) (by rfl) (@pa_cons _ _ _ _ _ (pv 2) (@pa_cons _ _ _ _ _ (pv 3) (@pa_cons _ _ _ _ _ (pv 4) pa_nil (by rfl)) (by rfl)) (by rfl)) (by decide) (by rfl) (by rfl)) (@nomark _ _ (by decide) (by decide))))))))))))))))))))))), ?_⟩
 try dsimp only [cxOf]
 refine ⟨_, inferInstance, ?_⟩
 intro d l M hD
 dsimp? []
 refine ⟨d, l, rfl, hD, fun p M1 hp D1 _ => ?_⟩
 have p0 : 0 < p := by lia
 have p1 : p < 1000 := by lia
 have p2 : 2 <= p := by lia
 dsimp? []
 refine ⟨d, l, 5, rfl, D1, by decide, by decide, fun nm M2 nm0 nm1 D2 _ => ?_⟩
 dsimp? []
 refine ⟨⟨by lia, by lia⟩, comp_i (by rw [range_len]; exact big (by lia)) fun c hc => ⟨fun i ys M' => ∃ ms : List WQ.Rd, ys = ms.map rdW /\ ms.length = i /\ (∀ r ∈ ms, RB p 3 r) /\ Dr M' d l /\ M' c = some (.lst ys), ⟨[], rfl, rfl, (by intro r hr; simp at hr), D2.put hc, um_same⟩, ?_, ?_, ?_⟩⟩
 · rintro i ys M' hi ⟨ms, rfl, hl, _, _, hM⟩
   exact ⟨trivial, hM, by rw [List.length_map]; lia⟩
 · rintro i x ys M' hx ⟨ms, rfl, hl, hms, D3, hM⟩ N hN
   obtain ⟨hi, rfl⟩ := range_at hx
   obtain ⟨ntd, ntl⟩ := D2.ne hc
   simp? [↓sSeq_h]
   refine ⟨d, l, p, 3, 3, 4, rfl, D3, p2, p1, by decide, by decide, by decide, by decide, by decide, by decide, fun g1 ps1 M4 ga gb l1 _ D4 b4 => ?_⟩
   simp? [↓sSeq_h]
   refine ⟨by rw [b4 c ntd]; exact hM, hN _ _ ⟨ms ++ [(g1, nrm p ps1)], by rw [List.map_append]; rfl, by simp [hl], fun r hr => ?_, D4.put' ntd ntl, um_same⟩⟩
   rcases List.mem_append.mp hr with hr | hr
   · exact hms r hr
   · rw [List.mem_singleton.mp hr]
     exact ⟨nrm_pat p0 ps1, Nat.le_trans (nrm_len p ps1) (by lia)⟩
 rintro ys M3 ⟨ms, rfl, hml, hms, D3, hc3⟩
 rw [range_len] at hml
 obtain ⟨cD, cL⟩ := D2.ne hc
 have hm4 : ms.length <= 4 := by lia
 dsimp? []
 intro a ha
 obtain ⟨aD, aL⟩ := D3.ne ha
 have ca : c ≠ a := m_ne hc3 ha
 dsimp? []
 intro b hb
 have ab : a ≠ b := m_ne um_same hb
 have cb : c ≠ b := m_ne (by rw [um_ne ca]; exact hc3) hb
 obtain ⟨bD, bL⟩ := (D3.put ha).ne hb
 have S0 : Lw c a b d l (um (um M3 a (.lst [])) b (.lst [])) ms [] [] := ⟨by rw [um_ne cb, um_ne ca]; exact hc3, by rw [um_ne ab, um_same]; rfl, um_same, (D3.put ha).put hb⟩
 dsimp? []
 refine ⟨d, l, 15, rfl, S0.dr, by decide, by decide, fun mn M4 mn0 mn1 D4 b4 => ?_⟩
 have S1 := S0.nb cD aD bD b4 D4
 dsimp? []
 refine ⟨⟨by lia, by lia⟩, for_i (fun i ρ M' => ∃ (o6 o7 : Option W) (zs : List Zl) (sz : List Nat), ρ = [none, some (wr d), some (wi p), some (wr c), some (wr a), some (wr b), o6, o7, none, none, none, none, none, none] /\ Lw c a b d l M' ms zs sz /\ Gd ms.length zs sz /\ (∀ n ∈ sz, n <= 60) /\ zs.length = i)
   ⟨none, none, [], [], rfl, S1, Gd.nil, by simp, rfl⟩ (fun _ _ _ _ _ => trivial) ?_ ?_⟩
 · rintro i x ρ M5 hx ⟨o6, o7, zs, sz, rfl, S5, G5, h60, hzl⟩ N hN
   obtain ⟨hi, rfl⟩ := range_at hx
   have hszl := G5.len
   dsimp? [S5.c, List.length_map]
   refine ⟨d, l, b, sz, ms.length, rfl, S5.dr, S5.b, by lia, h60, bD, hm4, fun z M6 z1 z2 z3 z4 D6 b6 => ?_⟩
   have S6 := S5.nb cD aD bD b6 D6
   have hlenA : ((zs.map zW).length < sizeLine) = True := eq_true (bigL (by rw [List.length_map]; lia))
   have hlenB : ((szW sz).length < sizeLine) = True := eq_true (bigL (by rw [szW, List.length_map]; lia))
   dsimp? [S6.a, hlenA, um_ne (Ne.symm ab), S6.b]
   refine ⟨b, sz, ms.length, z, rfl, by rw [um_ne (Ne.symm ab)]; exact S6.b, z1, z4, ?_⟩
   dsimp? [um_ne (Ne.symm ab), S6.b, hlenB]
   rw [hszl] at z1
   refine hN _ _ ⟨_, _, zs ++ [z], sz ++ [zsz sz z], rfl, ⟨?_, ?_, ?_, ?_⟩, G5.snoc h60 z1 z2 z4 (by lia), fun n hn => ?_, by simp [hzl]⟩
   · rw [um_ne cb, um_ne ca]; exact S6.c
   · rw [um_ne ab, um_same, List.map_append]; rfl
   · rw [um_same]; show some (MO.lst _) = some (MO.lst (List.map (fun (n : Nat) => wi (n : Int)) (sz ++ [zsz sz z]))); rw [List.map_append]; rfl
   · exact (S6.dr.put' aD aL).put' bD bL
   · rcases List.mem_append.mp hn with hn | hn
     · exact h60 n hn
     · rw [List.mem_singleton.mp hn]; exact z3
 · rintro ρ M5 ⟨o6, o7, zs, sz, rfl, S5, G5, h60, hzl⟩
   rw [range_len] at hzl
   have hz15 : zs.length <= 14 := by lia
   dsimp only
   have Z0 : ∀ N : WSt -> Mp -> Prop, (∀ ρ M', (∃ (zs : List Zl) (sz : List Nat), ρ = [none, some (wr d), some (wi p), some (wr c), some (wr a), some (wr b), o6, o7, none, none, none, none, none, none] /\ M' c = some (.lst (ms.map rdW)) /\ M' a = some (.lst (zs.map zW)) /\ Dr M' d l /\ Gd ms.length zs sz /\ zs.length <= 16) -> N ρ M') ->
       ∀ M', Lw c a b d l M' ms zs sz -> N [none, some (wr d), some (wi p), some (wr c), some (wr a), some (wr b), o6, o7, none, none, none, none, none, none] M' := fun N hN M' S => hN _ _ ⟨zs, sz, rfl, S.c, S.a, S.dr, G5, by lia⟩
   refine hold_i (if_mid (fun ρ M' => ∃ (zs : List Zl) (sz : List Nat), ρ = [none, some (wr d), some (wi p), some (wr c), some (wr a), some (wr b), o6, o7, none, none, none, none, none, none] /\ M' c = some (.lst (ms.map rdW)) /\ M' a = some (.lst (zs.map zW)) /\ Dr M' d l /\ Gd ms.length zs sz /\ zs.length <= 16) ?_ fun N hN => ?_)
   rotate_left
   · dsimp? [S5.c, List.length_map]
     refine iteK_d (fun h1 => ?_) fun h1 => Z0 N hN _ S5
     dsimp? []
     refine ⟨d, l, 4, rfl, S5.dr, by decide, by decide, fun v M6 v0 v1 D6 b6 => ?_⟩
     have S6 := S5.nb cD aD bD b6 D6
     dsimp? []
     refine iteK_d (fun h2 => ?_) fun h2 => Z0 N hN _ S6
     dsimp? [S6.c, S6.a, List.length_map]
     refine ⟨d, l, ms.length, rfl, S6.dr, by lia, by lia, fun k M7 k0 k1 D7 b7 => ?_⟩
     have S7 := S6.nb cD aD bD b7 D7
     have hlenA : ((zs.map zW).length < sizeLine) = True := eq_true (bigL (by rw [List.length_map]; lia))
     dsimp? [S7.a, hlenA]
     have ez : ∀ M' : Mp, M' a = some (.lst (zs.map zW ++ [W.tup [ws "member", wi k]])) -> M' a = some (.lst ((zs ++ [Zl.mem k]).map zW)) := fun M' h => by rw [h, List.map_append]; rfl
     refine ⟨d, l, 401, rfl, D7.put' aD aL, by decide, by decide, fun n M8 n0 n1 D8 b8 => ?_⟩
     have ha8 : M8 a = some (.lst ((zs ++ [Zl.mem k]).map zW)) := ez _ ((b8 a aD).trans um_same)
     have hc8 : M8 c = some (.lst (ms.map rdW)) := (b8 c cD).trans (by rw [um_ne ca]; exact S7.c)
     have hlen1 : ∀ w1 : W, ((((zs.map zW ++ [w1]).length : Nat) : Int) - 1) = (zs.length : Int) := fun w1 => by rw [List.length_append, List.length_map]; simp
     have hlenB : (((zs ++ [Zl.mem k]).map zW).length < sizeLine) = True := eq_true (bigL (by rw [List.length_map, List.length_append]; simp; lia))
     dsimp? [ha8, hlenB, hlen1]
     have G6 : Gd ms.length (zs ++ [.mem k]) (sz ++ [1]) := G5.snoc h60 (z := .mem k) ⟨k0, k1⟩ (by show k.natAbs <= 1000; lia) (fun _ _ h => nomatch h) (by show 1 <= 600; lia)
     have hg1 : (sz ++ [1]).getD (zs.length : Int).toNat 0 = 1 := by
       rw [Int.toNat_natCast, List.getD_eq_getElem?_getD, List.getElem?_append_right (by rw [G5.len]; exact Nat.le_refl _), G5.len, Nat.sub_self]; rfl
     have hzz : zsz (sz ++ [1]) (.times (zs.length : Int) (n - 200)) <= 600 := by
       show (sz ++ [1]).getD (zs.length : Int).toNat 0 * (n - 200).natAbs <= 600
       rw [hg1]; lia
     have G7 := G6.snoc (fun x hx => by
       rcases List.mem_append.mp hx with hx | hx
       · exact h60 x hx
       · rw [List.mem_singleton.mp hx]; lia) (z := .times (zs.length : Int) (n - 200)) ⟨by lia, by rw [List.length_append]; simp; lia⟩ ⟨by lia, by lia⟩ (fun _ _ h => by cases h; lia) hzz
     refine hN _ _ ⟨_, _, rfl, by rw [um_ne ca]; exact hc8, ?_, D8.put' aD aL, G7, by rw [List.length_append, List.length_append]; simp; lia⟩
     rw [um_same]
     exact congrArg (fun z => some (MO.lst z)) (List.map_append (f := zW) (l₁ := zs ++ [Zl.mem k]) (l₂ := [Zl.times (zs.length : Int) (n - 200)])).symm
   clear S5 G5 h60 hzl hz15 Z0
   rintro ρ M6 ⟨zs, sz, rfl, hc6, ha6, D6, G6, hz16⟩
   dsimp? []
   refine ⟨d, l, 3, rfl, D6, by decide, by decide, fun v M7 v0 v1 D7 b7 => ?_⟩
   have ha7 := (b7 a aD).trans ha6
   have hc7 := (b7 c cD).trans hc6
   apply join_i (fun bh : Bool => [none, some (wr d), some (wi p), some (wr c), some (wr a), some (wr b), o6, o7, some (wb bh), none, none, none, none, none]) (fun _ => M7) (fun bh => bh = true -> 0 < zs.length)
   case use =>
     intro key
     simp? [↓sSeq_h, ha7, List.length_map]
     refine iteK_d (fun h1 => ?_) fun h1 => ?_
     · simp? [↓sSeq_h, ha7, List.length_map]
       exact key _ (fun h => by have := of_decide_eq_true h; lia)
     · simp? [↓sSeq_h]
       exact key false (by intro h; cases h)
   intro bh hbh
   refine hold_i (if_mid (fun ρ M' => ∃ (o9 : Option W) (zs : List Zl), ρ = [none, some (wr d), some (wi p), some (wr c), some (wr a), some (wr b), o6, o7, some (wb bh), o9, none, none, none, none] /\ M' c = some (.lst (ms.map rdW)) /\ M' a = some (.lst (zs.map zW)) /\ Wp ms.length zs bh /\ zs.length <= 16) ?_ fun N hN => ?_)
   rotate_left
   · cases bh with
     | false =>
       dsimp? []
       exact hN _ _ ⟨_, zs, rfl, hc7, ha7, G6.wp, hz16⟩
     | true =>
       have hpos := hbh rfl
       dsimp? [ha7, List.length_map]
       refine ⟨d, l, zs.length, rfl, D7, by lia, by lia, fun k M8 k0 k1 D8 b8 => ?_⟩
       obtain ⟨k, rfl⟩ := Int.eq_ofNat_of_zero_le k0
       have ha8 := (b8 a aD).trans ha7
       have hc8 := (b8 c cD).trans hc7
       dsimp? [hc8, List.length_map]
       refine ⟨d, l, k, ms.length, rfl, D8, by lia, hm4, fun z M9 z1 z2 z3 D9 b9 => ?_⟩
       have ha9 := b9 _ _ aD ha8
       have hc9 := b9 _ _ cD hc8
       have ix : ixN zs.length (k : Int) = some (k : Int).toNat := ixN_int k0 k1
       dsimp? [ha9, List.length_map, ix]
       refine hN _ _ ⟨_, zs.set k z, rfl, by rw [um_ne ca]; exact hc9, ?_, G6.bad (by lia) z1 z2 z3, by rw [List.length_set]; exact hz16⟩
       rw [um_same, List.map_set]; rfl
   clear ha6 hc6 D6 G6 hz16 ha7 hc7 D7 b7 hbh
   rintro ρ M8 ⟨o9, zs, rfl, hc8, ha8, hW, hz16⟩
   dsimp? [hc8]
   intro e1 he1
   have ae1 : a ≠ e1 := m_ne ha8 he1
   dsimp? [um_ne ae1, ha8]
   intro e2 he2
   dsimp? []
   intro e3 he3
   have h12 : e1 ≠ e2 := m_ne um_same he2
   have h13 : e1 ≠ e3 := m_ne (by rw [um_ne h12, um_same]) he3
   have h23 : e2 ≠ e3 := m_ne um_same he3
   have sM : Sm M8 (um (um (um M8 e1 (.lst (ms.map rdW))) e2 (.lst (zs.map zW))) e3 (.lst [wr e1, wr e2])) := ((sm_um he1).trans (sm_um he2)).trans (sm_um he3)
   have m1 : um (um (um M8 e1 (.lst (ms.map rdW))) e2 (.lst (zs.map zW))) e3 (.lst [wr e1, wr e2]) e1 = some (.lst (ms.map rdW)) := by rw [um_ne h13, um_ne h12, um_same]
   have m2 : um (um (um M8 e1 (.lst (ms.map rdW))) e2 (.lst (zs.map zW))) e3 (.lst [wr e1, wr e2]) e2 = some (.lst (zs.map zW)) := by rw [um_ne h23, um_same]
   have m3 : um (um (um M8 e1 (.lst (ms.map rdW))) e2 (.lst (zs.map zW))) e3 (.lst [wr e1, wr e2]) e3 = some (.lst [wr e1, wr e2]) := um_same
   have mc := sM _ _ hc8
   have ma := sM _ _ ha8
   generalize um (um (um M8 e1 (.lst (ms.map rdW))) e2 (.lst (zs.map zW))) e3 (.lst [wr e1, wr e2]) = M9 at m1 m2 m3 mc ma ⊢
   dsimp? []
   dsimp? [wTry, m3, atI_c, atI_0]
   obtain ⟨w1, w2, n, sz, hn, hsz, hok, hb1, hb2⟩ := hW
   have ddz : ∀ r : List Zl, dpt (.lst (r.map zD)) <= 50 := fun r => by
     have := dpts_map (g := zD) (n := 1) (fun l => by cases l <;> exact Nat.le_of_eq rfl) r
     rw [dpt]; lia
   have ddr : ∀ r : List WQ.Rd, dpt (.lst (r.map rD)) <= 50 := fun r => by
     have := dpts_map (g := rD) (n := 3) rD_dpt r
     rw [dpt]; lia
   refine ⟨p, e1, e2, ms, zs, n, sz, rfl, p0, p1, m1, m2, by lia, hms, w1, w2, hn, hsz, hok, ?_⟩
   cases bh with
   | true =>
     obtain ⟨z, hz, hzb⟩ := hb1 rfl
     refine .inl ⟨z, hz, hzb, rfl, fun ea hea => ?_⟩
     dsimp? []
     refine isE_ref um_same T.x_BadLine.k T.i_BadLine_StreetError ?_
     dsimp? []
     refine isE_ty um_same T.x_BadLine.k T.i_BadLine_ValueError ?_
     dsimp? []
     refine isE_ref um_same T.x_BadLine.k T.i_BadLine_NoRound ?_
     have q1 := (sm_um (o := .exc A.c_BadLine) hea) _ _ m1
     have q2 := (sm_um (o := .exc A.c_BadLine) hea) _ _ m2
     have q3 := (sm_um (o := .exc A.c_BadLine) hea) _ _ m3
     have qc := (sm_um (o := .exc A.c_BadLine) hea) _ _ mc
     have qa := (sm_um (o := .exc A.c_BadLine) hea) _ _ ma
     dsimp? [goesW]
     generalize um M9 ea (.exc A.c_BadLine) = M10 at q1 q2 q3 qc qa ⊢
     dsimp? [q3, atI_c, atI_0]
     refine ne_dat (DR.list dOf_r q1) (DR.list dOf_r qc) (ddr ms) rfl ?_
     dsimp? [q3, atI_c, atI_0]
     refine ne_dat (DR.list dOf_z q2) (DR.list dOf_z qa) (ddz zs) rfl ?_
     dsimp? []
     exact eq_dat (d := .tup [.bl true, .bl true, .bl false]) (.inl rfl) (.inl rfl) (by decide) rfl rfl
   | false =>
     have hnz := hb2 rfl
     refine .inr ⟨hnz, fun u M10 rs hu sM10 hu1 hall hrb => ?_⟩
     have q1 := sM10 _ _ m1
     have q2 := sM10 _ _ m2
     have q3 := sM10 _ _ m3
     have qc := sM10 _ _ mc
     have qa := sM10 _ _ ma
     dsimp? [q3, atI_c, atI_0]
     refine ne_dat (DR.list dOf_r q1) (DR.list dOf_r qc) (ddr ms) rfl ?_
     dsimp? [q3, atI_c, atI_0]
     refine ne_dat (DR.list dOf_z q2) (DR.list dOf_z qa) (ddz zs) rfl ?_
     dsimp? []
     refine ⟨rfl, ?_⟩
     have hle : decide ((rs.length : Int) = (zs.length : Int)) = true := decide_eq_true (by rw [hall.1])
     dsimp? [nonW, hu1, qa, List.length_map, hle, decide_true, Bool.not_true]
     have hrl := hall.1
     refine comp_all (l := rs) (fun _ : WQ.Rd => wb true) (big (by lia)) (fun M6 s6 => s6 _ _ hu1) ?_ fun t ht => ?_
     · intro y hy M11 N6 s6 hN6
       simp? [↓sSeq_e]
       refine ⟨p, y, rfl, (hrb y hy).1, Nat.le_trans (hrb y hy).2 (by decide), ?_⟩
       exact hN6
     refine wAll_e (bs := rs.map fun _ => true) (by rw [um_same, List.map_map]; rfl) ?_
     have hal : (rs.map fun _ => true).all id = true := by simp
     dsimp? [hal]
     refine ⟨p, c, a, ms, zs, sz, rfl, p0, p1, (sm_um ht) _ _ qc, (sm_um ht) _ _ qa, by lia, hms, w2, by lia, fun i z hz => ?_, fun u2 M12 rs2 hu2 s2 hu3 hall2 => ?_⟩
     · obtain ⟨o1, o2, o3, _⟩ := hok i z (by have := (List.getElem?_eq_some_iff.mp hz).1; lia) hz
       exact ⟨o1, o2, o3⟩
     have hrr : rs2 = rs := ZAll.eq p0 zs.length rfl hall2 hall
     subst hrr
     dsimp? []
     exact eq_dat (DR.list dOf_r (s2 _ _ ((sm_um ht) _ _ hu1))) (DR.list dOf_r hu3) (ddr _) rfl rfl
end
end K25
namespace K25
open PySem L2 WL WQ PyProof.Rows
theorem all_mk {l : PySem.W.OpenLaw} {w : World} {K : PySem.W.Frag} {h : Heap} {mg : Str -> Option Value} {fa f_tidy f_added f_moved f_timed f_still f_joined f_backward f_repeated f_picked f_line_round f_worked f_l_begin f_l_take f_l_p f_l_tidy f_l_pattern f_l_round f_l_sum f_l_join f_l_back f_l_times f_l_int f_l_line f_l_lines f_l_is_pattern f_l_is_round f_l_draw_line f_l_size_of f_l_bad f_law c_BadLine c_NoRound c_StreetError : Addr} (X : K.In h) (G : h.Ns mainGlobals mg) (hfa : mg "law" = some (.ref fa))
   {od_tidy an_tidy : Option Addr} {sl_tidy : Array (Option Value)} {oc_tidy kV_tidy dc_tidy pm_tidy cd_tidy ct_tidy : Value}
   {od_added an_added : Option Addr} {sl_added : Array (Option Value)} {oc_added kV_added dc_added pm_added cd_added ct_added : Value}
   {od_moved an_moved : Option Addr} {sl_moved : Array (Option Value)} {oc_moved kV_moved dc_moved pm_moved cd_moved ct_moved : Value}
   {od_timed an_timed : Option Addr} {sl_timed : Array (Option Value)} {oc_timed kV_timed dc_timed pm_timed cd_timed ct_timed : Value}
   {od_still an_still : Option Addr} {sl_still : Array (Option Value)} {oc_still kV_still dc_still pm_still cd_still ct_still : Value}
   {od_joined an_joined : Option Addr} {sl_joined : Array (Option Value)} {oc_joined kV_joined dc_joined pm_joined cd_joined ct_joined : Value}
   {od_backward an_backward : Option Addr} {sl_backward : Array (Option Value)} {oc_backward kV_backward dc_backward pm_backward cd_backward ct_backward : Value}
   {od_repeated an_repeated : Option Addr} {sl_repeated : Array (Option Value)} {oc_repeated kV_repeated dc_repeated pm_repeated cd_repeated ct_repeated : Value}
   {od_picked an_picked : Option Addr} {sl_picked : Array (Option Value)} {oc_picked kV_picked dc_picked pm_picked cd_picked ct_picked : Value}
   {od_line_round an_line_round : Option Addr} {sl_line_round : Array (Option Value)} {oc_line_round kV_line_round dc_line_round pm_line_round cd_line_round ct_line_round : Value}
   {od_worked an_worked : Option Addr} {sl_worked : Array (Option Value)} {oc_worked kV_worked dc_worked pm_worked cd_worked ct_worked : Value}
   {od_l_begin an_l_begin : Option Addr} {sl_l_begin : Array (Option Value)} {oc_l_begin kV_l_begin dc_l_begin pm_l_begin cd_l_begin ct_l_begin : Value}
   {od_l_take an_l_take : Option Addr} {sl_l_take : Array (Option Value)} {oc_l_take kV_l_take dc_l_take pm_l_take cd_l_take ct_l_take : Value}
   {od_l_p an_l_p : Option Addr} {sl_l_p : Array (Option Value)} {oc_l_p kV_l_p dc_l_p pm_l_p cd_l_p ct_l_p : Value}
   {od_l_tidy an_l_tidy : Option Addr} {sl_l_tidy : Array (Option Value)} {oc_l_tidy kV_l_tidy dc_l_tidy pm_l_tidy cd_l_tidy ct_l_tidy : Value}
   {od_l_pattern an_l_pattern : Option Addr} {sl_l_pattern : Array (Option Value)} {oc_l_pattern kV_l_pattern dc_l_pattern pm_l_pattern cd_l_pattern ct_l_pattern : Value}
   {od_l_round an_l_round : Option Addr} {sl_l_round : Array (Option Value)} {oc_l_round kV_l_round dc_l_round pm_l_round cd_l_round ct_l_round : Value}
   {od_l_sum an_l_sum : Option Addr} {sl_l_sum : Array (Option Value)} {oc_l_sum kV_l_sum dc_l_sum pm_l_sum cd_l_sum ct_l_sum : Value}
   {od_l_join an_l_join : Option Addr} {sl_l_join : Array (Option Value)} {oc_l_join kV_l_join dc_l_join pm_l_join cd_l_join ct_l_join : Value}
   {od_l_back an_l_back : Option Addr} {sl_l_back : Array (Option Value)} {oc_l_back kV_l_back dc_l_back pm_l_back cd_l_back ct_l_back : Value}
   {od_l_times an_l_times : Option Addr} {sl_l_times : Array (Option Value)} {oc_l_times kV_l_times dc_l_times pm_l_times cd_l_times ct_l_times : Value}
   {od_l_int an_l_int : Option Addr} {sl_l_int : Array (Option Value)} {oc_l_int kV_l_int dc_l_int pm_l_int cd_l_int ct_l_int : Value}
   {od_l_line an_l_line : Option Addr} {sl_l_line : Array (Option Value)} {oc_l_line kV_l_line dc_l_line pm_l_line cd_l_line ct_l_line : Value}
   {od_l_lines an_l_lines : Option Addr} {sl_l_lines : Array (Option Value)} {oc_l_lines kV_l_lines dc_l_lines pm_l_lines cd_l_lines ct_l_lines : Value}
   {od_l_is_pattern an_l_is_pattern : Option Addr} {sl_l_is_pattern : Array (Option Value)} {oc_l_is_pattern kV_l_is_pattern dc_l_is_pattern pm_l_is_pattern cd_l_is_pattern ct_l_is_pattern : Value}
   {od_l_is_round an_l_is_round : Option Addr} {sl_l_is_round : Array (Option Value)} {oc_l_is_round kV_l_is_round dc_l_is_round pm_l_is_round cd_l_is_round ct_l_is_round : Value}
   {od_l_draw_line an_l_draw_line : Option Addr} {sl_l_draw_line : Array (Option Value)} {oc_l_draw_line kV_l_draw_line dc_l_draw_line pm_l_draw_line cd_l_draw_line ct_l_draw_line : Value}
   {od_l_size_of an_l_size_of : Option Addr} {sl_l_size_of : Array (Option Value)} {oc_l_size_of kV_l_size_of dc_l_size_of pm_l_size_of cd_l_size_of ct_l_size_of : Value}
   {od_l_bad an_l_bad : Option Addr} {sl_l_bad : Array (Option Value)} {oc_l_bad kV_l_bad dc_l_bad pm_l_bad cd_l_bad ct_l_bad : Value}
   {od_law an_law : Option Addr} {sl_law : Array (Option Value)} {oc_law kV_law dc_law pm_law cd_law ct_law : Value}
   (a_tidy : PySem.W.nsIn K mainGlobals "tidy" = some (some (.ref f_tidy)))
   (l_tidy : K.lookup f_tidy = some ⟨oc_tidy, od_tidy, .func (PySem.W.fnOf "tidy" "tidy" (defArgs s_tidy) (defBody s_tidy) (defScope s_tidy) .none kV_tidy dc_tidy pm_tidy an_tidy cd_tidy ct_tidy), sl_tidy⟩)
   (c_tidy : PySem.W.codeIn K cd_tidy "tidy" = true) (k_tidy : PySem.W.keepIn K (.ref f_tidy) = true)
   (a_added : PySem.W.nsIn K mainGlobals "added" = some (some (.ref f_added)))
   (l_added : K.lookup f_added = some ⟨oc_added, od_added, .func (PySem.W.fnOf "added" "added" (defArgs s_added) (defBody s_added) (defScope s_added) .none kV_added dc_added pm_added an_added cd_added ct_added), sl_added⟩)
   (c_added : PySem.W.codeIn K cd_added "added" = true) (k_added : PySem.W.keepIn K (.ref f_added) = true)
   (a_moved : PySem.W.nsIn K mainGlobals "moved" = some (some (.ref f_moved)))
   (l_moved : K.lookup f_moved = some ⟨oc_moved, od_moved, .func (PySem.W.fnOf "moved" "moved" (defArgs s_moved) (defBody s_moved) (defScope s_moved) .none kV_moved dc_moved pm_moved an_moved cd_moved ct_moved), sl_moved⟩)
   (c_moved : PySem.W.codeIn K cd_moved "moved" = true) (k_moved : PySem.W.keepIn K (.ref f_moved) = true)
   (a_timed : PySem.W.nsIn K mainGlobals "timed" = some (some (.ref f_timed)))
   (l_timed : K.lookup f_timed = some ⟨oc_timed, od_timed, .func (PySem.W.fnOf "timed" "timed" (defArgs s_timed) (defBody s_timed) (defScope s_timed) .none kV_timed dc_timed pm_timed an_timed cd_timed ct_timed), sl_timed⟩)
   (c_timed : PySem.W.codeIn K cd_timed "timed" = true) (k_timed : PySem.W.keepIn K (.ref f_timed) = true)
   (a_still : PySem.W.nsIn K mainGlobals "still" = some (some (.ref f_still)))
   (l_still : K.lookup f_still = some ⟨oc_still, od_still, .func (PySem.W.fnOf "still" "still" (defArgs s_still) (defBody s_still) (defScope s_still) .none kV_still dc_still pm_still an_still cd_still ct_still), sl_still⟩)
   (c_still : PySem.W.codeIn K cd_still "still" = true) (k_still : PySem.W.keepIn K (.ref f_still) = true)
   (a_joined : PySem.W.nsIn K mainGlobals "joined" = some (some (.ref f_joined)))
   (l_joined : K.lookup f_joined = some ⟨oc_joined, od_joined, .func (PySem.W.fnOf "joined" "joined" (defArgs s_joined) (defBody s_joined) (defScope s_joined) .none kV_joined dc_joined pm_joined an_joined cd_joined ct_joined), sl_joined⟩)
   (c_joined : PySem.W.codeIn K cd_joined "joined" = true) (k_joined : PySem.W.keepIn K (.ref f_joined) = true)
   (a_backward : PySem.W.nsIn K mainGlobals "backward" = some (some (.ref f_backward)))
   (l_backward : K.lookup f_backward = some ⟨oc_backward, od_backward, .func (PySem.W.fnOf "backward" "backward" (defArgs s_backward) (defBody s_backward) (defScope s_backward) .none kV_backward dc_backward pm_backward an_backward cd_backward ct_backward), sl_backward⟩)
   (c_backward : PySem.W.codeIn K cd_backward "backward" = true) (k_backward : PySem.W.keepIn K (.ref f_backward) = true)
   (a_repeated : PySem.W.nsIn K mainGlobals "repeated" = some (some (.ref f_repeated)))
   (l_repeated : K.lookup f_repeated = some ⟨oc_repeated, od_repeated, .func (PySem.W.fnOf "repeated" "repeated" (defArgs s_repeated) (defBody s_repeated) (defScope s_repeated) .none kV_repeated dc_repeated pm_repeated an_repeated cd_repeated ct_repeated), sl_repeated⟩)
   (c_repeated : PySem.W.codeIn K cd_repeated "repeated" = true) (k_repeated : PySem.W.keepIn K (.ref f_repeated) = true)
   (a_picked : PySem.W.nsIn K mainGlobals "picked" = some (some (.ref f_picked)))
   (l_picked : K.lookup f_picked = some ⟨oc_picked, od_picked, .func (PySem.W.fnOf "picked" "picked" (defArgs s_picked) (defBody s_picked) (defScope s_picked) .none kV_picked dc_picked pm_picked an_picked cd_picked ct_picked), sl_picked⟩)
   (c_picked : PySem.W.codeIn K cd_picked "picked" = true) (k_picked : PySem.W.keepIn K (.ref f_picked) = true)
   (a_line_round : PySem.W.nsIn K mainGlobals "line_round" = some (some (.ref f_line_round)))
   (l_line_round : K.lookup f_line_round = some ⟨oc_line_round, od_line_round, .func (PySem.W.fnOf "line_round" "line_round" (defArgs s_line_round) (defBody s_line_round) (defScope s_line_round) .none kV_line_round dc_line_round pm_line_round an_line_round cd_line_round ct_line_round), sl_line_round⟩)
   (c_line_round : PySem.W.codeIn K cd_line_round "line_round" = true) (k_line_round : PySem.W.keepIn K (.ref f_line_round) = true)
   (a_worked : PySem.W.nsIn K mainGlobals "worked" = some (some (.ref f_worked)))
   (l_worked : K.lookup f_worked = some ⟨oc_worked, od_worked, .func (PySem.W.fnOf "worked" "worked" (defArgs s_worked) (defBody s_worked) (defScope s_worked) .none kV_worked dc_worked pm_worked an_worked cd_worked ct_worked), sl_worked⟩)
   (c_worked : PySem.W.codeIn K cd_worked "worked" = true) (k_worked : PySem.W.keepIn K (.ref f_worked) = true)
   (a_l_begin : PySem.W.nsIn K mainGlobals "_law_begin" = some (some (.ref f_l_begin)))
   (l_l_begin : K.lookup f_l_begin = some ⟨oc_l_begin, od_l_begin, .func (PySem.W.fnOf "_law_begin" "_law_begin" (defArgs s_l_begin) (defBody s_l_begin) (defScope s_l_begin) .none kV_l_begin dc_l_begin pm_l_begin an_l_begin cd_l_begin ct_l_begin), sl_l_begin⟩)
   (c_l_begin : PySem.W.codeIn K cd_l_begin "_law_begin" = true) (k_l_begin : PySem.W.keepIn K (.ref f_l_begin) = true)
   (a_l_take : PySem.W.nsIn K mainGlobals "_law_take" = some (some (.ref f_l_take)))
   (l_l_take : K.lookup f_l_take = some ⟨oc_l_take, od_l_take, .func (PySem.W.fnOf "_law_take" "_law_take" (defArgs s_l_take) (defBody s_l_take) (defScope s_l_take) .none kV_l_take dc_l_take pm_l_take an_l_take cd_l_take ct_l_take), sl_l_take⟩)
   (c_l_take : PySem.W.codeIn K cd_l_take "_law_take" = true) (k_l_take : PySem.W.keepIn K (.ref f_l_take) = true)
   (a_l_p : PySem.W.nsIn K mainGlobals "_law_p" = some (some (.ref f_l_p)))
   (l_l_p : K.lookup f_l_p = some ⟨oc_l_p, od_l_p, .func (PySem.W.fnOf "_law_p" "_law_p" (defArgs s_l_p) (defBody s_l_p) (defScope s_l_p) .none kV_l_p dc_l_p pm_l_p an_l_p cd_l_p ct_l_p), sl_l_p⟩)
   (c_l_p : PySem.W.codeIn K cd_l_p "_law_p" = true) (k_l_p : PySem.W.keepIn K (.ref f_l_p) = true)
   (a_l_tidy : PySem.W.nsIn K mainGlobals "_law_tidy" = some (some (.ref f_l_tidy)))
   (l_l_tidy : K.lookup f_l_tidy = some ⟨oc_l_tidy, od_l_tidy, .func (PySem.W.fnOf "_law_tidy" "_law_tidy" (defArgs s_l_tidy) (defBody s_l_tidy) (defScope s_l_tidy) .none kV_l_tidy dc_l_tidy pm_l_tidy an_l_tidy cd_l_tidy ct_l_tidy), sl_l_tidy⟩)
   (c_l_tidy : PySem.W.codeIn K cd_l_tidy "_law_tidy" = true) (k_l_tidy : PySem.W.keepIn K (.ref f_l_tidy) = true)
   (a_l_pattern : PySem.W.nsIn K mainGlobals "_law_pattern" = some (some (.ref f_l_pattern)))
   (l_l_pattern : K.lookup f_l_pattern = some ⟨oc_l_pattern, od_l_pattern, .func (PySem.W.fnOf "_law_pattern" "_law_pattern" (defArgs s_l_pattern) (defBody s_l_pattern) (defScope s_l_pattern) .none kV_l_pattern dc_l_pattern pm_l_pattern an_l_pattern cd_l_pattern ct_l_pattern), sl_l_pattern⟩)
   (c_l_pattern : PySem.W.codeIn K cd_l_pattern "_law_pattern" = true) (k_l_pattern : PySem.W.keepIn K (.ref f_l_pattern) = true)
   (a_l_round : PySem.W.nsIn K mainGlobals "_law_round" = some (some (.ref f_l_round)))
   (l_l_round : K.lookup f_l_round = some ⟨oc_l_round, od_l_round, .func (PySem.W.fnOf "_law_round" "_law_round" (defArgs s_l_round) (defBody s_l_round) (defScope s_l_round) .none kV_l_round dc_l_round pm_l_round an_l_round cd_l_round ct_l_round), sl_l_round⟩)
   (c_l_round : PySem.W.codeIn K cd_l_round "_law_round" = true) (k_l_round : PySem.W.keepIn K (.ref f_l_round) = true)
   (a_l_sum : PySem.W.nsIn K mainGlobals "_law_sum" = some (some (.ref f_l_sum)))
   (l_l_sum : K.lookup f_l_sum = some ⟨oc_l_sum, od_l_sum, .func (PySem.W.fnOf "_law_sum" "_law_sum" (defArgs s_l_sum) (defBody s_l_sum) (defScope s_l_sum) .none kV_l_sum dc_l_sum pm_l_sum an_l_sum cd_l_sum ct_l_sum), sl_l_sum⟩)
   (c_l_sum : PySem.W.codeIn K cd_l_sum "_law_sum" = true) (k_l_sum : PySem.W.keepIn K (.ref f_l_sum) = true)
   (a_l_join : PySem.W.nsIn K mainGlobals "_law_join" = some (some (.ref f_l_join)))
   (l_l_join : K.lookup f_l_join = some ⟨oc_l_join, od_l_join, .func (PySem.W.fnOf "_law_join" "_law_join" (defArgs s_l_join) (defBody s_l_join) (defScope s_l_join) .none kV_l_join dc_l_join pm_l_join an_l_join cd_l_join ct_l_join), sl_l_join⟩)
   (c_l_join : PySem.W.codeIn K cd_l_join "_law_join" = true) (k_l_join : PySem.W.keepIn K (.ref f_l_join) = true)
   (a_l_back : PySem.W.nsIn K mainGlobals "_law_back" = some (some (.ref f_l_back)))
   (l_l_back : K.lookup f_l_back = some ⟨oc_l_back, od_l_back, .func (PySem.W.fnOf "_law_back" "_law_back" (defArgs s_l_back) (defBody s_l_back) (defScope s_l_back) .none kV_l_back dc_l_back pm_l_back an_l_back cd_l_back ct_l_back), sl_l_back⟩)
   (c_l_back : PySem.W.codeIn K cd_l_back "_law_back" = true) (k_l_back : PySem.W.keepIn K (.ref f_l_back) = true)
   (a_l_times : PySem.W.nsIn K mainGlobals "_law_times" = some (some (.ref f_l_times)))
   (l_l_times : K.lookup f_l_times = some ⟨oc_l_times, od_l_times, .func (PySem.W.fnOf "_law_times" "_law_times" (defArgs s_l_times) (defBody s_l_times) (defScope s_l_times) .none kV_l_times dc_l_times pm_l_times an_l_times cd_l_times ct_l_times), sl_l_times⟩)
   (c_l_times : PySem.W.codeIn K cd_l_times "_law_times" = true) (k_l_times : PySem.W.keepIn K (.ref f_l_times) = true)
   (a_l_int : PySem.W.nsIn K mainGlobals "_law_int" = some (some (.ref f_l_int)))
   (l_l_int : K.lookup f_l_int = some ⟨oc_l_int, od_l_int, .func (PySem.W.fnOf "_law_int" "_law_int" (defArgs s_l_int) (defBody s_l_int) (defScope s_l_int) .none kV_l_int dc_l_int pm_l_int an_l_int cd_l_int ct_l_int), sl_l_int⟩)
   (c_l_int : PySem.W.codeIn K cd_l_int "_law_int" = true) (k_l_int : PySem.W.keepIn K (.ref f_l_int) = true)
   (a_l_line : PySem.W.nsIn K mainGlobals "_law_line" = some (some (.ref f_l_line)))
   (l_l_line : K.lookup f_l_line = some ⟨oc_l_line, od_l_line, .func (PySem.W.fnOf "_law_line" "_law_line" (defArgs s_l_line) (defBody s_l_line) (defScope s_l_line) .none kV_l_line dc_l_line pm_l_line an_l_line cd_l_line ct_l_line), sl_l_line⟩)
   (c_l_line : PySem.W.codeIn K cd_l_line "_law_line" = true) (k_l_line : PySem.W.keepIn K (.ref f_l_line) = true)
   (a_l_lines : PySem.W.nsIn K mainGlobals "_law_lines" = some (some (.ref f_l_lines)))
   (l_l_lines : K.lookup f_l_lines = some ⟨oc_l_lines, od_l_lines, .func (PySem.W.fnOf "_law_lines" "_law_lines" (defArgs s_l_lines) (defBody s_l_lines) (defScope s_l_lines) .none kV_l_lines dc_l_lines pm_l_lines an_l_lines cd_l_lines ct_l_lines), sl_l_lines⟩)
   (c_l_lines : PySem.W.codeIn K cd_l_lines "_law_lines" = true) (k_l_lines : PySem.W.keepIn K (.ref f_l_lines) = true)
   (a_l_is_pattern : PySem.W.nsIn K mainGlobals "_law_is_pattern" = some (some (.ref f_l_is_pattern)))
   (l_l_is_pattern : K.lookup f_l_is_pattern = some ⟨oc_l_is_pattern, od_l_is_pattern, .func (PySem.W.fnOf "_law_is_pattern" "_law_is_pattern" (defArgs s_l_is_pattern) (defBody s_l_is_pattern) (defScope s_l_is_pattern) .none kV_l_is_pattern dc_l_is_pattern pm_l_is_pattern an_l_is_pattern cd_l_is_pattern ct_l_is_pattern), sl_l_is_pattern⟩)
   (c_l_is_pattern : PySem.W.codeIn K cd_l_is_pattern "_law_is_pattern" = true) (k_l_is_pattern : PySem.W.keepIn K (.ref f_l_is_pattern) = true)
   (a_l_is_round : PySem.W.nsIn K mainGlobals "_law_is_round" = some (some (.ref f_l_is_round)))
   (l_l_is_round : K.lookup f_l_is_round = some ⟨oc_l_is_round, od_l_is_round, .func (PySem.W.fnOf "_law_is_round" "_law_is_round" (defArgs s_l_is_round) (defBody s_l_is_round) (defScope s_l_is_round) .none kV_l_is_round dc_l_is_round pm_l_is_round an_l_is_round cd_l_is_round ct_l_is_round), sl_l_is_round⟩)
   (c_l_is_round : PySem.W.codeIn K cd_l_is_round "_law_is_round" = true) (k_l_is_round : PySem.W.keepIn K (.ref f_l_is_round) = true)
   (a_l_draw_line : PySem.W.nsIn K mainGlobals "_law_draw_line" = some (some (.ref f_l_draw_line)))
   (l_l_draw_line : K.lookup f_l_draw_line = some ⟨oc_l_draw_line, od_l_draw_line, .func (PySem.W.fnOf "_law_draw_line" "_law_draw_line" (defArgs s_l_draw_line) (defBody s_l_draw_line) (defScope s_l_draw_line) .none kV_l_draw_line dc_l_draw_line pm_l_draw_line an_l_draw_line cd_l_draw_line ct_l_draw_line), sl_l_draw_line⟩)
   (c_l_draw_line : PySem.W.codeIn K cd_l_draw_line "_law_draw_line" = true) (k_l_draw_line : PySem.W.keepIn K (.ref f_l_draw_line) = true)
   (a_l_size_of : PySem.W.nsIn K mainGlobals "_law_size_of" = some (some (.ref f_l_size_of)))
   (l_l_size_of : K.lookup f_l_size_of = some ⟨oc_l_size_of, od_l_size_of, .func (PySem.W.fnOf "_law_size_of" "_law_size_of" (defArgs s_l_size_of) (defBody s_l_size_of) (defScope s_l_size_of) .none kV_l_size_of dc_l_size_of pm_l_size_of an_l_size_of cd_l_size_of ct_l_size_of), sl_l_size_of⟩)
   (c_l_size_of : PySem.W.codeIn K cd_l_size_of "_law_size_of" = true) (k_l_size_of : PySem.W.keepIn K (.ref f_l_size_of) = true)
   (a_l_bad : PySem.W.nsIn K mainGlobals "_law_bad" = some (some (.ref f_l_bad)))
   (l_l_bad : K.lookup f_l_bad = some ⟨oc_l_bad, od_l_bad, .func (PySem.W.fnOf "_law_bad" "_law_bad" (defArgs s_l_bad) (defBody s_l_bad) (defScope s_l_bad) .none kV_l_bad dc_l_bad pm_l_bad an_l_bad cd_l_bad ct_l_bad), sl_l_bad⟩)
   (c_l_bad : PySem.W.codeIn K cd_l_bad "_law_bad" = true) (k_l_bad : PySem.W.keepIn K (.ref f_l_bad) = true)
   (a_law : PySem.W.nsIn K mainGlobals "law" = some (some (.ref f_law)))
   (l_law : K.lookup f_law = some ⟨oc_law, od_law, .func (PySem.W.fnOf "law" "law" (defArgs s_law) (defBody s_law) (defScope s_law) .none kV_law dc_law pm_law an_law cd_law ct_law), sl_law⟩)
   (c_law : PySem.W.codeIn K cd_law "law" = true) (k_law : PySem.W.keepIn K (.ref f_law) = true)
   (z_ValueError : PySem.W.nsIn K mainGlobals "ValueError" = some none)
   (z_abs : PySem.W.nsIn K mainGlobals "abs" = some none)
   (z_all : PySem.W.nsIn K mainGlobals "all" = some none)
   (z_bool : PySem.W.nsIn K mainGlobals "bool" = some none)
   (z_int : PySem.W.nsIn K mainGlobals "int" = some none)
   (z_isinstance : PySem.W.nsIn K mainGlobals "isinstance" = some none)
   (z_len : PySem.W.nsIn K mainGlobals "len" = some none)
   (z_list : PySem.W.nsIn K mainGlobals "list" = some none)
   (z_max : PySem.W.nsIn K mainGlobals "max" = some none)
   (z_range : PySem.W.nsIn K mainGlobals "range" = some none)
   (z_sorted : PySem.W.nsIn K mainGlobals "sorted" = some none)
   (z_str : PySem.W.nsIn K mainGlobals "str" = some none)
   (z_tuple : PySem.W.nsIn K mainGlobals "tuple" = some none)
   (a_BadLine : PySem.W.nsIn K mainGlobals "BadLine" = some (some (.ref c_BadLine)))
   (a_NoRound : PySem.W.nsIn K mainGlobals "NoRound" = some (some (.ref c_NoRound)))
   (a_StreetError : PySem.W.nsIn K mainGlobals "StreetError" = some (some (.ref c_StreetError)))
   (e_BadLine : PySem.W.excIn K c_BadLine bmV "ValueError.__new__" = true) {cd_BadLine : ClassData} (k1_BadLine : PySem.W.clsIn K c_BadLine = some cd_BadLine) (k2_BadLine : PySem.W.findIn K (.ref c_BadLine) "__getattribute__" = some (some (.builtin "BaseException.__getattribute__"))) (k3_BadLine : PySem.W.findIn K (.ref c_BadLine) "__getattr__" = some none) (k4_BadLine : PySem.W.findIn K (.ref c_BadLine) "__class__" = some (some (.builtin "object.__class__"))) (k5_BadLine : PySem.W.mroIn K c_BadLine (.type "object") = some true) (k6_BadLine : PySem.W.mroIn K c_BadLine (.type "BaseException") = some true)
   (i_BadLine_NoRound : PySem.W.kitOne K (.ref c_BadLine) (.ref c_NoRound) = some false)
   (i_BadLine_StreetError : PySem.W.kitOne K (.ref c_BadLine) (.ref c_StreetError) = some true)
   (i_BadLine_ValueError : PySem.W.kitOne K (.ref c_BadLine) (.type "ValueError") = some true)
   : ∃ fd : FuncData, (∀ (s : Shared) (v : Value), BindsTo s fd ⟨[v], []⟩ [("_law_script", v)]) /\ ∀ base : Heap, K.In base -> base.Ns mainGlobals mg -> FnOk l.prog w K mg base CX0 8 fa fd ["_law_script"] (spLaw K) := by
 have e := hfa.symm.trans (PySem.W.mg_of X G a_law)
 cases e
 have F_tidy := fun_mk (st := s_tidy) l_tidy c_tidy k_tidy
 have b_tidy := F_tidy.binds (ps := ["p", "pairs"]) fun _ _ _ _ _ _ us hl => by obtain ⟨_, _, rfl⟩ := len2 hl; rfl
 have F_added := fun_mk (st := s_added) l_added c_added k_added
 have b_added := F_added.binds (ps := ["p", "one", "other"]) fun _ _ _ _ _ _ us hl => by obtain ⟨_, _, _, rfl⟩ := len3 hl; rfl
 have F_moved := fun_mk (st := s_moved) l_moved c_moved k_moved
 have b_moved := F_moved.binds (ps := ["pattern", "by"]) fun _ _ _ _ _ _ us hl => by obtain ⟨_, _, rfl⟩ := len2 hl; rfl
 have F_timed := fun_mk (st := s_timed) l_timed c_timed k_timed
 have b_timed := F_timed.binds (ps := ["p", "pattern", "n"]) fun _ _ _ _ _ _ us hl => by obtain ⟨_, _, _, rfl⟩ := len3 hl; rfl
 have F_still := fun_mk (st := s_still) l_still c_still k_still
 have b_still := F_still.binds (ps := []) fun _ _ _ _ _ _ us hl => by obtain rfl := len0 hl; rfl
 have F_joined := fun_mk (st := s_joined) l_joined c_joined k_joined
 have b_joined := F_joined.binds (ps := ["p", "one", "other"]) fun _ _ _ _ _ _ us hl => by obtain ⟨_, _, _, rfl⟩ := len3 hl; rfl
 have F_backward := fun_mk (st := s_backward) l_backward c_backward k_backward
 have b_backward := F_backward.binds (ps := ["p", "one"]) fun _ _ _ _ _ _ us hl => by obtain ⟨_, _, rfl⟩ := len2 hl; rfl
 have F_repeated := fun_mk (st := s_repeated) l_repeated c_repeated k_repeated
 have b_repeated := F_repeated.binds (ps := ["p", "one", "n"]) fun _ _ _ _ _ _ us hl => by obtain ⟨_, _, _, rfl⟩ := len3 hl; rfl
 have F_picked := fun_mk (st := s_picked) l_picked c_picked k_picked
 have b_picked := F_picked.binds (ps := ["things", "at"]) fun _ _ _ _ _ _ us hl => by obtain ⟨_, _, rfl⟩ := len2 hl; rfl
 have F_line_round := fun_mk (st := s_line_round) l_line_round c_line_round k_line_round
 have b_line_round := F_line_round.binds (ps := ["p", "members", "ahead", "line"]) fun _ _ _ _ _ _ us hl => by obtain ⟨_, _, _, _, rfl⟩ := len4 hl; rfl
 have F_worked := fun_mk (st := s_worked) l_worked c_worked k_worked
 have b_worked := F_worked.binds (ps := ["p", "members", "lines"]) fun _ _ _ _ _ _ us hl => by obtain ⟨_, _, _, rfl⟩ := len3 hl; rfl
 have F_l_begin := fun_mk (st := s_l_begin) l_l_begin c_l_begin k_l_begin
 have b_l_begin := F_l_begin.binds (ps := ["_law_script"]) fun _ _ _ _ _ _ us hl => by obtain ⟨_, rfl⟩ := len1 hl; rfl
 have F_l_take := fun_mk (st := s_l_take) l_l_take c_l_take k_l_take
 have b_l_take := F_l_take.binds (ps := ["_law_draw", "_law_many"]) fun _ _ _ _ _ _ us hl => by obtain ⟨_, _, rfl⟩ := len2 hl; rfl
 have F_l_p := fun_mk (st := s_l_p) l_l_p c_l_p k_l_p
 have b_l_p := F_l_p.binds (ps := ["_law_draw"]) fun _ _ _ _ _ _ us hl => by obtain ⟨_, rfl⟩ := len1 hl; rfl
 have F_l_tidy := fun_mk (st := s_l_tidy) l_l_tidy c_l_tidy k_l_tidy
 have b_l_tidy := F_l_tidy.binds (ps := ["_law_p_here", "_law_pairs"]) fun _ _ _ _ _ _ us hl => by obtain ⟨_, _, rfl⟩ := len2 hl; rfl
 have F_l_pattern := fun_mk (st := s_l_pattern) l_l_pattern c_l_pattern k_l_pattern
 have b_l_pattern := F_l_pattern.binds (ps := ["_law_draw", "_law_p_here", "_law_most", "_law_far"]) fun _ _ _ _ _ _ us hl => by obtain ⟨_, _, _, _, rfl⟩ := len4 hl; rfl
 have F_l_round := fun_mk (st := s_l_round) l_l_round c_l_round k_l_round
 have b_l_round := F_l_round.binds (ps := ["_law_draw", "_law_p_here", "_law_end", "_law_most", "_law_far"]) fun _ _ _ _ _ _ us hl => by obtain ⟨_, _, _, _, _, rfl⟩ := len5 hl; rfl
 have F_l_sum := fun_mk (st := s_l_sum) l_l_sum c_l_sum k_l_sum
 have b_l_sum := F_l_sum.binds (ps := ["_law_p_here", "_law_one", "_law_other", "_law_by", "_law_many"]) fun _ _ _ _ _ _ us hl => by obtain ⟨_, _, _, _, _, rfl⟩ := len5 hl; rfl
 have F_l_join := fun_mk (st := s_l_join) l_l_join c_l_join k_l_join
 have b_l_join := F_l_join.binds (ps := ["_law_p_here", "_law_one", "_law_other"]) fun _ _ _ _ _ _ us hl => by obtain ⟨_, _, _, rfl⟩ := len3 hl; rfl
 have F_l_back := fun_mk (st := s_l_back) l_l_back c_l_back k_l_back
 have b_l_back := F_l_back.binds (ps := ["_law_p_here", "_law_one"]) fun _ _ _ _ _ _ us hl => by obtain ⟨_, _, rfl⟩ := len2 hl; rfl
 have F_l_times := fun_mk (st := s_l_times) l_l_times c_l_times k_l_times
 have b_l_times := F_l_times.binds (ps := ["_law_p_here", "_law_one", "_law_n"]) fun _ _ _ _ _ _ us hl => by obtain ⟨_, _, _, rfl⟩ := len3 hl; rfl
 have F_l_int := fun_mk (st := s_l_int) l_l_int c_l_int k_l_int
 have b_l_int := F_l_int.binds (ps := ["_law_thing"]) fun _ _ _ _ _ _ us hl => by obtain ⟨_, rfl⟩ := len1 hl; rfl
 have F_l_line := fun_mk (st := s_l_line) l_l_line c_l_line k_l_line
 have b_l_line := F_l_line.binds (ps := ["_law_p_here", "_law_members", "_law_made", "_law_line_here"]) fun _ _ _ _ _ _ us hl => by obtain ⟨_, _, _, _, rfl⟩ := len4 hl; rfl
 have F_l_lines := fun_mk (st := s_l_lines) l_l_lines c_l_lines k_l_lines
 have b_l_lines := F_l_lines.binds (ps := ["_law_p_here", "_law_members", "_law_lines_here"]) fun _ _ _ _ _ _ us hl => by obtain ⟨_, _, _, rfl⟩ := len3 hl; rfl
 have F_l_is_pattern := fun_mk (st := s_l_is_pattern) l_l_is_pattern c_l_is_pattern k_l_is_pattern
 have b_l_is_pattern := F_l_is_pattern.binds (ps := ["_law_p_here", "_law_thing"]) fun _ _ _ _ _ _ us hl => by obtain ⟨_, _, rfl⟩ := len2 hl; rfl
 have F_l_is_round := fun_mk (st := s_l_is_round) l_l_is_round c_l_is_round k_l_is_round
 have b_l_is_round := F_l_is_round.binds (ps := ["_law_p_here", "_law_thing"]) fun _ _ _ _ _ _ us hl => by obtain ⟨_, _, rfl⟩ := len2 hl; rfl
 have F_l_draw_line := fun_mk (st := s_l_draw_line) l_l_draw_line c_l_draw_line k_l_draw_line
 have b_l_draw_line := F_l_draw_line.binds (ps := ["_law_draw", "_law_sizes", "_law_many"]) fun _ _ _ _ _ _ us hl => by obtain ⟨_, _, _, rfl⟩ := len3 hl; rfl
 have F_l_size_of := fun_mk (st := s_l_size_of) l_l_size_of c_l_size_of k_l_size_of
 have b_l_size_of := F_l_size_of.binds (ps := ["_law_sizes", "_law_line_here"]) fun _ _ _ _ _ _ us hl => by obtain ⟨_, _, rfl⟩ := len2 hl; rfl
 have F_l_bad := fun_mk (st := s_l_bad) l_l_bad c_l_bad k_l_bad
 have b_l_bad := F_l_bad.binds (ps := ["_law_draw", "_law_at", "_law_many"]) fun _ _ _ _ _ _ us hl => by obtain ⟨_, _, _, rfl⟩ := len3 hl; rfl
 have F_law := fun_mk (st := s_law) l_law c_law k_law
 have b_law := F_law.binds (ps := ["_law_script"]) fun _ _ _ _ _ _ us hl => by obtain ⟨_, rfl⟩ := len1 hl; rfl
 have T : Txt K mg ⟨f_tidy, _, f_added, _, f_moved, _, f_timed, _, f_still, _, f_joined, _, f_backward, _, f_repeated, _, f_picked, _, f_line_round, _, f_worked, _, f_l_begin, _, f_l_take, _, f_l_p, _, f_l_tidy, _, f_l_pattern, _, f_l_round, _, f_l_sum, _, f_l_join, _, f_l_back, _, f_l_times, _, f_l_int, _, f_l_line, _, f_l_lines, _, f_l_is_pattern, _, f_l_is_round, _, f_l_draw_line, _, f_l_size_of, _, f_l_bad, _, fa, _, c_BadLine, c_NoRound, c_StreetError⟩ := ⟨PySem.W.mg_none_of X G z_ValueError, PySem.W.mg_none_of X G z_abs, PySem.W.mg_none_of X G z_all, PySem.W.mg_none_of X G z_bool, PySem.W.mg_none_of X G z_int, PySem.W.mg_none_of X G z_isinstance, PySem.W.mg_none_of X G z_len, PySem.W.mg_none_of X G z_list, PySem.W.mg_none_of X G z_max, PySem.W.mg_none_of X G z_range, PySem.W.mg_none_of X G z_sorted, PySem.W.mg_none_of X G z_str, PySem.W.mg_none_of X G z_tuple, ⟨PySem.W.mg_of X G a_tidy, F_tidy, b_tidy⟩, ⟨PySem.W.mg_of X G a_added, F_added, b_added⟩, ⟨PySem.W.mg_of X G a_moved, F_moved, b_moved⟩, ⟨PySem.W.mg_of X G a_timed, F_timed, b_timed⟩, ⟨PySem.W.mg_of X G a_still, F_still, b_still⟩, ⟨PySem.W.mg_of X G a_joined, F_joined, b_joined⟩, ⟨PySem.W.mg_of X G a_backward, F_backward, b_backward⟩, ⟨PySem.W.mg_of X G a_repeated, F_repeated, b_repeated⟩, ⟨PySem.W.mg_of X G a_picked, F_picked, b_picked⟩, ⟨PySem.W.mg_of X G a_line_round, F_line_round, b_line_round⟩, ⟨PySem.W.mg_of X G a_worked, F_worked, b_worked⟩, ⟨PySem.W.mg_of X G a_l_begin, F_l_begin, b_l_begin⟩, ⟨PySem.W.mg_of X G a_l_take, F_l_take, b_l_take⟩, ⟨PySem.W.mg_of X G a_l_p, F_l_p, b_l_p⟩, ⟨PySem.W.mg_of X G a_l_tidy, F_l_tidy, b_l_tidy⟩, ⟨PySem.W.mg_of X G a_l_pattern, F_l_pattern, b_l_pattern⟩, ⟨PySem.W.mg_of X G a_l_round, F_l_round, b_l_round⟩, ⟨PySem.W.mg_of X G a_l_sum, F_l_sum, b_l_sum⟩, ⟨PySem.W.mg_of X G a_l_join, F_l_join, b_l_join⟩, ⟨PySem.W.mg_of X G a_l_back, F_l_back, b_l_back⟩, ⟨PySem.W.mg_of X G a_l_times, F_l_times, b_l_times⟩, ⟨PySem.W.mg_of X G a_l_int, F_l_int, b_l_int⟩, ⟨PySem.W.mg_of X G a_l_line, F_l_line, b_l_line⟩, ⟨PySem.W.mg_of X G a_l_lines, F_l_lines, b_l_lines⟩, ⟨PySem.W.mg_of X G a_l_is_pattern, F_l_is_pattern, b_l_is_pattern⟩, ⟨PySem.W.mg_of X G a_l_is_round, F_l_is_round, b_l_is_round⟩, ⟨PySem.W.mg_of X G a_l_draw_line, F_l_draw_line, b_l_draw_line⟩, ⟨PySem.W.mg_of X G a_l_size_of, F_l_size_of, b_l_size_of⟩, ⟨PySem.W.mg_of X G a_l_bad, F_l_bad, b_l_bad⟩, ⟨PySem.W.mg_of X G a_law, F_law, b_law⟩, PySem.W.mg_of X G a_BadLine, PySem.W.mg_of X G a_NoRound, PySem.W.mg_of X G a_StreetError, ⟨a_BadLine, e_BadLine, (by rw [k1_BadLine]; rfl), k2_BadLine, k3_BadLine, k4_BadLine, k5_BadLine, k6_BadLine⟩, i_BadLine_NoRound, i_BadLine_StreetError, i_BadLine_ValueError⟩
 exact ⟨_, fun s v => .of_eq rfl, fun base _ _ => ok_law T⟩
theorem walk {l : PySem.W.OpenLaw} {q : Program} {loose : List Str} {XP : (Str -> Option Value) -> Heap -> Prop} {YP : World -> Heap -> Prop} {d : DefRec} {K : Params -> PySem.W.Frag} (hn : l.most = some 63) (hdf : d.params.defaults = [])
   (hY : ∀ (w : World) (h : Heap), YP w h -> (K w.params).In h)
   (F : ∀ (w : World) (mg : Str -> Option Value) (fa : Addr) (h : Heap), (K w.params).In h -> h.Ns mainGlobals mg -> mg d.name = some (.ref fa) ->
     ∃ fd : FuncData, (∀ (s : Shared) (u : Value), BindsTo s fd ⟨[u], []⟩ [("_law_script", u)]) /\ ∀ base : Heap, (K w.params).In base -> base.Ns mainGlobals mg -> FnOk l.prog w (K w.params) mg base CX0 8 fa fd ["_law_script"] (spLaw (K w.params))) :
   PySem.W.WalkO q loose XP YP l.row.toRowW d [] (fun f vs => PySem.call f vs) :=
 L2.walk_of (n := 63) (k := 8) (x := "_law_script") (CX := fun _ => CX0) (sp := fun w => spLaw (K w.params)) hn (by decide) hdf ⟨rfl, by decide, by decide⟩ hY F (fun _ _ a ns hl _ hS => ⟨a, ns, rfl, hS, fun _ => rfl⟩) fun _ _ _ _ _ z => z
end K25
end
open PySem PySem.W PyProof.Rows
set_option maxRecDepth 100000 in
set_option maxHeartbeats 0 in
theorem PySem.Challenge.cw_duskround_k25_lines_worked_holds : PySem.Challenge.rw_duskround_k25_lines_worked.Holds := by
 w_on; o_law; k_head; (case hw => w_witness2)
 k_fill
 refine K25.walk (l := PySem.Challenge.rw_duskround_k25_lines_worked) rfl rfl (fun w h Y => PySem.W.kIn_of Y) ?F
 case F =>
   intro w mg fa h KX G hmg
   refine' K25.all_mk KX G hmg ?a_tidy ?l_tidy ?c_tidy ?k_tidy ?a_added ?l_added ?c_added ?k_added ?a_moved ?l_moved ?c_moved ?k_moved ?a_timed ?l_timed ?c_timed ?k_timed ?a_still ?l_still ?c_still ?k_still ?a_joined ?l_joined ?c_joined ?k_joined ?a_backward ?l_backward ?c_backward ?k_backward ?a_repeated ?l_repeated ?c_repeated ?k_repeated ?a_picked ?l_picked ?c_picked ?k_picked ?a_line_round ?l_line_round ?c_line_round ?k_line_round ?a_worked ?l_worked ?c_worked ?k_worked ?a_l_begin ?l_l_begin ?c_l_begin ?k_l_begin ?a_l_take ?l_l_take ?c_l_take ?k_l_take ?a_l_p ?l_l_p ?c_l_p ?k_l_p ?a_l_tidy ?l_l_tidy ?c_l_tidy ?k_l_tidy ?a_l_pattern ?l_l_pattern ?c_l_pattern ?k_l_pattern ?a_l_round ?l_l_round ?c_l_round ?k_l_round ?a_l_sum ?l_l_sum ?c_l_sum ?k_l_sum ?a_l_join ?l_l_join ?c_l_join ?k_l_join ?a_l_back ?l_l_back ?c_l_back ?k_l_back ?a_l_times ?l_l_times ?c_l_times ?k_l_times ?a_l_int ?l_l_int ?c_l_int ?k_l_int ?a_l_line ?l_l_line ?c_l_line ?k_l_line ?a_l_lines ?l_l_lines ?c_l_lines ?k_l_lines ?a_l_is_pattern ?l_l_is_pattern ?c_l_is_pattern ?k_l_is_pattern ?a_l_is_round ?l_l_is_round ?c_l_is_round ?k_l_is_round ?a_l_draw_line ?l_l_draw_line ?c_l_draw_line ?k_l_draw_line ?a_l_size_of ?l_l_size_of ?c_l_size_of ?k_l_size_of ?a_l_bad ?l_l_bad ?c_l_bad ?k_l_bad ?a_law ?l_law ?c_law ?k_law ?z_ValueError ?z_abs ?z_all ?z_bool ?z_int ?z_isinstance ?z_len ?z_list ?z_max ?z_range ?z_sorted ?z_str ?z_tuple ?a_BadLine ?a_NoRound ?a_StreetError ?e_BadLine ?k1_BadLine ?k2_BadLine ?k3_BadLine ?k4_BadLine ?k5_BadLine ?k6_BadLine ?i_BadLine_NoRound ?i_BadLine_StreetError ?i_BadLine_ValueError
   (case a_tidy => k_is)
   (case l_tidy => k_is)
   (case c_tidy => k_is)
   (case k_tidy => k_is)
   (case a_added => k_is)
   (case l_added => k_is)
   (case c_added => k_is)
   (case k_added => k_is)
   (case a_moved => k_is)
   (case l_moved => k_is)
   (case c_moved => k_is)
   (case k_moved => k_is)
   (case a_timed => k_is)
   (case l_timed => k_is)
   (case c_timed => k_is)
   (case k_timed => k_is)
   (case a_still => k_is)
   (case l_still => k_is)
   (case c_still => k_is)
   (case k_still => k_is)
   (case a_joined => k_is)
   (case l_joined => k_is)
   (case c_joined => k_is)
   (case k_joined => k_is)
   (case a_backward => k_is)
   (case l_backward => k_is)
   (case c_backward => k_is)
   (case k_backward => k_is)
   (case a_repeated => k_is)
   (case l_repeated => k_is)
   (case c_repeated => k_is)
   (case k_repeated => k_is)
   (case a_picked => k_is)
   (case l_picked => k_is)
   (case c_picked => k_is)
   (case k_picked => k_is)
   (case a_line_round => k_is)
   (case l_line_round => k_is)
   (case c_line_round => k_is)
   (case k_line_round => k_is)
   (case a_worked => k_is)
   (case l_worked => k_is)
   (case c_worked => k_is)
   (case k_worked => k_is)
   (case a_l_begin => k_is)
   (case l_l_begin => k_is)
   (case c_l_begin => k_is)
   (case k_l_begin => k_is)
   (case a_l_take => k_is)
   (case l_l_take => k_is)
   (case c_l_take => k_is)
   (case k_l_take => k_is)
   (case a_l_p => k_is)
   (case l_l_p => k_is)
   (case c_l_p => k_is)
   (case k_l_p => k_is)
   (case a_l_tidy => k_is)
   (case l_l_tidy => k_is)
   (case c_l_tidy => k_is)
   (case k_l_tidy => k_is)
   (case a_l_pattern => k_is)
   (case l_l_pattern => k_is)
   (case c_l_pattern => k_is)
   (case k_l_pattern => k_is)
   (case a_l_round => k_is)
   (case l_l_round => k_is)
   (case c_l_round => k_is)
   (case k_l_round => k_is)
   (case a_l_sum => k_is)
   (case l_l_sum => k_is)
   (case c_l_sum => k_is)
   (case k_l_sum => k_is)
   (case a_l_join => k_is)
   (case l_l_join => k_is)
   (case c_l_join => k_is)
   (case k_l_join => k_is)
   (case a_l_back => k_is)
   (case l_l_back => k_is)
   (case c_l_back => k_is)
   (case k_l_back => k_is)
   (case a_l_times => k_is)
   (case l_l_times => k_is)
   (case c_l_times => k_is)
   (case k_l_times => k_is)
   (case a_l_int => k_is)
   (case l_l_int => k_is)
   (case c_l_int => k_is)
   (case k_l_int => k_is)
   (case a_l_line => k_is)
   (case l_l_line => k_is)
   (case c_l_line => k_is)
   (case k_l_line => k_is)
   (case a_l_lines => k_is)
   (case l_l_lines => k_is)
   (case c_l_lines => k_is)
   (case k_l_lines => k_is)
   (case a_l_is_pattern => k_is)
   (case l_l_is_pattern => k_is)
   (case c_l_is_pattern => k_is)
   (case k_l_is_pattern => k_is)
   (case a_l_is_round => k_is)
   (case l_l_is_round => k_is)
   (case c_l_is_round => k_is)
   (case k_l_is_round => k_is)
   (case a_l_draw_line => k_is)
   (case l_l_draw_line => k_is)
   (case c_l_draw_line => k_is)
   (case k_l_draw_line => k_is)
   (case a_l_size_of => k_is)
   (case l_l_size_of => k_is)
   (case c_l_size_of => k_is)
   (case k_l_size_of => k_is)
   (case a_l_bad => k_is)
   (case l_l_bad => k_is)
   (case c_l_bad => k_is)
   (case k_l_bad => k_is)
   (case a_law => k_is)
   (case l_law => k_is)
   (case c_law => k_is)
   (case k_law => k_is)
   (case z_ValueError => k_is)
   (case z_abs => k_is)
   (case z_all => k_is)
   (case z_bool => k_is)
   (case z_int => k_is)
   (case z_isinstance => k_is)
   (case z_len => k_is)
   (case z_list => k_is)
   (case z_max => k_is)
   (case z_range => k_is)
   (case z_sorted => k_is)
   (case z_str => k_is)
   (case z_tuple => k_is)
   (case a_BadLine => k_is)
   (case a_NoRound => k_is)
   (case a_StreetError => k_is)
   (case e_BadLine => k_exc)
   (case k1_BadLine => k_is)
   (case k2_BadLine => k_is)
   (case k3_BadLine => k_is)
   (case k4_BadLine => k_is)
   (case k5_BadLine => k_is)
   (case k6_BadLine => k_is)
   (case i_BadLine_NoRound => kit_is)
   (case i_BadLine_StreetError => kit_is)
   (case i_BadLine_ValueError => kit_is)
