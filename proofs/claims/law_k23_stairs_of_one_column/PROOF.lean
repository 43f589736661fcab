import PyProof.Rows.All
import Wide.All
import OpenK.AllK
import Wide.FinOn
import Lean
import PyProof.EqAt
import PyProof.EqKinds
import PyProof.TupleCall
import PyProof.NeKinds
import PyProof.SumAny
import PyProof.ConsumeS
import PyProof.WalkInts
import PyProof.Draws
import PyProof.EnumMake
import PyProof.Rows.Range3
import PyProof.MeetsStr
import KE.KDictLaws
import PyProof.Rows.CallKwBuiltin
import PyProof.DictItems
import KE.KPairComp
import PyProof.AttrMissHeap
import KE.KDictOf
import KE.KItemsList
import PySem.Challenge.RW_duskround_k23_stairs_of_one_column
set_option linter.all false
set_option genSizeOf false
set_option genInjectivity false
def aa:=@List.length_map
def ae:=@List.getElem?_eq_getElem
def af:=@List.mem_singleton
def ag:=@List.mem_map
def ah:=@if_neg
def ai:=@List.getElem?_eq_some_iff
def aj:=@if_pos
def ak:=@PySem.wpAny_bind
def ao:=@Nat.le_refl
def aq:=@PySem.Heap.get?_push_of_some
def ar:=@Decidable.byContradiction
def au:=@List.mem_of_getElem?
def av:=@List.mem_cons
def aw:=@List.mem_cons_of_mem
def ax:=@List.mem_append
def ay:=@List.getElem?_map
def az:=@Bool.false_eq_true
def aA:=@List.mem_cons_self
def aB:=@PyProof.Rows.wpS_bind
def aC:=@List.getD_eq_getElem?_getD
def aE:=@List.map_map
def aF:=@PySem.Heap.lt_size
def aG:=@List.length_cons
def aH:=@List.length_append
def aK:=@List.map_cons
def aL:=@PyProof.Rows.wpS_pure
def aM:=@List.map_append
def aO:=@PySem.wpAny_pure
def aQ:=@List.mem_filter
def aR:=@List.size_toArray
def aS:=@PySem.Heap.get?_push_size
def aT:=@Int.le_refl
def aU:=@List.getElem?_append_right
def aV:=@List.mem_append_right
def aX:=@Bool.false_ne_true
def aY:=@eq_true
def aZ:=@Nat.le_trans
def a4:=@List.pairwise_cons
def a5:=@Nat.ne_of_lt
def a6:=@Int.mul_le_mul_of_nonneg_left
def a7:=@List.getElem?_append_left
def a9:=@Ne.symm
def bf:=@Int.mul_le_mul_of_nonneg_right
def bg:=@Int.zero_mul
def bj:=@if_false
def bo:=@List.take_append_drop
def bu:=@List.length_take
def bw:=@List.pairwise_iff_getElem
def bA:=@Option.some.inj
def bB:=@Int.zero_add
def bC:=@List.take_add_one
def bD:=@List.map_congr_left
def bE:=@Int.add_zero
def bF:=@List.nodup_cons
def bI:=@List.length_range
def bJ:=@Int.add_emod
def bK:=@List.getElem_mem
def bN:=@Int.mul_comm
def bO:=@PySem.PassesOwn.never
def bP:=@PyProof.Rows.callWith_type1
def bQ:=@List.append_assoc
def bS:=@Nat.lt_of_lt_of_le
def bT:=@Int.mul_emod
def bV:=@PySem.wpAny_mono
def bW:=@if_true
def bX:=@PySem.W.mg_none_of
def cb:=@List.take_length
def cc:=@List.mem_range
def cf:=@Int.emod_lt_of_pos
def cg:=@List.mem_iff_getElem?
def cj:=@List.length_replicate
def cq:=@Int.emod_emod
def cx:=@List.pairwise_map
def cz:=@Nat.lt_irrefl
def cA:=@Int.emod_eq_emod_iff_emod_sub_eq_zero
def cC:=@List.length_singleton
def cD:=@List.getElem?_eq_none
def cE:=@Array.toList_append
def cF:=@Int.emod_nonneg
def cJ:=@List.pairwise_append
def cN:=@PyProof.Rows.wpS_forRange
def cO:=@PySem.sizeLine_eq
def cS:=@PySem.W.kia_one
def cT:=@List.replicate_succ
def cU:=@List.length_pos_iff
def cW:=@Int.mul_zero
def cX:=@Int.emod_eq_of_lt
def cZ:=@List.length_eq_zero_iff
def c5:=@decide_eq_true
def c7:=@decide_eq_false
def c8:=@List.find?_cons
def c9:=@Int.zero_emod
def dg:=@Array.length_toList
def dh:=@decide_eq_true_eq
def dj:=@Nat.zero_le
def dm:=@Int.mul_one
def dy:=@Int.mul_nonneg
def dz:=@Int.mul_assoc
def dA:=@PySem.wpAny_truthy_bool
def dJ:=@PySem.Calls.spliced_cons
def dP:=@PySem.mem_of_lookup
def dS:=@List.drop_eq_getElem_cons
def dW:=@List.perm_append_comm
def dX:=@PySem.Heap.get?_update_other
noncomputable section
inductive Di {T0 T1:Type}(P:T0 ->T1 ->Prop):Prop | mk (x0:T0) (x1:T1) (h:P x0 x1):Di P
inductive oM {T0 T1 T2:Type}(P:T0 ->T1 ->T2 ->Prop):Prop | mk (x0:T0) (x1:T1) (x2:T2) (h:P x0 x1 x2):oM P
inductive Mo {T0 T1 T2 T3:Type}(P:T0 ->T1 ->T2 ->T3 ->Prop):Prop | mk (x0:T0) (x1:T1) (x2:T2) (x3:T3) (h:P x0 x1 x2 x3):Mo P
inductive Tt {T0 T1 T2 T3 T4:Type}(P:T0 ->T1 ->T2 ->T3 ->T4 ->Prop):Prop | mk (x0:T0) (x1:T1) (x2:T2) (x3:T3) (x4:T4) (h:P x0 x1 x2 x3 x4):Tt P
inductive XE6 {T0 T1 T2 T3 T4 T5:Type}(P:T0 ->T1 ->T2 ->T3 ->T4 ->T5 ->Prop):Prop | mk (x0:T0) (x1:T1) (x2:T2) (x3:T3) (x4:T4) (x5:T5) (h:P x0 x1 x2 x3 x4 x5):XE6 P
inductive Ts {T0 T1 T2 T3 T4 T5 T6:Type}(P:T0 ->T1 ->T2 ->T3 ->T4 ->T5 ->T6 ->Prop):Prop | mk (x0:T0) (x1:T1) (x2:T2) (x3:T3) (x4:T4) (x5:T5) (x6:T6) (h:P x0 x1 x2 x3 x4 x5 x6):Ts P
inductive HU {T0 T1 T2 T3 T4 T5 T6 T7:Type}(P:T0 ->T1 ->T2 ->T3 ->T4 ->T5 ->T6 ->T7 ->Prop):Prop | mk (x0:T0) (x1:T1) (x2:T2) (x3:T3) (x4:T4) (x5:T5) (x6:T6) (x7:T7) (h:P x0 x1 x2 x3 x4 x5 x6 x7):HU P
inductive O6 (P0 P1 P2:Prop):Prop | mk (SX:P0) (HN:P1) (CL:P2):O6 P0 P1 P2
inductive vD (P0 P1 P2 P3:Prop):Prop | mk (SX:P0) (HN:P1) (CL:P2) (UP:P3):vD P0 P1 P2 P3
inductive BJ (P0 P1 P2 P3 P4:Prop):Prop | mk (SX:P0) (HN:P1) (CL:P2) (UP:P3) (XD:P4):BJ P0 P1 P2 P3 P4
inductive DE (P0 P1 P2 P3 P4 P5:Prop):Prop | mk (SX:P0) (HN:P1) (CL:P2) (UP:P3) (XD:P4) (hP5:P5):DE P0 P1 P2 P3 P4 P5
inductive Ke (P0 P1 P2 P3 P4 P5 P6:Prop):Prop | mk (SX:P0) (HN:P1) (CL:P2) (UP:P3) (XD:P4) (hP5:P5) (hP6:P6):Ke P0 P1 P2 P3 P4 P5 P6
inductive uk (P0 P1 P2 P3 P4 P5 P6 P7:Prop):Prop | mk (SX:P0) (HN:P1) (CL:P2) (UP:P3) (XD:P4) (hP5:P5) (hP6:P6) (hP7:P7):uk P0 P1 P2 P3 P4 P5 P6 P7
set_option Elab.async false
set_option maxRecDepth 100000
local macro_rules|`(def $i $s:optDeclSig:=by $v)=>do let d:=Lean.mkNode ``Lean.Parser.Command.declSig #[s.raw[0],s.raw[1][0]];`(theorem $i $(⟨d⟩):declSig:=by $v)
set_option genSizeOf false
set_option genInjectivity false
local macro_rules|`(tactic|let $p:term$[:$t]?:=$e)=>do let r:=p.raw.rewriteBottomUp (λs=>let k:=s.getKind;if s.isIdent then Lean.mkNode `Lean.Parser.Tactic.rcasesPat.one #[s] else if k==`Lean.Parser.Term.hole then Lean.mkNode `Lean.Parser.Tactic.rcasesPat.ignore s.getArgs else if k==`Lean.Parser.Term.anonymousCtor then Lean.mkNode `Lean.Parser.Tactic.rcasesPat.tuple (s.getArgs.modify 1 λa=>.node .none `null (a.getArgs.map λq=>if q.isAtom then q else Lean.mkNode `Lean.Parser.Tactic.rcasesPatLo #[Lean.mkNode `Lean.Parser.Tactic.rcasesPatMed #[Lean.mkNullNode #[q]],Lean.mkNullNode])) else s);`(tactic|obtain $(⟨Lean.mkNode `Lean.Parser.Tactic.rcasesPatMed #[Lean.mkNullNode #[r]]⟩):rcasesPatMed$[:$t]?:=$e)
local macro_rules|`(tactic|simp![$x,*]$[$l]?)=>`(tactic|simp only[$x,*]$[$l]?)
local macro_rules|`(#[$x,$y])=>`(⟨$x,$y⟩)|`(#[$x,$y,$z,*])=>`(⟨$x,$y,$z,*⟩)
namespace TS
open PySem PyProof.Rows
noncomputable def LE (less:Keyed ->Keyed ->Bool)(x y:Keyed):Prop:=less y x=false
structure Ord (less:Keyed ->Keyed ->Bool):Prop where
 Tp: ∀x y,less x y=true ->less y x=false
 trans: ∀x y z,LE less x y ->LE less y z ->LE less x z
section
variable {less:Keyed ->Keyed ->Bool}
def Ord.refl (O:Ord less)(x:Keyed):LE less x x:=by
 unfold LE;cases h:less x x with
 | false=>rfl
 | true=>exact(O.Tp x x h).symm.trans h▸rfl
theorem Ord.le (O:Ord less)(h:less x y=true):LE less x y:=O.Tp x y h
def Ord.RN (O:Ord less)(h:LE less x y)(h':less y z=true):less x z=true:=by
 cases e:less x z with
 | true=>rfl
 | false=>have:=O.trans z x y e h;unfold LE at this;rw[h'] at this;cases this
end
noncomputable def cV (xs:Array Keyed)(i:Nat):Keyed:=(xs[i]?).getD (.none, .none)
def Hi (h:i<xs.size):xs[i]? =some (cV xs i):=by unfold cV;rw[getElem?_pos xs i h];rfl
def jy (h:xs[i]? =ys[j]?):cV xs i=cV ys j:=by unfold cV;rw[h]
def vA (h:i<xs.size):cV xs i∈xs.toList:=by unfold cV;rw[getElem?_pos xs i h];simp
noncomputable def Sg (less:Keyed ->Keyed ->Bool)(xs:Array Keyed)(lo hi:Nat):Prop:= ∀i j,lo<=i ->i<=j ->j<hi ->LE less (cV xs i) (cV xs j)
noncomputable def Ng (less:Keyed ->Keyed ->Bool)(xs:Array Keyed)(lo hi:Nat):Prop:= ∀i j,lo<=i ->i<=j ->j<hi ->LE less (cV xs j) (cV xs i)
structure SB (kd:SortKind)(a₀:Array Keyed)(st:SortSt):Prop where
 perm:(arrOf st).Perm a₀
 kd:kindOf st=kd
 fl:failedOf st=none
theorem SB.size {kd:SortKind}{st:SortSt}(h:SB kd a₀ st):(arrOf st).size=a₀.size:=h.perm.size_eq
theorem SB.mem {kd:SortKind}{st:SortSt}(h:SB kd a₀ st)(hi:i<a₀.size):cV (arrOf st) i∈a₀.toList:=(Array.perm_iff_toList_perm.mp h.perm).mem_iff.mp (vA (by rw[h.size];exact hi))
theorem SB.arr {kd:SortKind}{st:SortSt}(h:SB kd a₀ st)(hp:xs.Perm (arrOf st)):SB kd a₀ (setArr st xs):=#[hp.trans h.perm,h.kd,h.fl]
noncomputable def iZ (prog:Program)(w:World)(A:Around)(E:Value ->Shared ->Prop)(s:Shared)(kd:SortKind)(a₀:Array Keyed)(less:Keyed ->Keyed ->Bool):Prop:=∀ (x y:Keyed) (st:SortSt) (Q:Option Bool ->SortSt ->Prop),x∈a₀.toList ->y∈a₀.toList ->kindOf st=kd ->Q (some (less x y)) st ->wpS (model prog w) A E s (lt' x y) Q st
section
variable {prog:Program}{w:World}{A:Around}{E:Value ->Shared ->Prop}{s:Shared}{kd:SortKind}{a₀:Array Keyed}{less:Keyed ->Keyed ->Bool}
def wp_elem {st:SortSt}(hi:i<xs.size)(h:Q (cV xs i) st):wpS (model prog w) A E s (elem' xs i) Q st:=by rw[elem'_eq,Hi hi];exact aL h
def wp_lt (L:iZ prog w A E s kd a₀ less){st:SortSt}(B:SB kd a₀ st)(hi:i<a₀.size)(hj:j<a₀.size)(h:Q (some (less (cV (arrOf st) i) (cV (arrOf st) j))) st):wpS (model prog w) A E s (ltAt' i j) Q st:=by rw[ltAt'_eq];refine aB (wpS_get ?_);exact aB (wp_elem (by rw[B.size];exact hi) (aB (wp_elem (by rw[B.size];exact hj) (L _ _ _ _ (B.mem hi) (B.mem hj) B.kd h))))
def wp_rev {st:SortSt}(h:Q () (setArr st (mirror (arrOf st) i j ((j - i) / 2)))):wpS (model prog w) A E s (reverseSlice' i j) Q st:=by rw[reverseSlice'_eq];exact wpS_modify h
def eQ (hj:j<=xs.size)(k:Nat):cV (mirror xs i j ((j - i) / 2)) k=if i<=k /\ k<j then cV xs (i+j - 1 - k) else cV xs k:=by
 have e:=getElem?_mirror_all (i:=i) hj k;by_cases c:i<=k /\ k<j
 .rw[aj c] at e ⊢;exact jy e
 .rw[ah c] at e ⊢;exact jy e
def l6 (hs:src<xs.size)(hd:d<=src)(k:Nat):cV (bubble xs src d) k=if k=src - d then cV xs src else if src - d<k /\ k<=src then cV xs (k - 1) else cV xs k:=by
 have e:=getElem?_bubble hs d hd k;by_cases c:k=src - d
 .rw[aj c] at e ⊢;exact jy e
 .rw[ah c] at e ⊢;by_cases c':src - d<k /\ k<=src
  .rw[aj c'] at e ⊢;exact jy e
  .rw[ah c'] at e ⊢;exact jy e
noncomputable def Hm (lo a dQ:Nat):StateT SortSt Sem AscSt:=forIn [a:dQ] ((none,a):AscSt) λ_ c=>do
 let x <- ltAt' (lo+c.snd) (lo+c.snd - 1)
 match x with
 | some b=>if b=true then pure (ForInStep.done (none,c.snd)) else pure (ForInStep.yield (none,c.snd+1))
 | _=>pure (ForInStep.done (some none,c.snd))
noncomputable def vV (lo n dQ:Nat):StateT SortSt Sem (Option Nat):=do
 reverseSlice' lo (lo+n)
 let c <- Hm lo n dQ
 match c.fst with
 | some r=>pure r
 | none=>pure (some c.snd)
noncomputable def Bh (lo n dQ:Nat):StateT SortSt Sem DescSt:=forIn [n:dQ] ((none,n,0):DescSt) λ_ c=>do
 let x <- ltAt' (lo+c.snd.fst) (lo+c.snd.fst - 1)
 match x with
 | some b=>
  if b=true then
   if c.snd.snd >0 then do
    reverseSlice' (lo+c.snd.fst - (c.snd.snd+1)) (lo+c.snd.fst)
    pure (ForInStep.yield (none,c.snd.fst+1,0))
   else pure (ForInStep.yield (none,c.snd.fst+1,0))
  else do
   let y <- ltAt' (lo+c.snd.fst - 1) (lo+c.snd.fst)
   match y with
   | some d=>
    if d=true then pure (ForInStep.done (none,c.snd.fst,c.snd.snd))
    else pure (ForInStep.yield (none,c.snd.fst+1,c.snd.snd+1))
   | _=>pure (ForInStep.done (some none,c.snd.fst,c.snd.snd))
 | _=>pure (ForInStep.done (some none,c.snd.fst,c.snd.snd))
noncomputable def wJ (lo n dQ:Nat):StateT SortSt Sem (Option Nat):=do
 liftM (rule "list.sort.descending-run")
 let c <- Bh lo (n+1) dQ
 match c.fst with
 | some r=>pure r
 | none=>
  if c.snd.snd >0 then do
   reverseSlice' (lo+c.snd.fst - (c.snd.snd+1)) (lo+c.snd.fst)
   vV lo c.snd.fst dQ
  else vV lo c.snd.fst dQ
theorem Iz (lo dQ:Nat):countRun' lo dQ=(do
  let c <- Hm lo 1 dQ
  match c.fst with
  | some r=>pure r
  | none =>
   if(c.snd==dQ)=true then pure (some c.snd)
   else if c.snd >1 then do
    let x <- ltAt' lo (lo+c.snd - 1)
    match x with
    | some b=>if b=true then pure (some c.snd) else do
     reverseSlice' lo (lo+c.snd)
     wJ lo c.snd dQ
    | _=>pure none
   else wJ lo c.snd dQ):=by
 rw[countRun'_eq]
 dsimp only
 unfold wJ vV Bh Hm
 congr 1
 funext c
 let⟨r,n⟩:=c
 cases r with
 | some r=>rfl
 | none =>
  dsimp only;split
  .rfl
  .split
   .congr 1;funext x;cases x with
    | none=>rfl
    | some b=>
     dsimp only;split
     .rfl
     .congr 1;funext _r;congr 1;funext _u;congr 1;congr 1;funext s2;let⟨r2,n2,q2⟩:=s2;cases r2 with
      | some r2=>rfl
      | none=>
       dsimp only;split
       .congr 1;funext _v;congr 1;funext _w;congr 1;funext s3;let⟨r3,n3⟩:=s3;cases r3<;>rfl
       .congr 1;funext _w;congr 1;funext s3;let⟨r3,n3⟩:=s3;cases r3<;>rfl
   .congr 1;funext _u;congr 1;congr 1;funext s2;let⟨r2,n2,q2⟩:=s2;cases r2 with
    | some r2=>rfl
    | none=>
     dsimp only;split
     .congr 1;funext _v;congr 1;funext _w;congr 1;funext s3;let⟨r3,n3⟩:=s3;cases r3<;>rfl
     .congr 1;funext _w;congr 1;funext s3;let⟨r3,n3⟩:=s3;cases r3<;>rfl
noncomputable def Out (lo hi:Nat)(xs ys:Array Keyed):Prop:= ∀k,k<lo \/ hi<=k ->cV ys k=cV xs k
theorem Out.refl {lo hi:Nat}:Out lo hi xs xs:=λ_ _=>rfl
theorem Out.trans {lo hi:Nat}(a:Out lo hi xs ys)(b:Out lo hi ys zs):Out lo hi xs zs:=λk h=>(b k h).trans (a k h)
def wp_ascL (O:Ord less)(L:iZ prog w A E s kd a₀ less){st:SortSt}{lo a dQ:Nat}(hn:lo+dQ<=a₀.size)(ha:1<=a)(han:a<=dQ)(B:SB kd a₀ st)(hs:Sg less (arrOf st) lo (lo+a))(h: ∀n,a<=n ->n<=dQ ->Sg less (arrOf st) lo (lo+n) ->(n=dQ \/ less (cV (arrOf st) (lo+n)) (cV (arrOf st) (lo+n - 1))=true) ->Q (none,n) st): wpS (model prog w) A E s (Hm lo a dQ) Q st:=by
 unfold Hm;refine cN (I:=λx c bG=>bG=st /\ c=(none,x) /\ Sg less (arrOf st) lo (lo+x)) ?step ?fin #[rfl,rfl,hs];case fin=>
  rintro c bG ⟨rfl,rfl,gA⟩
  rw[show max a dQ=dQ by lia] at gA ⊢
  exact h dQ han (ao _) gA (.inl rfl)
 case step=>
  rintro x c bG XA hxn ⟨rfl,rfl,gA⟩
  dsimp only
  refine aB (wp_lt L B (by lia) (by lia) ?_)
  cases e:less (cV (arrOf bG) (lo+x)) (cV (arrOf bG) (lo+x - 1)) with
  | true=>simp![bW];exact aL (h x XA (by lia) gA (.inr e))
  | false=>
   simp![az,bj];refine aL #[rfl,rfl,λi j hi gK hj=> ?_];by_cases c:j<lo+x
   .exact gA i j hi gK c
   .have:j=lo+x:=by lia
    subst this;by_cases c2:i=lo+x
    .subst c2;exact O.refl _
    .exact O.trans _ _ _ (gA i (lo+x - 1) hi (by lia) (by lia)) e
def wp_tailL (O:Ord less)(L:iZ prog w A E s kd a₀ less){st:SortSt}{lo n dQ:Nat}(hn:lo+dQ<=a₀.size)(h1:1<=n)(JJ:n<=dQ)(B:SB kd a₀ st)(hs:Ng less (arrOf st) lo (lo+n))(h: ∀m bG,SB kd a₀ bG ->1<=m ->m<=dQ ->Sg less (arrOf bG) lo (lo+m) ->pendingOf bG=pendingOf st ->Out lo (lo+dQ) (arrOf st) (arrOf bG) ->Q (some m) bG): wpS (model prog w) A E s (vV lo n dQ) Q st:=by
 unfold vV;have hsz:lo+n<=(arrOf st).size:=by rw[B.size];lia
 refine aB (wp_rev ?_);have B':SB kd a₀ (setArr st (mirror (arrOf st) lo (lo+n) ((lo+n - lo) / 2))):=B.arr (mirror_perm _ _ _ _);refine aB (wp_ascL O L hn h1 JJ B' ?_ λm W0 UI Wu _=>aL (h m _ B' (by lia) UI Wu rfl ?_))
 .intro i j hi gK hj;show LE less (cV (mirror (arrOf st) lo (lo+n) ((lo+n - lo) / 2)) i) (cV (mirror (arrOf st) lo (lo+n) ((lo+n - lo) / 2)) j);rw[eQ hsz,eQ hsz,aj (by lia),aj (by lia)];exact hs _ _ (by lia) (by lia) (by lia)
 .intro k hk;show cV (mirror (arrOf st) lo (lo+n) ((lo+n - lo) / 2)) k=_;rw[eQ hsz,ah (by lia)]
def om (O:Ord less){lo i m:Nat}(hj:m<=xs.size)(hli:lo<=i)(hs:Ng less xs lo m)(he: ∀k,i<=k ->k<m ->LE less (cV xs k) (cV xs (m - 1))):Ng less (mirror xs i m ((m - i) / 2)) lo m:=by
 intro a b ha GK hb;rw[eQ hj,eQ hj];by_cases c1:i<=a
 .rw[aj (by lia),aj (by lia)];refine O.trans _ _ _ (he (i+m - 1 - b) (by lia) (by lia)) (hs _ _ (by lia) (by lia) (by lia))
 .rw[ah (show ¬(i<=a /\ a<m) by lia)];by_cases c2:i<=b
  .rw[aj (by lia)];exact hs _ _ (by lia) (by lia) (by lia)
  .rw[ah (by lia)];exact hs _ _ (by lia) (by lia) (by lia)
theorem lU {lo hi i j:Nat}(hj:j<=xs.size)(h1:lo<=i)(h2:j<=hi):Out lo hi xs (mirror xs i j ((j - i) / 2)):=λk hk=>by rw[eQ hj,ah (by lia)]
def wp_descL (O:Ord less)(L:iZ prog w A E s kd a₀ less){st:SortSt}{lo n dQ:Nat}(hn:lo+dQ<=a₀.size)(h1:1<=n)(JJ:n<=dQ)(B:SB kd a₀ st)(hs:Ng less (arrOf st) lo (lo+n))(h: ∀m sV bG,SB kd a₀ bG ->n<=m ->m<=dQ ->Ng less (arrOf bG) lo (lo+m) ->sV+1<=m ->(∀i,lo+m - (sV+1) <=i ->i<lo+m ->LE less (cV (arrOf bG) i) (cV (arrOf bG) (lo+m - 1))) ->pendingOf bG=pendingOf st ->Out lo (lo+dQ) (arrOf st) (arrOf bG) ->Q (none,m,sV) bG): wpS (model prog w) A E s (Bh lo n dQ) Q st:=by
 unfold Bh;refine cN (I:=λx c bG=> ∃sV,c=(none,x,sV) /\ SB kd a₀ bG /\ Ng less (arrOf bG) lo (lo+x) /\ sV+1<=x /\(∀i,lo+x - (sV+1) <=i ->i<lo+x ->LE less (cV (arrOf bG) i) (cV (arrOf bG) (lo+x - 1))) /\ pendingOf bG=pendingOf st /\ Out lo (lo+dQ) (arrOf st) (arrOf bG)) ?step ?fin #[0,rfl,B,hs,by lia,λi h1 h2=>by rw[show i=lo+n - 1 by lia];exact O.refl _,rfl,Out.refl];case fin=>
  rintro c bG ⟨sV,rfl,B',gA,hq,he,hp,ho⟩
  rw[show max n dQ=dQ by lia] at gA hq he ⊢
  exact h dQ sV bG B' JJ (ao _) gA hq he hp ho
 case step =>
  rintro x c bG XA hxn ⟨sV,rfl,B',gA,hq,he,hp,ho⟩
  dsimp only
  have hsz:lo+x<=(arrOf bG).size:=by rw[B'.size];lia
  refine aB (wp_lt L B' (by lia) (by lia) ?_)
  cases e:less (cV (arrOf bG) (lo+x)) (cV (arrOf bG) (lo+x - 1)) with
  | true =>
   simp![bW];by_cases Gn:sV >0
   .rw [aj Gn];refine aB (wp_rev (aL #[0,rfl,B'.arr (mirror_perm _ _ _ _),?_,by lia,λi h1 h2=>by rw[show i=lo+(x+1) - 1 by lia];exact O.refl _,hp,ho.trans (lU hsz (by lia) (by lia))]));have hm:=om O (i:=lo+x - (sV+1)) hsz (by lia) gA he;intro i j hi gK hj;by_cases c:j<lo+x
    .exact hm i j hi gK c
    .have:j=lo+x:=by lia
     subst this;by_cases c2:i=lo+x
     .subst c2;exact O.refl _
     .refine O.trans _ _ _ ?_ (hm i (lo+x - 1) hi (by lia) (by lia));show LE less (cV (mirror (arrOf bG) (lo+x - (sV+1)) (lo+x) ((lo+x - (lo+x - (sV+1))) / 2)) (lo+x)) (cV (mirror (arrOf bG) (lo+x - (sV+1)) (lo+x) ((lo+x - (lo+x - (sV+1))) / 2)) (lo+x - 1));rw[eQ hsz,eQ hsz,ah (by lia),aj (by lia)];exact O.trans _ _ _ (O.le e) (gA _ _ (by lia) (by lia) (by lia))
   .rw[ah Gn];refine aL #[0,rfl,B',λi j hi gK hj=> ?_,by lia,λi h1 h2=>by rw[show i=lo+(x+1) - 1 by lia];exact O.refl _,hp,ho];by_cases c:j<lo+x
    .exact gA i j hi gK c
    .have:j=lo+x:=by lia
     subst this;by_cases c2:i=lo+x
     .subst c2;exact O.refl _
     .exact O.trans _ _ _ (O.le e) (gA i (lo+x - 1) hi (by lia) (by lia))
  | false =>
   simp![az,bj];refine aB (wp_lt L B' (by lia) (by lia) ?_);cases e2:less (cV (arrOf bG) (lo+x - 1)) (cV (arrOf bG) (lo+x)) with
   | true=>simp![bW];exact aL (h x sV bG B' XA (by lia) gA hq he hp ho)
   | false=>
    simp![az,bj];refine aL #[sV+1,rfl,B',λi j hi gK hj=> ?_,by lia,λi h1 h2=> ?_,hp,ho]
    .by_cases c:j<lo+x
     .exact gA i j hi gK c
     .have:j=lo+x:=by lia
      subst this;by_cases c2:i=lo+x
      .subst c2;exact O.refl _
      .exact O.trans _ _ _ e2 (gA i (lo+x - 1) hi (by lia) (by lia))
    .rw[show lo+(x+1) - 1=lo+x by lia];by_cases c:i=lo+x
     .subst c;exact O.refl _
     .exact O.trans _ _ _ (he i (by lia) (by lia)) e
def wp_partL (O:Ord less)(L:iZ prog w A E s kd a₀ less){st:SortSt}{lo n dQ:Nat}(hn:lo+dQ<=a₀.size)(JJ:n+1<=dQ)(B:SB kd a₀ st)(hs:Ng less (arrOf st) lo (lo+(n+1)))(h: ∀m bG,SB kd a₀ bG ->1<=m ->m<=dQ ->Sg less (arrOf bG) lo (lo+m) ->pendingOf bG=pendingOf st ->Out lo (lo+dQ) (arrOf st) (arrOf bG) ->Q (some m) bG): wpS (model prog w) A E s (wJ lo n dQ) Q st:=by
 unfold wJ;refine aB (wpS_lift (wpAny_rule #[rfl,?_]));refine aB (wp_descL O L hn (by lia) JJ B hs λm sV bG B' W0 UI gA hq he hp ho=> ?_);dsimp only;have hsz:lo+m<=(arrOf bG).size:=by rw[B'.size];lia
 by_cases Gn:sV >0
 .rw[aj Gn];refine aB (wp_rev (wp_tailL O L hn (by lia) UI (B'.arr (mirror_perm _ _ _ _)) (om O hsz (by lia) gA he) λm2 lK b1 b2 b3 b4 b5 b6=>h m2 lK b1 b2 b3 b4 (b5.trans hp) (ho.trans ((lU hsz (by lia) (by lia)).trans b6))))
 .rw[ah Gn];exact wp_tailL O L hn (by lia) UI B' gA λm2 lK b1 b2 b3 b4 b5 b6=>h m2 lK b1 b2 b3 b4 (b5.trans hp) (ho.trans b6)
def wp_run (O:Ord less)(L:iZ prog w A E s kd a₀ less){st:SortSt}{lo dQ:Nat}(hn:lo+dQ<=a₀.size)(h1:1<=dQ)(B:SB kd a₀ st)(h: ∀m bG,SB kd a₀ bG ->1<=m ->m<=dQ ->Sg less (arrOf bG) lo (lo+m) ->pendingOf bG=pendingOf st ->Out lo (lo+dQ) (arrOf st) (arrOf bG) ->Q (some m) bG): wpS (model prog w) A E s (countRun' lo dQ) Q st:=by
 rw[Iz];refine aB (wp_ascL O L hn (ao 1) h1 B (λi j hi gK hj=>by rw[show i=j by lia];exact O.refl _) λn Su Oo Se So=> ?_);dsimp only;by_cases JJ:n=dQ
 .rw[aj (by simpa using JJ)];exact aL (h n st B Su Oo Se rfl Out.refl)
 .rw [ah (by simpa using JJ)];have fM:=So.resolve_left JJ;have hsz:lo+n<=(arrOf st).size:=by rw[B.size];lia
  by_cases pI:n >1
  .rw [aj pI];refine aB (wp_lt L B (by lia) (by lia) ?_);cases e:less (cV (arrOf st) lo) (cV (arrOf st) (lo+n - 1)) with
   | true=>simp![bW];exact aL (h n st B Su Oo Se rfl Out.refl)
   | false=>
    simp![az,bj];have hng:Ng less (arrOf st) lo (lo+n):=λi j hi gK hj=>O.trans _ _ _ (O.trans _ _ _ (Se j (lo+n - 1) (by lia) (by lia) (by lia)) e) (Se lo i (ao _) hi (by lia));refine aB (wp_rev (wp_partL O L hn (by lia) (B.arr (mirror_perm _ _ _ _)) ?_ λm2 lK b1 b2 b3 b4 b5 b6=>h m2 lK b1 b2 b3 b4 b5 ((lU hsz (by lia) (by lia)).trans b6)));have hm:=om O (i:=lo) hsz (ao _) hng λk _ _=>Se k (lo+n - 1) (by lia) (by lia) (by lia);intro i j hi gK hj;by_cases c:j<lo+n
    .exact hm i j hi gK c
    .have:j=lo+n:=by lia
     subst this;by_cases c2:i=lo+n
     .subst c2;exact O.refl _
     .refine O.trans _ _ _ ?_ (hm i (lo+n - 1) hi (by lia) (by lia));show LE less (cV (mirror (arrOf st) lo (lo+n) ((lo+n - lo) / 2)) (lo+n)) (cV (mirror (arrOf st) lo (lo+n) ((lo+n - lo) / 2)) (lo+n - 1));rw[eQ hsz,eQ hsz,ah (by lia),aj (by lia)];exact O.trans _ _ _ (O.le fM) (hng _ _ (by lia) (by lia) (by lia))
  .rw[ah pI];have WW:n=1:=by lia
   subst WW;refine wp_partL O L hn (by lia) B (λi j hi gK hj=> ?_) h;by_cases c:i=j
   .subst c;exact O.refl _
   .rw[show i=lo+1 - 1 by lia,show j=lo+1 by lia];exact O.le fM
def wp_bin (O:Ord less)(L:iZ prog w A E s kd a₀ less){st:SortSt}{lo n ok:Nat}(hn:lo+n<=a₀.size)(dv:ok<=n)(B:SB kd a₀ st)(hs:Sg less (arrOf st) lo (lo+ok))(h: ∀bG,SB kd a₀ bG ->Sg less (arrOf bG) lo (lo+n) ->pendingOf bG=pendingOf st ->Out lo (lo+n) (arrOf st) (arrOf bG) ->Q true bG):wpS (model prog w) A E s (binarySort' lo n ok) Q st:=by
 rw[binarySort'_eq];refine aB (wpS_mono (cN (I:=λk c bG=>c=(none,()) /\ SB kd a₀ bG /\ Sg less (arrOf bG) lo (lo+min k n) /\ pendingOf bG=pendingOf st /\ Out lo (lo+n) (arrOf st) (arrOf bG)) (Q:=λc bG=>c=(none,()) /\ SB kd a₀ bG /\ Sg less (arrOf bG) lo (lo+n) /\ pendingOf bG=pendingOf st /\ Out lo (lo+n) (arrOf st) (arrOf bG)) ?step ?fin ?init) ?post);case post=>
  rintro c bG ⟨rfl,B',gA,hp,ho⟩
  exact aL (h bG B' gA hp ho)
 case init=>
  refine#[rfl,B,λi j hi gK hj=> ?_,rfl,Out.refl]
  by_cases c:ok=0
  .rw[show i=j by lia];exact O.refl _
  .exact hs i j hi gK (by lia)
 case fin=>
  rintro c bG ⟨hc,B',gA,hp,ho⟩
  refine#[hc,B',?_,hp,ho]
  rwa [show min (max (max ok 1) n) n=n by lia] at gA
 case step=>
  rintro k c bG hak hkn ⟨rfl,B',gA,hp,ho⟩
  rw[show min k n=k by lia] at gA
  have hk:lo+k<a₀.size:=by lia
  refine aB (wpS_mono (cN (I:=λx c gh=>gh=bG /\ ∃l r,c=(none,l,r) /\ l<=r /\ r<=k /\ r - l<=k - x /\(∀i,i<l ->LE less (cV (arrOf bG) (lo+i)) (cV (arrOf bG) (lo+k))) /\ (∀i,r<=i ->i<k ->LE less (cV (arrOf bG) (lo+k)) (cV (arrOf bG) (lo+i)))) (Q:=λc gh=>gh=bG /\ ∃l r,c=(none,l,r) /\ l<=k /\(∀i,i<l ->LE less (cV (arrOf bG) (lo+i)) (cV (arrOf bG) (lo+k))) /\ (∀i,l<=i ->i<k ->LE less (cV (arrOf bG) (lo+k)) (cV (arrOf bG) (lo+i)))) ?istep ?ifin ?iinit) ?ipost)
  case iinit=>exact#[rfl,0,k,rfl,by lia,by lia,by lia,λi hi=>by lia,λi h1 h2=>by lia]
  case ifin=>
   rintro c gh ⟨rfl,l,r,rfl,hlr,Ww,hm,Ot,PL⟩
   have:l=r:=by lia
   subst this
   exact#[rfl,l,l,rfl,Ww,Ot,PL]
  case istep=>
   rintro x c gh _ hxk ⟨rfl,l,r,rfl,hlr,Ww,hm,Ot,PL⟩
   dsimp only
   by_cases DA:l≥r
   .rw[aj DA];have:l=r:=by lia
    subst this;exact aL #[rfl,l,l,rfl,Ww,Ot,PL]
   .rw[ah DA];refine aB (wp_lt L B' hk (by lia) ?_);cases e:less (cV (arrOf gh) (lo+k)) (cV (arrOf gh) (lo+(l+r) / 2)) with
    | true=>simp![bW];refine aL #[rfl,l,(l+r) / 2,rfl,by lia,by lia,by lia,Ot,λi h1 h2=> ?_];exact O.trans _ _ _ (O.le e) (gA _ _ (by lia) (by lia) (by lia))
    | false=>simp![az,bj];refine aL #[rfl,(l+r) / 2+1,r,rfl,by lia,by lia,by lia,λi h1=> ?_,PL];exact O.trans _ _ _ (gA (lo+i) (lo+(l+r) / 2) (by lia) (by lia) (by lia)) e
  case ipost=>
   rintro c gh ⟨rfl,l,r,rfl,JP,Ot,PL⟩
   show wpS _ _ _ _ (do moveDown' (lo+k) (lo+l);pure (ForInStep.yield (none,()))) _ _
   rw[moveDown'_eq]
   have W':lo+k< (arrOf gh).size:=by rw[B'.size];exact hk
   refine aB (wpS_modify (aL #[rfl,B'.arr (bubble_perm _ _ _),?_,hp,ho.trans λj hj=> ?_]))
   .rw[show min (k+1) n=k+1 by lia];intro i j hi gK hj;show LE less (cV (bubble (arrOf gh) (lo+k) (lo+k - (lo+l))) i) (cV (bubble (arrOf gh) (lo+k) (lo+k - (lo+l))) j);rw[l6 W' (by lia),l6 W' (by lia),show lo+k - (lo+k - (lo+l))=lo+l by lia];have W4: ∀i,lo<=i ->i<lo+l ->LE less (cV (arrOf gh) i) (cV (arrOf gh) (lo+k)):=λi h1 h2=>by have:=Ot (i - lo) (by lia);rwa [show lo+(i - lo)=i by lia] at this
    have Xj: ∀i,lo+l<=i ->i<lo+k ->LE less (cV (arrOf gh) (lo+k)) (cV (arrOf gh) i):=λi h1 h2=>by have:=PL (i - lo) (by lia) (by lia);rwa [show lo+(i - lo)=i by lia] at this
    repeat' split
    all_goals first
    | (exfalso;lia)
    | exact O.refl _
    | exact W4 _ (by lia) (by lia)
    | exact Xj _ (by lia) (by lia)
    | exact gA _ _ (by lia) (by lia) (by lia)
   .show cV (bubble (arrOf gh) (lo+k) (lo+k - (lo+l))) j=_;rw[l6 W' (by lia),ah (by lia),ah (by lia)]
end
noncomputable def vO:Bool ->Keyed ->Array Keyed ->Nat ->Nat ->Nat ->StateT SortSt Sem (Option Nat):=sortPriv% PySem.Builtin.gallop
noncomputable def Ut:Array Keyed ->Array Keyed ->StateT SortSt Sem (Array Keyed):=sortPriv% PySem.Builtin.mergeLo
noncomputable def Uu:Array Keyed ->Array Keyed ->StateT SortSt Sem (Array Keyed):=sortPriv% PySem.Builtin.mergeHi
noncomputable abbrev cK (st:SortSt)(g:Nat):SortSt:=SortSt.mk' (kindOf st) (arrOf st) (pendingOf st) g (failedOf st)
noncomputable def O2 (left:Bool)(key:Keyed)(arr:Array Keyed)(base i:Nat):StateT SortSt Sem (Option Bool):=do
 let x <- elem' arr (base+i)
 if left then lt' x key else return(<- lt' key x).map (!·)
theorem OK (left:Bool)(key:Keyed)(arr:Array Keyed)(base n hint:Nat):vO left key arr base n hint=(do
 let mut la:=0
 let mut f:=1
 let mut lo:=0
 let mut hi:=0
 let some g <- O2 left key arr base hint | return none
 if g then
  let mx:=n - hint
  for _ in [0:n] do
   if f≥mx then break
   let some g <- O2 left key arr base (hint+f) | return none
   if !g then break
   la:=f
   f:=2*f+1
  lo:=hint+la+1
  hi:=hint+min f mx
 else
  let mx:=hint+1
  for _ in [0:n] do
   if f≥mx then break
   let some g <- O2 left key arr base (hint - f) | return none
   if g then break
   la:=f
   f:=2*f+1
  lo:=hint+1 - min f mx
  hi:=hint - la
 for _ in [0:n] do
  if lo≥hi then break
  let m:=lo+(hi - lo) / 2
  let some g <- O2 left key arr base m | return none
  if g then lo:=m+1 else hi:=m
 return some hi):=rfl
section
variable {prog:Program}{w:World}{A:Around}{E:Value ->Shared ->Prop}{s:Shared}{kd:SortKind}{a₀:Array Keyed}{less:Keyed ->Keyed ->Bool}
def wp_gal0 {st:SortSt}(Bf:Nat ->Bool)(hh:hint<n)(hb: ∀i,i<n -> ∀Q':Option Bool ->SortSt ->Prop,Q' (some (Bf i)) st ->wpS (model prog w) A E s (O2 left key arr base i) Q' st)(mono: ∀i j,i<=j ->j<n ->Bf j=true ->Bf i=true)(h: ∀k,k<=n ->(∀i,i<k ->Bf i=true) ->(∀i,k<=i ->i<n ->Bf i=false) ->Q (some k) st): wpS (model prog w) A E s (vO left key arr base n hint) Q st:=by
 have AL: ∀i j,i<=j ->j<n ->Bf i=false ->Bf j=false:=λi j gK hj e=>by
  cases e2:Bf j with
  | false=>rfl
  | true=>rw[mono i j gK hj e2] at e;cases e
 rw[OK];dsimp only;refine aB (hb hint hh _ ?_);dsimp only;cases hB:Bf hint with
 | true =>
  simp![bW];refine aB (wpS_mono (cN (I:=λi c bG=>bG=st /\ ∃la f,c=(none,la,f) /\ i+1<=f /\ la<f /\ hint+la<n /\ Bf (hint+la)=true) (Q:=λc bG=>bG=st /\ ∃la f,c=(none,la,f) /\ la<f /\ hint+la<n /\ Bf (hint+la)=true /\ (n - hint<=f \/ (hint+f<n /\ Bf (hint+f)=false))) ?_ ?_ #[rfl,0,1,rfl,by omega,by omega,by omega,hB]) ?_)
  .rintro i c bG _ hi ⟨rfl,la,f,rfl,h1,h2,h3,h4⟩;dsimp only;by_cases c1:f≥n - hint
   .rw[aj c1];exact aL #[rfl,la,f,rfl,h2,h3,h4, .inl c1]
   .rw[ah c1];refine aB (hb _ (by omega) _ ?_);cases e:Bf (hint+f) with
    | true=>simp![Bool.not_true,az,bj];exact aL #[rfl,f,2*f+1,rfl,by omega,by omega,by omega,e]
    | false=>simp![Bool.not_false,bW];exact aL #[rfl,la,f,rfl,h2,h3,h4, .inr #[by omega,e]]
  .rintro c bG ⟨rfl,la,f,rfl,h1,h2,h3,h4⟩;exact#[rfl,la,f,rfl,h2,h3,h4, .inl (by omega)]
  .rintro c bG ⟨rfl,la,f,rfl,h2,h3,h4,h5⟩;dsimp only;refine aB (wpS_mono (cN (I:=λi c gh=>gh=bG /\ ∃lo hi,c=(none,lo,hi) /\ lo<=hi /\ hi<=n /\ hi - lo<=n - i /\ (∀i,i<lo ->Bf i=true) /\ (∀i,hi<=i ->i<n ->Bf i=false)) (Q:=λc gh=>gh=bG /\ ∃lo hi,c=(none,lo,hi) /\ hi<=n /\ (∀i,i<hi ->Bf i=true) /\ (∀i,hi<=i ->i<n ->Bf i=false)) ?_ ?_ #[rfl,_,_,rfl,by omega,by omega,by omega,λi hi=>mono i (hint+la) (by omega) h3 h4,λi hi iV=> ?_]) ?_)
   .rintro i c gh _ hi ⟨rfl,lo,ly,rfl,g1,g2,g3,g4,g5⟩;dsimp only;by_cases c1:lo≥ly
    .rw[aj c1];have:lo=ly:=by omega
     subst this;exact aL #[rfl,_,_,rfl,g2,g4,g5]
    .rw[ah c1];refine aB (hb _ (by omega) _ ?_);cases e:Bf (lo+(ly - lo) / 2) with
     | true=>simp![bW];exact aL #[rfl,_,_,rfl,by omega,g2,by omega,λj hj=>mono j _ (by omega) (by omega) e,g5]
     | false=>simp![az,bj];exact aL #[rfl,_,_,rfl,by omega,by omega,by omega,g4,λj hj Xd=>AL _ j hj Xd e]
   .rintro c gh ⟨rfl,lo,ly,rfl,g1,g2,g3,g4,g5⟩;have:lo=ly:=by omega
    subst this;exact#[rfl,_,_,rfl,g2,g4,g5]
   .rcases h5 with h5 | ⟨h5,h6⟩
    .omega
    .exact AL (hint+f) i (by omega) iV h6
   .rintro c gh ⟨rfl,lo,ly,rfl,g2,g4,g5⟩;exact aL (h _ g2 g4 g5)
 | false =>
  simp![az,bj];refine aB (wpS_mono (cN (I:=λi c bG=>bG=st /\ ∃la f,c=(none,la,f) /\ i+1<=f /\ la<f /\ la<=hint /\ Bf (hint - la)=false) (Q:=λc bG=>bG=st /\ ∃la f,c=(none,la,f) /\ la<f /\ la<=hint /\ Bf (hint - la)=false /\ (hint+1<=f \/ (f<=hint /\ Bf (hint - f)=true))) ?_ ?_ #[rfl,0,1,rfl,by omega,by omega,by omega,hB]) ?_)
  .rintro i c bG _ hi ⟨rfl,la,f,rfl,h1,h2,h3,h4⟩;dsimp only;by_cases c1:f≥hint+1
   .rw[aj c1];exact aL #[rfl,la,f,rfl,h2,h3,h4, .inl c1]
   .rw[ah c1];refine aB (hb _ (by omega) _ ?_);cases e:Bf (hint - f) with
    | false=>simp![az,bj];exact aL #[rfl,f,2*f+1,rfl,by omega,by omega,by omega,e]
    | true=>simp![bW];exact aL #[rfl,la,f,rfl,h2,h3,h4, .inr #[by omega,e]]
  .rintro c bG ⟨rfl,la,f,rfl,h1,h2,h3,h4⟩;exact#[rfl,la,f,rfl,h2,h3,h4, .inl (by omega)]
  .rintro c bG ⟨rfl,la,f,rfl,h2,h3,h4,h5⟩;dsimp only;refine aB (wpS_mono (cN (I:=λi c gh=>gh=bG /\ ∃lo hi,c=(none,lo,hi) /\ lo<=hi /\ hi<=n /\ hi - lo<=n - i /\ (∀i,i<lo ->Bf i=true) /\ (∀i,hi<=i ->i<n ->Bf i=false)) (Q:=λc gh=>gh=bG /\ ∃lo hi,c=(none,lo,hi) /\ hi<=n /\ (∀i,i<hi ->Bf i=true) /\ (∀i,hi<=i ->i<n ->Bf i=false)) ?_ ?_ #[rfl,_,_,rfl,by omega,by omega,by omega,λi hi=> ?_,λi hi iV=>AL (hint - la) i (by omega) iV h4]) ?_)
   .rintro i c gh _ hi ⟨rfl,lo,ly,rfl,g1,g2,g3,g4,g5⟩;dsimp only;by_cases c1:lo≥ly
    .rw[aj c1];have:lo=ly:=by omega
     subst this;exact aL #[rfl,_,_,rfl,g2,g4,g5]
    .rw[ah c1];refine aB (hb _ (by omega) _ ?_);cases e:Bf (lo+(ly - lo) / 2) with
     | true=>simp![bW];exact aL #[rfl,_,_,rfl,by omega,g2,by omega,λj hj=>mono j _ (by omega) (by omega) e,g5]
     | false=>simp![az,bj];exact aL #[rfl,_,_,rfl,by omega,by omega,by omega,g4,λj hj Xd=>AL _ j hj Xd e]
   .rintro c gh ⟨rfl,lo,ly,rfl,g1,g2,g3,g4,g5⟩;have:lo=ly:=by omega
    subst this;exact#[rfl,_,_,rfl,g2,g4,g5]
   .rcases h5 with h5 | ⟨h5,h6⟩
    .omega
    .exact mono i (hint - f) (by omega) (by omega) h6
   .rintro c gh ⟨rfl,lo,ly,rfl,g2,g4,g5⟩;exact aL (h _ g2 g4 g5)
def wp_galL (O:Ord less)(L:iZ prog w A E s kd a₀ less){st:SortSt}(B:kindOf st=kd)(hk:key∈a₀.toList)(hm: ∀i,i<n ->base+i<arr.size /\ cV arr (base+i)∈a₀.toList)(hh:hint<n)(hs:Sg less arr base (base+n))(h: ∀k,k<=n ->(∀i,i<k ->less (cV arr (base+i)) key=true) ->(∀i,k<=i ->i<n ->LE less key (cV arr (base+i))) ->Q (some k) st): wpS (model prog w) A E s (vO true key arr base n hint) Q st:=by refine wp_gal0 (λi=>less (cV arr (base+i)) key) hh (λi hi Q' hq=> ?_) (λi j gK hj e=>O.RN (hs (base+i) (base+j) (by omega) (by omega) (by omega)) e) h;unfold O2;refine aB (wp_elem (hm i hi).1 ?_);simp![bW];exact L _ _ _ _ (hm i hi).2 hk B hq
def wp_galR (O:Ord less)(L:iZ prog w A E s kd a₀ less){st:SortSt}(B:kindOf st=kd)(hk:key∈a₀.toList)(hm: ∀i,i<n ->base+i<arr.size /\ cV arr (base+i)∈a₀.toList)(hh:hint<n)(hs:Sg less arr base (base+n))(h: ∀k,k<=n ->(∀i,i<k ->LE less (cV arr (base+i)) key) ->(∀i,k<=i ->i<n ->less key (cV arr (base+i))=true) ->Q (some k) st): wpS (model prog w) A E s (vO false key arr base n hint) Q st:=by
 refine wp_gal0 (λi=> !less key (cV arr (base+i))) hh (λi hi Q' hq=> ?_) (λi j gK hj e=> ?_) (λk h1 h2 h3=>h k h1 (λi hi=> ?_) λi h4 h5=> ?_)
 .unfold O2;refine aB (wp_elem (hm i hi).1 ?_);simp![az,bj];exact aB (L _ _ _ _ hk (hm i hi).2 B (aL hq))
 .simp![Bool.not_eq_true'] at e ⊢;exact O.trans _ _ _ (hs (base+i) (base+j) (by omega) (by omega) (by omega)) e
 .have:=h2 i hi;simp![Bool.not_eq_true'] at this;exact this
 .have:=h3 i h4 h5;simpa using this
theorem NX (a b:Array Keyed):Ut a b=(do
 rule "list.sort.merge-lo"
 let tt:=a.size+b.size
 let dn (o:Array Keyed) (i j:Nat):=o++a.extract i a.size++b.extract j b.size
 let la (o:Array Keyed) (i j:Nat):=o++b.extract j b.size++a.extract i a.size
 let mut o:Array Keyed:= #[<- elem' b 0]
 let mut i:=0
 let mut j:=1
 if j==b.size then return dn o i j
 if i+1==a.size then return la o i j
 let mut mg:=gallopOf (<- get)
 for _ in [0:tt] do
  let mut ac:=0
  let mut bc:=0
  for _ in [0:tt] do
   let some g <- lt' (<- elem' b j) (<- elem' a i) | return dn o i j
   if g then
    o:=o.push (<- elem' b j);j:=j+1;bc:=bc+1;ac:=0
    if j==b.size then return dn o i j
    if bc≥mg then break
   else
    o:=o.push (<- elem' a i);i:=i+1;ac:=ac+1;bc:=0
    if i+1==a.size then return la o i j
    if ac≥mg then break
  rule "list.sort.gallop"
  mg:=mg+1
  for _ in [0:tt] do
   if mg >1 then mg:=mg - 1
   modify λs=>cK s mg
   let some k <- vO false (<- elem' b j) a i (a.size - i) 0 | return dn o i j
   ac:=k
   if k >0 then
    o:=o++a.extract i (i+k);i:=i+k
    if i+1==a.size then return la o i j
    if i==a.size then return dn o i j
   o:=o.push (<- elem' b j);j:=j+1
   if j==b.size then return dn o i j
   let some k <- vO true (<- elem' a i) b j (b.size - j) 0 | return dn o i j
   bc:=k
   if k >0 then
    o:=o++b.extract j (j+k);j:=j+k
    if j==b.size then return dn o i j
   o:=o.push (<- elem' a i);i:=i+1
   if i+1==a.size then return la o i j
   if ac<7 && bc<7 then break
  mg:=mg+1
  modify λs=>cK s mg
 unsupported "internal:list.sort.merge-bound"):=rfl
theorem NY (a b:Array Keyed):Uu a b=(do
 rule "list.sort.merge-hi"
 let tt:=a.size+b.size
 let dn (o:Array Keyed) (i j:Nat):=a.extract 0 i++b.extract 0 j++o.reverse
 let fb (o:Array Keyed) (i j:Nat):=b.extract 0 j++a.extract 0 i++o.reverse
 let mut i:=a.size - 1
 let mut j:=b.size
 let mut o:Array Keyed:= #[<- elem' a i]
 if i==0 then return dn o i j
 if j==1 then return fb o i j
 let mut mg:=gallopOf (<- get)
 for _ in [0:tt] do
  let mut ac:=0
  let mut bc:=0
  for _ in [0:tt] do
   let some g <- lt' (<- elem' b (j - 1)) (<- elem' a (i - 1)) | return dn o i j
   if g then
    i:=i - 1;o:=o.push (<- elem' a i);ac:=ac+1;bc:=0
    if i==0 then return dn o i j
    if ac≥mg then break
   else
    j:=j - 1;o:=o.push (<- elem' b j);bc:=bc+1;ac:=0
    if j==1 then return fb o i j
    if bc≥mg then break
  rule "list.sort.gallop"
  mg:=mg+1
  for _ in [0:tt] do
   if mg >1 then mg:=mg - 1
   modify λs=>cK s mg
   let some at_ <- vO false (<- elem' b (j - 1)) a 0 i (i - 1) | return dn o i j
   let k:=i - at_
   ac:=k
   if k >0 then
    o:=o++(a.extract at_ i).reverse;i:=at_
    if i==0 then return dn o i j
   j:=j - 1;o:=o.push (<- elem' b j)
   if j==1 then return fb o i j
   let some at_ <- vO true (<- elem' a (i - 1)) b 0 j (j - 1) | return dn o i j
   let k:=j - at_
   bc:=k
   if k >0 then
    o:=o++(b.extract at_ j).reverse;j:=at_
    if j==1 then return fb o i j
    if j==0 then return dn o i j
   i:=i - 1;o:=o.push (<- elem' a i)
   if i==0 then return dn o i j
   if ac<7 && bc<7 then break
  mg:=mg+1
  modify λs=>cK s mg
 unsupported "internal:list.sort.merge-bound"):=rfl
end
structure MI (less:Keyed ->Keyed ->Bool)(al bl o:List Keyed)(i j:Nat):Prop where
 pm:o.Perm (al.take i++bl.take j)
 so:o.Pairwise (LE less)
 ba: ∀x∈o, ∀y∈al.drop i,LE less x y
 bb: ∀x∈o, ∀y∈bl.drop j,LE less x y
section
variable {less:Keyed ->Keyed ->Bool}{al bl o:List Keyed}{i j:Nat}
theorem MI.swap (h:MI less al bl o i j):MI less bl al o j i:=#[h.pm.trans dW,h.so,h.bb,h.ba]
def take_add {α:Type}(l:List α)(i k:Nat):l.take (i+k)=l.take i++(l.drop i).take k:=by rw[List.take_add]
def MI.J8 (h:MI less al bl o i j)(sa:al.Pairwise (LE less))(k:Nat)(hk: ∀x∈(al.drop i).take k, ∀y∈bl.drop j,LE less x y):MI less al bl (o++(al.drop i).take k) (i+k) j:=by
 have sd:(al.drop i).Pairwise (LE less):=sa.sublist (List.drop_sublist _ _);have e:(al.drop i).take k++al.drop (i+k)=al.drop i:=by rw[<- List.drop_drop,bo]
 have Nm:=sd;rw[<- e,cJ] at Nm;refine#[?_,?_,?_,?_]
 .rw[take_add,bQ];refine(h.pm.append_right _).trans ?_;rw[bQ];exact List.Perm.append_left _ dW
 .rw[cJ];exact#[h.so,Nm.1,λx hx y hy=>h.ba x hx y (List.mem_of_mem_take hy)]
 .intro x hx y hy;rcases ax.mp hx with hx | hx
  .exact h.ba x hx y (by rw[<- e];exact aV _ hy)
  .exact Nm.2.2 x hx y hy
 .intro x hx y hy;rcases ax.mp hx with hx | hx
  .exact h.bb x hx y hy
  .exact hk x hx y hy
def MI.fin (h:MI less al bl o i j)(sa:al.Pairwise (LE less))(sb:bl.Pairwise (LE less))(hk: ∀x∈bl.drop j, ∀y∈al.drop i,LE less x y):(o++bl.drop j++al.drop i).Perm (al++bl) /\ (o++bl.drop j++al.drop i).Pairwise (LE less):=by
 constructor
 .rw[bQ];refine(h.pm.append_right _).trans ?_;have e1:(al++bl).Perm ((al.take i++al.drop i)++(bl.take j++bl.drop j)):=by rw[bo,bo]
  refine List.Perm.trans ?_ e1.symm;rw[bQ,bQ];refine List.Perm.append_left _ ?_;rw[<- bQ];exact dW
 .rw[cJ,cJ];refine#[#[h.so,sb.sublist (List.drop_sublist _ _),h.bb],sa.sublist (List.drop_sublist _ _),λx hx y hy=> ?_];rcases ax.mp hx with hx | hx
  .exact h.ba x hx y hy
  .exact hk x hx y hy
structure MH (less:Keyed ->Keyed ->Bool)(al bl t:List Keyed)(i j:Nat):Prop where
 pm:t.Perm (al.drop i++bl.drop j)
 so:t.Pairwise (LE less)
 ba: ∀x∈t, ∀y∈al.take i,LE less y x
 bb: ∀x∈t, ∀y∈bl.take j,LE less y x
theorem MH.swap (h:MH less al bl t i j):MH less bl al t j i:=#[h.pm.trans dW,h.so,h.bb,h.ba]
def MH.J8 (h:MH less al bl t i j)(sa:al.Pairwise (LE less))(SE:k<=i)(hk: ∀x∈(al.take i).drop k, ∀y∈bl.take j,LE less y x):MH less al bl ((al.take i).drop k++t) k j:=by
 have sd:(al.take i).Pairwise (LE less):=sa.sublist (List.take_sublist _ _);have e0:(al.take i).take k=al.take k:=by rw[List.take_take,Nat.min_eq_left SE]
 have e:al.take k++(al.take i).drop k=al.take i:=by rw[<- e0,bo]
 have Nm:=sd;rw[<- e,cJ] at Nm;have e3:al.drop k=(al.take i).drop k++al.drop i:=by
  have:=bo i al;have e4:al.drop k=(al.take i++al.drop i).drop k:=by rw[this]
  rw[e4];by_cases c:i<=al.length
  .rw[List.drop_append_of_le_length (by rw[bu];lia)]
  .have z:al.drop i= []:=List.drop_eq_nil_of_le (by lia);rw[z,List.append_nil,List.append_nil]
 refine#[?_,?_,?_,?_]
 .rw[e3,bQ];exact List.Perm.append_left _ h.pm
 .rw[cJ];exact#[Nm.2.1,h.so,λx hx y hy=>h.ba y hy x (by rw[<- e];exact aV _ hx)]
 .intro x hx y hy;rcases ax.mp hx with hx | hx
  .exact Nm.2.2 y hy x hx
  .exact h.ba x hx y (by rw[<- e];exact List.mem_append_left _ hy)
 .intro x hx y hy;rcases ax.mp hx with hx | hx
  .exact hk x hx y hy
  .exact h.bb x hx y hy
def MH.fin (h:MH less al bl t i j)(sa:al.Pairwise (LE less))(sb:bl.Pairwise (LE less))(hk: ∀x∈al.take i, ∀y∈bl.take j,LE less x y):(al.take i++bl.take j++t).Perm (al++bl) /\ (al.take i++bl.take j++t).Pairwise (LE less):=by
 constructor
 .refine(List.Perm.append_left _ h.pm).trans ?_;have e1:(al++bl).Perm ((al.take i++al.drop i)++(bl.take j++bl.drop j)):=by rw[bo,bo]
  refine List.Perm.trans ?_ e1.symm;rw[bQ,bQ];refine List.Perm.append_left _ ?_;rw[<- bQ, <- bQ];exact List.Perm.append_right _ dW
 .rw[cJ,cJ];refine#[#[sa.sublist (List.take_sublist _ _),sb.sublist (List.take_sublist _ _),hk],h.so,λx hx y hy=> ?_];rcases ax.mp hx with hx | hx
  .exact h.ba y hy x hx
  .exact h.bb y hy x hx
end
noncomputable abbrev R5:=Option (Array Keyed)×Array Keyed×Nat×Nat×Nat
noncomputable abbrev R6:=Option (Array Keyed)×Array Keyed×Nat×Nat×Nat×Nat
noncomputable abbrev R7:=Option (Array Keyed)×Array Keyed×Nat×Nat×Nat×Nat×Nat
section
variable (a b:Array Keyed)
noncomputable abbrev zC (o:Array Keyed)(i j:Nat):Array Keyed:=o++a.extract i a.size++b.extract j b.size
noncomputable abbrev Lq (o:Array Keyed)(i j:Nat):Array Keyed:=o++b.extract j b.size++a.extract i a.size
noncomputable def NN (mg:Nat)(o:Array Keyed)(i j ac bc:Nat):StateT SortSt Sem (ForInStep R6):=do
 let x <- elem' b j
 let y <- elem' a i
 let g <- lt' x y
 match g with
 | some g=>
  if g=true then do
   let x <- elem' b j
   if(j+1==b.size)=true then pure (.done (some (zC a b (o.push x) i (j+1)),o.push x,i,j+1,0,bc+1))
   else if bc+1≥mg then pure (.done (none,o.push x,i,j+1,0,bc+1))
   else pure (.yield (none,o.push x,i,j+1,0,bc+1))
  else do
   let x <- elem' a i
   if(i+1+1==a.size)=true then pure (.done (some (Lq a b (o.push x) (i+1) j),o.push x,i+1,j,ac+1,0))
   else if ac+1≥mg then pure (.done (none,o.push x,i+1,j,ac+1,0))
   else pure (.yield (none,o.push x,i+1,j,ac+1,0))
 | _=>pure (.done (some (zC a b o i j),o,i,j,ac,bc))
noncomputable def Uc (mg ac bc:Nat)(o:Array Keyed)(i j:Nat):StateT SortSt Sem (ForInStep R7):=do
 let x <- elem' a i
 if(i+1+1==a.size)=true then pure (.done (some (Lq a b (o.push x) (i+1) j),o.push x,i+1,j,mg,ac,bc))
 else if(decide (ac<7) && decide (bc<7))=true then pure (.done (none,o.push x,i+1,j,mg,ac,bc))
 else pure (.yield (none,o.push x,i+1,j,mg,ac,bc))
noncomputable def Ue (mg ac bc:Nat)(o:Array Keyed)(i j:Nat):StateT SortSt Sem (ForInStep R7):=do
 let x <- elem' b j
 if(j+1==b.size)=true then pure (.done (some (zC a b (o.push x) i (j+1)),o.push x,i,j+1,mg,ac,bc))
 else do
  let y <- elem' a i
  let r <- vO true y b (j+1) (b.size - (j+1)) 0
  match r with
  | some k=>
   if k >0 then
    if(j+1+k==b.size)=true then pure (.done (some (zC a b (o.push x++b.extract (j+1) (j+1+k)) i (j+1+k)),o.push x++b.extract (j+1) (j+1+k),i,j+1+k,mg,ac,k))
    else Uc a b mg ac k (o.push x++b.extract (j+1) (j+1+k)) i (j+1+k)
   else Uc a b mg ac k (o.push x) i (j+1)
  | _=>pure (.done (some (zC a b (o.push x) i (j+1)),o.push x,i,j+1,mg,ac,bc))
noncomputable def Ro (mg ac bc:Nat)(o:Array Keyed)(i j:Nat):StateT SortSt Sem (ForInStep R7):=do
 modify λs=>cK s mg
 let x <- elem' b j
 let r <- vO false x a i (a.size - i) 0
 match r with
 | some k=>
  if k >0 then
   if(i+k+1==a.size)=true then pure (.done (some (Lq a b (o++a.extract i (i+k)) (i+k) j),o++a.extract i (i+k),i+k,j,mg,k,bc))
   else if(i+k==a.size)=true then pure (.done (some (zC a b (o++a.extract i (i+k)) (i+k) j),o++a.extract i (i+k),i+k,j,mg,k,bc))
   else Ue a b mg k bc (o++a.extract i (i+k)) (i+k) j
  else Ue a b mg k bc o i j
 | _=>pure (.done (some (zC a b o i j),o,i,j,mg,ac,bc))
noncomputable def Rq (c:R5):StateT SortSt Sem (ForInStep R5):=do
 let d <- forIn [:a.size+b.size] ((none,c.2.1,c.2.2.1,c.2.2.2.1,0,0):R6) λ_ d=>NN a b c.2.2.2.2 d.2.1 d.2.2.1 d.2.2.2.1 d.2.2.2.2.1 d.2.2.2.2.2
 match d.1 with
 | some r=>pure (.done (some r,d.2.1,d.2.2.1,d.2.2.2.1,c.2.2.2.2))
 | none=>do
  liftM (rule "list.sort.gallop")
  let e <- forIn [:a.size+b.size] ((none,d.2.1,d.2.2.1,d.2.2.2.1,c.2.2.2.2+1,d.2.2.2.2.1,d.2.2.2.2.2):R7) λ_ e=>if e.2.2.2.2.1 >1 then Ro a b (e.2.2.2.2.1 - 1) e.2.2.2.2.2.1 e.2.2.2.2.2.2 e.2.1 e.2.2.1 e.2.2.2.1 else Ro a b e.2.2.2.2.1 e.2.2.2.2.2.1 e.2.2.2.2.2.2 e.2.1 e.2.2.1 e.2.2.2.1
  match e.1 with
  | some r=>pure (.done (some r,e.2.1,e.2.2.1,e.2.2.2.1,e.2.2.2.2.1))
  | none=>do
   modify λs=>cK s (e.2.2.2.2.1+1)
   pure (.yield (none,e.2.1,e.2.2.1,e.2.2.2.1,e.2.2.2.2.1+1))
end
def uc {f g:α ->StateT σ Sem β}(h: ∀x,f x=g x):(m >>=f)=(m >>=g):=by rw[funext h]
def C9 {f g:α ->StateT σ Sem β}(e:m=m')(h: ∀x,f x=g x):(m >>=f)=(m' >>=g):=by rw[e,funext h]
def Cy [Decidable c]{x y x' y':α}(h:x=x')(h':y=y'):(if c then x else y)=(if c then x' else y'):=by rw[h,h']
def CN {r:Std.Legacy.Range}{f g:Nat ->β ->StateT σ Sem (ForInStep β)}(h: ∀i c,f i c=g i c):forIn r c f=forIn r c g:=by rw[funext λi=>funext (h i)]
section
variable (a b:Array Keyed)
theorem AH (mg ac bc:Nat)(o:Array Keyed)(i j:Nat):(do
  modify λs=>cK s mg
  let Dh <- elem' b j
  let Zg <- vO false Dh a i (a.size - i) 0
  match Zg with
  | some k =>
   have ac:=k
   have jp :=λ(Zh:Unit) (o:Array Keyed) (i:Nat)=>do
    let x <- elem' b j
    have o:Array Keyed:=o.push x
    have j:Nat:=j+1
    if(j==b.size)=true then pure (ForInStep.done ((some (zC a b o i j),o,i,j,mg,ac,bc):R7))
    else do
     let y <- elem' a i
     let Zg <- vO true y b j (b.size - j) 0
     match Zg with
     | some k=>
      have bc:=k
      have jp:=λ(Zh:Unit) (o:Array Keyed) (j:Nat)=>do
       let x <- elem' a i
       have o:Array Keyed:=o.push x
       have i:Nat:=i+1
       if(i+1==a.size)=true then pure (ForInStep.done ((some (Lq a b o i j),o,i,j,mg,ac,bc):R7))
       else if(decide (ac<7) && decide (bc<7))=true then pure (.done (none,o,i,j,mg,ac,bc))
       else pure (.yield (none,o,i,j,mg,ac,bc))
      if k >0 then
       have o:=o++b.extract j (j+k)
       have j:=j+k
       if(j==b.size)=true then pure (.done (some (zC a b o i j),o,i,j,mg,ac,bc)) else jp () o j
      else jp () o j
     | _=>pure (.done (some (zC a b o i j),o,i,j,mg,ac,bc))
   if k >0 then
    have o:=o++a.extract i (i+k)
    have i:=i+k
    if(i+1==a.size)=true then pure (.done (some (Lq a b o i j),o,i,j,mg,ac,bc))
    else if(i==a.size)=true then pure (.done (some (zC a b o i j),o,i,j,mg,ac,bc)) else jp () o i
   else jp () o i
  | _=>pure (.done (some (zC a b o i j),o,i,j,mg,ac,bc)))=Ro a b mg ac bc o i j:=by
 refine uc λ_=>uc λx=>uc λr=> ?_
 cases r with
 | none=>rfl
 | some k=>
  refine Cy (Cy rfl (Cy rfl ?_)) ?_;all_goals
   refine uc λy=>Cy rfl (uc λz=>uc λr=> ?_)
   cases r with
   | none=>rfl
   | some k=>rfl
theorem Ck:Ut a b=(do
  liftM (rule "list.sort.merge-lo")
  let x <- elem' b 0
  if(1==b.size)=true then pure (zC a b #[x] 0 1)
  else if(0+1==a.size)=true then pure (Lq a b #[x] 0 1)
  else do
   let g <- get
   let c <- forIn [:a.size+b.size] ((none, #[x],0,1,gallopOf g):R5) λ_ c=>Rq a b c
   match c.1 with
   | some r=>pure r
   | none=>unsupported "internal:list.sort.merge-bound"):=by
 rw[NX]
 refine uc λ_=> ?_
 refine uc λx=> ?_
 refine Cy rfl (Cy rfl (uc λg=>C9 (CN λ_ c=> ?_) λc=> ?_))
 .refine C9 (CN λ_ d=>rfl) λd=> ?_;let⟨r,d⟩:=d;cases r with
  | some r=>rfl
  | none=>
   refine uc λ_=>C9 (CN λ_ e=> ?_) λe=> ?_
   .refine Cy ?_ ?_
    .exact AH a b _ _ _ _ _ _
    .exact AH a b _ _ _ _ _ _
   .let⟨r,e⟩:=e;cases r<;>rfl
 .let⟨r,c⟩:=c;cases r<;>rfl
noncomputable abbrev zD (o:Array Keyed)(i j:Nat):Array Keyed:=a.extract 0 i++b.extract 0 j++o.reverse
noncomputable abbrev L6 (o:Array Keyed)(i j:Nat):Array Keyed:=b.extract 0 j++a.extract 0 i++o.reverse
noncomputable def MG (mg:Nat)(i j:Nat)(o:Array Keyed)(ac bc:Nat):StateT SortSt Sem (ForInStep (Option (Array Keyed)×Nat×Nat×Array Keyed×Nat×Nat)):=do
 let x <- elem' b (j - 1)
 let y <- elem' a (i - 1)
 let g <- lt' x y
 match g with
 | some g=>
  if g=true then do
   let x <- elem' a (i - 1)
   if(i - 1==0)=true then pure (.done (some (zD a b (o.push x) (i - 1) j),i - 1,j,o.push x,ac+1,0))
   else if ac+1≥mg then pure (.done (none,i - 1,j,o.push x,ac+1,0))
   else pure (.yield (none,i - 1,j,o.push x,ac+1,0))
  else do
   let x <- elem' b (j - 1)
   if(j - 1==1)=true then pure (.done (some (L6 a b (o.push x) i (j - 1)),i,j - 1,o.push x,0,bc+1))
   else if bc+1≥mg then pure (.done (none,i,j - 1,o.push x,0,bc+1))
   else pure (.yield (none,i,j - 1,o.push x,0,bc+1))
 | _=>pure (.done (some (zD a b o i j),i,j,o,ac,bc))
noncomputable abbrev S7:=Option (Array Keyed)×Nat×Nat×Array Keyed×Nat×Nat×Nat
noncomputable def Ud (mg ac bc:Nat)(i j:Nat)(o:Array Keyed):StateT SortSt Sem (ForInStep S7):=do
 let x <- elem' a (i - 1)
 if(i - 1==0)=true then pure (.done (some (zD a b (o.push x) (i - 1) j),i - 1,j,o.push x,mg,ac,bc))
 else if(decide (ac<7) && decide (bc<7))=true then pure (.done (none,i - 1,j,o.push x,mg,ac,bc))
 else pure (.yield (none,i - 1,j,o.push x,mg,ac,bc))
noncomputable def Ug (mg ac bc:Nat)(i j:Nat)(o:Array Keyed):StateT SortSt Sem (ForInStep S7):=do
 let x <- elem' b (j - 1)
 if(j - 1==1)=true then pure (.done (some (L6 a b (o.push x) i (j - 1)),i,j - 1,o.push x,mg,ac,bc))
 else do
  let y <- elem' a (i - 1)
  let r <- vO true y b 0 (j - 1) (j - 1 - 1)
  match r with
  | some k=>
   if j - 1 - k >0 then
    if(k==1)=true then pure (.done (some (L6 a b (o.push x++(b.extract k (j - 1)).reverse) i k),i,k,o.push x++(b.extract k (j - 1)).reverse,mg,ac,j - 1 - k))
    else if(k==0)=true then pure (.done (some (zD a b (o.push x++(b.extract k (j - 1)).reverse) i k),i,k,o.push x++(b.extract k (j - 1)).reverse,mg,ac,j - 1 - k))
    else Ud a b mg ac (j - 1 - k) i k (o.push x++(b.extract k (j - 1)).reverse)
   else Ud a b mg ac (j - 1 - k) i (j - 1) (o.push x)
  | _=>pure (.done (some (zD a b (o.push x) i (j - 1)),i,j - 1,o.push x,mg,ac,bc))
noncomputable def Rp (mg ac bc:Nat)(i j:Nat)(o:Array Keyed):StateT SortSt Sem (ForInStep S7):=do
 modify λs=>cK s mg
 let x <- elem' b (j - 1)
 let r <- vO false x a 0 i (i - 1)
 match r with
 | some k=>
  if i - k >0 then
   if(k==0)=true then pure (.done (some (zD a b (o++(a.extract k i).reverse) k j),k,j,o++(a.extract k i).reverse,mg,i - k,bc))
   else Ug a b mg (i - k) bc k j (o++(a.extract k i).reverse)
  else Ug a b mg (i - k) bc i j o
 | _=>pure (.done (some (zD a b o i j),i,j,o,mg,ac,bc))
noncomputable abbrev S5:=Option (Array Keyed)×Nat×Nat×Array Keyed×Nat
noncomputable def Je (c:S5):StateT SortSt Sem (ForInStep S5):=do
 let d <- forIn [:a.size+b.size] ((none,c.2.1,c.2.2.1,c.2.2.2.1,0,0):Option (Array Keyed)×Nat×Nat×Array Keyed×Nat×Nat) λ_ d=>MG a b c.2.2.2.2 d.2.1 d.2.2.1 d.2.2.2.1 d.2.2.2.2.1 d.2.2.2.2.2
 match d.1 with
 | some r=>pure (.done (some r,d.2.1,d.2.2.1,d.2.2.2.1,c.2.2.2.2))
 | none=>do
  liftM (rule "list.sort.gallop")
  let e <- forIn [:a.size+b.size] ((none,d.2.1,d.2.2.1,d.2.2.2.1,c.2.2.2.2+1,d.2.2.2.2.1,d.2.2.2.2.2):S7) λ_ e=>if e.2.2.2.2.1 >1 then Rp a b (e.2.2.2.2.1 - 1) e.2.2.2.2.2.1 e.2.2.2.2.2.2 e.2.1 e.2.2.1 e.2.2.2.1 else Rp a b e.2.2.2.2.1 e.2.2.2.2.2.1 e.2.2.2.2.2.2 e.2.1 e.2.2.1 e.2.2.2.1
  match e.1 with
  | some r=>pure (.done (some r,e.2.1,e.2.2.1,e.2.2.2.1,e.2.2.2.2.1))
  | none=>do
   modify λs=>cK s (e.2.2.2.2.1+1)
   pure (.yield (none,e.2.1,e.2.2.1,e.2.2.2.1,e.2.2.2.2.1+1))
theorem wL (mg ac bc:Nat)(i j:Nat)(o:Array Keyed):(do
  modify λs=>cK s mg
  let x <- elem' b (j - 1)
  let r <- vO false x a 0 i (i - 1)
  match r with
  | some at_=>
   have k:=i - at_
   have ac:=k
   have jp :=λ(Zh:Unit) (i:Nat) (o:Array Keyed)=>do
    have j:Nat:=j - 1
    let x <- elem' b j
    have o:Array Keyed:=o.push x
    if(j==1)=true then pure (ForInStep.done ((some (L6 a b o i j),i,j,o,mg,ac,bc):S7))
    else do
     let y <- elem' a (i - 1)
     let r <- vO true y b 0 j (j - 1)
     match r with
     | some at_=>
      have k:=j - at_
      have bc:=k
      have jp:=λ(Zh:Unit) (j:Nat) (o:Array Keyed)=>do
       have i:Nat:=i - 1
       let x <- elem' a i
       have o:Array Keyed:=o.push x
       if(i==0)=true then pure (ForInStep.done ((some (zD a b o i j),i,j,o,mg,ac,bc):S7))
       else if(decide (ac<7) && decide (bc<7))=true then pure (.done (none,i,j,o,mg,ac,bc))
       else pure (.yield (none,i,j,o,mg,ac,bc))
      if k >0 then
       have o:=o++(b.extract at_ j).reverse
       have j:=at_
       if(j==1)=true then pure (.done (some (L6 a b o i j),i,j,o,mg,ac,bc)) else if(j==0)=true then pure (.done (some (zD a b o i j),i,j,o,mg,ac,bc)) else jp () j o
      else jp () j o
     | _=>pure (.done (some (zD a b o i j),i,j,o,mg,ac,bc))
   if k >0 then
    have o:=o++(a.extract at_ i).reverse
    have i:=at_
    if(i==0)=true then pure (.done (some (zD a b o i j),i,j,o,mg,ac,bc)) else jp () i o
   else jp () i o
  | _=>pure (.done (some (zD a b o i j),i,j,o,mg,ac,bc)))=Rp a b mg ac bc i j o:=by
 refine uc λ_=>uc λx=>uc λr=> ?_
 cases r with
 | none=>rfl
 | some k=>
  refine Cy (Cy rfl ?_) ?_;all_goals
   refine uc λy=>Cy rfl (uc λz=>uc λr=> ?_)
   cases r with
   | none=>rfl
   | some k=>rfl
theorem Cm:Uu a b=(do
  liftM (rule "list.sort.merge-hi")
  let x <- elem' a (a.size - 1)
  if(a.size - 1==0)=true then pure (zD a b #[x] (a.size - 1) b.size)
  else if(b.size==1)=true then pure (L6 a b #[x] (a.size - 1) b.size)
  else do
   let g <- get
   let c <- forIn [:a.size+b.size] ((none,a.size - 1,b.size, #[x],gallopOf g):S5) λ_ c=>Je a b c
   match c.1 with
   | some r=>pure r
   | none=>unsupported "internal:list.sort.merge-bound"):=by
 rw[NY]
 refine uc λ_=> ?_
 refine uc λx=> ?_
 refine Cy rfl (Cy rfl (uc λg=>C9 (CN λ_ c=> ?_) λc=> ?_))
 .refine C9 (CN λ_ d=>rfl) λd=> ?_;let⟨r,d⟩:=d;cases r with
  | some r=>rfl
  | none=>
   refine uc λ_=>C9 (CN λ_ e=> ?_) λe=> ?_
   .refine Cy ?_ ?_
    .exact wL a b _ _ _ _ _ _
    .exact wL a b _ _ _ _ _ _
   .let⟨r,e⟩:=e;cases r<;>rfl
 .let⟨r,c⟩:=c;cases r<;>rfl
end
def gU (h:i<xs.size):xs.toList[i]? =some (cV xs i):=by rw[<- Hi h];simp
def drop_cons (h:i<xs.size):xs.toList.drop i=cV xs i::xs.toList.drop (i+1):=by
 have h':i<xs.toList.length:=by simpa using h
 have e:=gU h;rw[ae h'] at e;rw[dS h',bA e]
def take1 (h:i<xs.size):(xs.toList.drop i).take 1= [cV xs i]:=by rw[drop_cons h];rfl
def je (h:y∈xs.toList.drop i): ∃k,i<=k /\ k<xs.size /\ y=cV xs k:=by
 let⟨n,hn⟩:=cg.mp h;rw[List.getElem?_drop] at hn;have hl:=(ai.mp hn).1;have k7:i+n<xs.size:=by simpa using hl
 rw[gU k7] at hn;exact#[i+n,by lia,k7,(bA hn).symm]
def uD (h:y∈(xs.toList.drop i).take k): ∃n,i<=n /\ n<i+k /\ n<xs.size /\ y=cV xs n:=by
 let⟨n,hn⟩:=cg.mp h;rw[List.getElem?_take] at hn;split at hn
 .rename_i hk;rw[List.getElem?_drop] at hn;have hl:=(ai.mp hn).1;have k7:i+n<xs.size:=by simpa using hl
  rw[gU k7] at hn;exact#[i+n,by lia,by lia,k7,(bA hn).symm]
 .cases hn
def lq (O:Ord less)(h:xs.toList.Pairwise (LE less))(gK:i<=j)(hj:j<xs.size):LE less (cV xs i) (cV xs j):=by
 by_cases c:i=j
 .subst c;exact O.refl _
 .rw[bw] at h;have ly:i<xs.toList.length:=by simp;lia
  have iX:j<xs.toList.length:=by simpa using hj
  have:=h i j ly iX (by lia);have e1:=gU (xs:=xs) (i:=i) (by lia);have e2:=gU hj;rw[ae ly] at e1;rw[ae iX] at e2;rwa [bA e1,bA e2] at this
theorem uG (O:Ord less)(h:xs.toList.Pairwise (LE less))(hn:i+n<=xs.size):Sg less xs i (i+n):=λx y _ hxy hy=>lq O h hxy (by lia)
def xH (xs:Array Keyed)(i k:Nat):(xs.extract i (i+k)).toList=(xs.toList.drop i).take k:=by rw[Array.toList_extract,List.extract_eq_take_drop];congr 1;lia
def qc (xs:Array Keyed)(i:Nat):(xs.extract i xs.size).toList=xs.toList.drop i:=by rw[Array.toList_extract,List.extract_eq_take_drop];exact List.take_of_length_le (by simp)
section
variable {prog:Program}{w:World}{A:Around}{E:Value ->Shared ->Prop}{s:Shared}{kd:SortKind}{a₀:Array Keyed}{less:Keyed ->Keyed ->Bool}
structure uo (less:Keyed ->Keyed ->Bool)(a₀ a b:Array Keyed):Prop where
 sa:a.toList.Pairwise (LE less)
 sb:b.toList.Pairwise (LE less)
 ma: ∀i,i<a.size ->cV a i∈a₀.toList
 mb: ∀i,i<b.size ->cV b i∈a₀.toList
 na:1<=a.size
 nb:1<=b.size
 h0:less (cV b 0) (cV a 0)=true
 hl: ∀j,j<b.size ->less (cV b j) (cV a (a.size - 1))=true
noncomputable def Res (less:Keyed ->Keyed ->Bool)(a b r:Array Keyed):Prop:=r.toList.Perm (a.toList++b.toList) /\ r.toList.Pairwise (LE less)
structure JL (less:Keyed ->Keyed ->Bool)(a b o:Array Keyed)(i j:Nat):Prop where
 mi:MI less a.toList b.toList o.toList i j
 hi:i+1<a.size
 hj:j<b.size
variable {a b:Array Keyed}
def uO (T:uo less a₀ a b)(h:MI less a.toList b.toList o.toList i j)(hj:b.size<=j \/ a.size<=i):Res less a b (zC a b o i j):=by
 unfold Res zC;rw[cE,cE,qc,qc];have:=h.swap.fin T.sb T.sa λx hx y hy=>by
  rcases hj with hj | hj
  .let⟨k,h1,h2,_⟩:=je hy;lia
  .let⟨k,h1,h2,_⟩:=je hx;lia
 exact#[this.1.trans dW,this.2]
def uN (O:Ord less)(T:uo less a₀ a b)(h:MI less a.toList b.toList o.toList i j)(hi:i+1=a.size):Res less a b (Lq a b o i j):=by unfold Res Lq;rw[cE,cE,qc,qc];refine h.fin T.sa T.sb λx hx y hy=> ?_;let⟨k,h1,h2,rfl⟩:=je hx;let⟨k',OJ,HP,rfl⟩:=je hy;rw[show k'=a.size - 1 by lia];exact O.le (T.hl k h2)
def yR (O:Ord less)(T:uo less a₀ a b){o:Array Keyed}(h:MI less a.toList b.toList o.toList i j)(hj:j<b.size)(hc:i<a.size ->LE less (cV b j) (cV a i)):MI less a.toList b.toList (o.push (cV b j)).toList i (j+1):=by have:=(h.swap.J8 T.sb 1 λx hx y hy=>by rw[take1 hj] at hx;rw[af.mp hx];let⟨k,h1,h2,rfl⟩:=je hy;exact O.trans _ _ _ (hc (by lia)) (lq O T.sa h1 h2)).swap;rw[take1 hj] at this;rwa [Array.toList_push]
def Fb (O:Ord less)(T:uo less a₀ a b){o:Array Keyed}(h:MI less a.toList b.toList o.toList i j)(hi:i<a.size)(hc:j<b.size ->LE less (cV a i) (cV b j)):MI less a.toList b.toList (o.push (cV a i)).toList (i+1) j:=by
 have:=h.J8 T.sa 1 λx hx y hy=>by rw[take1 hi] at hx;rw[af.mp hx];let⟨k,h1,h2,rfl⟩:=je hy;exact O.trans _ _ _ (hc (by lia)) (lq O T.sb h1 h2)
 rw[take1 hi] at this;rwa [Array.toList_push]
noncomputable def Pb (less:Keyed ->Keyed ->Bool)(a b:Array Keyed)(st:SortSt)(N:Nat)(r:ForInStep R7)(bG:SortSt):Prop:=(∃g,bG=cK st g) /\ ((∃x c,r= .done (some x,c) /\ Res less a b x) \/ (∃o i j c,(r= .done (none,o,i,j,c) \/ r= .yield (none,o,i,j,c)) /\ JL less a b o i j /\ N<=i+j))
def wp_p3L (O:Ord less)(T:uo less a₀ a b){st bG:SortSt}(hg: ∃g,bG=cK st g)(J:JL less a b o i j)(hc:LE less (cV a i) (cV b j))(hN:N<=i+j):wpS (model prog w) A E s (Uc a b mg ac bc o i j) (Pb less a b st N) bG:=by
 unfold Uc;have hi:=J.hi;refine aB (wp_elem (by lia) ?_);have m:=Fb O T J.mi (by lia) λ_=>hc;by_cases c:i+1+1=a.size
 .rw[aj (by simpa using c)];exact aL #[hg, .inl #[_,_,rfl,uN O T m c]]
 .rw[ah (by simpa using c)];have J':JL less a b (o.push (cV a i)) (i+1) j:=#[m,by lia,J.hj]
  split
  .exact aL #[hg, .inr #[_,_,_,_, .inl rfl,J',by lia]]
  .exact aL #[hg, .inr #[_,_,_,_, .inr rfl,J',by lia]]
def wp_p2L (O:Ord less)(L:iZ prog w A E s kd a₀ less)(T:uo less a₀ a b){st bG:SortSt}(hk:kindOf bG=kd)(hg: ∃g,bG=cK st g)(J:JL less a b o i j)(hc:less (cV b j) (cV a i)=true)(hN:N<=i+j):wpS (model prog w) A E s (Ue a b mg ac bc o i j) (Pb less a b st N) bG:=by
 unfold Ue;have hi:=J.hi;have hj:=J.hj;refine aB (wp_elem hj ?_);have m:=yR O T J.mi hj λ_=>O.le hc;by_cases c:j+1=b.size
 .rw[aj (by simpa using c)];exact aL #[hg, .inl #[_,_,rfl,uO T m (.inl (by lia))]]
 .rw [ah (by simpa using c)];refine aB (wp_elem (by lia) ?_);refine aB (wp_galL O L hk (T.ma i (by lia)) (λk hk=>#[by lia,T.mb _ (by lia)]) (by lia) (uG O T.sb (by lia)) λk h1 h2 h3=> ?_);dsimp only;by_cases ck:k >0
  .rw[aj ck];have m2:MI less a.toList b.toList (o.push (cV b j)++b.extract (j+1) (j+1+k)).toList i (j+1+k):=by rw[cE,xH];refine(m.swap.J8 T.sb k λx hx y hy=> ?_).swap;let⟨n,n1,n2,n3,rfl⟩:=uD hx;let⟨k',k1,k2,rfl⟩:=je hy;have:=h2 (n - (j+1)) (by lia);rw[show j+1+(n - (j+1))=n by lia] at this;exact O.trans _ _ _ (O.le this) (lq O T.sa k1 k2)
   by_cases c2:j+1+k=b.size
   .rw[aj (by simpa using c2)];exact aL #[hg, .inl #[_,_,rfl,uO T m2 (.inl (by lia))]]
   .rw[ah (by simpa using c2)];exact wp_p3L O T hg #[m2,hi,by lia] (h3 k (ao _) (by lia)) (by lia)
  .rw[ah ck];have:k=0:=by lia
   subst this;exact wp_p3L O T hg #[m,hi,by lia] (h3 0 (ao _) (by lia)) (by lia)
def wp_p1L (O:Ord less)(L:iZ prog w A E s kd a₀ less)(T:uo less a₀ a b){st bG:SortSt}(hk:kindOf st=kd)(hg: ∃g,bG=cK st g)(J:JL less a b o i j)(hN:N<=i+j):wpS (model prog w) A E s (Ro a b mg ac bc o i j) (Pb less a b st N) bG:=by
 unfold Ro;have hi:=J.hi;have hj:=J.hj;refine aB (wpS_modify ?_);have GA: ∃g,cK bG mg=cK st g:=by let⟨g,rfl⟩:=hg;exact#[mg,rfl]
 have rL:kindOf (cK bG mg)=kd:=by let⟨g,rfl⟩:=hg;exact hk
 refine aB (wp_elem hj ?_);refine aB (wp_galR O L rL (T.mb j hj) (λk hk=>#[by lia,T.ma _ (by lia)]) (by lia) (uG O T.sa (by lia)) λk h1 h2 h3=> ?_);dsimp only;have PJ:i+k<a.size:=by
  by_cases c:i+k<a.size
  .exact c
  .have:=h2 (a.size - 1 - i) (by lia);rw[show i+(a.size - 1 - i)=a.size - 1 by lia] at this;unfold LE at this;rw[T.hl j hj] at this;cases this
 have LM:=h3 k (ao _) (by lia);by_cases ck:k >0
 .rw[aj ck];have m2:MI less a.toList b.toList (o++a.extract i (i+k)).toList (i+k) j:=by rw[cE,xH];refine J.mi.J8 T.sa k λx hx y hy=> ?_;let⟨n,n1,n2,n3,rfl⟩:=uD hx;let⟨k',k1,k2,rfl⟩:=je hy;have:=h2 (n - i) (by lia);rw[show i+(n - i)=n by lia] at this;exact O.trans _ _ _ this (lq O T.sb k1 k2)
  by_cases c2:i+k+1=a.size
  .rw[aj (by simpa using c2)];exact aL #[GA, .inl #[_,_,rfl,uN O T m2 c2]]
  .rw[ah (by simpa using c2),ah (by simp;lia)];exact wp_p2L O L T rL GA #[m2,by lia,hj] LM (by lia)
 .rw[ah ck];have:k=0:=by lia
  subst this;exact wp_p2L O L T rL GA J LM hN
def wp_one1 (O:Ord less)(L:iZ prog w A E s kd a₀ less)(T:uo less a₀ a b)(hk:kindOf bG=kd)(J:JL less a b o i j)(h1: ∀x c,Res less a b x ->Q (.done (some x,c)) bG)(h2: ∀o i' j' c,JL less a b o i' j' ->i'+j'=i+j+1 ->Q (.done (none,o,i',j',c)) bG /\ Q (.yield (none,o,i',j',c)) bG): wpS (model prog w) A E s (NN a b mg o i j ac bc) Q bG:=by
 unfold NN;have hi:=J.hi;have hj:=J.hj;refine aB (wp_elem hj (aB (wp_elem (by lia) (aB (L _ _ _ _ (T.mb j hj) (T.ma i (by lia)) hk ?_)))));dsimp only;cases e:less (cV b j) (cV a i) with
 | true=>
  simp![bW];refine aB (wp_elem hj ?_);have m:=yR O T J.mi hj λ_=>O.le e;by_cases c:j+1=b.size
  .rw[aj (by simpa using c)];exact aL (h1 _ _ (uO T m (.inl (by lia))))
  .rw[ah (by simpa using c)];have:=h2 _ i (j+1) (0,bc+1) #[m,hi,by lia] (by lia);split
   .exact aL this.1
   .exact aL this.2
 | false=>
  simp![az,bj];refine aB (wp_elem (by lia) ?_);have m:=Fb O T J.mi (by lia) λ_=>e;by_cases c:i+1+1=a.size
  .rw[aj (by simpa using c)];exact aL (h1 _ _ (uN O T m c))
  .rw[ah (by simpa using c)];have:=h2 _ (i+1) j (ac+1,0) #[m,by lia,hj] (by lia);split
   .exact aL this.1
   .exact aL this.2
def wp_mLo (O:Ord less)(L:iZ prog w A E s kd a₀ less)(T:uo less a₀ a b){st:SortSt}(hk:kindOf st=kd)(h: ∀r g,Res less a b r ->Q r (cK st g)):wpS (model prog w) A E s (Ut a b) Q st:=by
 rw[Ck];have na:=T.na;have nb:=T.nb;refine aB (wpS_lift (wpAny_rule #[rfl,?_]));refine aB (wp_elem (by lia) ?_);have h': ∀r,Res less a b r ->Q r st:=λr hr=>h r (gallopOf st) hr;have m:MI less a.toList b.toList (#[cV b 0]:Array Keyed).toList 0 1:=by
  have m0:MI less a.toList b.toList (#[]:Array Keyed).toList 0 0:=#[by simp,by simp,by simp,by simp]
  exact yR O T m0 (by lia) λ_=>O.le T.h0
 by_cases c:1=b.size
 .rw[aj (by simpa using c)];exact aL (h' _ (uO T m (.inl (by lia))))
 rw[ah (by simpa using c)];by_cases c2:0+1=a.size
 .rw[aj (by simpa using c2)];exact aL (h' _ (uN O T m c2))
 rw[ah (by simpa using c2)];refine aB (wpS_get ?_);refine aB (wpS_mono (cN (I:=λn c bG=>(∃g,bG=cK st g) /\ ∃o i j mg,c=(none,o,i,j,mg) /\ JL less a b o i j /\ n+1<=i+j) (Q:=λc bG=>(∃g,bG=cK st g) /\ ∃x d,c=(some x,d) /\ Res less a b x) ?_ ?_ #[#[gallopOf st,rfl],_,0,1,_,rfl,#[m,by lia,by lia],by lia]) ?_)
 .rintro n c bG _ hn ⟨hg,o,i,j,mg,rfl,J,hN⟩;unfold Rq;dsimp only;have rL:kindOf bG=kd:=by let⟨g,rfl⟩:=hg;exact hk
  refine aB (wpS_mono (cN (I:=λx c lK=>lK=bG /\ ∃o' i' j' d,c=(none,o',i',j',d) /\ JL less a b o' i' j' /\ i'+j'=i+j+x) (Q:=λc lK=>lK=bG /\ ((∃x d,c=(some x,d) /\ Res less a b x) \/ ∃o' i' j' d,c=(none,o',i',j',d) /\ JL less a b o' i' j' /\ i+j+1<=i'+j')) ?_ ?_ #[rfl,o,i,j,_,rfl,J,rfl]) ?_)
  .rintro x c lK _ hx ⟨rfl,o',i',j',⟨ac,bc⟩,rfl,J',OH⟩;dsimp only;refine wp_one1 O L T rL J' (λx c hr=>#[rfl, .inl #[x,c,rfl,hr]]) λo2 i2 j2 c J2 h2=>#[#[rfl, .inr #[o2,i2,j2,c,rfl,J2,by lia]],#[rfl,o2,i2,j2,c,rfl,J2,by lia]]
  .rintro c lK ⟨rfl,o',i',j',d,rfl,J',OH⟩;exact#[rfl, .inr #[o',i',j',d,rfl,J',by lia]]
  .rintro c lK ⟨rfl,⟨x,d,rfl,hr⟩ | ⟨o',i',j',⟨ac,bc⟩,rfl,J',OH⟩⟩
   .exact aL #[hg,x,_,rfl,hr]
   .dsimp only;refine aB (wpS_lift (wpAny_rule #[rfl,?_]));refine aB (wpS_mono (cN (I:=λx c oR=>(∃g,oR=cK st g) /\ ∃o' i' j' d,c=(none,o',i',j',d) /\ JL less a b o' i' j' /\ i+j+1<=i'+j') (Q:=λc oR=>(∃g,oR=cK st g) /\ ((∃x d,c=(some x,d) /\ Res less a b x) \/ ∃o' i' j' d,c=(none,o',i',j',d) /\ JL less a b o' i' j' /\ i+j+1<=i'+j')) ?_ ?_ #[hg,o',i',j',_,rfl,J',OH]) ?_)
    .rintro x c oR _ hx ⟨CI,o3,i3,j3,⟨V5,Zd,Zb⟩,rfl,J3,oF⟩;dsimp only;split;all_goals
      refine wpS_mono (wp_p1L O L T hk CI J3 oF) ?_
      rintro r f6 ⟨Ox,⟨x,c,rfl,hr⟩ | ⟨o,i,j,c,rfl | rfl,J4,h4⟩⟩
      .exact#[Ox, .inl #[x,c,rfl,hr]]
      .exact#[Ox, .inr #[o,i,j,c,rfl,J4,h4]]
      .exact#[Ox,o,i,j,c,rfl,J4,h4]
    .rintro c oR ⟨CI,o3,i3,j3,d,rfl,J3,oF⟩;exact#[CI, .inr #[o3,i3,j3,d,rfl,J3,oF]]
    .rintro c oR ⟨CI,⟨x,d,rfl,hr⟩ | ⟨o3,i3,j3,⟨V5,Zd,Zb⟩,rfl,J3,oF⟩⟩
     .exact aL #[CI,x,_,rfl,hr]
     .dsimp only;refine aB (wpS_modify (aL #[?_,o3,i3,j3,_,rfl,J3,by lia]));let⟨g,rfl⟩:=CI;exact#[_,rfl]
 .rintro c bG ⟨hg,o,i,j,mg,rfl,J,hN⟩;have:=J.hi;have:=J.hj;lia
 .rintro c bG ⟨⟨g,rfl⟩,x,d,rfl,hr⟩;exact aL (h x g hr)
end
def sy (h:y∈xs.toList.take i): ∃n,n<i /\ n<xs.size /\ y=cV xs n:=by
 let⟨n,hn⟩:=cg.mp h;rw[List.getElem?_take] at hn;split at hn
 .have hl:=(ai.mp hn).1;have k7:n<xs.size:=by simpa using hl
  rw[gU k7] at hn;exact#[n,by lia,k7,(bA hn).symm]
 .cases hn
def Ab (h:y∈(xs.toList.take i).drop k): ∃n,k<=n /\ n<i /\ n<xs.size /\ y=cV xs n:=by rw[List.drop_take] at h;let⟨n,h1,h2,h3,e⟩:=uD h;exact#[n,h1,by lia,h3,e]
def T8 (h0:1<=i)(h:i<=xs.size):(xs.toList.take i).drop (i - 1)= [cV xs (i - 1)]:=by rw[List.drop_take,show i - (i - 1)=1 by lia,take1 (by lia)]
def l3 (xs:Array Keyed)(k i:Nat):(xs.extract k i).toList=(xs.toList.take i).drop k:=by rw[Array.toList_extract,List.extract_eq_take_drop,List.drop_take]
def Bd (xs:Array Keyed)(i:Nat):(xs.extract 0 i).toList=xs.toList.take i:=by rw[l3,List.drop_zero]
section
variable {prog:Program}{w:World}{A:Around}{E:Value ->Shared ->Prop}{s:Shared}{kd:SortKind}{a₀:Array Keyed}{less:Keyed ->Keyed ->Bool}
structure JH (less:Keyed ->Keyed ->Bool)(a b o:Array Keyed)(i j:Nat):Prop where
 mi:MH less a.toList b.toList o.toList.reverse i j
 hi:1<=i
 hj:2<=j
 ia:i<=a.size
 jb:j<=b.size
variable {a b:Array Keyed}
def mM (T:uo less a₀ a b)(h:MH less a.toList b.toList o.toList.reverse i j)(hj:i=0 \/ j=0):Res less a b (zD a b o i j):=by
 unfold Res zD;rw[cE,cE,Bd,Bd,Array.toList_reverse];refine h.fin T.sa T.sb λx hx y hy=> ?_;rcases hj with hj | hj
 .subst hj;simp at hx
 .subst hj;simp at hy
def pW (O:Ord less)(T:uo less a₀ a b)(h:MH less a.toList b.toList o.toList.reverse i j)(hj:j=1):Res less a b (L6 a b o i j):=by
 unfold Res L6;rw[cE,cE,Bd,Bd,Array.toList_reverse];have:=h.swap.fin T.sb T.sa λx hx y hy=>by let⟨n,n1,n2,rfl⟩:=sy hx;let⟨k,k1,k2,rfl⟩:=sy hy;rw[show n=0 by lia];exact O.trans _ _ _ (O.le T.h0) (lq O T.sa (dj _) k2)
 exact#[this.1.trans dW,this.2]
def uS (O:Ord less)(T:uo less a₀ a b){o:Array Keyed}(h:MH less a.toList b.toList o.toList.reverse i j)(h1:1<=i)(hi:i<=a.size)(hj:j<=b.size)(hc:1<=j ->LE less (cV b (j - 1)) (cV a (i - 1))):MH less a.toList b.toList (o.push (cV a (i - 1))).toList.reverse (i - 1) j:=by
 have:=h.J8 T.sa (k:=i - 1) (by lia) λx hx y hy=>by rw[T8 h1 hi] at hx;rw[af.mp hx];let⟨k,k1,k2,rfl⟩:=sy hy;exact O.trans _ _ _ (lq O T.sb (show k<=j - 1 by lia) (by lia)) (hc (by lia))
 rw[T8 h1 hi] at this;rw[Array.toList_push,List.reverse_append];exact this
def Ax (O:Ord less)(T:uo less a₀ a b){o:Array Keyed}(h:MH less a.toList b.toList o.toList.reverse i j)(h1:1<=j)(hi:i<=a.size)(hj:j<=b.size)(hc:1<=i ->LE less (cV a (i - 1)) (cV b (j - 1))):MH less a.toList b.toList (o.push (cV b (j - 1))).toList.reverse i (j - 1):=by have:=(h.swap.J8 T.sb (k:=j - 1) (by lia) λx hx y hy=>by rw[T8 h1 hj] at hx;rw[af.mp hx];let⟨k,k1,k2,rfl⟩:=sy hy;exact O.trans _ _ _ (lq O T.sa (show k<=i - 1 by lia) (by lia)) (hc (by lia))).swap;rw[T8 h1 hj] at this;rw[Array.toList_push,List.reverse_append];exact this
def As (o x:Array Keyed):(o++x.reverse).toList.reverse=x.toList++o.toList.reverse:=by rw[cE,Array.toList_reverse,List.reverse_append,List.reverse_reverse]
noncomputable def Pa (less:Keyed ->Keyed ->Bool)(a b:Array Keyed)(st:SortSt)(N:Nat)(r:ForInStep S7)(bG:SortSt):Prop:=(∃g,bG=cK st g) /\ ((∃x c,r= .done (some x,c) /\ Res less a b x) \/ (∃i j o c,(r= .done (none,i,j,o,c) \/ r= .yield (none,i,j,o,c)) /\ JH less a b o i j /\ i+j<=N))
def wp_p3H (O:Ord less)(T:uo less a₀ a b){st bG:SortSt}(hg: ∃g,bG=cK st g)(J:JH less a b o i j)(hc:LE less (cV b (j - 1)) (cV a (i - 1)))(hN:i+j<=N):wpS (model prog w) A E s (Ud a b mg ac bc i j o) (Pa less a b st N) bG:=by
 unfold Ud;have hi:=J.hi;have ia:=J.ia;refine aB (wp_elem (by lia) ?_);have m:=uS O T J.mi J.hi J.ia J.jb λ_=>hc;by_cases c:i - 1=0
 .rw[aj (by simpa using c)];exact aL #[hg, .inl #[_,_,rfl,mM T m (.inl c)]]
 .rw[ah (by simpa using c)];have J':JH less a b (o.push (cV a (i - 1))) (i - 1) j:=#[m,by lia,J.hj,by lia,J.jb]
  split
  .exact aL #[hg, .inr #[_,_,_,_, .inl rfl,J',by lia]]
  .exact aL #[hg, .inr #[_,_,_,_, .inr rfl,J',by lia]]
def wp_p2H (O:Ord less)(L:iZ prog w A E s kd a₀ less)(T:uo less a₀ a b){st bG:SortSt}(hk:kindOf bG=kd)(hg: ∃g,bG=cK st g)(J:JH less a b o i j)(hc:LE less (cV a (i - 1)) (cV b (j - 1)))(hN:i+j<=N):wpS (model prog w) A E s (Ug a b mg ac bc i j o) (Pa less a b st N) bG:=by
 unfold Ug;have hi:=J.hi;have hj:=J.hj;have ia:=J.ia;have jb:=J.jb;refine aB (wp_elem (by lia) ?_);have m:=Ax O T J.mi (by lia) ia jb λ_=>hc;by_cases c:j - 1=1
 .rw[aj (by simpa using c)];exact aL #[hg, .inl #[_,_,rfl,pW O T m c]]
 .rw [ah (by simpa using c)];refine aB (wp_elem (by lia) ?_);have sg:=uG O T.sb (i:=0) (n:=j - 1) (by lia);refine aB (wp_galL O L hk (T.ma (i - 1) (by lia)) (λk hk=>#[by lia,T.mb _ (by lia)]) (by lia) sg λk h1 h2 h3=> ?_);dsimp only;simp![Nat.zero_add] at h2 h3;by_cases ck:j - 1 - k >0
  .rw[aj ck];have m2:MH less a.toList b.toList (o.push (cV b (j - 1))++(b.extract k (j - 1)).reverse).toList.reverse i k:=by rw[As,l3];refine(m.swap.J8 T.sb (by lia) λx hx y hy=> ?_).swap;let⟨n,n1,n2,n3,rfl⟩:=Ab hx;let⟨k',k1,k2,rfl⟩:=sy hy;exact O.trans _ _ _ (lq O T.sa (show k'<=i - 1 by lia) (by lia)) (h3 n n1 n2)
   by_cases c2:k=1
   .rw[aj (by simpa using c2)];exact aL #[hg, .inl #[_,_,rfl,pW O T m2 c2]]
   rw[ah (by simpa using c2)];by_cases c3:k=0
   .rw[aj (by simpa using c3)];exact aL #[hg, .inl #[_,_,rfl,mM T m2 (.inr c3)]]
   .rw[ah (by simpa using c3)];exact wp_p3H O T hg #[m2,hi,by lia,ia,by lia] (O.le (h2 (k - 1) (by lia))) (by lia)
  .rw[ah ck];exact wp_p3H O T hg #[m,hi,by lia,ia,by lia] (O.le (h2 (j - 1 - 1) (by lia))) (by lia)
def wp_p1H (O:Ord less)(L:iZ prog w A E s kd a₀ less)(T:uo less a₀ a b){st bG:SortSt}(hk:kindOf st=kd)(hg: ∃g,bG=cK st g)(J:JH less a b o i j)(hN:i+j<=N):wpS (model prog w) A E s (Rp a b mg ac bc i j o) (Pa less a b st N) bG:=by
 unfold Rp;have hi:=J.hi;have hj:=J.hj;have ia:=J.ia;have jb:=J.jb;refine aB (wpS_modify ?_);have GA: ∃g,cK bG mg=cK st g:=by let⟨g,rfl⟩:=hg;exact#[mg,rfl]
 have rL:kindOf (cK bG mg)=kd:=by let⟨g,rfl⟩:=hg;exact hk
 refine aB (wp_elem (by lia) ?_);have sg:=uG O T.sa (i:=0) (n:=i) (by lia);refine aB (wp_galR O L rL (T.mb (j - 1) (by lia)) (λk hk=>#[by lia,T.ma _ (by lia)]) (by lia) sg λk h1 h2 h3=> ?_);dsimp only;simp![Nat.zero_add] at h2 h3;by_cases ck:i - k >0
 .rw[aj ck];have m2:MH less a.toList b.toList (o++(a.extract k i).reverse).toList.reverse k j:=by rw[As,l3];refine J.mi.J8 T.sa (by lia) λx hx y hy=> ?_;let⟨n,n1,n2,n3,rfl⟩:=Ab hx;let⟨k',k1,k2,rfl⟩:=sy hy;exact O.trans _ _ _ (lq O T.sb (show k'<=j - 1 by lia) (by lia)) (O.le (h3 n n1 n2))
  by_cases c2:k=0
  .rw[aj (by simpa using c2)];exact aL #[GA, .inl #[_,_,rfl,mM T m2 (.inl c2)]]
  .rw[ah (by simpa using c2)];exact wp_p2H O L T rL GA #[m2,by lia,hj,by lia,jb] (h2 (k - 1) (by lia)) (by lia)
 .rw[ah ck];exact wp_p2H O L T rL GA J (h2 (i - 1) (by lia)) hN
def wp_two1 (O:Ord less)(L:iZ prog w A E s kd a₀ less)(T:uo less a₀ a b)(hk:kindOf bG=kd)(J:JH less a b o i j)(h1: ∀x c,Res less a b x ->Q (.done (some x,c)) bG)(h2: ∀i' j' o c,JH less a b o i' j' ->i'+j'+1=i+j ->Q (.done (none,i',j',o,c)) bG /\ Q (.yield (none,i',j',o,c)) bG): wpS (model prog w) A E s (MG a b mg i j o ac bc) Q bG:=by
 unfold MG;have hi:=J.hi;have hj:=J.hj;have ia:=J.ia;have jb:=J.jb;refine aB (wp_elem (by lia) (aB (wp_elem (by lia) (aB (L _ _ _ _ (T.mb (j - 1) (by lia)) (T.ma (i - 1) (by lia)) hk ?_)))));dsimp only;cases e:less (cV b (j - 1)) (cV a (i - 1)) with
 | true=>
  simp![bW];refine aB (wp_elem (by lia) ?_);have m:=uS O T J.mi hi ia jb λ_=>O.le e;by_cases c:i - 1=0
  .rw[aj (by simpa using c)];exact aL (h1 _ _ (mM T m (.inl c)))
  .rw[ah (by simpa using c)];have:=h2 (i - 1) j _ (ac+1,0) #[m,by lia,hj,by lia,jb] (by lia);split
   .exact aL this.1
   .exact aL this.2
 | false=>
  simp![az,bj];refine aB (wp_elem (by lia) ?_);have m:=Ax O T J.mi (by lia) ia jb λ_=>e;by_cases c:j - 1=1
  .rw[aj (by simpa using c)];exact aL (h1 _ _ (pW O T m c))
  .rw[ah (by simpa using c)];have:=h2 i (j - 1) _ (0,bc+1) #[m,hi,by lia,ia,by lia] (by lia);split
   .exact aL this.1
   .exact aL this.2
def wp_mHi (O:Ord less)(L:iZ prog w A E s kd a₀ less)(T:uo less a₀ a b){st:SortSt}(hk:kindOf st=kd)(h: ∀r g,Res less a b r ->Q r (cK st g)):wpS (model prog w) A E s (Uu a b) Q st:=by
 rw[Cm];have na:=T.na;have nb:=T.nb;refine aB (wpS_lift (wpAny_rule #[rfl,?_]));refine aB (wp_elem (by lia) ?_);have h': ∀r,Res less a b r ->Q r st:=λr hr=>h r (gallopOf st) hr;have m:MH less a.toList b.toList (#[cV a (a.size - 1)]:Array Keyed).toList.reverse (a.size - 1) b.size:=by
  have m0:MH less a.toList b.toList (#[]:Array Keyed).toList.reverse a.size b.size:=#[by simp,by simp,by simp,by simp]
  exact uS O T m0 (by lia) (ao _) (ao _) λ_=>O.le (T.hl _ (by lia))
 by_cases c:a.size - 1=0
 .rw[aj (by simpa using c)];exact aL (h' _ (mM T m (.inl c)))
 rw[ah (by simpa using c)];by_cases c2:b.size=1
 .rw[aj (by simpa using c2)];exact aL (h' _ (pW O T m c2))
 rw[ah (by simpa using c2)];refine aB (wpS_get ?_);refine aB (wpS_mono (cN (I:=λn c bG=>(∃g,bG=cK st g) /\ ∃i j o mg,c=(none,i,j,o,mg) /\ JH less a b o i j /\ i+j+n<a.size+b.size) (Q:=λc bG=>(∃g,bG=cK st g) /\ ∃x d,c=(some x,d) /\ Res less a b x) ?_ ?_ #[#[gallopOf st,rfl],_,_,_,_,rfl,#[m,by lia,by lia,by lia,by lia],by lia]) ?_)
 .rintro n c bG _ hn ⟨hg,i,j,o,mg,rfl,J,hN⟩;unfold Je;dsimp only;have rL:kindOf bG=kd:=by let⟨g,rfl⟩:=hg;exact hk
  refine aB (wpS_mono (cN (I:=λx c lK=>lK=bG /\ ∃i' j' o' d,c=(none,i',j',o',d) /\ JH less a b o' i' j' /\ i'+j'+x=i+j) (Q:=λc lK=>lK=bG /\ ((∃x d,c=(some x,d) /\ Res less a b x) \/ ∃i' j' o' d,c=(none,i',j',o',d) /\ JH less a b o' i' j' /\ i'+j'+1<=i+j)) ?_ ?_ #[rfl,i,j,o,_,rfl,J,rfl]) ?_)
  .rintro x c lK _ hx ⟨rfl,i',j',o',⟨ac,bc⟩,rfl,J',OH⟩;dsimp only;refine wp_two1 O L T rL J' (λx c hr=>#[rfl, .inl #[x,c,rfl,hr]]) λi2 j2 o2 c J2 h2=>#[#[rfl, .inr #[i2,j2,o2,c,rfl,J2,by lia]],#[rfl,i2,j2,o2,c,rfl,J2,by lia]]
  .rintro c lK ⟨rfl,i',j',o',d,rfl,J',OH⟩;exact#[rfl, .inr #[i',j',o',d,rfl,J',by lia]]
  .rintro c lK ⟨rfl,⟨x,d,rfl,hr⟩ | ⟨i',j',o',⟨ac,bc⟩,rfl,J',OH⟩⟩
   .exact aL #[hg,x,_,rfl,hr]
   .dsimp only;refine aB (wpS_lift (wpAny_rule #[rfl,?_]));refine aB (wpS_mono (cN (I:=λx c oR=>(∃g,oR=cK st g) /\ ∃i' j' o' d,c=(none,i',j',o',d) /\ JH less a b o' i' j' /\ i'+j'+1<=i+j) (Q:=λc oR=>(∃g,oR=cK st g) /\ ((∃x d,c=(some x,d) /\ Res less a b x) \/ ∃i' j' o' d,c=(none,i',j',o',d) /\ JH less a b o' i' j' /\ i'+j'+1<=i+j)) ?_ ?_ #[hg,i',j',o',_,rfl,J',OH]) ?_)
    .rintro x c oR _ hx ⟨CI,i3,j3,o3,⟨V5,Zd,Zb⟩,rfl,J3,oF⟩;dsimp only;split;all_goals
      refine wpS_mono (wp_p1H O L T (N:=i+j - 1) hk CI J3 (by lia)) ?_
      rintro r f6 ⟨Ox,⟨x,c,rfl,hr⟩ | ⟨i4,j4,o4,c,rfl | rfl,J4,h4⟩⟩
      .exact#[Ox, .inl #[x,c,rfl,hr]]
      .exact#[Ox, .inr #[i4,j4,o4,c,rfl,J4,by lia]]
      .exact#[Ox,i4,j4,o4,c,rfl,J4,by lia]
    .rintro c oR ⟨CI,i3,j3,o3,d,rfl,J3,oF⟩;exact#[CI, .inr #[i3,j3,o3,d,rfl,J3,oF]]
    .rintro c oR ⟨CI,⟨x,d,rfl,hr⟩ | ⟨i3,j3,o3,⟨V5,Zd,Zb⟩,rfl,J3,oF⟩⟩
     .exact aL #[CI,x,_,rfl,hr]
     .dsimp only;refine aB (wpS_modify (aL #[?_,i3,j3,o3,_,rfl,J3,by lia]));let⟨g,rfl⟩:=CI;exact#[_,rfl]
 .rintro c bG ⟨hg,i,j,o,mg,rfl,J,hN⟩;have:=J.hi;have:=J.hj;lia
 .rintro c bG ⟨⟨g,rfl⟩,x,d,rfl,hr⟩;exact aL (h x g hr)
end
noncomputable def zR (xs:Array Keyed)(at_:Nat)(l:List (Keyed×Nat)):Array Keyed:=l.foldl (λa (p,j)=>a.setIfInBounds (at_+j) p) xs
theorem yt (at_ n:Nat): ∀ (ms:List Keyed) (k:Nat) (xs:Array Keyed),at_+k+ms.length<=xs.size ->(zR xs at_ (ms.zipIdx k))[n]? =if at_+k<=n /\ n<at_+k+ms.length then ms[n - (at_+k)]? else xs[n]?
 | [],k,xs,h=>by rw[ah (by simp)];rfl
 | p ::ms,k,xs,h=>by
  rw[aG] at h;show(zR (xs.setIfInBounds (at_+k) p) at_ (ms.zipIdx (k+1)))[n]? =_;rw[yt at_ n ms (k+1) _ (by rw[Array.size_setIfInBounds];lia)];rw[aG];by_cases c:n=at_+k
  .subst c;rw[ah (by lia),aj (by lia),Array.getElem?_setIfInBounds_self_of_lt (by lia)];simp
  .rw[Array.getElem?_setIfInBounds_ne (a9 c)];by_cases c2:at_+(k+1) <=n /\ n<at_+(k+1)+ms.length
   .rw[aj c2,aj (by lia),show n - (at_+k)=(n - (at_+(k+1)))+1 by lia,List.getElem?_cons_succ]
   .rw[ah c2,ah (by lia)]
def DJ (h:at_+ms.length<=xs.size):(zR xs at_ ms.zipIdx).toList=xs.toList.take at_++(ms++xs.toList.drop (at_+ms.length)):=by
 apply List.ext_getElem?;intro n;have e:=yt at_ n ms 0 xs (by lia);rw[Nat.add_zero] at e;have e':(zR xs at_ ms.zipIdx).toList[n]? =(zR xs at_ ms.zipIdx)[n]? :=by simp
 rw[e',e];have hx: ∀k:Nat,xs.toList[k]? =xs[k]? :=λk=>Array.getElem?_toList ..;by_cases c1:n<at_
 .rw[ah (by lia),a7 (by rw[bu];simp;lia),List.getElem?_take,aj c1,hx]
 .have lt:(xs.toList.take at_).length=at_:=by rw[bu];simp;lia
  rw[aU (by lia),lt];by_cases c2:n<at_+ms.length
  .rw[aj (by lia),a7 (by lia)]
  .rw[ah (by lia),aU (by lia),List.getElem?_drop,hx];congr 1;lia
def three (l:List Keyed)(i j k:Nat)(gK:i<=j)(hjk:j<=k)(hk:k<=l.length):l=l.take i++((l.take j).drop i++((l.take k).drop j++l.drop k)):=by
 have e1:(l.take k).drop j++l.drop k=l.drop j:=by rw[List.drop_take];have:=bo (k - j) (l.drop j);rw[List.drop_drop,show j+(k - j)=k by lia] at this;exact this
 have e2:(l.take j).drop i++l.drop j=l.drop i:=by rw[List.drop_take];have:=bo (j - i) (l.drop i);rw[List.drop_drop,show i+(j - i)=j by lia] at this;exact this
 rw[e1,e2,bo]
def GW (O:Ord less){i j lo hi:Nat}(h:Sg less xs lo hi)(h1:lo<=i)(h2:j<=hi)(h3:hi<=xs.size):(xs.extract i j).toList.Pairwise (LE less):=by
 rw[bw];intro x y hx hy hxy;have e: ∀n (hn:n< (xs.extract i j).toList.length),(xs.extract i j).toList[n]=cV xs (i+n):=λn hn=>by
  have LN:n< (xs.extract i j).size:=by rw[dg] at hn;exact hn
  rw[Array.size_extract] at LN;unfold cV;rw[getElem?_pos xs (i+n) (by lia)];simp
 rw[e x hx,e y hy];have Py:y< (xs.extract i j).size:=by rw[dg] at hy;exact hy
 rw[Array.size_extract] at Py;exact h _ _ (by lia) (by lia) (by lia)
def kT (h:n< (xs.extract i j).size):cV (xs.extract i j) n=cV xs (i+n):=by unfold cV;rw[Array.size_extract] at h;rw[Array.getElem?_extract,aj (by lia)]
section
variable {prog:Program}{w:World}{A:Around}{E:Value ->Shared ->Prop}{s:Shared}{kd:SortKind}{a₀:Array Keyed}{less:Keyed ->Keyed ->Bool}
noncomputable abbrev Rn:=Nat×Nat×Nat
theorem N1 (i:Nat):mergeAt' i=(do
 let s <- get
 let (some (sa,na,pw),some (sb,nb,_)):=((pendingOf s)[i]?,(pendingOf s)[i+1]?) | unsupported "internal:list.sort.pending"
 set (setPending s (((pendingOf s).setIfInBounds i (sa,na+nb,pw)).eraseIdxIfInBounds (i+1)))
 let some k <- vO false (<- elem' (arrOf s) sb) (arrOf s) sa na 0 | return false
 let (sa,na):=(sa+k,na - k)
 if na==0 then return true
 let some nb <- vO true (<- elem' (arrOf s) (sa+na - 1)) (arrOf s) sb nb (nb - 1) | return false
 if nb==0 then return true
 let x:=(arrOf s).extract sa sb
 let y:=(arrOf s).extract sb (sb+nb)
 let r <- if na<=nb then Ut x y else Uu x y
 modify λs=>setArr s (zR (arrOf s) sa r.toList.zipIdx)
 return(failedOf (<- get)).isNone):=rfl
def HY {st:σ}(h:Q ⟨⟩ v):wpS M A E s (set v:StateT σ Sem PUnit) Q st:=by unfold wpS;rw[StateT.run_set];exact aO #[rfl,h]
def wp_mAt (O:Ord less)(L:iZ prog w A E s kd a₀ less){st:SortSt}{l1 l2:List Rn}(B:SB kd a₀ st)(hp:pendingOf st=(l1++(sa,na,pw)::(sb,nb,VC)::l2).toArray)(hi:i=l1.length)(Oi:sb=sa+na)(h1:1<=na)(h2:1<=nb)(hz:sb+nb<=a₀.size)(s1:Sg less (arrOf st) sa sb)(s2:Sg less (arrOf st) sb (sb+nb))(h: ∀bG,SB kd a₀ bG ->pendingOf bG=(l1++(sa,na+nb,pw)::l2).toArray ->Sg less (arrOf bG) sa (sb+nb) ->Out sa (sb+nb) (arrOf st) (arrOf bG) ->Q true bG):wpS (model prog w) A E s (mergeAt' i) Q st:=by
 subst hi;rw[N1];refine aB (wpS_get ?_);have p1:(pendingOf st)[l1.length]? =some (sa,na,pw):=by rw[hp];simp
 have p2:(pendingOf st)[l1.length+1]? =some (sb,nb,VC):=by rw[hp];simp[aU]
 rw[p1,p2];dsimp only;refine aB (HY ?_);have hpd:((pendingOf st).setIfInBounds l1.length (sa,na+nb,pw)).eraseIdxIfInBounds (l1.length+1)=(l1++(sa,na+nb,pw)::l2).toArray:=by rw[hp];simp![List.setIfInBounds_toArray,List.eraseIdxIfInBounds_toArray];congr 1;rw[List.set_append_right _ _ (ao _),Nat.sub_self,List.set_cons_zero];rw[List.eraseIdx_append_of_length_le (by lia),show l1.length+1 - l1.length=1 by lia];rfl
 rw[hpd];let BV:SortSt:=setPending st (l1++(sa,na+nb,pw)::l2).toArray
 have B1:SB kd a₀ BV:=#[B.perm,B.kd,B.fl]
 have hsz:=B.size;show wpS _ _ _ _ _ Q BV;refine aB (wp_elem (by lia) ?_);refine aB (wp_galR O L B.kd (B.mem (by lia)) (λk hk=>#[by lia,B.mem (by lia)]) (by lia) (by rw[<- Oi];exact s1) λk g1 g2 g3=> ?_);dsimp only;by_cases c1:na - k=0
 .rw [aj (by simpa using c1)];refine aL (h BV B1 rfl (λi j hi gK hj=> ?_) Out.refl);show LE less (cV (arrOf st) i) (cV (arrOf st) j);by_cases c2:j<sb
  .exact s1 i j hi gK c2
  .by_cases c3:sb<=i
   .exact s2 i j c3 gK hj
   .have:=g2 (i - sa) (by lia);rw[show sa+(i - sa)=i by lia] at this;exact O.trans _ _ _ this (s2 sb j (ao _) (by lia) hj)
 .rw [ah (by simpa using c1)];refine aB (wp_elem (by lia) ?_);rw[show sa+k+(na - k) - 1=sb - 1 by lia];refine aB (wp_galL O L B.kd (B.mem (by lia)) (λk hk=>#[by lia,B.mem (by lia)]) (by lia) s2 λm f1 f2 f3=> ?_);dsimp only;by_cases c2:m=0
  .rw [aj (by simpa using c2)];refine aL (h BV B1 rfl (λi j hi gK hj=> ?_) Out.refl);show LE less (cV (arrOf st) i) (cV (arrOf st) j);by_cases c2:j<sb
   .exact s1 i j hi gK c2
   .by_cases c3:sb<=i
    .exact s2 i j c3 gK hj
    .have:=f3 (j - sb) (by lia) (by lia);rw[show sb+(j - sb)=j by lia] at this;exact O.trans _ _ _ (s1 i (sb - 1) hi (by lia) (by lia)) this
  .rw [ah (by simpa using c2)];have Pz:((arrOf st).extract (sa+k) sb).size=na - k:=by rw[Array.size_extract];lia
   have Gg:((arrOf st).extract sb (sb+m)).size=m:=by rw[Array.size_extract];lia
   have T:uo less a₀ ((arrOf st).extract (sa+k) sb) ((arrOf st).extract sb (sb+m)):=by
    refine#[GW O s1 (by lia) (ao _) (by lia),GW O s2 (ao _) (by lia) (by lia),λi hi=> ?_,λi hi=> ?_,by lia,by lia,?_,λj hj=> ?_]
    .rw[kT hi];rw[Pz] at hi;exact B.mem (by lia)
    .rw[kT hi];rw[Gg] at hi;exact B.mem (by lia)
    .rw[kT (by lia),kT (by lia)];exact g3 k (ao _) (by lia)
    .rw[kT hj,kT (by lia)];rw[Gg] at hj;rw[Pz,show sa+k+(na - k - 1)=sb - 1 by lia];exact f2 j hj
   have fin : ∀ (r:Array Keyed) (g:Nat),Res less ((arrOf st).extract (sa+k) sb) ((arrOf st).extract sb (sb+m)) r ->wpS (model prog w) A E s (do modify λs=>setArr s (zR (arrOf s) (sa+k) r.toList.zipIdx);return(failedOf (<- get)).isNone) Q (cK BV g):=by
    rintro r g ⟨rp,rs⟩;have rl:r.toList.length=sb+m - (sa+k):=by
     rw[rp.length_eq,aH];have e1:((arrOf st).extract (sa+k) sb).toList.length=na - k:=by rw[dg];exact Pz
     have e2:((arrOf st).extract sb (sb+m)).toList.length=m:=by rw[dg];exact Gg
     rw[e1,e2];lia
    have wl:=DJ (xs:=arrOf st) (at_:=sa+k) (ms:=r.toList) (by rw[rl,hsz];lia);rw[rl,show sa+k+(sb+m - (sa+k))=sb+m by lia] at wl;have wa: ∀n,cV (zR (arrOf st) (sa+k) r.toList.zipIdx) n=if sa+k<=n /\ n<sb+m then(r.toList[n - (sa+k)]?).getD (.none, .none) else cV (arrOf st) n:=λn=>by have e:=yt (sa+k) n r.toList 0 (arrOf st) (by rw[rl,hsz];lia);rw[Nat.add_zero,rl,show sa+k+(sb+m - (sa+k))=sb+m by lia] at e;unfold cV;rw[e];split<;>rfl
    have wm: ∀n,sa+k<=n ->n<sb+m -> ∃n',sa+k<=n' /\ n'<sb+m /\ cV (zR (arrOf st) (sa+k) r.toList.zipIdx) n=cV (arrOf st) n':=λn n1 n2=>by
     rw[wa,aj #[n1,n2],ae (by lia)];have hm:=rp.mem_iff.mp (bK (l:=r.toList) (n:=n - (sa+k)) (by lia));rcases ax.mp hm with hm | hm
     .rw[l3] at hm;let⟨q,q1,q2,q3,e⟩:=Ab hm;exact#[q,q1,by lia,e]
     .rw[l3] at hm;let⟨q,q1,q2,q3,e⟩:=Ab hm;exact#[q,by lia,q2,e]
    refine aB (wpS_modify ?_);refine aB (wpS_get (aL ?_));have ef:(failedOf (setArr (cK BV g) (zR (arrOf (cK BV g)) (sa+k) r.toList.zipIdx))).isNone=true:=by show(failedOf st).isNone=true;rw[B.fl];rfl
    rw[ef];refine h _ #[?_,B.kd,B.fl] rfl (λi j hi gK hj=> ?_) (λn hn=> ?_)
    .show(zR (arrOf st) (sa+k) r.toList.zipIdx).Perm a₀;refine Array.Perm.trans ?_ B.perm;rw[Array.perm_iff_toList_perm,wl];have e3:=three (arrOf st).toList (sa+k) sb (sb+m) (by lia) (by lia) (by simp;lia);refine List.Perm.trans ?_ (List.Perm.of_eq e3.symm);refine List.Perm.append_left _ ?_;rw[<- bQ];refine List.Perm.append_right _ ?_;rw[l3,l3] at rp;exact rp
    .show LE less (cV (zR (arrOf st) (sa+k) r.toList.zipIdx) i) (cV (zR (arrOf st) (sa+k) r.toList.zipIdx) j);have Jy: ∀x y,sa<=x ->x<sa+k ->sa+k<=y ->y<sb+nb ->LE less (cV (arrOf st) x) (cV (arrOf st) y):=λx y x1 x2 y1 y2=>by
      by_cases c:y<sb
      .exact s1 x y x1 (by lia) c
      .have:=g2 (x - sa) (by lia);rw[show sa+(x - sa)=x by lia] at this;exact O.trans _ _ _ this (s2 sb y (ao _) (by lia) y2)
     have Wd: ∀x y,sa+k<=x ->x<sb+m ->sb+m<=y ->y<sb+nb ->LE less (cV (arrOf st) x) (cV (arrOf st) y):=λx y x1 x2 y1 y2=>by
      by_cases c:x<sb
      .have:=f3 (y - sb) (by lia) (by lia);rw[show sb+(y - sb)=y by lia] at this;exact O.trans _ _ _ (s1 x (sb - 1) (by lia) (by lia) (by lia)) this
      .exact s2 x y (by lia) (by lia) y2
     by_cases i1:i<sa+k
     .have ei:=wa i;rw[ah (by lia)] at ei;rw[ei];by_cases j1:j<sa+k
      .have ej:=wa j;rw[ah (by lia)] at ej;rw[ej];exact s1 i j hi gK (by lia)
      .by_cases j2:j<sb+m
       .let⟨n',n1,n2,e⟩:=wm j (by lia) j2;rw[e];exact Jy i n' hi i1 n1 (by lia)
       .have ej:=wa j;rw[ah (by lia)] at ej;rw[ej];exact Jy i j hi i1 (by lia) hj
     .by_cases i2:i<sb+m
      .by_cases j2:j<sb+m
       .rw[wa i,wa j,aj (by lia),aj (by lia),ae (by lia),ae (by lia)];by_cases cij:i=j
        .subst cij;exact O.refl _
        .exact bw.mp rs _ _ (by lia) (by lia) (by lia)
       .let⟨n',n1,n2,e⟩:=wm i (by lia) i2;have ej:=wa j;rw[ah (by lia)] at ej;rw[e,ej];exact Wd n' j n1 n2 (by lia) hj
      .have ei:=wa i;have ej:=wa j;rw[ah (by lia)] at ei ej;rw[ei,ej];exact s2 i j (by lia) gK hj
    .show cV (zR (arrOf st) (sa+k) r.toList.zipIdx) n=_;rw[wa n,ah (by lia)]
   by_cases c3:na - k<=m
   .rw[aj c3];exact aB (wp_mLo O L T B.kd λr g hr=>fin r g hr)
   .rw[ah c3];exact aB (wp_mHi O L T B.kd λr g hr=>fin r g hr)
end
noncomputable def Runs (less:Keyed ->Keyed ->Bool)(xs:Array Keyed):List Rn ->Nat ->Nat ->Prop
 | [],lo,hi=>lo=hi
 | (a,n,_)::r,lo,hi=>a=lo /\ 1<=n /\ Sg less xs lo (lo+n) /\ Runs less xs r (lo+n) hi
section
variable {less:Keyed ->Keyed ->Bool}{xs ys:Array Keyed}
theorem Runs.le: ∀ {l:List Rn} {lo hi:Nat},Runs less xs l lo hi ->lo+l.length<=hi
 | [],lo,hi,h=>Nat.le_of_eq h
 | (a,n,p)::r,lo,hi,h=>by have:=Runs.le h.2.2.2;have:=h.2.1;rw[aG];lia
theorem Runs.app: ∀ {l1 l2:List Rn} {lo hi:Nat},Runs less xs (l1++l2) lo hi↔ ∃m,Runs less xs l1 lo m /\ Runs less xs l2 m hi
 | [],l2,lo,hi=>#[λh=>#[lo,rfl,h],λ⟨m,e,h⟩=>by cases e;exact h]
 | (a,n,p)::r,l2,lo,hi=>by
  constructor
  .rintro⟨h1,h2,h3,h4⟩;let⟨m,a1,a2⟩:=Runs.app.mp h4;exact#[m,#[h1,h2,h3,a1],a2]
  .rintro⟨m,⟨h1,h2,h3,a1⟩,a2⟩;exact#[h1,h2,h3,Runs.app.mpr #[m,a1,a2]]
theorem Runs.out {e1 e2:Nat}(o:Out e1 e2 xs ys): ∀ {l:List Rn} {lo hi:Nat},(hi<=e1 \/ e2<=lo) ->Runs less xs l lo hi ->Runs less ys l lo hi
 | [],lo,hi,_,h=>h
 | (a,n,p)::r,lo,hi,hc,⟨h1,h2,h3,h4⟩=>by have:=Runs.le h4;refine#[h1,h2,λi j hi gK hj=> ?_,Runs.out o (by lia) h4];rw[o i (by lia),o j (by lia)];exact h3 i j hi gK hj
theorem EH {e1 e2 lo hi:Nat}(o:Out e1 e2 xs ys)(hc:hi<=e1 \/ e2<=lo)(h:Sg less xs lo hi):Sg less ys lo hi:=λi j hi gK hj=>by rw[o i (by lia),o j (by lia)];exact h i j hi gK hj
def D7 {α:Type}{l:List α}(h:2<=l.length): ∃l1 x y,l=l1++ [x,y]:=by
 refine#[l.take (l.length - 2),l[l.length - 2],l[l.length - 1],?_];have:=bo (l.length - 2) l;rw[dS (by lia),dS (by lia),List.drop_eq_nil_of_le (by lia)] at this;have e:l.length - 2+1=l.length - 1:=by lia
 simp![e] at this;exact this.symm
theorem An {α:Type}{l:List α}(h:l≠ []): ∃l1 x,l=l1++ [x]:=#[l.dropLast,l.getLast h,(List.dropLast_concat_getLast h).symm]
end
section
variable {prog:Program}{w:World}{A:Around}{E:Value ->Shared ->Prop}{s:Shared}{kd:SortKind}{a₀:Array Keyed}{less:Keyed ->Keyed ->Bool}
def wX (l1:List Rn)(x:Rn)(f:Rn ->Rn):(l1++ [x]).modify l1.length f=l1++ [f x]:=by
 induction l1 with
 | nil=>rfl
 | cons a l ih=>rw[List.cons_append,aG,List.modify_succ_cons,ih];rfl
def wp_mR (O:Ord less)(L:iZ prog w A E s kd a₀ less){st:SortSt}{x y:Rn}{i lo:Nat}(B:SB kd a₀ st)(hp:pendingOf st=(l1++x::y::l2).toArray)(hi:i=l1.length)(hz:lo<=a₀.size)(R:Runs less (arrOf st) (l1++x::y::l2) 0 lo)(h: ∀bG z,SB kd a₀ bG ->pendingOf bG=(l1++z::l2).toArray ->Runs less (arrOf bG) (l1++z::l2) 0 lo ->Out 0 lo (arrOf st) (arrOf bG) ->Q true bG):wpS (model prog w) A E s (mergeAt' i) Q st:=by
 let⟨sa,na,pw⟩:=x;let⟨sb,nb,VC⟩:=y;let⟨m,r1,rfl,h1,s1,rfl,h2,s2,r2⟩:=Runs.app.mp R;have hle:=r2.le;refine wp_mAt O L B hp hi rfl h1 h2 (by lia) s1 s2 λbG B' LH s' o'=>h bG _ B' LH ?_ λk hk=>o' k (by lia);refine Runs.app.mpr #[_,r1.out o' (.inl (ao _)),rfl,by lia,?_,?_]
 .rw[<- Nat.add_assoc];exact s'
 .rw[<- Nat.add_assoc];exact r2.out o' (.inr (ao _))
def wu {a n p q lo hi:Nat}(h:Runs less xs (l1++ [(a,n,p)]) lo hi):Runs less xs (l1++ [(a,n,q)]) lo hi:=by let⟨m,r1,h1,h2,h3,h4⟩:=Runs.app.mp h;exact Runs.app.mpr #[m,r1,h1,h2,h3,h4]
def wp_sort (O:Ord less)(L:iZ prog w A E s kd a₀ less){st:SortSt}(B:SB kd a₀ st)(HG:pendingOf st= #[])(h2:2<=a₀.size)(h: ∀bG,(arrOf bG).Perm a₀ ->failedOf bG=none ->Sg less (arrOf bG) 0 a₀.size ->Q () bG):wpS (model prog w) A E s sortRuns' Q st:=by
 rw[sortRuns'_eq];refine aB (wpS_get ?_);dsimp only;simp![B.size];generalize minRun' a₀.size a₀.size 0=mr;refine aB (wpS_mono (cN (I:=λx c bG=> ∃lo pl,c=(none,lo) /\ x<=lo /\ lo<=a₀.size /\ SB kd a₀ bG /\ pendingOf bG=pl.toArray /\ Runs less (arrOf bG) pl 0 lo) (Q:=λc bG=> ∃pl,c=(none,a₀.size) /\ SB kd a₀ bG /\ pendingOf bG=pl.toArray /\ Runs less (arrOf bG) pl 0 a₀.size) ?step ?fin #[0,[],rfl,ao _,dj _,B,HG,rfl]) ?post);case fin=>
  rintro c bG ⟨lo,pl,rfl,h1,HP,B',hp,R⟩
  have:lo=a₀.size:=by lia
  subst this
  exact#[pl,rfl,B',hp,R]
 case step =>
  rintro x c bG _ hx ⟨lo,pl,rfl,h1,HP,B',hp,R⟩
  dsimp only
  by_cases c1:lo≥a₀.size
  .rw[aj c1];have:lo=a₀.size:=by lia
   subst this;exact aL #[pl,rfl,B',hp,R]
  rw[ah c1]
  refine aB (wp_run O L (by lia) (by lia) B' λm lK B2 m1 m2 s2 p2 o2=> ?_)
  dsimp only
  have R2:Runs less (arrOf lK) pl 0 lo:=R.out o2 (.inl (ao _))
  by_cases c2:m<mr
  .rw [aj c2];refine aB (wpS_lift (wpAny_rule #[rfl,?_]));refine aB (wp_bin O L (by lia) (by lia) B2 s2 λoR B3 s3 p3 o3=> ?_);simp![Bool.not_true,az,bj];have R3:=R2.out o3 (.inl (ao _));have n1:1<=min (a₀.size - lo) mr:=by lia
   have n2:lo+min (a₀.size - lo) mr<=a₀.size:=by lia
   rw[p2,hp] at p3;clear o3;revert s3 n1 n2;generalize min (a₀.size - lo) mr=n;intro s3 n1 n2;refine aB (wpS_get ?_);cases hb:(pendingOf oR).back? with
   | none=>dsimp only;refine aB (wpS_modify (aL #[lo+n,pl++ [(lo,n,0)],rfl,by lia,n2,#[B3.perm,B3.kd,B3.fl],?_,Runs.app.mpr #[lo,R3,rfl,n1,s3,rfl]]));show(pendingOf oR).push (lo,n,0)=_;rw[p3];simp
   | some q=>
    let⟨s1,NU,p1⟩:=q;dsimp only;have dw:pl≠ []:=λe=>by subst e;rw[p3] at hb;simp at hb
    refine aB (wpS_mono (cN (I:=λ_ c f6=>c=(none,()) /\ ∃pl,pl≠ [] /\ SB kd a₀ f6 /\ Sg less (arrOf f6) lo (lo+n) /\ pendingOf f6=pl.toArray /\ Runs less (arrOf f6) pl 0 lo) (Q:=λc f6=>c=(none,()) /\ ∃pl,pl≠ [] /\ SB kd a₀ f6 /\ Sg less (arrOf f6) lo (lo+n) /\ pendingOf f6=pl.toArray /\ Runs less (arrOf f6) pl 0 lo) ?_ (λc f6 h=>h) #[rfl,pl,dw,B3,s3,p3,R3]) ?_)
    .rintro y c f6 _ hy ⟨rfl,uV,ne4,B4,s4,p4,R4⟩;refine aB (wpS_get ?_);by_cases c2:(pendingOf f6).size >1
     .rw[aj c2];have hl:2<=uV.length:=by rw[p4] at c2;simp at c2;lia
      let⟨l1,u,v,e4⟩:=D7 hl;have e5:(pendingOf f6).size - 2=l1.length:=by rw[p4,e4];simp
      have e6:(pendingOf f6)[(pendingOf f6).size - 2]? =some u:=by rw[e5,p4,e4];simp
      rw[e6];let⟨u1,u2,u3⟩:=u;dsimp only;split
      .exact aL #[rfl,uV,ne4,B4,s4,p4,R4]
      .subst e4;refine aB (wp_mR O L (l2:= []) B4 p4 e5 (by lia) R4 λPg z B5 p5 R5 o5=> ?_);simp![Bool.not_true,az,bj];exact aL #[rfl,_,by simp,B5,EH o5 (.inr (ao _)) s4,p5,R5]
     .rw[ah c2];exact aL #[rfl,uV,ne4,B4,s4,p4,R4]
    .rintro c f6 ⟨rfl,uV,ne4,B4,s4,p4,R4⟩;dsimp only;refine aB (wpS_modify (aB (wpS_modify (aL ?_))));let⟨l1,⟨u1,u2,u3⟩,rfl⟩:=An ne4;refine#[lo+n,(l1++ [(u1,u2,power' a₀.size (2*s1+NU) (2*s1+NU+NU+n) a₀.size)])++ [(lo,n,0)],rfl,by lia,n2,#[B4.perm,B4.kd,B4.fl],?_,Runs.app.mpr #[lo,wu R4,rfl,n1,s4,rfl]];show((pendingOf f6).modify ((pendingOf f6).size - 1) _).push (lo,n,0)=_;rw[p4];simp![List.modify_toArray,List.push_toArray,aR];congr 2;rw[aH,cC,Nat.add_sub_cancel];exact wX l1 _ _
  .rw [ah c2];have s3:=s2;have n1:=m1;have n2:lo+m<=a₀.size:=by lia
   have p3:pendingOf lK=pl.toArray:=by rw[p2,hp]
   have B3:=B2;have R3:=R2;clear p2 o2 B2 R2 s2 m1 m2 c2;revert s3 n1 n2;generalize m=n;intro s3 n1 n2;revert p3 B3 R3 s3;generalize lK=oR;intro p3 B3 R3 s3;refine aB (wpS_get ?_);cases hb:(pendingOf oR).back? with
   | none=>dsimp only;refine aB (wpS_modify (aL #[lo+n,pl++ [(lo,n,0)],rfl,by lia,n2,#[B3.perm,B3.kd,B3.fl],?_,Runs.app.mpr #[lo,R3,rfl,n1,s3,rfl]]));show(pendingOf oR).push (lo,n,0)=_;rw[p3];simp
   | some q=>
    let⟨s1,NU,p1⟩:=q;dsimp only;have dw:pl≠ []:=λe=>by subst e;rw[p3] at hb;simp at hb
    refine aB (wpS_mono (cN (I:=λ_ c f6=>c=(none,()) /\ ∃pl,pl≠ [] /\ SB kd a₀ f6 /\ Sg less (arrOf f6) lo (lo+n) /\ pendingOf f6=pl.toArray /\ Runs less (arrOf f6) pl 0 lo) (Q:=λc f6=>c=(none,()) /\ ∃pl,pl≠ [] /\ SB kd a₀ f6 /\ Sg less (arrOf f6) lo (lo+n) /\ pendingOf f6=pl.toArray /\ Runs less (arrOf f6) pl 0 lo) ?_ (λc f6 h=>h) #[rfl,pl,dw,B3,s3,p3,R3]) ?_)
    .rintro y c f6 _ hy ⟨rfl,uV,ne4,B4,s4,p4,R4⟩;refine aB (wpS_get ?_);by_cases c2:(pendingOf f6).size >1
     .rw[aj c2];have hl:2<=uV.length:=by rw[p4] at c2;simp at c2;lia
      let⟨l1,u,v,e4⟩:=D7 hl;have e5:(pendingOf f6).size - 2=l1.length:=by rw[p4,e4];simp
      have e6:(pendingOf f6)[(pendingOf f6).size - 2]? =some u:=by rw[e5,p4,e4];simp
      rw[e6];let⟨u1,u2,u3⟩:=u;dsimp only;split
      .exact aL #[rfl,uV,ne4,B4,s4,p4,R4]
      .subst e4;refine aB (wp_mR O L (l2:= []) B4 p4 e5 (by lia) R4 λPg z B5 p5 R5 o5=> ?_);simp![Bool.not_true,az,bj];exact aL #[rfl,_,by simp,B5,EH o5 (.inr (ao _)) s4,p5,R5]
     .rw[ah c2];exact aL #[rfl,uV,ne4,B4,s4,p4,R4]
    .rintro c f6 ⟨rfl,uV,ne4,B4,s4,p4,R4⟩;dsimp only;refine aB (wpS_modify (aB (wpS_modify (aL ?_))));let⟨l1,⟨u1,u2,u3⟩,rfl⟩:=An ne4;refine#[lo+n,(l1++ [(u1,u2,power' a₀.size (2*s1+NU) (2*s1+NU+NU+n) a₀.size)])++ [(lo,n,0)],rfl,by lia,n2,#[B4.perm,B4.kd,B4.fl],?_,Runs.app.mpr #[lo,wu R4,rfl,n1,s4,rfl]];show((pendingOf f6).modify ((pendingOf f6).size - 1) _).push (lo,n,0)=_;rw[p4];simp![List.modify_toArray,List.push_toArray,aR];congr 2;rw[aH,cC,Nat.add_sub_cancel];exact wX l1 _ _
 case post =>
  rintro c bG ⟨pl,rfl,B',hp,R⟩
  dsimp only
  have hle:=R.le
  refine aB (wpS_mono (cN (I:=λx c f6=>c=(none,()) /\ ∃pl,SB kd a₀ f6 /\ pendingOf f6=pl.toArray /\ Runs less (arrOf f6) pl 0 a₀.size /\ (pl.length<=1 \/ pl.length+x<=a₀.size)) (Q:=λc f6=>c=(none,()) /\ ∃pl,SB kd a₀ f6 /\ Runs less (arrOf f6) pl 0 a₀.size /\ pl.length<=1) ?_ ?_ #[rfl,pl,B',hp,R, .inr (by lia)]) ?_)
  .rintro x c f6 _ hx ⟨rfl,uV,B4,p4,R4,hl⟩;refine aB (wpS_get ?_);have esz:(pendingOf f6).size=uV.length:=by rw[p4];simp
   by_cases c1:(pendingOf f6).size<=1
   .rw[aj c1];exact aL #[rfl,uV,B4,R4,by lia]
   .rw [ah c1];generalize aad:Option.any _ _=cnd;have mk: ∀k,k+2<=uV.length -> ∀ (Q':ForInStep (Option Unit×Unit) ->SortSt ->Prop),(∀bG pl,SB kd a₀ bG ->pendingOf bG=pl.toArray ->Runs less (arrOf bG) pl 0 a₀.size ->(pl.length<=1 \/ pl.length+(x+1) <=a₀.size) ->Q' (.yield (none,())) bG) ->wpS (model prog w) A E s (do
      let b <- mergeAt' k
      if(!b)=true then pure (ForInStep.done ((some (),()):Option Unit×Unit)) else pure (ForInStep.yield (none,()))) Q' f6:=by
     intro k hk Q' hQ
     have e:=bo k uV
     rw[dS (by lia),dS (by lia)] at e
     have rL:(uV.take k).length=k:=by rw[bu];lia
     rw[<- e] at p4 R4
     refine aB (wp_mR O L B4 p4 rL.symm (ao _) R4 λPg z B5 p5 R5 o5=> ?_)
     simp![Bool.not_true,az,bj]
     refine aL (hQ _ _ B5 p5 R5 (.inr ?_))
     rw[aH,rL,aG,List.length_drop]
     lia
    cases cnd with
    | true=>simp![bW];exact mk ((pendingOf f6).size - 2 - 1) (by lia) _ λbG pl b1 b2 b3 b4=>#[rfl,pl,b1,b2,b3,b4]
    | false=>simp![az,bj];exact mk ((pendingOf f6).size - 2) (by lia) _ λbG pl b1 b2 b3 b4=>#[rfl,pl,b1,b2,b3,b4]
  .rintro c f6 ⟨rfl,uV,B4,p4,R4,hl⟩;exact#[rfl,uV,B4,R4,by lia]
  .rintro c f6 ⟨rfl,uV,B4,R4,hl⟩;refine aL (h _ B4.perm B4.fl ?_);match uV,R4,hl with
   | [],R4,_=>exact absurd R4 (by show ¬(0=a₀.size);lia)
   | [(u1,u2,u3)],⟨_,_,h3,h4⟩,_=>have h4:0+u2=a₀.size:=h4;rw[h4] at h3;exact h3
   | _::_::_,_,hl=>simp at hl
end
noncomputable def Cj (h:Heap)(a:Addr)(vs:List Value):Heap:=((h.update a (Obj.mapSeq λ_=> #[])).push (seqObj "tuple" vs.toArray 0)).push (seqObj "list" #[] 0)
def Jq (ho:h.get? a=some (seqObj "list" vs.toArray n)):(Cj h a vs).get? a=some (seqObj "list" #[] (if((#[]:Array Value)).size==vs.toArray.size then n else n+1)):=by have ha:=aF ho;unfold Cj;rw[Heap.get?_push_ne _ _ _ (by rw[size_push',Heap.size_update];exact a5 (Nat.lt_succ_of_lt ha)),Heap.get?_push_ne _ _ _ (by rw[Heap.size_update];exact a5 ha)];exact get?_update_seq ho (λ_=> #[])
section
variable {prog:Program}{w:World}{A:Around}{E:Value ->Shared ->Prop}{s:Shared}
def ED (O:Ord less)(ho:s.heap.get? a=some (seqObj "list" vs.toArray n))(hsz:vs.length<=sizeLine)(hk:2<=vs.length -> ∀ (Q:SortKind ->Shared ->Prop),Q kd {s with heap:=Cj s.heap a vs} ->wpAny (model prog w) A (keyKind' vs.toArray) Q E {s with heap:=Cj s.heap a vs})(L:iZ prog w A E {s with heap:=Cj s.heap a vs} kd (pairsOf vs) less)(h: ∀ (us:List Value),us.Perm vs ->us.Pairwise (λx y=>less (y,y) (x,x)=false) ->P (.done (.ret .none)) {s with heap:=sortedHeap s.heap a vs us.toArray}): wpAny (model prog w) A (Builtin.«list.sort» #[[.ref a],[]]) P E s:=by
 rw[list_sort_plain];refine ak (listItems_at ho rfl ?_);refine ak (listUpdate_at ho rfl ?_ (hsz:=by simpa using hsz));refine ak (seqEpoch_at (get?_update_seq ho (λ_=> #[])) rfl ?_);refine ak (wpAny_newTuple ?_);refine ak (wpAny_newList ?_);refine wpAny_holding ?_;have UE:=Jq ho;show wpAny (model prog w) A _ P E {s with heap:=Cj s.heap a vs};dsimp only;have fin: ∀xs:Array Keyed,xs.Perm (pairsOf vs) ->Sg less xs 0 (pairsOf vs).size ->P (.done (.ret .none)) {s with heap:=sortedHeap s.heap a vs (xs.map (·.2))}:=by
  intro xs hp hs;have hl:xs.toList.Perm (vs.zip vs):=by rw[<- pairsOf_toList];exact Array.perm_iff_toList_perm.mp hp
  have CF: ∀p,p∈xs.toList ->p.1=p.2 /\ p.1∈vs:=λp LH=>mem_zip_self (hl.mem_iff.mp LH);have:=h (xs.toList.map (·.2)) ?_ ?_
  .have e:(xs.toList.map (·.2)).toArray=xs.map (·.2):=by apply Array.toList_inj.mp;simp
   rwa [e] at this
  .have h1:=hl.map (λp:Keyed=>p.2);rwa [List.map_snd_zip (ao _)] at h1
  .rw[bw];intro i j hi hj gK;have ly:i<xs.size:=by simpa using hi
   have iX:j<xs.size:=by simpa using hj
   have h1:=hs i j (dj _) (Nat.le_of_lt gK) (by rw[<- hp.size_eq];exact iX);have e1:cV xs i=((xs.toList.map (·.2))[i],(xs.toList.map (·.2))[i]):=by rw[List.getElem_map];have hm:=vA ly;have e:=gU ly;rw[ae (by simpa using ly)] at e;have e:=bA e;rw[e];exact Prod.ext (CF _ hm).1 rfl
   have e2:cV xs j=((xs.toList.map (·.2))[j],(xs.toList.map (·.2))[j]):=by rw[List.getElem_map];have hm:=vA iX;have e:=gU iX;rw[ae (by simpa using iX)] at e;have e:=bA e;rw[e];exact Prod.ext (CF _ hm).1 rfl
   rw[e1,e2] at h1;exact h1
 have aak:vs.toArray.size=vs.length:=by simp
 by_cases h2:vs.toArray.size<2
 .rw[aj h2,aj h2];refine ak (aO ?_);rw[StateT.run_pure];refine ak (aO ?_);dsimp only;refine ak (seqEpoch_at UE rfl ?_);refine ak (listUpdate_at UE rfl ?_ (hsz2:=by rw[Array.size_map];show(pairsOf vs).size<=_;rw[pairsOf_size];lia));simp![bne_self_eq_false,az,bj];refine aO (fin (pairsOf vs) (Array.Perm.refl _) ?_);intro i j _ gK hj;have:i=j:=by rw[pairsOf_size] at hj;lia
  subst this;exact O.refl _
 .rw[ah h2,ah h2];refine ak (hk (by lia) _ ?_);refine ak (bV (wp_sort O L (st:=SortSt.mk' kd (vs.toArray.zip vs.toArray) #[] 7 none) (Q:=λ_ bG=>(arrOf bG).Perm (pairsOf vs) /\ failedOf bG=none /\ Sg less (arrOf bG) 0 (pairsOf vs).size) #[Array.Perm.refl _,rfl,rfl] rfl (by rw[pairsOf_size];lia) λbG a1 a2 a3=>#[a1,a2,a3]) ?_ λ_ _ e=>e);rintro⟨⟨⟩,bG⟩ s' ⟨rfl,hp,hf,hs⟩;dsimp only;refine ak (seqEpoch_at UE rfl ?_);refine ak (listUpdate_at UE rfl ?_ (hsz2:=by refine aZ (Nat.le_of_eq ((Array.size_map ..).trans (hp.size_eq.trans (pairsOf_size _)))) ?_;lia));rw[hf];simp![bne_self_eq_false,az,bj];exact aO (fin _ hp hs)
noncomputable def qM (x y:Keyed):Bool:=decide (numOf x.1<numOf y.1)
def VO:Ord qM:=by
 refine#[λx y h=> ?_,λx y z h1 h2=> ?_]
 .unfold qM at*;rw[dh] at h;exact c7 (by lia)
 .unfold LE qM at*;rw[decide_eq_false_iff_not] at*;lia
def ltI {a₀:Array Keyed}(h0:IntKeys a₀):iZ prog w A E s oneType' a₀ qM:=by
 intro x y st Q hx hy hk hq;let⟨n,t,e1⟩:=h0 x hx;let⟨m,u,e2⟩:=h0 y hy;rw[lt'_eq];refine aB (wpS_get ?_);rw[hk,keyLt'_oneType,e1,e2];refine aB (wpS_lift (wpAny_attempt (oneLt_int #[rfl,?_])));have e:qM x y=decide (n<m):=by unfold qM;rw[e1,e2];rfl
 rw[e] at hq;exact aL hq
def sE (ho:s.heap.get? a=some (seqObj "list" vs.toArray n))(hI:IntsAre vs ns)(hsz:vs.length<=sizeLine)(h: ∀ (out:Array Value) (Jk:List Int),IntsAre out.toList Jk ->Jk.Perm ns ->Jk.Pairwise (· <= ·) ->P (.done (.ret .none)) {s with heap:=sortedHeap s.heap a vs out}): wpAny (model prog w) A (Builtin.«list.sort» #[[.ref a],[]]) P E s:=by
 refine ED VO ho hsz (kd:=oneType') (λh2 Q hq=> ?_) (ltI hI.intKeys) λus hp hs=> ?_
 .obtain⟨v₁,v₂,rest,rfl⟩: ∃v₁ v₂ rest,vs=v₁::v₂::rest:=by
   match vs,h2 with
   | [],h2=>simp at h2
   | [_],h2=>simp at h2
   | v₁::v₂::rest,_=>exact#[v₁,v₂,rest,rfl]
  rw[keyKind_ints hI];exact aO hq
 .have zw: ∀v,v∈us -> ∃n t,v= .int n t:=λv hv=>hI.all v (hp.mem_iff.mp hv);refine h us.toArray (us.map numOf) (by simpa using intsAre_map us zw) ?_ ?_
  .have:=hp.map numOf;rwa [hI.nums] at this
  .rw[cx];refine hs.imp λ{x y} e=> ?_;unfold qM at e;rw[decide_eq_false_iff_not] at e;simp only at e;lia
end
end TS
namespace L2
open PySem PySem.Spec PyProof.Rows
noncomputable abbrev Key:=Sum Int Str
noncomputable def nh:Key ->Value ->Bool
 | .inl k,v=>Value.isInt k v
 | .inr x,v=>Value.isStrOf x v
noncomputable def Wc (w:World):Key ->Int
 | .inl k=>hashInt k
 | .inr x=>hashStr w x
theorem dR: ∀ {k:Key} {v:Value},nh k v=true ->(∃i t,k=Sum.inl i /\ v=Value.int i t) \/ (∃x t,k=Sum.inr x /\ v=Value.str x t)
 | .inl i,v,h=>by let⟨t,e⟩:=Value.isInt_shape (k:=i) (v:=v) h;exact .inl #[i,t,rfl,e]
 | .inr x,v,h=>by let⟨t,e⟩:=Value.isStrOf_shape (x:=x) (v:=v) h;exact .inr #[x,t,rfl,e]
def Ct (i:Int)(t:Tok):nh (.inl i) (.int i t)=true:=by simp[nh,Value.isInt]
def Cs (x:Str)(t:Tok):nh (.inr x) (.str x t)=true:=by simp[nh,Value.isStrOf]
def Oc (a b:Int):decide ((Sum.inl a:Key)=Sum.inl b)=(a==b):=by
 by_cases e:a=b
 .subst e;simp
 .have h:¬(Sum.inl a:Key)=Sum.inl b:=λq=>e (Sum.inl.inj q);rw[c7 h];exact(beq_eq_false_iff_ne.mpr e).symm
def N9 (a b:Str):decide ((Sum.inr a:Key)=Sum.inr b)=decide (a=b):=by
 by_cases e:a=b
 .subst e;simp
 .have h:¬(Sum.inr a:Key)=Sum.inr b:=λq=>e (Sum.inr.inj q);rw[c7 h,c7 e]
theorem Ob (a:Int)(b:Str):decide ((Sum.inl a:Key)=Sum.inr b)=false:=c7 (λq=>nomatch q)
theorem Oa (a:Str)(b:Int):decide ((Sum.inr a:Key)=Sum.inl b)=false:=c7 (λq=>nomatch q)
noncomputable def cH (prog:Program)(w:World):PySem.KeyKind prog w Key where
 is:=nh
 hash:=Wc w
 inj :=λv a b ha hb=>by
  rcases dR ha with⟨i,t,rfl,rfl⟩ | ⟨x,t,rfl,rfl⟩
  .rcases dR hb with⟨j,u,rfl,e⟩ | ⟨y,u,rfl,e⟩
   .injection e with e1 _;rw[e1]
   .exact nomatch e
  .rcases dR hb with⟨j,u,rfl,e⟩ | ⟨y,u,rfl,e⟩
   .exact nomatch e
   .injection e with e1 _;rw[e1]
 byValue:=λk v h=>by rcases dR h with⟨i,t,rfl,rfl⟩ | ⟨x,t,rfl,rfl⟩ <;>rfl
 pyHash:=λhv h=>by
  rcases dR hv with⟨i,t,rfl,rfl⟩ | ⟨x,t,rfl,rfl⟩
  .exact wpAny_pyHash_int h
  .exact wpAny_pyHash_str h
 eqBool:=λhu hv h=>by
  rcases dR hu with⟨i,t,rfl,rfl⟩ | ⟨x,t,rfl,rfl⟩
  .rcases dR hv with⟨j,u,rfl,rfl⟩ | ⟨y,u,rfl,rfl⟩
   .rw[Oc] at h;exact wpAny_eqBool_int h
   .rw[Ob] at h;exact SeqAt.EqAt.int_str i t y u _ _ _ _ h
  .rcases dR hv with⟨j,u,rfl,rfl⟩ | ⟨y,u,rfl,rfl⟩
   .rw[Oa] at h;exact SeqAt.EqAt.str_int x t j u _ _ _ _ h
   .rw[N9] at h;exact wpAny_eqBool_str h
 «strs» :=λk x t v h=>by
  rcases dR h with⟨i,u,rfl,e⟩ | ⟨y,u,rfl,e⟩
  .exact nomatch e
  .injection e with e1 _;subst e1;cases v<;>rfl
theorem wZ (prog:Program)(w:World)(i:Int)(t:Tok):(cH prog w).is (.inl i) (.int i t)=true:=Ct i t
theorem wY (prog:Program)(w:World)(x:Str)(t:Tok):(cH prog w).is (.inr x) (.str x t)=true:=Cs x t
set_option genInjectivity true in
inductive V where
  | dY | bl (b:Bool) | int (i:Int) | str (x:Str) | zI (b:Array UInt8) | A6 (b:UInt64) | ref (a:Addr) | ty (n:String)
 deriving DecidableEq
noncomputable def RelV:V ->Value ->Prop
 | .dY,u=>u=Value.none
 | .bl b,u=>u=Value.bool b
 | .int i,u=> ∃t,u=Value.int i t
 | .str x,u=> ∃t,u=Value.str x t
 | .zI b,u=> ∃t,u=Value.bytes b t
 | .A6 b,u=> ∃t,u=Value.float b t
 | .ref a,u=>u=Value.ref a
 | .ty n,u=>u=Value.type n
noncomputable abbrev Vals:List V ->List Value ->Prop:=Paired RelV
theorem Vals.length (r:Vals xs us):xs.length=us.length:=Paired.length r
theorem Vals.get: ∀ {xs:List V} {us:List Value} {i:Nat} {x:V},Vals xs us ->xs[i]? =some x -> ∃u,us[i]? =some u /\ RelV x u
 | _,_,_,_, .nil,e=>by simp at e
 | _,_,0,_, .cons r _,e=>by simp at e;subst e;exact#[_,rfl,r]
 | _,_,i+1,x, .cons _ t,e=>by let⟨u,h1,h2⟩:=Vals.get (i:=i) (x:=x) t (by simpa using e);exact#[u,by simpa using h1,h2]
theorem Vals.set {x:V}{u:Value}(r:RelV x u): ∀ {xs:List V} {us:List Value} (i:Nat),Vals xs us ->Vals (xs.set i x) (us.set i u)
 | _,_,_, .nil=> .nil
 | _,_,0, .cons _ t=> .cons r t
 | _,_,i+1, .cons q t=> .cons q (Vals.set r i t)
theorem Vals.append: ∀ {xs ys:List V} {us ws:List Value},Vals xs us ->Vals ys ws ->Vals (xs++ys) (us++ws)
 | _,_,_,_, .nil,s=>s
 | _,_,_,_, .cons r t,s=> .cons r (Vals.append t s)
theorem Vals.take: ∀ {xs:List V} {us:List Value} (n:Nat),Vals xs us ->Vals (xs.take n) (us.take n)
 | _,_,0,_=> .nil
 | _,_,_+1, .nil=> .nil
 | _,_,n+1, .cons r t=> .cons r (Vals.take n t)
theorem Vals.drop: ∀ {xs:List V} {us:List Value} (n:Nat),Vals xs us ->Vals (xs.drop n) (us.drop n)
 | _,_,0,r=>r
 | _,_,_+1, .nil=> .nil
 | _,_,n+1, .cons _ t=>Vals.drop n t
noncomputable def l9:Option V ->Option Value ->Prop
 | some v,some u=>RelV v u
 | none,none=>True
 | _,_=>False
noncomputable def KV {κ:Type}:List (κ×V) ->List (κ×Value) ->Prop:=Paired λ(p:κ×V) (q:κ×Value)=>p.1=q.1 /\ RelV p.2 q.2
noncomputable def kV:Key ->V
 | .inl i=> .int i
 | .inr x=> .str x
set_option genInjectivity true in
inductive HO where
 /-- a list -/
 | lst (xs:List V)
 /-- a tuple (never changes) -/
 | tup (xs:List V)
 /-- a dict Qf keys are ints and texts;one Qf keys are tuples of ints and texts (Pf empty one is both) -/
 | dK (kvs:List (Key×V)) | dT (kvs:List (List Key×V))
 /-- a set of ints:its members,its size -/
 | set (S:Int ->Bool) (n:Nat)
 /-- an instance of Pf class at C,its dict at dx,its attributes -/
 | ins (C dx:Addr) (fs:List (Str×V))
 /-- Pf dict of Pf instance at x -/
 | own (x:Addr)
 /-- Pf dict of an exception -/
 | xd (fs:List (Str×V))
 /-- a bound method,f of x -/
 | met (f x:Addr)
 /-- a range object lo,lo+1, .. below hi -/
 | VA (lo hi:Int)
 /-- a QE aag is known to Pf object (Pf Vx;a dict while a loop walks it):read,never written while it is so -/
 | lZ (o:Obj) (u:HO)
 /-- a code Rw table -/
 | MT (ps:Array Value)
 /-- any other QE,by aae is true of its one object (a def of ZY own:aaB a S n:=HO.ext λh=> ..) -/
 | ext (φ:Heap ->Prop)
noncomputable abbrev Hp:=Addr ->Option HO
noncomputable def upd (H:Hp)(a:Addr)(o:HO):Hp:=λb=>if b=a then some o else H b
def cn:upd H a o a=some o:=by unfold upd;rw[aj rfl]
def bM (h:b≠a):upd H a o b=H b:=by unfold upd;rw[ah h]
def RA {H:Hp}(h:H a=some o)(h':H b=some u)(d:o≠u):a≠b:=by intro e;subst e;rw[h] at h';exact d (bA h')
def dB {H:Hp}(h:H a=some o)(h':H b=none):a≠b:=by intro e;subst e;rw[h] at h';cases h'
noncomputable def vF (h:Heap)(a:Addr)(its:Array Value):Prop:= ∃o,h.get? a=some o /\ o.cls= .type "tuple" /\ ∃n,o.data= .seq its n /\ o.dict=none
theorem vF.t (x:vF h a its):IsTup h a its:=let ⟨o,e,c,n,d,_⟩:=x;#[o,e,c,n,d]
theorem vF.lt (x:vF h a its):a<h.objs.size:=let ⟨_,e,_⟩:=x;aF e
theorem vF.new (h:Heap)(its:Array Value):vF (h.push {cls:= .type "tuple",data:= .seq its}) h.objs.size its:=#[_,aS _ rfl,rfl,_,rfl,rfl]
section
variable (P:Program)(w:World)
noncomputable def d6 (H:Hp)(h:Heap)(a:Addr):HO ->Prop
 | .lst xs=>xs.length<=sizeLine /\ ∃ (its:List Value) (n:Nat),Vals xs its /\ h.get? a=some {cls:= .type "list",data:= .seq its.toArray n}
 | .tup xs=>xs.length<=sizeLine /\ ∃its:List Value,Vals xs its /\ vF h a its.toArray
 | .dK kvs=>kvs.length<=sizeLine /\ (a==sysModules)=false /\ ∃vs,KV kvs vs /\ h.DictOf (cH P w) a vs
 | .dT kvs=>kvs.length<=sizeLine /\ (a==sysModules)=false /\ ∃xs:List (List Key×Addr×Value),Paired (λ(p:List Key×V) (q:List Key×Addr×Value)=>p.1=q.1 /\ H q.2.1=some (.tup (p.1.map kV)) /\ RelV p.2 q.2.2) kvs xs /\∃o es ep,h.get? a=some o /\ o.ExactDict /\ o.data= .dict es ep /\ es.toList=xs.map (entryOfKey (tupleKind (cH P w))) /\ (xs.map (·.1)).Nodup
 | .set S n=>h.SetOf (intKind P w) a S n
 | .ins C dx fs=>H dx=some (.own a) /\ fs.length<=1000 /\ dx≠a /\ h.get? a=some (PySem.W.instObj C dx) /\∃mA,h.Ns1 dx mA /\ (∀f,l9 (fs.lookup f) (mA f)) /\ PySem.Within mA (fs.map (·.1))
 | .own _=> ∃o,h.get? a=some o
 | .xd fs=> ∃mA,h.Ns1 a mA /\ ∀f,l9 (fs.lookup f) (mA f)
 | .VA lo hi=> ∃t u v,h.get? a=some {cls:= .type "range",data:= .fields (List.toArray [.int lo t, .int hi u, .int 1 v])}
 | .lZ o u=>h.get? a=some o /\ d6 H h a u
 | .MT ps=>h.get? a=some {cls:= .none,data:= .fields ps}
 | .met f x=>h.get? a=some (PySem.W.methodObj (.ref f) (.ref x))
 | .ext φ=>φ h /\ (∃o,h.get? a=some o) /\ ∀h1 h2:Heap,φ h1 ->(∀o,h1.get? a=some o ->h2.get? a=some o) ->φ h2
noncomputable def lE (H:Hp)(h:Heap):Prop:= ∀a o,H a=some o ->d6 P w H h a o
end
section
variable {P:Program}{w:World}{H H':Hp}{h h':Heap}{a:Addr}{o:HO}
def d6.lt (x:d6 P w H h a o):a<h.objs.size:=by
 cases o with
 | lst xs=>let⟨_,_,_,_,e⟩:=x;exact aF e
 | tup xs=>let⟨_,_,_,p⟩:=x;exact p.lt
 | dK kvs=>let⟨_,_,_,_,o,_,_,e,_⟩:=x;exact aF e
 | dT kvs=>let⟨_,_,_,_,o,_,_,e,_⟩:=x;exact aF e
 | set S n=>let⟨o,_,_,_,e,_⟩:=x;exact aF e
 | ins C dx fs=>let⟨_,_,_,e,_⟩:=x;exact aF e
 | own y=>let⟨_,e⟩:=x;exact aF e
 | xd fs=>let⟨_,⟨_,_,_,e,_⟩,_⟩:=x;exact aF e
 | VA lo hi=>let⟨_,_,_,e⟩:=x;exact aF e
 | lZ ob u=>let⟨e,_⟩:=x;exact aF e
 | MT ps=>exact aF (show h.get? a=some _ from x)
 | met f y=>exact aF (show h.get? a=some _ from x)
 | ext φ=>let⟨_,⟨_,e⟩,_⟩:=x;exact aF e
theorem Paired.NW {α β:Type}{F G:α ->β ->Prop}: ∀ {l₁:List α} {l₂:List β},Paired F l₁ l₂ ->(∀a b,F a b ->G a b) ->Paired G l₁ l₂
 | _,_, .nil,_=> .nil
 | _,_, .cons r t,f=> .cons (f _ _ r) (Paired.NW t f)
def d6.qm (x:d6 P w H h a o)(k: ∀b u,(b=a \/ H b=some (.own a)) ->h.get? b=some u ->h'.get? b=some u) (ho: ∀b,H b=some (.own a) ->H' b=some (.own a)) (ht: ∀b xs,H b=some (.tup xs) ->H' b=some (.tup xs)):d6 P w H' h' a o:=by
 induction o with
 | lst xs=>let⟨z,its,n,r,e⟩:=x;exact#[z,its,n,r,k _ _ (.inl rfl) e]
 | tup xs=>let⟨z,its,r,ob,e,c⟩:=x;exact#[z,its,r,ob,k _ _ (.inl rfl) e,c]
 | dK kvs=>let⟨z,y,vs,r,ob,es,ep,e,c⟩:=x;exact#[z,y,vs,r,ob,es,ep,k _ _ (.inl rfl) e,c]
 | dT kvs=>let⟨z,y,xs,r,ob,es,ep,e,c⟩:=x;exact#[z,y,xs,Paired.NW r λp q z=>#[z.1,ht _ _ z.2.1,z.2.2],ob,es,ep,k _ _ (.inl rfl) e,c]
 | set S n=>let⟨ob,es,ep,t,e,c⟩:=x;exact#[ob,es,ep,t,k _ _ (.inl rfl) e,c]
 | ins C dx fs=>let⟨d,z,ne,e,mA,⟨od,es,ep,e2,c⟩,r⟩:=x;exact#[ho _ d,z,ne,k _ _ (.inl rfl) e,mA,#[od,es,ep,k _ _ (.inr d) e2,c],r]
 | own y=>let⟨ob,e⟩:=x;exact#[ob,k _ _ (.inl rfl) e]
 | xd fs=>let⟨mA,⟨od,es,ep,e,c⟩,r⟩:=x;exact#[mA,#[od,es,ep,k _ _ (.inl rfl) e,c],r]
 | VA lo hi=>let⟨t,u,v,e⟩:=x;exact#[t,u,v,k _ _ (.inl rfl) e]
 | lZ ob u ih=>let⟨e,q⟩:=x;exact#[k _ _ (.inl rfl) e,ih q]
 | MT ps=>have e:h.get? a=some {cls:= .none,data:= .fields ps}:=x;show h'.get? a=some {cls:= .none,data:= .fields ps};exact k a _ (.inl rfl) e
 | met f y=>have e:h.get? a=some (PySem.W.methodObj (.ref f) (.ref y)):=x;show h'.get? a=some (PySem.W.methodObj (.ref f) (.ref y));exact k a _ (.inl rfl) e
 | ext φ=>let⟨p,⟨o,e⟩,st⟩:=x;exact#[st _ _ p λo q=>k _ _ (.inl rfl) q,#[o,k _ _ (.inl rfl) e],st]
theorem lE.lt (x:lE P w H h)(e:H a=some o):a<h.objs.size:=(x a o e).lt
def lE.fresh (x:lE P w H h)(e:h.objs.size<=a):H a=none:=by
 cases q:H a with
 | none=>rfl
 | some u=>exact absurd (bS (x.lt q) e) (cz _)
theorem lE.kept (x:lE P w H h)(k: ∀b u,h.get? b=some u ->h'.get? b=some u):lE P w H h':=λa o e=>(x a o e).qm (λb u _ q=>k b u q) (λ_ q=>q) λ_ _ q=>q
theorem lE.laid (x:lE P w H h)(k: ∀b u,h.get? b=some u ->h'.get? b=some u)(hp:h.objs.size<=a)(new:d6 P w (upd H a o) h' a o):lE P w (upd H a o) h':=λb u e=>by
 have hn:=x.fresh hp;by_cases hb:b=a
 .subst hb;rw[cn] at e;cases e;exact new
 .rw[bM hb] at e;exact(x b u e).qm (λc v _ q=>k c v q) (λc q=>by rw[bM (dB q hn)];exact q) λc xs q=>by rw[bM (dB q hn)];exact q
end
noncomputable def Rd (H:Hp)(a:Addr)(u:HO):Prop:=H a=some u \/ ∃o,H a=some (.lZ o u)
def Rd.ok (r:Rd H a u)(x:lE P w H h):d6 P w H h a u:=by
 rcases r with r | ⟨o,r⟩
 .exact x a u r
 .let⟨_,q⟩:=x a _ r;exact q
noncomputable def TH:Option HO ->Prop
 | some (.lst _)=>True
 | some (.dK _)=>True
 | some (.dT _)=>True
 | some (.set _ _)=>True
 | some (.ins _ _ _)=>True
 | some (.ext _)=>True
 | _=>False
section
variable {P:Program}{w:World}{H:Hp}{h h':Heap}{x e:Addr}{o':HO}
theorem lE.write (ok:lE P w H h)(mu:TH (H x))(he:e=x \/ H e=some (.own x))(k: ∀b u,b≠e ->h.get? b=some u ->h'.get? b=some u)(PM: ∃u,h'.get? e=some u) (new:d6 P w (upd H x o') h' x o'):lE P w (upd H x o') h':=λb u q=>by
 have Ry: ∀c y,H c=some (.own y) ->c≠x:=λc y r z=>by subst z;rw[r] at mu;exact mu
 have VS: ∀c xs,H c=some (.tup xs) ->c≠x:=λc xs r z=>by subst z;rw[r] at mu;exact mu
 by_cases hb:b=x
 .subst hb;rw[cn] at q;cases q;exact new
 .rw [bM hb] at q;by_cases OD:b=e
  .have q':H b=some (.own x):=by
    rcases he with z | z
    .exact absurd (OD.trans z) hb
    .rw[OD];exact z
   rw[q] at q';cases q';let⟨v,hv⟩:=PM;exact#[v,by rw[OD];exact hv]
  .refine(ok b u q).qm (λc v hc r=>k c v ?_ r) (λc r=>by rw[bM (Ry c b r)];exact r) λc xs r=>by rw[bM (VS c xs r)];exact r
   rcases hc with rfl | hc
   .exact OD
   .rintro rfl;rcases he with z | z
    .exact Ry c b hc z
    .rw[hc] at z;cases z;exact hb rfl
end
structure Un (fs ex:List Addr)(H H':Hp)(h h':Heap):Prop where
 keep: ∀b o,h.get? b=some o ->H b=none ->b∉fs ->b∉ex ->h'.get? b=some o
 slot: ∀b o,h.get? b=some o ->H b=none ->b∈fs ->b∉ex -> ∃sl,h'.get? b=some {o with slots:=sl}
 free: ∀b o,h.get? b=some o ->H b=none ->b∉ex ->H' b=none
 there: ∀b o,h.get? b=some o ->b∉ex -> ∃o',h'.get? b=some o'
 nX: ∀b xs,H b=some (.tup xs) ->H' b=some (.tup xs)
 lY: ∀b o u,H b=some (.lZ o u) ->H' b=some (.lZ o u)
 nZ: ∀b ps,H b=some (.MT ps) -> ∃more,H' b=some (.MT (ps++more))
section
variable {fs CM ex ex':List Addr}{H H1 H2:Hp}{h h1 h2 h':Heap}{a x e:Addr}{o:HO}
def Un.any (u:Un fs ex H H1 h h1)(q:h.get? b=some ob)(n:H b=none)(hx:b∉ex): ∃sl,h1.get? b=some {ob with slots:=sl}:=by
 by_cases hb:b∈fs
 .exact u.slot b ob q n hb hx
 .exact#[ob.slots,u.keep b ob q n hb hx]
theorem Un.trans (a:Un fs ex H H1 h h1)(b:Un fs ex H1 H2 h1 h2):Un fs ex H H2 h h2 where
 keep:=λc ob q n hc hx=>b.keep c ob (a.keep c ob q n hc hx) (a.free c ob q n hx) hc hx
 slot:=λc ob q n hc hx=>by let⟨sl,e1⟩:=a.slot c ob q n hc hx;let⟨Vv,e2⟩:=b.slot c _ e1 (a.free c ob q n hx) hc hx;exact#[Vv,e2]
 free:=λc ob q n hx=>by let⟨o',e1⟩:=a.there c ob q hx;exact b.free c o' e1 (a.free c ob q n hx) hx
 there:=λc ob q hx=>by let⟨o',e1⟩:=a.there c ob q hx;exact b.there c o' e1 hx
 nX:=λc xs q=>b.nX c xs (a.nX c xs q)
 lY:=λc ob xs q=>b.lY c ob xs (a.lY c ob xs q)
 nZ:=λc ps q=>by let⟨m1,e1⟩:=a.nZ c ps q;let⟨m2,e2⟩:=b.nZ c _ e1;exact#[m1++m2,by rw[e2,Array.append_assoc]]
theorem Un.kept (k: ∀b u,h.get? b=some u ->h'.get? b=some u):Un fs ex H H h h':=#[λb ob q _ _ _=>k b ob q,λb ob q _ _ _=>#[ob.slots,k b ob q],λ_ _ _ n _=>n,λb ob q _=>#[ob,k b ob q],λ_ _ q=>q,λ_ _ _ q=>q,λ_ ps q=>#[#[],by rw[q];simp]]
theorem Un.refl:Un fs ex H H h h:=Un.kept λ_ _ q=>q
theorem Un.laid (k: ∀b u,h.get? b=some u ->h'.get? b=some u)(hp:h.objs.size<=a)(hn:H a=none):Un fs ex H (upd H a o) h h' where
 keep:=λb u q _ _ _=>k b u q
 slot:=λb u q _ _ _=>#[u.slots,k b u q]
 free:=λb u q n _=>by rw[bM (a5 (bS (aF q) hp))];exact n
 there:=λb u q _=>#[u,k b u q]
 nX:=λb xs q=>by rw[bM (dB q hn)];exact q
 lY:=λb u xs q=>by rw[bM (dB q hn)];exact q
 nZ:=λb ps q=>#[#[],by rw[bM (dB q hn),q];simp]
def Un.write (mu:TH (H x))(he:e=x \/ H e=some (.own x))(k: ∀b u,b≠e ->h.get? b=some u ->h'.get? b=some u)(PM: ∃u,h'.get? e=some u):Un fs ex H (upd H x o) h h':=by
 have hx: ∀b,H b=none ->b≠x:=λb n z=>by subst z;rw[n] at mu;exact mu
 have hb: ∀b,H b=none ->b≠e:=λb n z=>by
  subst z;rcases he with r | r
  .exact hx b n r
  .rw[n] at r;cases r
 have hm: ∀b u,H b=some u ->¬TH (some u) ->b≠x:=λb u q nm z=>by subst z;rw[q] at mu;exact nm mu
 refine#[λb u q n _ _=>k b u (hb b n) q,λb u q n _ _=>#[u.slots,k b u (hb b n) q],λb u q n _=>by rw[bM (hx b n)];exact n,λb u q _=> ?_,λb xs q=>by rw[bM (hm b _ q λz=>z)];exact q,λb u xs q=>by rw[bM (hm b _ q λz=>z)];exact q,λb ps q=>#[#[],by rw[bM (hm b _ q λz=>z),q];simp]];by_cases OD:b=e
 .subst OD;exact PM
 .exact#[u,k b u OD q]
end
noncomputable def TX (h:Heap)(H:Hp):List Addr:=(List.range h.objs.size).filter λa=>(H a).isSome
noncomputable def vi (h:Heap)(H:Hp):Heap:=PySem.W.hideAll h (TX h H)
theorem CH (h:Heap)(H:Hp):(vi h H).objs.size=h.objs.size:=PySem.W.hideAll_size _ _
theorem Gz (e:h.get? b=some o)(n:H b=none):(vi h H).get? b=some o:=PySem.W.hideAll_get _ e λhm=>by have q:(H b).isSome=true:=(aQ.mp hm).2;rw[n] at q;simp at q
def Jj (e:(vi h H).get? b=some o):h.get? b=some o /\ H b=none:=by
 have e':h.get? b=some o:=PySem.W.of_hideAll (TX h H) e;refine#[e',?_];cases q:H b with
 | none=>rfl
 | some x=>have hm:b∈TX h H:=aQ.mpr #[cc.mpr (aF e'),by simp[q]];have z:(vi h H).get? b=none:=PySem.W.hideAll_none (TX h H) hm;rw[z] at e;cases e
noncomputable def Kd (g h:Heap)(L:Addr):List (Addr×Obj):=(List.range h.objs.size).filterMap λa=>if a=L \/ (g.get? a).isSome=true then none else(h.get? a).map λo=>(a,o)
noncomputable def rest (g h:Heap)(L d:Addr):List (Addr×Obj):=(Kd g h L).filter λp=>decide (p.1≠d)
structure Mod (K:PySem.W.Frag)(mg:Str ->Option Value)(base:Heap):Prop where
 Ux:K.In base
 glob:base.Ns mainGlobals mg
 blt: ∃mb,base.Ns builtinsNs mb /\ ∀x:Str,x≠ "__name__" ->mb x=bootBuiltins x
 nolimit:base.NoLimit
structure Cx where
 prog:Program
 w:World
 K:PySem.W.Frag
 mg:Str ->Option Value
 base:Heap
 A:Around
 N:List Str
 s₀:Shared
 H₀:Hp
 env:Env
 outer:List Env
 stack:List Env
 ex:List Addr
 fn:Str ->Bool
 calm:Bool
 pn:List (Addr×Obj)
 xe:Value ->Shared ->Prop
noncomputable def GR (l:List Env):List Addr:=l.filterMap (·.frame)
noncomputable abbrev Cx.fs (X:Cx):List Addr:=GR X.outer
noncomputable def U7 (sc:Scope)(x:Str):Prop:=sc.names.lookup x=some .local \/ sc.names.lookup x=some .cell \/ sc.names.lookup x=some .free
noncomputable def Loc (sc:Scope)(x:Str):Prop:=sc.names.lookup x=some .local \/ sc.names.lookup x=some .cell
noncomputable def Look (env:Env)(h:Heap)(m:Str ->Option Value)(x:Str)(u:Value):Prop:=(env.kindOf x=some .local /\ m x=some u) \/ ((env.kindOf x=some .cell \/ env.kindOf x=some .free) /\ ∃c,env.cells.lookup x=some c /\ h.IsCell c (some u))
structure Cx.Ok (X:Cx):Prop where
 mod:Mod X.K X.mg X.base
 kind:X.env.scope.kind= .function
 glob:X.env.globals=mainGlobals
 blt:X.env.builtins=builtinsNs
 above:X.s₀.heap.objs.size<=X.env.locals
 inj: ∀x y c,X.env.cells.lookup x=some c ->X.env.cells.lookup y=some c ->x=y
 has: ∀x,(X.env.kindOf x=some .cell \/ X.env.kindOf x=some .free) -> ∃c,X.env.cells.lookup x=some c
 Th: ∀x c,X.fn x=true ->X.env.cells.lookup x=some c ->X.s₀.heap.objs.size<=c
 hd:X.calm=true ->X.A.handled=none
 frames:X.A.frames=some X.stack
 Ua:X.stack=X.outer \/ (X.stack=X.env::X.outer /\ X.env.frame=some X.env.locals)
 exf: ∀b∈X.ex,b≠X.env.locals /\ ∀x c,X.env.cells.lookup x=some c ->c≠b
 bs: ∀b o,X.base.get? b=some o ->X.s₀.heap.get? b=some o /\ X.H₀ b=none
 HR:X.base.objs.size<=X.s₀.heap.objs.size
 FK: ∀b o,X.base.get? b=some o ->b∉X.ex
 CO: ∀b∈X.ex,b∉X.fs
 pL:X.s₀.heap.FunFrames X.base X.outer
 OO: ∀b∈X.fs,X.H₀ b=none
structure Inv (X:Cx)(pins:List (Addr×Obj))(σ:List (Option V))(H:Hp)(s:Shared):Prop where
 ok:X.Ok
 os:s.os=X.s₀.os
 bare:AllBare s.gens
 base:Un X.fs X.ex X.H₀ H X.s₀.heap s.heap
 loc: ∃m,s.heap.Ns X.env.locals m /\ ∀ (i:Nat) (x:Str) (v:V),X.N[i]? =some x ->σ[i]? =some (some v) ->U7 X.env.scope x -> ∃u,RelV v u /\ Look X.env s.heap m x u
 cell: ∀x c,X.env.cells.lookup x=some c -> ∃v,s.heap.IsCell c v
 free:H X.env.locals=none
 iN: ∀x c,X.env.cells.lookup x=some c ->H c=none
 pin: ∀p∈X.pn++pins,s.heap.get? p.1=some p.2 /\ H p.1=none /\ p.1≠X.env.locals /\ p.1∉X.fs /\ ∀v,p.2.data≠ .cell v
 dv:lE X.prog X.w H s.heap
 len:σ.length=X.N.length
section
variable {X:Cx}{pins:List (Addr×Obj)}{σ:List (Option V)}{H H':Hp}{s:Shared}{h':Heap}
theorem Cx.Ok.VZ (ok:X.Ok)(e:X.base.get? b=some o):b∉X.fs:=λhb=>by have:=(ok.pL.mem hb).1;rw[e] at this;cases this
theorem Inv.bs (I:Inv X pins σ H s): ∀b o,X.base.get? b=some o ->s.heap.get? b=some o /\ H b=none:=λb o e=>#[I.base.keep b o (I.ok.bs b o e).1 (I.ok.bs b o e).2 (I.ok.VZ e) (I.ok.FK b o e),I.base.free b o (I.ok.bs b o e).1 (I.ok.bs b o e).2 (I.ok.FK b o e)]
theorem Inv.bk (I:Inv X pins σ H s): ∀b o,X.base.get? b=some o ->s.heap.get? b=some o:=λb o e=>(I.bs b o e).1
theorem Inv.mod (I:Inv X pins σ H s):Mod X.K X.mg X.base:=I.ok.mod
theorem Inv.pE (I:Inv X pins σ H s):X.K.In s.heap:=I.ok.mod.Ux.keeps I.bk
theorem Inv.fr (I:Inv X pins σ H s): ∃m,Fr X.base X.env.locals s.heap m:=
 let ⟨m,hn,_⟩:=I.loc
 #[m,hn,I.bk,aZ I.ok.HR I.ok.above]
theorem Inv.lt (I:Inv X pins σ H s):X.env.locals<s.heap.objs.size:=let ⟨_,hn,_⟩:=I.loc;hn.lt
theorem Inv.sz (I:Inv X pins σ H s):X.s₀.heap.objs.size<=s.heap.objs.size:=aZ I.ok.above (Nat.le_of_lt I.lt)
theorem Inv.VY (I:Inv X pins σ H s){a:Addr}(h:s.heap.objs.size<=a):a∉X.fs:=λhb=>by let⟨_,o,ho,_⟩:=I.ok.pL.mem hb;exact absurd (bS (aF ho) (aZ I.sz h)) (cz _)
theorem Inv.OY (I:Inv X pins σ H s): ∀x c,X.env.cells.lookup x=some c ->c≠X.env.locals:=λx c e z=>by let⟨v,o,ho,hd⟩:=I.cell x c e;let⟨m,⟨o',es,ep,JI,k9,_⟩,_⟩:=I.loc;rw[z,JI] at ho;cases ho;rw[k9] at hd;cases hd
def Inv.pL (I:Inv X pins σ H s):s.heap.FunFrames X.base X.outer:=by
 have all: ∀ (l:List Env),(∀b∈GR l,b∈X.fs) ->X.s₀.heap.FunFrames X.base l ->s.heap.FunFrames X.base l:=by
  intro l;induction l with
  | nil=>intro _ _;trivial
  | cons env r ih=>intro hs hl;let⟨hk,⟨L,o,hf,hn,ho,hd⟩,hr⟩:=hl;have hL:L∈X.fs:=hs L (by unfold GR;rw[List.filterMap_cons,hf];exact aA);let⟨sl,e⟩:=I.base.slot L o ho (I.ok.OO L hL) hL λz=>I.ok.CO L z hL;exact#[hk,#[L,_,hf,hn,e,hd],ih (λb hb=>hs b (by unfold GR;rw[List.filterMap_cons,hf];exact aw _ hb)) hr]
 exact all X.outer (λ_ hb=>hb) I.ok.pL
def Inv.stack (I:Inv X pins σ H s):s.heap.FunFrames X.base X.stack:=by
 rcases I.ok.Ua with e | ⟨e,hf⟩
 .rw[e];exact I.pL
 .rw[e];let⟨m,hn,_⟩:=I.loc;refine .cons (by rw[I.ok.kind];decide) hf hn ?_ I.pL;exact Heap.get?_none_of_le (aZ I.ok.HR I.ok.above)
theorem Inv.yK (I:Inv X pins σ H s): ∀b∈GR X.stack,b∈X.env.locals::X.fs:=λb hb=>by
 rcases I.ok.Ua with e | ⟨e,hf⟩
 .rw[e] at hb;exact aw _ hb
 .rw[e] at hb;unfold GR at hb;rw[List.filterMap_cons,hf] at hb;exact hb
theorem Inv.Ag (I:Inv X pins σ H s): ∀b∈GR X.stack,H b=none:=λb hb=>by
 rcases av.mp (I.yK b hb) with e | hb
 .rw[e];exact I.free
 .let⟨_,o,ho,_⟩:=I.ok.pL.mem hb;exact I.base.free b o ho (I.ok.OO b hb) λz=>I.ok.CO b z hb
def Inv.step {ch:List Addr}(I:Inv X pins σ H s)(HM: ∀b∈ch,(b∈X.ex \/ X.s₀.heap.objs.size<=b) /\ b≠X.env.locals /\ (∀x c,X.env.cells.lookup x=some c ->c≠b) /\ ∀p∈X.pn++pins,p.1≠b)(keep: ∀b o,b≠X.env.locals ->b∉X.fs ->b∉ch ->s.heap.get? b=some o ->H b=none ->h'.get? b=some o)(slot: ∀b o,b≠X.env.locals ->b∈X.fs ->b∉ch ->s.heap.get? b=some o ->H b=none -> ∃sl,h'.get? b=some {o with slots:=sl})(free: ∀b o,b∉ch ->s.heap.get? b=some o ->H b=none ->H' b=none)(there: ∀b o,b∉ch ->s.heap.get? b=some o -> ∃o',h'.get? b=some o')(nX: ∀b xs,H b=some (.tup xs) ->H' b=some (.tup xs))(lY: ∀b o u,H b=some (.lZ o u) ->H' b=some (.lZ o u))(nZ: ∀b ps,H b=some (.MT ps) -> ∃more,H' b=some (.MT (ps++more)))(ns: ∀m,s.heap.Ns X.env.locals m ->h'.Ns X.env.locals m)(dv:lE X.prog X.w H' h')(hg:AllBare g'): Inv X pins σ H' {s with heap:=h',gens:=g',drawn:=d',toks:=t'}:=by
 have Z4: ∀b o,X.s₀.heap.get? b=some o ->b≠X.env.locals:=λb o e=>a5 (bS (aF e) I.ok.above);have Uk: ∀b o,X.s₀.heap.get? b=some o ->b∉X.ex ->b∉ch:=λb o e hx hb=>by
  rcases (HM b hb).1 with z | z
  .exact hx z
  .exact absurd (bS (aF e) z) (cz _)
 have cellK: ∀x c,X.env.cells.lookup x=some c -> ∀v,s.heap.IsCell c v ->h'.IsCell c v:=λx c e v ⟨o,ho,hd⟩=>by
  have RC:c∉ch:=λz=>(HM c z).2.2.1 x c e rfl;by_cases hc:c∈X.fs
  .let⟨sl,q⟩:=slot c o (I.OY x c e) hc RC ho (I.iN x c e);exact#[_,q,hd]
  .exact#[o,keep c o (I.OY x c e) hc RC ho (I.iN x c e),hd]
 refine#[I.ok,I.os,hg,#[λb o e n hb hx=> ?_,λb o e n hb hx=> ?_,λb o e n hx=> ?_,λb o e hx=> ?_,λb xs e=>nX b xs (I.base.nX b xs e),λb o xs e=>lY b o xs (I.base.lY b o xs e),λb ps e=> ?_],?_,λx c e=> ?_,?_,λx c e=> ?_,λp hp=> ?_,dv,I.len]
 .exact keep b o (Z4 b o e) hb (Uk b o e hx) (I.base.keep b o e n hb hx) (I.base.free b o e n hx)
 .let⟨sl,e1⟩:=I.base.slot b o e n hb hx;let⟨Vv,e2⟩:=slot b _ (Z4 b o e) hb (Uk b o e hx) e1 (I.base.free b o e n hx);exact#[Vv,e2]
 .let⟨o',e1⟩:=I.base.there b o e hx;exact free b o' (Uk b o e hx) e1 (I.base.free b o e n hx)
 .let⟨o',e1⟩:=I.base.there b o e hx;exact there b o' (Uk b o e hx) e1
 .let⟨m1,e1⟩:=I.base.nZ b ps e;let⟨m2,e2⟩:=nZ b _ e1;exact#[m1++m2,by rw[e2,Array.append_assoc]]
 .let⟨m,hn,hl⟩:=I.loc;refine#[m,ns m hn,λi x v e1 e2 e3=> ?_];let⟨u,r,l⟩:=hl i x v e1 e2 e3;refine#[u,r,?_];rcases l with l | ⟨k,c,e,z⟩
  .exact .inl l
  .exact .inr #[k,c,e,cellK x c e _ z]
 .let⟨v,z⟩:=I.cell x c e;exact#[v,cellK x c e v z]
 .let⟨m,⟨o,_,_,ho,_⟩,_⟩:=I.loc;exact free _ o (λz=>(HM _ z).2.1 rfl) ho I.free
 .let⟨v,o,ho,hd⟩:=I.cell x c e;exact free c o (λz=>(HM c z).2.2.1 x c e rfl) ho (I.iN x c e)
 .let⟨e,n,ne,nf,d⟩:=I.pin p hp;have RC:p.1∉ch:=λz=>(HM p.1 z).2.2.2 p hp rfl;exact#[keep p.1 p.2 ne nf RC e n,free p.1 p.2 RC e n,ne,nf,d]
def Inv.un (I:Inv X pins σ H s)(u:Un X.fs [] H H' s.heap h')(dv:lE X.prog X.w H' h'):Inv X pins σ H' {s with heap:=h',toks:=t'}:=by let⟨m,⟨o,es,ep,ho,r⟩,_⟩:=id I.loc;let⟨sl,hL⟩:=u.any ho I.free (by simp);exact I.step (g':=s.gens) (d':=s.drawn) (ch:= []) (λ_ z=>nomatch z) (λb o _ hb _ e n=>u.keep b o e n hb (by simp)) (λb o _ hb _ e n=>u.slot b o e n hb (by simp)) (λb o _ e n=>u.free b o e n (by simp)) (λb o _ e=>u.there b o e (by simp)) u.nX u.lY u.nZ (λm' hm=>by let⟨o',U3,U4,JI,r'⟩:=hm;rw[ho] at JI;cases JI;exact#[_,U3,U4,hL,r']) dv I.bare
def Inv.call (I:Inv X pins σ H s)(u:Un (GR X.stack) ch H H' s.heap h')(dv:lE X.prog X.w H' h')(hg:AllBare g')(HM: ∀b∈ch,(b∈X.ex \/ X.s₀.heap.objs.size<=b) /\ b≠X.env.locals /\ (∀x c,X.env.cells.lookup x=some c ->c≠b) /\ ∀p∈X.pn++pins,p.1≠b): Inv X pins σ H' {s with heap:=h',gens:=g',drawn:=d',toks:=t'}:=by let⟨m,⟨o,es,ep,ho,r⟩,_⟩:=id I.loc;let⟨sl,hL⟩:=u.any ho I.free λz=>(HM _ z).2.1 rfl;exact I.step (ch:=ch) HM (λb o hL hb hc e n=>u.keep b o e n (λz=>(av.mp (I.yK b z)).elim hL hb) hc) (λb o _ _ hc e n=>u.any e n hc) (λb o hc e n=>u.free b o e n hc) (λb o hc e=>u.there b o e hc) u.nX u.lY u.nZ (λm' hm=>by let⟨o',U3,U4,JI,r'⟩:=hm;rw[ho] at JI;cases JI;exact#[_,U3,U4,hL,r']) dv hg
def Inv.turned (I:Inv X pins σ H s)(k: ∀b o,b≠it ->s.heap.get? b=some o ->h'.get? b=some o)(hn:H it=none)(hL:it≠X.env.locals)(h1:it∈X.ex \/ X.s₀.heap.objs.size<=it)(h2: ∀x c,X.env.cells.lookup x=some c ->c≠it)(h3: ∀p∈X.pn++pins,p.1≠it):Inv X pins σ H {s with heap:=h',toks:=t'}:=by
 have Z3: ∀b u,H b=some u ->b≠it:=λb u e z=>by rw[z,hn] at e;cases e
 refine I.step (g':=s.gens) (d':=s.drawn) (ch:= [it]) (λb hb=> ?_) (λb o _ _ hc e _=>k b o (λz=>hc (by simp[z])) e) (λb o _ _ hc e _=>#[o.slots,k b o (λz=>hc (by simp[z])) e]) (λ_ _ _ _ n=>n) (λb o hc e=>#[o,k b o (λz=>hc (by simp[z])) e]) (λ_ _ e=>e) (λ_ _ _ e=>e) (λb ps e=>#[#[],by rw[e];simp]) (λm hm=> ?_) (λb u e=> ?_) I.bare
 .have e:b=it:=by simpa using hb
  subst e;exact#[h1,hL,h2,h3]
 .let⟨o,es,ep,ho,r⟩:=hm;exact#[o,es,ep,k _ o (a9 hL) ho,r]
 .refine(I.dv b u e).qm (λc v hc q=>k c v ?_ q) (λ_ q=>q) λ_ _ q=>q;rcases hc with z | z
  .rw[z];exact Z3 b u e
  .exact Z3 c _ z
theorem Inv.tok (I:Inv X pins σ H s)(t:Nat):Inv X pins σ H {s with toks:=t}:=I.un (h':=s.heap) (t':=t) Un.refl I.dv
theorem Inv.kept (I:Inv X pins σ H s)(k: ∀b u,s.heap.get? b=some u ->h'.get? b=some u):Inv X pins σ H {s with heap:=h',toks:=t'}:=I.un (Un.kept k) (I.dv.kept k)
theorem Inv.laid {a:Addr}(I:Inv X pins σ H s)(k: ∀b u,s.heap.get? b=some u ->h'.get? b=some u)(hp:s.heap.objs.size<=a)(new:d6 X.prog X.w (upd H a o) h' a o): Inv X pins σ (upd H a o) {s with heap:=h',toks:=t'}:=I.un (Un.laid k hp (I.dv.fresh hp)) (I.dv.laid k hp new)
theorem Inv.write (I:Inv X pins σ H s)(mu:TH (H x))(he:e=x \/ H e=some (.own x))(k: ∀b u,b≠e ->s.heap.get? b=some u ->h'.get? b=some u)(PM: ∃u,h'.get? e=some u)(new:d6 X.prog X.w (upd H x o) h' x o):Inv X pins σ (upd H x o) {s with heap:=h',toks:=t'}:=I.un (Un.write mu he k PM) (I.dv.write mu he k PM new)
theorem Inv.weak (I:Inv X pins σ H s)(hl:σ'.length=σ.length)(w: ∀ (i:Nat) v,σ'[i]? =some (some v) ->σ[i]? =some (some v)):Inv X pins σ' H s:=#[I.ok,I.os,I.bare,I.base,let ⟨m,hn,k7⟩:=I.loc;#[m,hn,λi x v e1 e2 e3=>k7 i x v e1 (w i v e2) e3],I.cell,I.free,I.iN,I.pin,I.dv,hl.trans I.len]
theorem Inv.Az (I:Inv X pins σ H s)(h: ∀p∈AA,s.heap.get? p.1=some p.2 /\ H p.1=none /\ p.1≠X.env.locals /\ p.1∉X.fs /\ ∀v,p.2.data≠ .cell v):Inv X AA σ H s:=#[I.ok,I.os,I.bare,I.base,I.loc,I.cell,I.free,I.iN,λp hp=>(ax.mp hp).elim (λz=>I.pin p (List.mem_append_left _ z)) (h p),I.dv,I.len]
def wV {N:List Str}(hN:N.Nodup){i j:Nat}(a:N[i]? =some x)(b:N[j]? =some x):i=j:=by let⟨h1,e1⟩:=ai.mp a;let⟨h2,e2⟩:=ai.mp b;exact(List.getElem_inj hN).mp (e1.trans e2.symm)
def sD (I:Inv X pins σ H s)(hN:X.N.Nodup)(hi:X.N[i]? =some x)(hx:Loc X.env.scope x)(r:RelV v u)(h: ∀s',Inv X pins (σ.set i (some v)) H s' ->(∃a,Heap.SameBut a s.heap s'.heap /\ (a=X.env.locals \/ X.env.cells.lookup x=some a)) ->Q () s')(hf:X.fn x=true \/ X.env.scope.names.lookup x=some .local:=by first | exact .inl rfl | exact .inr rfl | assumption):wpAny M A (storeName X.env x u) Q E s:=by
 let⟨m,hn,hl⟩:=id I.loc;have Xw:(X.env.scope.kind== .class || (X.env.scope.kind== .module && X.env.locals !=X.env.globals))=false:=by rw[I.ok.kind];rfl
 have hiσ:i<σ.length:=by rw[I.len];exact(ai.mp hi).1
 have OY:=I.OY;have tracked: ∀ {a:Addr} {h':Heap},(∃o,s.heap.get? a=some o /\ H a=none) ->Heap.SameBut a s.heap h' ->lE X.prog X.w H h':=λ{a h'} ha hs b ob e=>by
  let⟨_,_,LU⟩:=ha;refine(I.dv b ob e).qm (λc w' hc q=>(hs.2 c ?_).trans q) (λ_ q=>q) λ_ _ q=>q;rintro rfl;rcases hc with rfl | hc
  .rw[LU] at e;cases e
  .rw[LU] at hc;cases hc
 rcases hx with hk | hk
 .refine wpAny_storeName_local hk hn (λh' LN hs=> ?_) Xw;let⟨oL,_,_,hoL,_⟩:=id hn;refine h _ #[I.ok,I.os,I.bare,#[λb o e n hb hx=> ?_,λb o e n hb hx=> ?_,I.base.free,λb o e hx=> ?_,I.base.nX,I.base.lY,I.base.nZ],#[_,LN,λj y v' e1 e2 e3=> ?_],λy c e=> ?_,I.free,I.iN,λp hp=> ?_,tracked #[oL,hoL,I.free] hs,by simpa using I.len] #[_,hs, .inl rfl]
  .exact(hs.2 b (a5 (bS (aF e) I.ok.above))).trans (I.base.keep b o e n hb hx)
  .let⟨sl,e1⟩:=I.base.slot b o e n hb hx;exact#[sl,(hs.2 b (a5 (bS (aF e) I.ok.above))).trans e1]
  .let⟨o',e1⟩:=I.base.there b o e hx;exact#[o',(hs.2 b (a5 (bS (aF e) I.ok.above))).trans e1]
  .by_cases hj:j=i
   .subst hj;rw[hi] at e1;cases e1;rw[List.getElem?_set_self hiσ] at e2;cases e2;exact#[u,r, .inl #[hk,by simp]]
   .rw[List.getElem?_set_ne (a9 hj)] at e2;let⟨u',r',q⟩:=hl j y v' e1 e2 e3;refine#[u',r',?_];rcases q with⟨k,e⟩ | ⟨k,c,e,z⟩
    .refine .inl #[k,?_];have:y≠x:=λe=>hj (wV hN e1 (e▸hi));simp[this,e]
    .exact .inr #[k,c,e,z.sameBut hs (OY y c e)]
  .let⟨w',z⟩:=I.cell y c e;exact#[w',z.sameBut hs (OY y c e)]
  .let⟨e,n,ne,nf,d⟩:=I.pin p hp;exact#[(hs.2 p.1 ne).trans e,n,ne,nf,d]
 .have Xn:X.fn x=true:=by
   rcases hf with z | z
   .exact z
   .rw[z] at hk;cases hk
  let⟨c,hc⟩:=I.ok.has x (.inl hk);let⟨w',z⟩:=I.cell x c hc;refine wpAny_storeName_cell I.ok.kind hk hc z (λh' PY hs=> ?_);let⟨oc,hoc,WN⟩:=id z;refine h {s with heap:=h'} #[I.ok,I.os,I.bare,#[λb o e n hb hx=> ?_,λb o e n hb hx=> ?_,I.base.free,λb o e hx=> ?_,I.base.nX,I.base.lY,I.base.nZ],#[m,hn.sameBut hs (a9 (OY x c hc)),λj y v' e1 e2 e3=> ?_],λy c' e=> ?_,I.free,I.iN,λp hp=> ?_,tracked #[oc,hoc,I.iN x c hc] hs,by simpa using I.len] #[c,hs, .inr hc]
  .exact(hs.2 b (a5 (bS (aF e) (I.ok.Th x c Xn hc)))).trans (I.base.keep b o e n hb hx)
  .let⟨sl,e1⟩:=I.base.slot b o e n hb hx;exact#[sl,(hs.2 b (a5 (bS (aF e) (I.ok.Th x c Xn hc)))).trans e1]
  .let⟨o',e1⟩:=I.base.there b o e hx;exact#[o',(hs.2 b (a5 (bS (aF e) (I.ok.Th x c Xn hc)))).trans e1]
  .by_cases hj:j=i
   .subst hj;rw[hi] at e1;cases e1;rw[List.getElem?_set_self hiσ] at e2;cases e2;exact#[u,r, .inr #[.inl hk,c,hc,PY]]
   .rw[List.getElem?_set_ne (a9 hj)] at e2;let⟨u',r',q⟩:=hl j y v' e1 e2 e3;refine#[u',r',?_];rcases q with q | ⟨k,c',e,z'⟩
    .exact .inl q
    .refine .inr #[k,c',e,z'.sameBut hs ?_];rintro rfl;exact hj (wV hN e1 (I.ok.inj _ _ _ e hc▸hi))
  .by_cases hcc:c'=c
   .subst hcc;exact#[_,PY]
   .let⟨w2,z2⟩:=I.cell y c' e;exact#[w2,z2.sameBut hs hcc]
  .let⟨e,n,ne,nf,d⟩:=I.pin p hp;refine#[(hs.2 p.1 ?_).trans e,n,ne,nf,d];intro q;rw[q,hoc] at e;have q':oc=p.2:=bA e;exact d w' (by rw[<- q'];exact WN)
theorem vX (I:Inv X pins σ H s)(hN:X.N.Nodup)(hi:X.N[i]? =some x)(hx:Loc X.env.scope x)(r:RelV v u)(h: ∀s',Inv X pins (σ.set i (some v)) H s' ->Q () s')(hf:X.fn x=true \/ X.env.scope.names.lookup x=some .local:=by first | exact .inl rfl | exact .inr rfl | assumption):wpAny M A (storeName X.env x u) Q E s:=sD I hN hi hx r (λs' I' _=>h s' I') hf
def Inv.Tg (I:Inv X pins σ H s)(ho:s'.os=s.os)(u:Un (GR X.stack) ch H H' s.heap s'.heap)(dv:lE X.prog X.w H' s'.heap)(hg:AllBare s'.gens)(HM: ∀b∈ch,(b∈X.ex \/ X.s₀.heap.objs.size<=b) /\ b≠X.env.locals /\ (∀x c,X.env.cells.lookup x=some c ->c≠b) /\ ∀p∈X.pn++pins,p.1≠b):Inv X pins σ H' s':=by let⟨h',g',d',t',o'⟩:=s';have e:o'=s.os:=ho;subst e;exact I.call (g':=g') (t':=t') (d':=d') u dv hg HM
end
noncomputable abbrev XK:=Value ->Option Addr ->Hp ->Prop
noncomputable abbrev St:=List (Option V)
noncomputable abbrev VK:=V ->Hp ->Prop
noncomputable abbrev TE:=St ->Hp ->VK ->Prop
noncomputable abbrev TT:=St ->Hp ->(Bool ->Hp ->Prop) ->Prop
noncomputable abbrev TA:=St ->Hp ->(List V ->Hp ->Prop) ->Prop
structure Ends where
 nx:St ->Hp ->Prop
 rt:VK
 bk:St ->Hp ->Prop:=λ_ _=>False
 ct:St ->Hp ->Prop:=λ_ _=>False
noncomputable abbrev TS:=Ends ->St ->Hp ->Prop
noncomputable def EP (X:Cx)(pins:List (Addr×Obj))(σ:St)(Q:VK)(u:Value)(s':Shared):Prop:= ∃v H',Inv X pins σ H' s' /\ RelV v u /\ Q v H'
noncomputable def TP (X:Cx)(pins:List (Addr×Obj))(σ:St)(Q:Bool ->Hp ->Prop)(b:Bool)(s':Shared):Prop:= ∃H',Inv X pins σ H' s' /\ Q b H'
noncomputable def AP (X:Cx)(pins:List (Addr×Obj))(σ:St)(Q:List V ->Hp ->Prop)(us:List Value)(s':Shared):Prop:= ∃vs H',Inv X pins σ H' s' /\ Vals vs us /\ Q vs H'
noncomputable def SP (X:Cx)(pins:List (Addr×Obj))(D:Ends)(f:Flow)(s':Shared):Prop:=
 match f with
 | .next=> ∃σ' H',Inv X pins σ' H' s' /\ D.nx σ' H'
 | .brk=> ∃σ' H',Inv X pins σ' H' s' /\ D.bk σ' H'
 | .cont=> ∃σ' H',Inv X pins σ' H' s' /\ D.ct σ' H'
 | .ret u=> ∃v σ' H',Inv X pins σ' H' s' /\ RelV v u /\ D.rt v H'
noncomputable def PE (X:Cx)(e:Expr)(t:TE):Prop:=∀ (pins:List (Addr×Obj)) (s:Shared) (σ:St) (H:Hp) (Q:VK),Inv X pins σ H s ->t σ H Q ->wpAny (model X.prog X.w) X.A (eval e X.env) (EP X pins σ Q) X.xe s
noncomputable def PT (X:Cx)(e:Expr)(t:TT):Prop:=∀ (pins:List (Addr×Obj)) (s:Shared) (σ:St) (H:Hp) (Q:Bool ->Hp ->Prop),Inv X pins σ H s ->t σ H Q ->wpAny (model X.prog X.w) X.A (isTrue e X.env (eval e X.env)) (TP X pins σ Q) X.xe s
noncomputable def PW (X:Cx)(e:Expr)(t:TT):Prop:=∀ (whole:Sem Value) (pins:List (Addr×Obj)) (s:Shared) (σ:St) (H:Hp) (Q:Bool ->Hp ->Prop),Inv X pins σ H s ->t σ H Q ->wpAny (model X.prog X.w) X.A (isTrue e X.env whole) (TP X pins σ Q) X.xe s
theorem PW.pt (h:PW X e t):PT X e t:=h _
noncomputable def PA (X:Cx)(es:List Expr)(t:TA):Prop:=∀ (pos:Pos) (pins:List (Addr×Obj)) (s:Shared) (σ:St) (H:Hp) (Q:List V ->Hp ->Prop),Inv X pins σ H s ->t σ H Q ->wpAny (model X.prog X.w) X.A (spliced (backTo pos (starEach es X.env))) (AP X pins σ Q) X.xe s
noncomputable def PS (X:Cx)(st:Stmt)(t:TS):Prop:=∀ (pins:List (Addr×Obj)) (s:Shared) (σ:St) (H:Hp) (D:Ends),Inv X pins σ H s ->t D σ H ->wpAny (model X.prog X.w) X.A (exec st X.env) (SP X pins D) X.xe s
noncomputable def yq (X:Cx)(st:List Stmt)(t:TS):Prop:=∀ (pins:List (Addr×Obj)) (s:Shared) (σ:St) (H:Hp) (D:Ends),Inv X pins σ H s ->t D σ H ->wpAny (model X.prog X.w) X.A (execs st X.env) (SP X pins D) X.xe s
theorem dt {Q Q':α ->Shared ->Prop}(h:wpAny M A t Q E s)(hQ: ∀a s,Q a s ->Q' a s):wpAny M A t Q' E s:=bV h hQ λ_ _ x=>x
section
variable {X:Cx}
def bin (ha:PE X a ta)(hb:PE X b tb){σ:St}{R:V ->V ->Hp ->Prop}(I:Inv X pins σ H s)(h:ta σ H λx H1=>tb σ H1 λy H2=>R x y H2){f:Value ->Value ->Sem α}(hf: ∀v u s2 x y H2,Inv X pins σ H2 s2 ->RelV x v ->RelV y u ->R x y H2 ->wpAny (model X.prog X.w) X.A (f v u) Q X.xe s2): wpAny (model X.prog X.w) X.A (eval a X.env) (λv s₁=>wpAny (model X.prog X.w) X.A (eval b X.env) (λu s₂=>wpAny (model X.prog X.w) X.A (f v u) Q X.xe s₂) X.xe s₁) X.xe s:=by refine dt (ha pins s σ H _ I h) λv s1 ⟨x,H1,I1,r1,q1⟩=> ?_;refine dt (hb pins s1 σ H1 _ I1 q1) λu s2 ⟨y,H2,I2,r2,q2⟩=> ?_;exact hf v u s2 x y H2 I2 r1 r2 q2
noncomputable def Ip (i:Nat):TE:=λσ H Q=> ∃v,σ[i]? =some (some v) /\ Q v H
noncomputable def tC (v:V):TE:=λ_ H Q=>Q v H
def Nz {pos:Pos}(hN:X.N[i]? =some x)(hv:U7 X.env.scope x)(hd:(x==("__debug__" :Str))=false:=by decide)(CJ:(x==("__classdict__" :Str))=false:=by decide):PE X (.Name x pos) (Ip i):=by
 intro pins s σ H Q I h;let⟨v,e,h⟩:=h;let⟨m,hn,hl⟩:=I.loc;let⟨u,r,l⟩:=hl i x v hN e hv;have fin:EP X pins σ Q u s:=#[v,H,I,r,h]
 rcases l with⟨hk,hm⟩ | ⟨hk,c,hc,LW⟩
 .exact wpAny_Name (wpAny_loadName_local I.ok.kind hk hn hm fin) hd
 .rcases hk with hk | hk
  .exact wpAny_Name (wpAny_loadName_cell I.ok.kind hk hc LW fin) hd
  .exact wpAny_Name (wpAny_loadName_free I.ok.kind hk hc LW fin CJ) hd
theorem aJ {i j pos}:PE X (.Constant (.int i) j pos) (tC (.int i)):=λ_ _ _ H _ I h=>wpAny_Constant_int #[.int i,H,I.tok _,#[_,rfl],h]
theorem sQ {b j pos}:PE X (.Constant (.bool b) j pos) (tC (.bl b)):=λ_ _ _ H _ I h=>Constant_bool #[.bl b,H,I,rfl,h]
theorem Fm {j pos}:PE X (.Constant .none j pos) (tC .dY):=λ_ _ _ H _ I h=>Constant_none #[.dY,H,I,rfl,h]
noncomputable def Gl (X:Cx)(x:Str):Prop:=X.env.kindOf x=some .globalImplicit
theorem AQ {σ:St}(I:Inv X pins σ H s)(hg:Gl X x)(hm:X.mg x=some u)(h:Q u s)(hd:(x==("__debug__" :Str))=false:=by decide):wpAny (model X.prog X.w) X.A (eval (.Name x pos) X.env) Q E s:=Calls.Name_function_global I.ok.kind hg (Calls.loadGlobal_global (by rw[I.ok.glob];exact I.mod.glob.keeps I.bk) hm h) hd
def gJ {E:Value ->Shared ->Prop}{σ:St}{pos:Pos}(I:Inv X pins σ H s)(hg:Gl X x)(hm:X.mg x=none)(hv:bootBuiltins x=some u)(h:Q u s)(hn:x≠ "__name__" :=by decide)(hd:(x==("__debug__" :Str))=false:=by decide):wpAny (model X.prog X.w) X.A (eval (.Name x pos) X.env) Q E s:=by let⟨mb,h1,h2⟩:=I.mod.blt;exact Calls.Name_function_global I.ok.kind hg (Calls.loadGlobal_builtin (by rw[I.ok.glob];exact I.mod.glob.keeps I.bk) hm (by rw[I.ok.blt];exact h1.keeps I.bk) ((h2 x hn).trans hv) h) hd
theorem kH {pos:Pos}(hg:Gl X x)(hm:X.mg x=none)(hv:bootBuiltins x=some u)(r:RelV v u)(hn:x≠ "__name__" :=by decide)(hd:(x==("__debug__" :Str))=false:=by decide):PE X (.Name x pos) (tC v):=λ_ _ _ H _ I h=>gJ I hg hm hv #[v,H,I,r,h] hn hd
variable {a b:Expr}{ta tb:TE}{pos:Pos}
noncomputable def PC (X:Cx)(op:CmpOp)(a b:Expr)(t:TE):Prop:=∀ (pins:List (Addr×Obj)) (s:Shared) (σ:St) (H:Hp) (Q:VK),Inv X pins σ H s ->t σ H Q ->wpAny (model X.prog X.w) X.A (eval a X.env) (λv s₁=>wpAny (model X.prog X.w) X.A (eval b X.env) (λu s₂=>wpAny (model X.prog X.w) X.A (compareOp op v u) (EP X pins σ Q) X.xe s₂) X.xe s₁) X.xe s
def FN (b:Expr)(h:op≠ .In)(h2:op≠ .NotIn):behindInMarks op b=false:=by
 have e1:(op==CmpOp.In)=false:=by cases op<;>first | rfl | exact absurd rfl h
 have e2:(op==CmpOp.NotIn)=false:=by cases op<;>first | rfl | exact absurd rfl h2
 cases b<;>simp[behindInMarks,e1,e2]
noncomputable def tB (t:TE):TT:=λσ H Q=>t σ H λx H1=> ∃c,x= .bl c /\ Q c H1
def Nv (h:PC X op a b t)(h1:behindInMarks op b=false:=by first | exact FN _ (by decide) (by decide) | rfl):PT X (.Compare a [op] [b] pos) (tB t):=by intro pins s σ H Q I hw;refine wpAny_isTrue_Compare1 (dt (h pins s σ H _ I hw) λv s1 h1=>dt h1 λu s2 h2=>dt h2 λc s3 ⟨x,H1,I1,r1,q1⟩=> ?_) h1;let⟨d,rfl,q⟩:=q1;cases r1;exact dA #[H1,I1,q]
def oh (h:PE X e t)(he: ∀whole,isTrue e X.env whole=(do let v <- whole;standAt e.pos;holding [v] (truthy v)):=by intro _;rfl):PT X e (tB t):=by intro pins s σ H Q I hw;refine isTrue_plain (dt (h pins s σ H _ I hw) λv s1 ⟨x,H1,I1,r1,q1⟩=> ?_) (he _);let⟨d,rfl,q⟩:=q1;cases r1;exact dA #[H1,I1,q]
variable {tA T9:TT}{rest:List Expr}
noncomputable def QO (t u:TT):TT:=λσ H Q=>t σ H λc H1=>if c=true then u σ H1 Q else Q false H1
noncomputable def ZK (t u:TT):TT:=λσ H Q=>t σ H λc H1=>if c=true then Q true H1 else u σ H1 Q
noncomputable def QK (t:TT):TT:=λσ H Q=>t σ H λc H1=>Q (!c) H1
def uR (ha:PT X a tA):PW X (.BoolOp .And [a] pos) tA:=by
 intro wh pins s σ H Q I h;refine isTrue_and (dt (ha pins s σ H Q I h) λc s1 e=> ?_);cases c with
 | true=>exact isTrue_and_nil e
 | false=>exact e
def uQ (ha:PT X a tA):PW X (.BoolOp .Or [a] pos) tA:=by
 intro wh pins s σ H Q I h;refine isTrue_or (dt (ha pins s σ H Q I h) λc s1 e=> ?_);cases c with
 | false=>exact isTrue_or_nil e
 | true=>exact e
def yQ (ha:PT X a tA)(hb:PW X (.BoolOp .And (b::rest) pos) T9):PW X (.BoolOp .And (a::b::rest) pos) (QO tA T9):=by
 intro wh pins s σ H Q I h;refine isTrue_and (dt (ha pins s σ H _ I h) λc s1 ⟨H1,I1,q1⟩=> ?_);cases c with
 | true=>exact hb wh pins s1 σ H1 Q I1 q1
 | false=>exact#[H1,I1,q1]
def sO (ha:PT X a tA)(hb:PW X (.BoolOp .Or (b::rest) pos) T9):PW X (.BoolOp .Or (a::b::rest) pos) (ZK tA T9):=by
 intro wh pins s σ H Q I h;refine isTrue_or (dt (ha pins s σ H _ I h) λc s1 ⟨H1,I1,q1⟩=> ?_);cases c with
 | true=>exact#[H1,I1,q1]
 | false=>exact hb wh pins s1 σ H1 Q I1 q1
def kb (ha:PT X a tA):PT X (.UnaryOp .Not a pos) (QK tA):=by intro pins s σ H Q I h;exact isTrue_not (ha pins s σ H (λc H1=>Q (!c) H1) I h)
noncomputable def KW (ta tb:TE):TE:=λσ H Q=>ta σ H λx H1=> ∃c,x= .bl c /\ if c=true then tb σ H1 Q else Q (.bl false) H1
noncomputable def KL (ta:TE):TE:=λσ H Q=>ta σ H λx H1=> ∃c,x= .bl c /\ Q (.bl (!c)) H1
theorem Fl {op}(h:PE X a t):PE X (.BoolOp op [a] pos) t:=λpins s σ H Q I hw=>BoolOp_one (h pins s σ H Q I hw)
def Fq (ha:PE X a ta)(hb:PE X (.BoolOp .And (b::rest) pos) tb):PE X (.BoolOp .And (a::b::rest) pos) (KW ta tb):=by
 intro pins s σ H Q I h;refine BoolOp_and (dt (ha pins s σ H _ I h) λv s1 ⟨x,H1,I1,r1,q1⟩=> ?_);let⟨c,rfl,q1⟩:=q1;cases r1;refine dA ?_;cases c with
 | true=>exact hb pins s1 σ H1 Q I1 q1
 | false=>exact#[.bl false,H1,I1,rfl,q1]
def NA (ha:PE X a ta):PE X (.UnaryOp .Not a pos) (KL ta):=by intro pins s σ H Q I h;refine UnaryOp_ (dt (ha pins s σ H _ I h) λv s1 ⟨x,H1,I1,r1,q1⟩=> ?_);let⟨c,rfl,q1⟩:=q1;cases r1;exact not_of (dA #[.bl (!c),H1,I1,rfl,q1])
end
noncomputable def gB (K:PySem.W.Frag)(H:Hp)(a:Addr)(xs:List V):Prop:=Rd H a (.lst xs) \/∃ (o:Obj) (its:Array Value) (n:Nat),K.lookup a=some o /\ o.cls= .type "list" /\ o.dict=none /\ o.data= .seq its n /\ its.size<=sizeLine /\ Vals xs its.toList
noncomputable def jj (K:PySem.W.Frag)(H:Hp)(a:Addr)(xs:List V):Prop:=Rd H a (.tup xs) \/∃ (o:Obj) (its:Array Value) (n:Nat),K.lookup a=some o /\ o.cls= .type "tuple" /\ o.dict=none /\ o.data= .seq its n /\ its.size<=sizeLine /\ Vals xs its.toList
noncomputable def Ze:Value ->Option V
 | .none=>some .dY
 | .bool b=>some (.bl b)
 | .int i _=>some (.int i)
 | .str x _=>some (.str x)
 | .bytes b _=>some (.zI b)
 | .float b _=>some (.A6 b)
 | .ref a=>some (.ref a)
 | .type n=>some (.ty n)
 | _=>none
def RelV.abs (r:RelV x u):Ze u=some x:=by
 cases x with
 | dY=>cases r;rfl
 | bl _=>cases r;rfl
 | int _=>let⟨t,rfl⟩:=r;rfl
 | str _=>let⟨t,rfl⟩:=r;rfl
 | zI _=>let⟨t,rfl⟩:=r;rfl
 | A6 _=>let⟨t,rfl⟩:=r;rfl
 | ref _=>cases r;rfl
 | ty _=>cases r;rfl
theorem RelV.inj {x y:V}{u:Value}(r:RelV x u)(q:RelV y u):x=y:=bA (r.abs.symm.trans q.abs)
theorem Vals.inj: ∀ {xs ys:List V} {us:List Value},Vals xs us ->Vals ys us ->xs=ys
 | _,_,_, .nil, .nil=>rfl
 | _,_,_, .cons r t, .cons r' t'=>by rw[r.inj r',Vals.inj t t']
section
variable {X:Cx}{pins:List (Addr×Obj)}{σ:St}{H:Hp}{s:Shared}{a:Addr}{xs ys:List V}
theorem gB.of {K:PySem.W.Frag}(h:H a=some (.lst xs)):gB K H a xs:= .inl (.inl h)
theorem jj.of {K:PySem.W.Frag}(h:H a=some (.tup xs)):jj K H a xs:= .inl (.inl h)
def Inv.list (I:Inv X pins σ H s)(h:gB X.K H a xs): ∃its:List Value,Vals xs its /\ PlainL s.heap a its.toArray /\ xs.length<=sizeLine:=by
 rcases h with h | ⟨o,its,n,hk,hc,hd,hs,hz,r⟩
 .let⟨z,its,n,r,e⟩:=h.ok I.dv;exact#[its,r,#[_,n,e,rfl,rfl,rfl],z]
 .refine#[its.toList,r,#[o,n,I.pE a o hk,hc,hd,by simpa using hs],?_];have e:=r.length;simp![dg] at e;lia
def Inv.tuple (I:Inv X pins σ H s)(h:jj X.K H a xs): ∃its:List Value,Vals xs its /\ IsTup s.heap a its.toArray /\ xs.length<=sizeLine:=by
 rcases h with h | ⟨o,its,n,hk,hc,_,hs,hz,r⟩
 .let⟨z,its,r,p⟩:=h.ok I.dv;exact#[its,r,p.t,z]
 .refine#[its.toList,r,#[o,I.pE a o hk,hc,n,by simpa using hs],?_];have e:=r.length;simp![dg] at e;lia
def Inv.ML (I:Inv X pins σ H s)(h:jj X.K H a xs): ∃its:List Value,Vals xs its /\ vF s.heap a its.toArray /\ xs.length<=sizeLine:=by
 rcases h with h | ⟨o,its,n,hk,hc,hd,hs,hz,r⟩
 .let⟨z,its,r,p⟩:=h.ok I.dv;exact#[its,r,p,z]
 .refine#[its.toList,r,#[o,I.pE a o hk,hc,n,by simpa using hs,hd],?_];have e:=r.length;simp![dg] at e;lia
def Inv.list_inj (I:Inv X pins σ H s)(h:gB X.K H a xs)(h':gB X.K H a ys):xs=ys:=by
 let⟨its,r,⟨o,n,e,_,_,d⟩,_⟩:=I.list h;let⟨its',r',⟨o',n',e',_,_,d'⟩,_⟩:=I.list h';rw[e] at e';cases e';rw[d] at d';injection d' with d1 _;have:its=its':=by simpa using congrArg Array.toList d1
 subst this;exact r.inj r'
def Inv.nY (I:Inv X pins σ H s)(h:jj X.K H a xs)(h':jj X.K H a ys):xs=ys:=by
 let⟨its,r,⟨o,e,_,n,d⟩,_⟩:=I.tuple h;let⟨its',r',⟨o',e',_,n',d'⟩,_⟩:=I.tuple h';rw[e] at e';cases e';rw[d] at d';injection d' with d1 _;have:its=its':=by simpa using congrArg Array.toList d1
 subst this;exact r.inj r'
end
noncomputable abbrev Cx.rN (X:Cx)(E:Value ->Shared ->Prop):Cx:= {X with xe:=E}
noncomputable abbrev Cx.NQ (X:Cx):Cx:=X.rN λ_ _=>False
theorem Cx.Ok.rN {X:Cx}(ok:X.Ok)(E:Value ->Shared ->Prop):(X.rN E).Ok:=#[ok.mod,ok.kind,ok.glob,ok.blt,ok.above,ok.inj,ok.has,ok.Th,ok.hd,ok.frames,ok.Ua,ok.exf,ok.bs,ok.HR,ok.FK,ok.CO,ok.pL,ok.OO]
theorem Cx.Ok.j5 {X:Cx}(ok:(X.rN E).Ok):X.Ok:=#[ok.mod,ok.kind,ok.glob,ok.blt,ok.above,ok.inj,ok.has,ok.Th,ok.hd,ok.frames,ok.Ua,ok.exf,ok.bs,ok.HR,ok.FK,ok.CO,ok.pL,ok.OO]
section
variable {X:Cx}{pins:List (Addr×Obj)}{σ:St}{H:Hp}{s:Shared}{E:Value ->Shared ->Prop}
theorem Inv.rN (I:Inv X pins σ H s)(E:Value ->Shared ->Prop):Inv (X.rN E) pins σ H s:=#[I.ok.rN E,I.os,I.bare,I.base,I.loc,I.cell,I.free,I.iN,I.pin,I.dv,I.len]
theorem Inv.j5 (I:Inv (X.rN E) pins σ H s):Inv X pins σ H s:=#[I.ok.j5,I.os,I.bare,I.base,I.loc,I.cell,I.free,I.iN,I.pin,I.dv,I.len]
def SP.j5 (h:SP (X.rN E) pins D f s'):SP X pins D f s':=by
 cases f with
 | next=>let⟨σ',H',I,q⟩:=h;exact#[σ',H',I.j5,q]
 | brk=>let⟨σ',H',I,q⟩:=h;exact#[σ',H',I.j5,q]
 | cont=>let⟨σ',H',I,q⟩:=h;exact#[σ',H',I.j5,q]
 | ret u=>let⟨v,σ',H',I,r,q⟩:=h;exact#[v,σ',H',I.j5,r,q]
theorem yq.NQ {st:List Stmt}(h:yq X.NQ st t):yq X st t:=λpins s σ H D I hw=>bV (h pins s σ H D (I.rN _) hw) (λ_ _ q=>q.j5) λ_ _ z=>False.elim z
end
section
variable {X:Cx}{st:Stmt}{rest:List Stmt}{t u:TS}{e:Expr}{te:TE}{pos:Pos}
noncomputable def KN:TS:=λD σ H=>D.nx σ H
noncomputable def MU (t u:TS):TS:=λD σ H=>t {D with nx:=u D} σ H
theorem eY:yq X [] KN:=λ_ _ σ H _ I h=>wpAny_execs_nil #[σ,H,I,h]
def aI (h1:PS X st t)(h2:yq X rest u):yq X (st::rest) (MU t u):=by
 intro pins s σ H D I h;refine wpAny_execs_cons (dt (h1 pins s σ H {D with nx:=u D} I h) λf s1 q=> ?_);cases f with
 | next=>let⟨σ',H',I',q⟩:=q;exact h2 pins s1 σ' H' D I' q
 | ret v=>exact q
 | brk=>exact q
 | cont=>exact q
def aW (h1:PS X st t):yq X [st] t:=by
 intro pins s σ H D I h;refine wpAny_execs_cons (dt (h1 pins s σ H D I h) λf s1 q=> ?_);cases f with
 | next=>exact wpAny_execs_nil q
 | ret v=>exact q
 | brk=>exact q
 | cont=>exact q
noncomputable def KU:TS:=λD σ H=>D.ct σ H
theorem wD:PS X (.Continue pos) KU:=λ_ _ σ H _ I h=>wpAny_Continue #[σ,H,I,h]
def Inv.quiet {σ:St}(I:Inv X pins σ H s):interactive X.env=false:=by simp[interactive,I.ok.kind]
noncomputable def KQ (te:TE):TS:=λD σ H=>te σ H λ_ H1=>D.nx σ H1
def fV (he:PE X e te)(hs:swapsWith e none pos.line X.env=pure false:=by rfl):PS X (.Expr e pos) (KQ te):=by intro pins s σ H D I h;exact wpAny_Expr_any (dt (he pins s σ H _ I h) λv s1 ⟨x,H1,I1,r1,q1⟩=>#[σ,H1,I1,q1]) I.quiet hs
noncomputable def QI (te:TE):TS:=λD σ H=>te σ H D.rt
def c4 (he:PE X e te):PS X (.Return (some e) pos) (QI te):=by intro pins s σ H D I h;exact wpAny_Return_some (dt (he pins s σ H _ I h) λv s1 ⟨x,H1,I1,r1,q1⟩=>#[x,σ,H1,I1,r1,q1])
noncomputable def KI:TS:=λD _ H=>D.rt .dY H
theorem IP:PS X (.Return none pos) KI:=λ_ _ σ H _ I h=>wpAny_Return_none #[.dY,σ,H,I,rfl,h]
noncomputable def QM (c:TT)(t u:TS):TS:=λD σ H=>c σ H λb H1=>if b=true then t D σ H1 else u D σ H1
def gq (hc:PT X c tc)(ha:yq X a t)(hb:yq X b u):PS X (.If c a b pos) (QM tc t u):=by
 intro pins s σ H D I h;refine wpAny_If (dt (hc pins s σ H _ I h) λd s1 ⟨H1,I1,q1⟩=> ?_);cases d with
 | true=>exact ha pins s1 σ H1 D I1 q1
 | false=>exact hb pins s1 σ H1 D I1 q1
end
noncomputable abbrev TG:=V ->St ->Hp ->(St ->Hp ->Prop) ->Prop
noncomputable abbrev HW:=List V ->St ->Hp ->(St ->Hp ->Prop) ->Prop
noncomputable def PG (X:Cx)(target:Expr)(t:TG):Prop:=∀ (pins:List (Addr×Obj)) (s:Shared) (σ:St) (H:Hp) (v:V) (u:Value) (Q:St ->Hp ->Prop),Inv X pins σ H s ->RelV v u ->t v σ H Q ->wpAny (model X.prog X.w) X.A (assign target X.env u) (λ_ s'=> ∃σ' H',Inv X pins σ' H' s' /\ Q σ' H') X.xe s
noncomputable def U9 (X:Cx)(ts:List Expr)(t:HW):Prop:=∀ (pins:List (Addr×Obj)) (s:Shared) (σ:St) (H:Hp) (vs:List V) (us:List Value) (Q:St ->Hp ->Prop),Inv X pins σ H s ->Vals vs us ->t vs σ H Q ->wpAny (model X.prog X.w) X.A (assignInOrder ((assignEach ts X.env).map (·.2)) us) (λ_ s'=> ∃σ' H',Inv X pins σ' H' s' /\ Q σ' H') X.xe s
noncomputable abbrev Ho:=V ->V ->V ->Hp ->(Hp ->Prop) ->Prop
noncomputable def Tx (X:Cx)(t:Ho):Prop:=∀ (pins:List (Addr×Obj)) (s:Shared) (σ:St) (H:Hp) (o i v:V) (ov iv u:Value) (Q:Hp ->Prop),Inv X pins σ H s ->RelV o ov ->RelV i iv ->RelV v u ->t o i v H Q ->wpAny (model X.prog X.w) X.A (setItem ov iv u) (λ_ s'=> ∃H',Inv X pins σ H' s' /\ Q H') X.xe s
section
variable {X:Cx}{pos:Pos}
noncomputable def nB (i:Nat):TG:=λv σ H Q=>Q (σ.set i (some v)) H
def bR (hN:X.N.Nodup)(hi:X.N[i]? =some x)(hx:Loc X.env.scope x)(hf:X.fn x=true \/ X.env.scope.names.lookup x=some .local:=by first | exact .inl rfl | exact .inr rfl | assumption):PG X (.Name x pos) (nB i):=by intro pins s σ H v u Q I r h;exact wpAny_assign_Name (vX I hN hi hx r (λs' I'=>#[_,H,I',h]) hf)
noncomputable def OM:HW:=λvs σ H Q=>vs= [] /\ Q σ H
noncomputable def A5 (t:TG)(u:HW):HW:=λvs σ H Q=> ∃v r,vs=v::r /\ t v σ H λσ' H'=>u r σ' H' Q
def jE:U9 X [] OM:=by intro pins s σ H vs us Q I r h;let⟨e,h⟩:=h;subst e;cases r;exact assignInOrder_nil #[σ,H,I,h]
def eD (h1:PG X e t)(h2:U9 X es u)(hs:(assignEach (e::es) X.env).map (·.2)=assign e X.env::(assignEach es X.env).map (·.2):=by rfl):U9 X (e::es) (A5 t u):=by
 intro pins s σ H vs us Q I r h;let⟨v,vr,e1,h⟩:=h;subst e1;cases r with
 | cons r rr=>rw[hs];refine assignInOrder_cons (dt (h1 pins s σ H _ _ _ I r h) λ_ s1 ⟨σ1,H1,I1,q1⟩=> ?_);exact h2 pins s1 σ1 H1 _ _ Q I1 rr q1
noncomputable def OL (K:PySem.W.Frag)(n:Nat)(t:HW):TG:=λv σ H Q=> ∃a xs,v= .ref a /\ jj K H a xs /\ xs.length=n /\ t xs σ H Q
def lS {k:Nat}(hc:X.calm=true)(h:U9 X es t)(hn:(assignEach es X.env).length=n:=by rfl)(kP:(assignEach es X.env).findIdx? (·.1)=none:=by rfl):PG X (.Tuple es k pos) (OL X.K n t):=by intro pins s σ H v u Q I r hw;let⟨a,xs,e1,hq,hl,hw⟩:=hw;subst e1;cases r;let⟨its,rv,ht,hz⟩:=I.tuple hq;refine assign_Tuple_tuple (I.ok.hd hc) ht (by simp[hn, <- hl,rv.length]) kP λh' hx=> ?_;have I1:Inv X pins σ H {s with heap:=h'}:=I.kept (t':=s.toks) λb o e=>hx b o (a5 (aF e)) e;exact h pins _ σ H xs _ Q I1 (by simpa using rv) hw
noncomputable def S3 (to ti:TE)(t:Ho):TG:=λv σ H Q=>to σ H λo H1=>ti σ H1 λi H2=>t o i v H2 λH3=>Q σ H3
theorem lT (ho:PE X o to)(hi:PE X i ti)(hs:Tx X t)(ha: ∀v,assign (.Subscript o i pos) X.env v=(do
  let ov <- holding [v] (eval o X.env)
  let iv <- holding [v,ov] (eval i X.env)
  standAt pos
  holding [v,ov,iv] (setItem ov iv v)
  release [v,ov,iv] []):=by intro _;rfl):PG X (.Subscript o i pos) (S3 to ti t):=by
 intro pins s σ H v u Q I r h
 rw[ha]
 refine ak (wpAny_holding (dt (ho pins s σ H _ I h) λov s1 ⟨x,H1,I1,r1,q1⟩=> ?_))
 refine ak (wpAny_holding (dt (hi pins s1 σ H1 _ I1 q1) λiv s2 ⟨y,H2,I2,r2,q2⟩=> ?_))
 refine ak (wpAny_standAt (ak (wpAny_holding (dt (hs pins s2 σ H2 x y v ov iv u _ I2 r1 r2 r q2) λ_ s3 ⟨H3,I3,q3⟩=> ?_))))
 exact wpAny_release #[σ,H3,I3,q3]
noncomputable def Ex (te:TE)(g:TG):TS:=λD σ H=>te σ H λx H1=>g x σ H1 D.nx
def lR (he:PE X e te)(hg:PG X tg g)(hs:swapsWithSole [tg] e pos.line X.env=pure false:=by rfl)(hw:swappedStores [tg] e X.env=pure none:=by rfl)(h1:(assignEach [tg] X.env).map (·.2)= [assign tg X.env]:=by rfl):PS X (.Assign [tg] e pos) (Ex te g):=by intro pins s σ H D I h;refine wpAny_Assign_stores (dt (he pins s σ H _ I h) λv s1 ⟨x,H1,I1,r1,q1⟩=> ?_) hs hw;rw[h1];exact dt (hg pins s1 σ H1 x v _ I1 r1 q1) λ_ s2 q=>q
def bU (hN:X.N.Nodup)(hi:X.N[i]? =some x)(hx:Loc X.env.scope x)(he:PE X e te)(hs:swapsWith e (some (.Name x pos')) pos.line X.env=pure false:=by rfl)(hf:X.fn x=true \/ X.env.scope.names.lookup x=some .local:=by first | exact .inl rfl | exact .inr rfl | assumption): PS X (.Assign [.Name x pos'] e pos) (Ex te (nB i)):=by intro pins s σ H D I h;refine wpAny_Assign_Name (dt (he pins s σ H _ I h) λv s1 ⟨y,H1,I1,r1,q1⟩=> ?_) hs;exact vX I1 hN hi hx r1 (λs2 I2=>#[_,H1,I2,q1]) hf
end
section
variable {X:Cx}{pos:Pos}
noncomputable def Eh (c:TT)(tb:TS):TS:=λD σ H=> ∃W:Nat ->St ->Hp ->Prop,(∃m,W m σ H) /\ ∀m σ H,W m σ H ->c σ H λb H1=>if b=true then ∃N:St ->Hp ->Prop,(∀σ' H',N σ' H' -> ∃m',m'<m /\ W m' σ' H') /\ tb {D with nx:=N,ct:=N,bk:=D.nx} σ H1 else D.nx σ H1
def mN (hp:PassesOwn (model X.prog X.w) X.A X.env X.xe)(hc:PT X c tc)(hb:yq X body tb):PS X (.While c body [] pos) (Eh tc tb):=by
 intro pins s σ H D I h;let⟨W,⟨m0,w0⟩,turn⟩:=h;refine wpAny_While (codeAny_whileLoop (λn s'=> ∃σ' H',Inv X pins σ' H' s' /\ W n σ' H') ?_ m0 #[σ,H,I,w0]);rintro n s1 ⟨σ1,H1,I1,w1⟩;refine wpAny_passesOwn hp (dt (hc pins s1 σ1 H1 _ I1 (turn n σ1 H1 w1)) λb s2 ⟨H2,I2,q2⟩=> ?_);cases b with
 | true=>
  let⟨N,hN,q2⟩:=q2;rw[aj rfl];refine wpAny_passesOwn hp (dt (hb pins s2 σ1 H2 _ I2 q2) λf s3 q3=> ?_);cases f with
  | next=>let⟨σ3,H3,I3,n3⟩:=q3;let⟨m',hm,w3⟩:=hN σ3 H3 n3;exact#[m',hm,σ3,H3,I3,w3]
  | cont=>let⟨σ3,H3,I3,n3⟩:=q3;let⟨m',hm,w3⟩:=hN σ3 H3 n3;exact#[m',hm,σ3,H3,I3,w3]
  | brk=>exact q3
  | ret v=>exact q3
 | false=>rw[ah aX];exact wpAny_execs_nil #[σ1,H2,I2,q2]
end
structure It where
 go:Nat ->Hp ->Prop
 Ms:Nat ->Hp ->V ->Hp ->Prop
 stop:Nat ->Hp ->Prop
noncomputable def jA (X:Cx)(pins:List (Addr×Obj))(H:Hp)(b:Addr):Prop:=H b=none /\ b≠X.env.locals /\ b∉X.fs /\ (b∈X.ex \/ X.s₀.heap.objs.size<=b) /\ (∀x c,X.env.cells.lookup x=some c ->c≠b) /\ ∀p∈X.pn++pins,p.1≠b
def Inv.xy {σ:St}{b:Addr}(I:Inv X pins σ H s)(hb:s.heap.objs.size<=b)(hn:H' b=none):jA X pins H' b:=by
 refine#[hn,Nat.ne_of_gt (bS I.lt hb),I.VY hb, .inr (aZ I.sz hb),λx c e z=> ?_,λp hp z=> ?_]
 .let⟨v,q⟩:=I.cell x c e;exact absurd (bS q.lt (by rw[z];exact hb)) (cz _)
 .exact absurd (bS (aF (I.pin p hp).1) (by rw[z];exact hb)) (cz _)
structure Turn (P:Program)(w:World)(K:PySem.W.Frag)(tg:Expr)(J:It)(fp:List Addr)(it:Addr)(tn:Nat ->Heap ->Prop):Prop where
 mem:it∈fp
 obj: ∀i h,tn i h -> ∀b∈fp, ∃o,h.get? b=some o /\ ∀v,o.data≠ .cell v
 keep: ∀i h h',tn i h ->(∀b∈fp, ∀o,h.get? b=some o ->h'.get? b=some o) ->tn i h'
 item: ∀ (X:Cx),X.prog=P ->X.w=w ->X.K=K ->X.calm=true -> ∀ (i:Nat) (pins:List (Addr×Obj)) (s:Shared) (σ:St) (H:Hp) (E:Value ->Shared ->Prop),Inv X pins σ H s ->(∀b∈fp,jA X pins H b) ->tn i s.heap ->J.go i H ->wpAny (model P w) X.A (pyNext (.ref it)) (λr s1=> ∃u,r=some u /\wpAny (model P w) X.A (letOwnedTupleGo tg (.ref it) u) (λ_ s2=> ∃x H',Inv X pins σ H' s2 /\ RelV x u /\ J.Ms i H x H' /\ tn (i+1) s2.heap /\ ∀b∈fp,H' b=none) E s1) E s
 done: ∀ (X:Cx),X.prog=P ->X.w=w ->X.K=K ->X.calm=true -> ∀ (i:Nat) (pins:List (Addr×Obj)) (s:Shared) (σ:St) (H:Hp) (E:Value ->Shared ->Prop),Inv X pins σ H s ->(∀b∈fp,jA X pins H b) ->tn i s.heap ->J.stop i H ->wpAny (model P w) X.A (pyNext (.ref it)) (λr s1=>r=none /\ Inv X pins σ H s1) E s
 self: ∀ (A:Around) (i:Nat) (s:Shared) (Q:Value ->Shared ->Prop) (E:Value ->Shared ->Prop),tn i s.heap ->Q (.ref it) s ->wpAny (model P w) A (pyIter (.ref it)) Q E s
noncomputable abbrev TI:=St ->Hp ->(It ->Hp ->Prop) ->Prop
noncomputable def PIE (X:Cx)(pins:List (Addr×Obj))(σ:St)(tg:Expr)(R:It ->Hp ->Prop)(Pr:Value)(s2:Shared):Prop:=∃ (it:Addr) (fp:List Addr) (tn:Nat ->Heap ->Prop) (J:It) (H':Hp),Pr= .ref it /\ Inv X pins σ H' s2 /\ Turn X.prog X.w X.K tg J fp it tn /\ tn 0 s2.heap /\ (∀b∈fp,jA X pins H' b) /\ R J H'
noncomputable def PI (X:Cx)(tg iter:Expr)(wi:TI):Prop:=∀ (pins:List (Addr×Obj)) (s:Shared) (σ:St) (H:Hp) (R:It ->Hp ->Prop),Inv X pins σ H s ->wi σ H R ->wpAny (model X.prog X.w) X.A (eval iter X.env) (λv s1=>wpAny (model X.prog X.w) X.A (pyIter v) (PIE X pins σ tg R) X.xe s1) X.xe s
def A4 (ho:s.heap.get? it=some o)(hc:o.cls= .type n)(hd:o.data= .fields vs)(hn: ["enumerate","zip","dict_itemiterator","dict_reverseitemiterator","odict_iterator","itertools.zip_longest","itertools.pairwise"].contains n=false)(hQ:Q () s):wpAny M A (letOwnedTupleGo tg (.ref it) u) Q E s:=by
 unfold letOwnedTupleGo;cases tg <;>first
 | exact aO hQ
 | (cases u<;>first
  | exact aO hQ
  | (refine ak (wpAny_load ho ?_)
     rw[hc,hd]
     show wpAny M A (if(["enumerate","zip","dict_itemiterator","dict_reverseitemiterator","odict_iterator","itertools.zip_longest","itertools.pairwise"].contains n && vs[0]? ==some (rawInt _))=true then _ else _) Q E s
     rw[ah (by intro h;rw[hn,Bool.false_and] at h;cases h)]
     exact aO hQ))
noncomputable def Va (K:PySem.W.Frag)(a:Addr):It:=#[λi H=> ∃xs x,gB K H a xs /\ xs[i]? =some x,λi H x H'=>H'=H /\ ∀xs,gB K H a xs ->xs[i]? =some x,λi H=> ∃xs,gB K H a xs /\ xs.length<=i]
noncomputable def U' (K:PySem.W.Frag)(a:Addr):It:=#[λi H=> ∃xs x,jj K H a xs /\ xs[i]? =some x,λi H x H'=>H'=H /\ ∀xs,jj K H a xs ->xs[i]? =some x,λi H=> ∃xs,jj K H a xs /\ xs.length<=i]
noncomputable def TL (lo:Int)(n:Nat):It:=#[λi _=>i<n,λi H x H'=>H'=H /\ x= .int (lo+i),λi _=>n<=i]
def sq {P:Program}{w:World}{K:PySem.W.Frag}{tg:Expr}(a it:Addr):Turn P w K tg (Va K a) [it] it (λi h=>h.IsListIter it a i) where
 mem:=by simp
 obj:=λi h st b hb=>by
  have e:b=it:=by simpa using hb
  subst e;let⟨o,e,c,d⟩:=st;exact#[o,e,λv z=>by rw[d] at z;cases z]
 keep:=λi h h' st k=>st.at λo e=>k it (by simp) o e
 item:=by intro X hP hw hK hc i pins s σ H E I hf st hg;subst hP hw hK;let⟨xs,x,hq,hx⟩:=hg;let⟨its,rv,p,hz⟩:=I.list hq;let⟨u,hu,ru⟩:=rv.get hx;let⟨f0,f1,f2,f3,f4,f5⟩:=hf it (by simp);refine wpAny_pyNext_list_item st p.isList (x:=u) (by simpa using hu) λh' bG sb=> ?_;have I1:Inv X pins σ H {s with heap:=h'}:=I.turned (t':=s.toks) (λb o hb e=>(sb.2 b hb).trans e) f0 f1 f3 f4 f5;let⟨o,e,c,d⟩:=id bG;exact#[u,rfl,A4 (s:= {s with heap:=h'}) e c d (by decide) #[x,H,I1,ru,#[rfl,λys hy=>by rw[I.list_inj hy hq];exact hx],bG,λb hb=>(hf b hb).1]]
 done:=by intro X hP hw hK hc i pins s σ H E I hf st hg;subst hP hw hK;let⟨xs,hq,hx⟩:=hg;let⟨its,rv,p,hz⟩:=I.list hq;let⟨f0,f1,f2,f3,f4,f5⟩:=hf it (by simp);have hl:=rv.length;exact wpAny_pyNext_list_end (I.ok.hd hc) st p.isList (by simp;lia) λh' eb=>#[rfl,I.turned (t':=s.toks) (λb o hb e=>eb b o hb e) f0 f1 f3 f4 f5]
 self:=λ_ _ _ _ _ st h=>wpAny_pyIter_listiter st h
def qk {P:Program}{w:World}{K:PySem.W.Frag}{tg:Expr}(a it:Addr):Turn P w K tg (U' K a) [it] it (λi h=>h.IsTupleIter it a i) where
 mem:=by simp
 obj:=λi h st b hb=>by
  have e:b=it:=by simpa using hb
  subst e;let⟨o,e,c,d⟩:=st;exact#[o,e,λv z=>by rw[d] at z;cases z]
 keep:=λi h h' st k=>st.at λo e=>k it (by simp) o e
 item:=by intro X hP hw hK hc i pins s σ H E I hf st hg;subst hP hw hK;let⟨xs,x,hq,hx⟩:=hg;let⟨its,rv,p,hz⟩:=I.tuple hq;let⟨u,hu,ru⟩:=rv.get hx;let⟨f0,f1,f2,f3,f4,f5⟩:=hf it (by simp);refine wpAny_pyNext_tuple_item st (show s.heap.IsTuple a its.toArray from p) (x:=u) (by simpa using hu) λh' bG sb=> ?_;have I1:Inv X pins σ H {s with heap:=h'}:=I.turned (t':=s.toks) (λb o hb e=>(sb.2 b hb).trans e) f0 f1 f3 f4 f5;let⟨o,e,c,d⟩:=id bG;exact#[u,rfl,A4 (s:= {s with heap:=h'}) e c d (by decide) #[x,H,I1,ru,#[rfl,λys hy=>by rw[I.nY hy hq];exact hx],bG,λb hb=>(hf b hb).1]]
 done:=by intro X hP hw hK hc i pins s σ H E I hf st hg;subst hP hw hK;let⟨xs,hq,hx⟩:=hg;let⟨its,rv,p,hz⟩:=I.tuple hq;let⟨f0,f1,f2,f3,f4,f5⟩:=hf it (by simp);have hl:=rv.length;exact wpAny_pyNext_tuple_end (I.ok.hd hc) st (show s.heap.IsTuple a its.toArray from p) (by simp;lia) λh' eb=>#[rfl,I.turned (t':=s.toks) (λb o hb e=>eb b o hb e) f0 f1 f3 f4 f5]
 self:=λ_ _ _ _ _ st h=>wpAny_pyIter_tupleiter st h
def yA {P:Program}{w:World}{K:PySem.W.Frag}{tg:Expr}(it:Addr)(lo:Int)(n:Nat):Turn P w K tg (TL lo n) [it] it (λi h=>IsRangeIter h it (lo+(i:Nat)*1) ((n:Int) - (i:Nat)) 1) where
 mem:=by simp
 obj :=λi h st b hb=>by
  have e:b=it:=by simpa using hb
  subst e;exact#[_,st,λv z=>by have z':Data.fields _=Data.cell v:=z;cases z']
 keep:=λi h h' st k=>k it (by simp) _ st
 item:=by intro X hP hw hK hc i pins s σ H E I hf st hg;subst hP hw hK;let⟨f0,f1,f2,f3,f4,f5⟩:=hf it (by simp);have W:=Walks.range (prog:=X.prog) (w:=X.w) (I.ok.hd hc) it lo 1 n;refine W.item i s _ _ hg st λv h' tk hv bG kk=> ?_;let⟨t,rfl⟩:=hv;have I1:Inv X pins σ H {s with heap:=h',toks:=tk}:=I.turned (λb o hb e=>kk b o (by simpa using hb) e) f0 f1 f3 f4 f5;refine#[_,rfl,A4 (s:= {s with heap:=h',toks:=tk}) (n:= "range_iterator") bG rfl rfl (by decide) #[.int (lo+i),H,I1,#[t,?_],#[rfl,rfl],bG,λb hb=>(hf b hb).1]];rw[dm]
 done:=by intro X hP hw hK hc i pins s σ H E I hf st hg;subst hP hw hK;let⟨f0,f1,f2,f3,f4,f5⟩:=hf it (by simp);exact wpAny_pyNext_range_end (I.ok.hd hc) st (by have:n<=i:=hg;lia) λh' eb=>#[rfl,I.turned (t':=s.toks) (λb o hb e=>eb b o hb e) f0 f1 f3 f4 f5]
 self:=λ_ _ _ _ _ st h=>wpAny_pyIter_rangeiter st h
section
variable {X:Cx}{tg:Expr}
noncomputable def Gd (K:PySem.W.Frag)(tl:TE):TI:=λσ H R=>tl σ H λx H1=> ∃a,x= .ref a /\ (∃xs,gB K H1 a xs) /\ R (Va K a) H1
noncomputable def RY (K:PySem.W.Frag)(tl:TE):TI:=λσ H R=>tl σ H λx H1=> ∃a,x= .ref a /\ (∃xs,jj K H1 a xs) /\ R (U' K a) H1
def eR (hl:PE X l tl):PI X tg l (Gd X.K tl):=by
 intro pins s σ H R I h;refine dt (hl pins s σ H _ I h) λv s1 ⟨x,H1,I1,r1,q1⟩=> ?_;let⟨a,e,⟨xs,hq⟩,q⟩:=q1;subst e;cases r1;let⟨its,rv,p,hz⟩:=I1.list hq;refine wpAny_pyIter_list p.isList ?_;refine#[s1.heap.objs.size,[s1.heap.objs.size],_,_,H1,rfl,I1.kept (t':=s1.toks) λb o e=>aq _ e,sq a _,#[_,aS _ rfl,rfl,rfl],λb hb=> ?_,q];have e:b=s1.heap.objs.size:=by simpa using hb
 subst e;exact I1.xy (ao _) (I1.dv.fresh (ao _))
def uW (hl:PE X l tl):PI X tg l (RY X.K tl):=by
 intro pins s σ H R I h;refine dt (hl pins s σ H _ I h) λv s1 ⟨x,H1,I1,r1,q1⟩=> ?_;let⟨a,e,⟨xs,hq⟩,q⟩:=q1;subst e;cases r1;let⟨its,rv,p,hz⟩:=I1.tuple hq;refine wpAny_pyIter_tuple (show s1.heap.IsTuple a its.toArray from p) ?_;refine#[s1.heap.objs.size,[s1.heap.objs.size],_,_,H1,rfl,I1.kept (t':=s1.toks) λb o e=>aq _ e,qk a _,#[_,aS _ rfl,rfl,rfl],λb hb=> ?_,q];have e:b=s1.heap.objs.size:=by simpa using hb
 subst e;exact I1.xy (ao _) (I1.dv.fresh (ao _))
def wy {σ:St}{lo hi:Int}(I:Inv X pins σ H s)(h1: -(2 ^ 62) <=lo)(h2:lo<2 ^ 62)(h3: -(2 ^ 62) <=hi)(h4:hi<2 ^ 62)(q:R (TL lo (hi - lo).toNat) H):wpAny (model X.prog X.w) X.A (pyIter (.ref s.heap.objs.size)) (PIE X pins σ tg R) E {s with heap:=s.heap.push {cls:= .type "range",data:= .fields (List.toArray [.int lo t, .int hi u, .int 1 v])},toks:=tk}:=by
 refine wpAny_pyIter_range (IsRange.new ..) (small_one h1 h2 h3 h4) ?_;have I1:Inv X pins σ H {s with heap:=s.heap.push {cls:= .type "range",data:= .fields (List.toArray [.int lo t, .int hi u, .int 1 v])},toks:=tk}:=I.kept λb o e=>aq _ e;refine#[(s.heap.push {cls:= .type "range",data:= .fields (List.toArray [.int lo t, .int hi u, .int 1 v])}).objs.size,[(s.heap.push {cls:= .type "range",data:= .fields (List.toArray [.int lo t, .int hi u, .int 1 v])}).objs.size],_,_,H,rfl,I1.kept (t':=tk) λb o e=>aq _ e,yA _ lo (hi - lo).toNat,?_,λb hb=> ?_,q]
 .have e1:lo+((0:Nat):Int)*1=lo:=by simp
  have e2:(((hi - lo).toNat:Nat):Int) - ((0:Nat):Int)=Builtin.Range.rangeSize lo hi 1:=by rw[rangeSize_one];split<;>lia
  show IsRangeIter _ _ (lo+((0:Nat):Int)*1) ((((hi - lo).toNat:Nat):Int) - ((0:Nat):Int)) 1;rw[e1,e2];exact aS _ rfl
 .have e:b=(s.heap.push {cls:= .type "range",data:= .fields (List.toArray [.int lo t, .int hi u, .int 1 v])}).objs.size:=by simpa using hb
  subst e;exact I1.xy (ao _) (I1.dv.fresh (ao _))
noncomputable def Lz (ta:TA):TI:=λσ H R=>ta σ H λvs H1=> ∃j:Int,vs= [.int j] /\ -(2 ^ 62) <=j /\ j<2 ^ 62 /\ R (TL 0 j.toNat) H1
noncomputable def Ly (ta:TA):TI:=λσ H R=>ta σ H λvs H1=> ∃i j:Int,vs= [.int i, .int j] /\ (-(2 ^ 62) <=i /\ i<2 ^ 62 /\ -(2 ^ 62) <=j /\ j<2 ^ 62) /\ R (TL i (j - i).toNat) H1
def f9 (hg:Gl X "range")(hm:X.mg "range" =none)(ha:PA X [a] ta)(hs:starEach [a] X.env= [(false,eval a X.env)]:=by rfl):PI X tg (.Call (.Name "range" p) [a] [] pos) (Lz ta):=by
 intro pins s σ H R I h;refine Call_ (gJ I hg hm boot_range (bP (dt (ha pos pins s σ H _ I h) λus s1 ⟨vs,H1,I1,r1,q1⟩=> ?_) hs rfl));let⟨j,e,q1,q2,q⟩:=q1;subst e;cases r1 with
 | cons r rr=>cases rr;let⟨t,rfl⟩:=r;exact call_range_1 (wy I1 (by lia) (by lia) q1 q2 (by simpa using q))
def sP {p pos:Pos}(hg:Gl X "range")(hm:X.mg "range" =none)(ha:PA X [a,b] ta)(hs:starEach [a,b] X.env= [(false,eval a X.env),(false,eval b X.env)]:=by rfl)(jU:starEach [b] X.env= [(false,eval b X.env)]:=by rfl): PI X tg (.Call (.Name "range" p) [a,b] [] pos) (Ly ta):=by
 intro pins s σ H R I h;refine Call_ (gJ I hg hm boot_range (bP (dt (ha pos pins s σ H _ I h) λus s1 ⟨vs,H1,I1,r1,q1⟩=> ?_) (by rw[hs,jU]) (by rw[jU];rfl)));let⟨i,j,e,⟨q1,q2,q3,q4⟩,q⟩:=q1;subst e;cases r1 with
 | cons r rr=>
  cases rr with
  | cons r' rr=>cases rr;let⟨t,rfl⟩:=r;let⟨t',rfl⟩:=r';exact call_range_2 (wy I1 q1 q2 q3 q4 q)
noncomputable def QN (wi:TI)(g:TG)(tb:TS):TS:=λD σ H=>wi σ H λJ H1=> ∃W:Nat ->Nat ->St ->Hp ->Prop,(∃m,W 0 m σ H1) /\ ∀i m σ H,W i m σ H ->(J.stop i H /\ D.nx σ H) \/ (J.go i H /\ ∃N:St ->Hp ->Prop,(∀σ' H',N σ' H' -> ∃m',m'<m /\ W (i+1) m' σ' H') /\ ∀x H',J.Ms i H x H' ->g x σ H' λσ2 H2=>tb {D with nx:=N,ct:=N,bk:=D.nx} σ2 H2)
noncomputable def iK (fp:List Addr)(h:Heap):List (Addr×Obj):=fp.filterMap λb=>(h.get? b).map λo=>(b,o)
theorem fD (hb:b∈fp)(e:h.get? b=some o):(b,o)∈iK fp h:=List.mem_filterMap.mpr #[b,hb,by rw[e];rfl]
def Cd (hp:p∈iK fp h):p.1∈fp /\ h.get? p.1=some p.2:=by
 let⟨b,hb,e⟩:=List.mem_filterMap.mp hp;cases q:h.get? b with
 | none=>rw[q] at e;cases e
 | some o=>rw[q] at e;have e':(b,o)=p:=bA e;subst e';exact#[hb,q]
theorem Inv.pinned {σ:St}(I:Inv X pins σ H s)(hf: ∀b∈fp,jA X pins H b)(ho: ∀b∈fp, ∃o,s.heap.get? b=some o /\ ∀v,o.data≠ .cell v):Inv X (pins++iK fp s.heap) σ H s:=I.Az λp hp=>(ax.mp hp).elim (λz=>I.pin p (aV _ z)) λz=>by let⟨hb,e⟩:=Cd z;let⟨f0,f1,f2,_⟩:=hf p.1 hb;let⟨o,e',d⟩:=ho p.1 hb;rw[e] at e';cases e';exact#[e,f0,f1,f2,d]
theorem Inv.jk {σ:St}(I:Inv X (pins++pl) σ H s):Inv X pins σ H s:=I.Az λp hp=>I.pin p (aV _ (List.mem_append_left _ hp))
def fX (hp:PassesOwn (model X.prog X.w) X.A X.env X.xe)(hc:X.calm=true)(hi:PI X tg iter wi)(hg:PG X tg g)(hb:yq X body tb)(hs: ∀x,foldedSetIterable iter X.env x=pure x:=by intro _;rfl):PS X (.For tg iter body [] pos) (QN wi g tb):=by
 intro pins s σ H D I h;refine wpAny_For (dt (hi pins s σ H _ I h) λv s1 h1=>dt h1 λPr s2 h2=> ?_) hs;let⟨it,fp,tn,J,H2,e,I2,T,lK,f2,W,⟨m0,w0⟩,turn⟩:=h2;subst e;have qo: ∀ {H':Hp},(∀b∈fp,H' b=none) -> ∀b∈fp,jA X pins H' b:=λhn b hb=>#[hn b hb,(f2 b hb).2]
 refine codeAny_forLoop_any (λn s'=> ∃i σ' H',Inv X pins σ' H' s' /\ tn i s'.heap /\ (∀b∈fp,H' b=none) /\ W i n σ' H') ?_ m0 #[0,σ,H2,I2,lK,λb hb=>(f2 b hb).1,w0];rintro n s3 ⟨i,σ3,H3,I3,oR,JS,w3⟩;rcases turn i n σ3 H3 w3 with⟨stop,qn⟩ | ⟨go,N,hN,step⟩
 .refine wpAny_passesOwn hp (dt (T.done X rfl rfl rfl hc i pins s3 σ3 H3 X.xe I3 (qo JS) oR stop) λr s4 ⟨hr,I4⟩=> ?_);subst hr;exact wpAny_execs_nil #[σ3,H3,I4,qn]
 .refine wpAny_passesOwn hp (dt (T.item X rfl rfl rfl hc i pins s3 σ3 H3 X.xe I3 (qo JS) oR go) λr s4 ⟨u,hr,h4⟩=> ?_);subst hr;refine wpAny_passesOwn hp (dt h4 λ_ s5 ⟨x,H5,I5,r5,y5,Pg,fr5⟩=> ?_);have I5':=I5.pinned (qo fr5) (T.obj _ _ Pg);refine wpAny_passesOwn hp (dt (hg _ s5 σ3 H5 x u _ I5' r5 (step x H5 y5)) λ_ s6 ⟨σ6,H6,I6,q6⟩=> ?_);refine wpAny_passesOwn hp (dt (hb _ s6 σ6 H6 _ I6 q6) λf s7 q7=> ?_);have again: ∀ {σ7:St} {H7:Hp},Inv X (pins++iK fp s5.heap) σ7 H7 s7 ->N σ7 H7 -> ∃m,m<n /\ ∃i σ' H',Inv X pins σ' H' s7 /\ tn i s7.heap /\ (∀b∈fp,H' b=none) /\ W i m σ' H':=λ{σ7 H7} I7 n7=>by let⟨m',hm,w7⟩:=hN σ7 H7 n7;refine#[m',hm,i+1,σ7,H7,I7.jk,T.keep _ _ _ Pg λb hb o e=>(I7.pin (b,o) (aV _ (aV _ (fD hb e)))).1,λb hb=> ?_,w7];let⟨o,e,d⟩:=T.obj _ _ Pg b hb;exact(I7.pin (b,o) (aV _ (aV _ (fD hb e)))).2.1
  cases f with
  | next=>let⟨σ7,H7,I7,n7⟩:=q7;exact again I7 n7
  | cont=>let⟨σ7,H7,I7,n7⟩:=q7;exact again I7 n7
  | brk=>let⟨σ7,H7,I7,q7⟩:=q7;exact#[σ7,H7,I7.jk,q7]
  | ret v=>let⟨x7,σ7,H7,I7,r7,q7⟩:=q7;exact#[x7,σ7,H7,I7.jk,r7,q7]
end
noncomputable abbrev R2:=V ->V ->Hp ->VK ->Prop
noncomputable def qf (X:Cx)(f:Value ->Value ->Sem Value)(r:R2):Prop:=∀ (pins:List (Addr×Obj)) (s:Shared) (σ:St) (H:Hp) (x y:V) (v u:Value) (Q:VK),Inv X pins σ H s ->RelV x v ->RelV y u ->r x y H Q ->wpAny (model X.prog X.w) X.A (f v u) (EP X pins σ Q) X.xe s
noncomputable def Zi (X:Cx)(f:Value ->Sem Value)(r:V ->Hp ->VK ->Prop):Prop:=∀ (pins:List (Addr×Obj)) (s:Shared) (σ:St) (H:Hp) (x:V) (v:Value) (Q:VK),Inv X pins σ H s ->RelV x v ->r x H Q ->wpAny (model X.prog X.w) X.A (f v) (EP X pins σ Q) X.xe s
noncomputable def gg (X:Cx)(f:Value)(r:List V ->Hp ->VK ->Prop):Prop:=∀ (pins:List (Addr×Obj)) (s:Shared) (σ:St) (H:Hp) (xs:List V) (us:List Value) (Q:VK),Inv X pins σ H s ->Vals xs us ->r xs H Q ->wpAny (model X.prog X.w) X.A (call f us) (EP X pins σ Q) X.xe s
noncomputable def Zj (X:Cx)(r:V ->Hp ->(Bool ->Hp ->Prop) ->Prop):Prop:=∀ (pins:List (Addr×Obj)) (s:Shared) (σ:St) (H:Hp) (x:V) (v:Value) (Q:Bool ->Hp ->Prop),Inv X pins σ H s ->RelV x v ->r x H Q ->wpAny (model X.prog X.w) X.A (truthy v) (TP X pins σ Q) X.xe s
noncomputable def QJ (r:R2)(ta tb:TE):TE:=λσ H Q=>ta σ H λx H1=>tb σ H1 λy H2=>r x y H2 Q
noncomputable def ZI (r:V ->Hp ->VK ->Prop)(ta:TE):TE:=λσ H Q=>ta σ H λx H1=>r x H1 Q
noncomputable def rI (C:Int ->Int ->Prop)(g:Int ->Int ->V):R2:=λx y H Q=> ∃i j,x= .int i /\ y= .int j /\ C i j /\ Q (g i j) H
noncomputable def Lh (g:Int ->Int ->V):R2:=λx y H Q=> ∃i j,x= .int i /\ y= .int j /\ Q (g i j) H
noncomputable def rU (g:Int ->V):V ->Hp ->VK ->Prop:=λx H Q=> ∃i,x= .int i /\ Q (g i) H
section
variable {X:Cx}{a b c:Expr}{ta tb tc:TE}{pos:Pos}
def O1 (ha:PE X a ta)(hb:PE X b tb){σ:St}{R:V ->V ->Hp ->Prop}(I:Inv X pins σ H s)(h:ta σ H λx H1=>tb σ H1 λy H2=>R x y H2){f:Value ->Value ->Sem Value}(hf: ∀v u s2 x y H2,Inv X pins σ H2 s2 ->RelV x v ->RelV y u ->R x y H2 ->wpAny (model X.prog X.w) X.A (f v u) Q X.xe s2): wpAny (model X.prog X.w) X.A (eval a X.env) (λv s₁=>wpAny (model X.prog X.w) X.A (eval b X.env) (λu s₂=>wpAny (model X.prog X.w) X.A (f v u) Q X.xe s₂) X.xe s₁) X.xe s:=by refine dt (ha pins s σ H _ I h) λv s1 ⟨x,H1,I1,r1,q1⟩=> ?_;refine dt (hb pins s1 σ H1 _ I1 q1) λu s2 ⟨y,H2,I2,r2,q2⟩=> ?_;exact hf v u s2 x y H2 I2 r1 r2 q2
def bH (ho:qf X (binaryOp op) r)(ha:PE X a ta)(hb:PE X b tb):PE X (.BinOp a op b pos) (QJ r ta tb):=by intro pins s σ H Q I h;exact wpAny_BinOp (O1 ha hb I h λv u s2 x y H2 I2 rx ry q=>ho pins s2 σ H2 x y v u Q I2 rx ry q)
def hW (ho:Zi X (unaryOp op) r)(ha:PE X a ta):PE X (.UnaryOp op a pos) (ZI r ta):=by intro pins s σ H Q I h;exact UnaryOp_ (dt (ha pins s σ H _ I h) λv s1 ⟨x,H1,I1,r1,q1⟩=>ho pins s1 σ H1 x v Q I1 r1 q1)
def Uh {g:Int ->Int ->Int}(rule: ∀ (i j:Int) (t u:Tok) (s:Shared) (Q:Value ->Shared ->Prop) (E:Value ->Shared ->Prop),C i j ->Q (.int (g i j) s.toks) {s with toks:=s.toks+1} ->wpAny (model X.prog X.w) X.A (f (.int i t) (.int j u)) Q E s): qf X f (rI C λi j=> .int (g i j)):=by intro pins s σ H x y v u Q I rx ry h;let⟨i,j,rfl,rfl,hc,q⟩:=h;let⟨t,rfl⟩:=rx;let⟨t',rfl⟩:=ry;exact rule i j t t' s _ _ hc #[.int (g i j),H,I.tok _,#[_,rfl],q]
def Rr {g:Int ->Int ->Int}(rule: ∀ (i j:Int) (t u:Tok) (s:Shared) (Q:Value ->Shared ->Prop) (E:Value ->Shared ->Prop),Q (.int (g i j) s.toks) {s with toks:=s.toks+1} ->wpAny (model X.prog X.w) X.A (f (.int i t) (.int j u)) Q E s): qf X f (Lh λi j=> .int (g i j)):=by intro pins s σ H x y v u Q I rx ry h;let⟨i,j,rfl,rfl,q⟩:=h;let⟨t,rfl⟩:=rx;let⟨t',rfl⟩:=ry;exact rule i j t t' s _ _ #[.int (g i j),H,I.tok _,#[_,rfl],q]
def NM {g:Int ->Int ->Bool}(rule: ∀ (i j:Int) (t u:Tok) (s:Shared) (Q:Value ->Shared ->Prop) (E:Value ->Shared ->Prop),Q (.bool (g i j)) s ->wpAny (model X.prog X.w) X.A (f (.int i t) (.int j u)) Q E s): qf X f (Lh λi j=> .bl (g i j)):=by intro pins s σ H x y v u Q I rx ry h;let⟨i,j,rfl,rfl,q⟩:=h;let⟨t,rfl⟩:=rx;let⟨t',rfl⟩:=ry;exact rule i j t t' s _ _ #[.bl (g i j),H,I,rfl,q]
noncomputable def zQ (i j:Int):Prop:=0<j /\ j<1073741824
noncomputable def Pc (i j:Int):Prop:=0<=j /\ j<=1000000 /\ i.natAbs<2 ^ 64
noncomputable def gM (i j:Int):Prop:=(-(2 ^ 64) <i /\ i<2 ^ 64) \/ (-(2 ^ 64) <j /\ j<2 ^ 64)
def gM.ok (h:gM i j):IntMulOk i j:=by
 rcases h with⟨h1,h2⟩ | ⟨h1,h2⟩
 .exact .of_left (intBits_le_64 h1 h2)
 .exact .of_right (intBits_le_64 h1 h2)
theorem eN:qf X (binaryOp .Add) (Lh λi j=> .int (i+j)):=Rr λ_ _ _ _ _ _ _ q=>add_int q
theorem gH:qf X (binaryOp .Sub) (Lh λi j=> .int (i - j)):=Rr λ_ _ _ _ _ _ _ q=>sub_int q
theorem e9:qf X (binaryOp .Mult) (rI gM λi j=> .int (i*j)):=Uh λ_ _ _ _ _ _ _ hc q=>mul_int q hc.ok
theorem uY:qf X (binaryOp .FloorDiv) (rI zQ λi j=> .int (i / j)):=Uh λi j _ _ _ _ _ hc q=>by have h1:(0:Int) <j:=hc.1;have h2:j<1073741824:=hc.2;exact floordiv_int (by lia) (by rw[Int.fdiv_eq_ediv_of_nonneg i (by lia)];exact q) (.inl (PyProof.noPylong_small (by lia)))
theorem fO:qf X (binaryOp .Mod) (rI (λ_ j=>0<j) λi j=> .int (i % j)):=Uh λi j _ _ _ _ _ hc q=>by have h1:(0:Int) <j:=hc;exact mod_int' (by lia) (by rw[Int.fmod_eq_emod_of_nonneg i (by lia)];exact q)
theorem NK:qf X (binaryOp .Pow) (rI Pc λi j=> .int (i ^ j.toNat)):=Uh λ_ _ _ _ _ _ _ hc q=>pow_int_small hc.1 hc.2.1 hc.2.2 q
def unI {g:Int ->Int}(rule: ∀ (i:Int) (t:Tok) (s:Shared) (Q:Value ->Shared ->Prop) (E:Value ->Shared ->Prop),Q (.int (g i) s.toks) {s with toks:=s.toks+1} ->wpAny (model X.prog X.w) X.A (f (.int i t)) Q E s): Zi X f (rU λi=> .int (g i)):=by intro pins s σ H x v Q I rx h;let⟨i,rfl,q⟩:=h;let⟨t,rfl⟩:=rx;exact rule i t s _ _ #[.int (g i),H,I.tok _,#[_,rfl],q]
theorem fN:Zi X (unaryOp .USub) (rU λi=> .int (-i)):=unI λ_ _ _ _ _ q=>neg_int q
end
noncomputable def Iv:V ->V ->Bool
 | .dY, .dY=>true | .dY, .int _=>true | .int _, .dY=>true | .dY, .bl _=>true | .bl _, .dY=>true | .dY, .str _=>true | .str _, .dY=>true
 | .int _, .int _=>true | .bl _, .bl _=>true | .str _, .str _=>true | .zI _, .zI _=>true
 | .int _, .str _=>true | .str _, .int _=>true | .bl _, .str _=>true | .str _, .bl _=>true
 | _,_=>false
noncomputable def ZV:R2:=λx y H Q=>Iv x y=true /\ Q (.bl (decide (x=y))) H
noncomputable def ZU:R2:=λx y H Q=>Iv x y=true /\ Q (.bl (!decide (x=y))) H
def Bj:decide (V.int i=V.int j)=(i==j):=by rw[Bool.eq_iff_iff];simp
def G5:decide (V.bl i=V.bl j)=(i==j):=by rw[Bool.eq_iff_iff];simp
def Bi:decide (V.str i=V.str j)=(i==j):=by rw[Bool.eq_iff_iff];simp
def Bk:decide (V.zI i=V.zI j)=(i.toList==j.toList):=by rw[Bool.eq_iff_iff];cases i;cases j;simp
section
variable {X:Cx}{a b c:Expr}{ta tb tc:TE}{pos:Pos}
def df {σ:St}(I:Inv X pins σ H s)(q:Q (.bl k) H)(e:k=k'):EP X pins σ Q (.bool k') s:=by subst e;exact#[.bl k,H,I,rfl,q]
def kc:qf X (compareOp .Eq) ZV:=by
 intro pins s σ H x y v u Q I rx ry h;let⟨hs,q⟩:=h;cases x with
 | dY=>
  cases rx;cases y with
  | dY=>cases ry;exact PySem.EqNone.eq_none_none (df I q (by simp))
  | bl j=>cases ry;exact PySem.EqNone.eq_none_bool (df I q (by simp))
  | int j=>let⟨t',rfl⟩:=ry;exact PySem.EqNone.eq_none_int (df I q (by simp))
  | str j=>let⟨t',rfl⟩:=ry;exact PySem.EqNone.eq_none_str (df I q (by simp))
  | _=>exact absurd (show false=true from hs) aX
 | bl i=>
  cases rx;cases y with
  | dY=>cases ry;exact PySem.EqNone.eq_bool_none (df I q (by simp))
  | bl j=>cases ry;exact eq_bool (df I q G5)
  | str j=>let⟨t',rfl⟩:=ry;exact PySem.EqMixed.eq_bool_str (df I q (by simp))
  | _=>exact absurd (show false=true from hs) aX
 | int i=>
  let⟨t,rfl⟩:=rx;cases y with
  | dY=>cases ry;exact PySem.EqNone.eq_int_none (df I q (by simp))
  | int j=>let⟨t',rfl⟩:=ry;exact eq_int (df I q Bj)
  | str j=>let⟨t',rfl⟩:=ry;exact PySem.EqMixed.eq_int_str (df I q (by simp))
  | _=>exact absurd (show false=true from hs) aX
 | str i=>
  let⟨t,rfl⟩:=rx;cases y with
  | dY=>cases ry;exact PySem.EqNone.eq_str_none (df I q (by simp))
  | bl j=>cases ry;exact PySem.EqMixed.eq_str_bool (df I q (by simp))
  | int j=>let⟨t',rfl⟩:=ry;exact PySem.EqMixed.eq_str_int (df I q (by simp))
  | str j=>let⟨t',rfl⟩:=ry;exact eq_str (df I q Bi)
  | _=>exact absurd (show false=true from hs) aX
 | zI i=>
  let⟨t,rfl⟩:=rx;cases y with
  | zI j=>let⟨t',rfl⟩:=ry;exact PySem.W.eq_bytes (df I q Bk)
  | _=>exact absurd (show false=true from hs) aX
 | _=>cases y<;>exact absurd (show false=true from hs) aX
def AI:qf X (compareOp .NotEq) ZU:=by
 intro pins s σ H x y v u Q I rx ry h;let⟨hs,q⟩:=h;cases x with
 | dY=>
  cases rx;cases y with
  | dY=>cases ry;exact PySem.EqNone.ne_none_none (df I q (by simp))
  | bl j=>cases ry;exact PySem.EqNone.ne_none_bool (df I q (by simp))
  | int j=>let⟨t',rfl⟩:=ry;exact PySem.EqNone.ne_none_int (df I q (by simp))
  | str j=>let⟨t',rfl⟩:=ry;exact PySem.EqNone.ne_none_str (df I q (by simp))
  | _=>exact absurd (show false=true from hs) aX
 | bl i=>
  cases rx;cases y with
  | dY=>cases ry;exact PySem.EqNone.ne_bool_none (df I q (by simp))
  | bl j=>cases ry;exact ne_bool (df I q (congrArg not G5))
  | str j=>let⟨t',rfl⟩:=ry;exact PySem.EqMixed.ne_bool_str (df I q (by simp))
  | _=>exact absurd (show false=true from hs) aX
 | int i=>
  let⟨t,rfl⟩:=rx;cases y with
  | dY=>cases ry;exact PySem.EqNone.ne_int_none (df I q (by simp))
  | int j=>let⟨t',rfl⟩:=ry;exact ne_int (df I q (congrArg not Bj))
  | str j=>let⟨t',rfl⟩:=ry;exact PySem.EqMixed.ne_int_str (df I q (by simp))
  | _=>exact absurd (show false=true from hs) aX
 | str i=>
  let⟨t,rfl⟩:=rx;cases y with
  | dY=>cases ry;exact PySem.EqNone.ne_str_none (df I q (by simp))
  | bl j=>cases ry;exact PySem.EqMixed.ne_str_bool (df I q (by simp))
  | int j=>let⟨t',rfl⟩:=ry;exact PySem.EqMixed.ne_str_int (df I q (by simp))
  | str j=>let⟨t',rfl⟩:=ry;exact ne_str (df I q (congrArg not Bi))
  | _=>exact absurd (show false=true from hs) aX
 | zI i=>
  let⟨t,rfl⟩:=rx;cases y with
  | zI j=>let⟨t',rfl⟩:=ry;exact PySem.W.ne_bytes (df I q (congrArg not Bk))
  | _=>exact absurd (show false=true from hs) aX
 | _=>cases y<;>exact absurd (show false=true from hs) aX
theorem wM:qf X (compareOp .Lt) (Lh λi j=> .bl (decide (i<j))):=NM λ_ _ _ _ _ _ _ q=>lt_int q
theorem sR:qf X (compareOp .Gt) (Lh λi j=> .bl (decide (j<i))):=NM λ_ _ _ _ _ _ _ q=>gt_int q
theorem wN:qf X (compareOp .GtE) (Lh λi j=> .bl (decide (j<=i))):=NM λ_ _ _ _ _ _ _ q=>ge_int q
def Jf:qf X (compareOp .IsNot) (λx y H Q=>y= .dY /\ Q (.bl (!decide (x= .dY))) H):=by
 intro pins s σ H x y v u Q I rx ry h;let⟨rfl,q⟩:=h;cases ry;refine isnot_none_gen (df I q ?_);cases x<;>first
 | (cases rx;rfl)
 | (let⟨t,rfl⟩:=rx;rfl)
def de (b:Expr)(h:op≠ .In:=by decide)(h2:op≠ .NotIn:=by decide):behindInMarks op b=false:=by
 have e1:(op==CmpOp.In)=false:=by cases op<;>first | rfl | exact absurd rfl h
 have e2:(op==CmpOp.NotIn)=false:=by cases op<;>first | rfl | exact absurd rfl h2
 cases b<;>simp[behindInMarks,e1,e2]
def AF (ho:qf X (compareOp op) r)(ha:PE X a ta)(hb:PE X b tb)(hm:behindInMarks op b=false):PE X (.Compare a [op] [b] pos) (QJ r ta tb):=by intro pins s σ H Q I h;exact wpAny_Compare1 (O1 ha hb I h λv u s2 x y H2 I2 rx ry q=>ho pins s2 σ H2 x y v u Q I2 rx ry q) hm
noncomputable def Ej (t:TE):TT:=λσ H Q=>t σ H λx H'=> ∃k,x= .bl k /\ Q k H'
def cL (ho:qf X (compareOp op) r)(ha:PE X a ta)(hb:PE X b tb)(hm:behindInMarks op b=false):PT X (.Compare a [op] [b] pos) (Ej (QJ r ta tb)):=by intro pins s σ H Q I h;refine wpAny_isTrue_Compare1 (dt (ha pins s σ H _ I h) λv s1 ⟨x,H1,I1,r1,q1⟩=>dt (hb pins s1 σ H1 _ I1 q1) λu s2 ⟨y,H2,I2,r2,q2⟩=>dt (ho pins s2 σ H2 x y v u _ I2 r1 r2 q2) λc s3 ⟨z,H3,I3,r3,k,e,q3⟩=> ?_) hm;subst e;cases r3;exact dA #[H3,I3,q3]
noncomputable def Ew (r r':R2)(ta tb tc:TE):TE:=λσ H Q=>ta σ H λx H1=>tb σ H1 λy H2=>r x y H2 λz H3=> ∃k,z= .bl k /\(if k=true then tc σ H3 λw' H4=>r' y w' H4 Q else Q (.bl false) H3)
def Fd (ho:qf X (compareOp op) r)(JI:qf X (compareOp VP) r')(ha:PE X a ta)(hb:PE X b tb)(hc:PE X c tc)(hm:lastMarks [op,VP] [b,c]=false:=by with_unfolding_all rfl):PT X (.Compare a [op,VP] [b,c] pos) (Ej (Ew r r' ta tb tc)):=by
 intro pins s σ H Q I h;refine isTrue_chain (dt (ha pins s σ H _ I h) λv s1 ⟨x,H1,I1,r1,q1⟩=>test_link (dt (hb pins s1 σ H1 _ I1 q1) λu s2 ⟨y,H2,I2,r2,q2⟩=>dt (ho pins s2 σ H2 x y v u _ I2 r1 r2 q2) λd s3 ⟨z,H3,I3,r3,k,e,q3⟩=> ?_)) hm;subst e;cases r3;refine dA ?_;cases k with
 | false=>let⟨k',e',q'⟩:=q3;cases e';exact ite_ff #[H3,I3,q']
 | true=>refine ite_tt (test_last (dt (hc pins s3 σ H3 _ I3 q3) λw' s4 ⟨z',H4,I4,r4,q4⟩=>dt (JI pins s4 σ H4 y z' u w' _ I4 r2 r4 q4) λd' s5 ⟨z2,H5,I5,r5,k2,e2,q5⟩=> ?_));subst e2;cases r5;exact dA #[H5,I5,q5]
noncomputable def Kg (K:PySem.W.Frag)(x:V)(H:Hp)(k:Bool):Prop:=
 match x with
 | .dY=>k=false
 | .bl b=>k=b
 | .int i=>k=(i !=0)
 | .str y=>y.length<=sizeLine /\ k=((y.length:Int) !=0)
 | .zI y=>y.size<=sizeLine /\ k=((y.size:Int) !=0)
 | .ref p=>(∃xs,gB K H p xs /\ k= !xs.isEmpty) \/ (∃xs,jj K H p xs /\ k= !xs.isEmpty) \/ ∃kvs,H p=some (.dK kvs) /\ k= !kvs.isEmpty
 | _=>False
def zp {vs:List (κ×Value)}(r:KV kvs vs):(!vs.isEmpty)= !kvs.isEmpty:=by cases r<;>rfl
def qS (r:Vals xs its):(!its.toArray.isEmpty)= !xs.isEmpty:=by cases r<;>simp
def qL:(sizeLine:Nat) <2 ^ 63:=by rw[cO];decide
def MP:Zj X (λx H Q=> ∃k,Kg X.K x H k /\ Q k H):=by
 intro pins s σ H x v Q I rx h;let⟨k,e,q⟩:=h;have hl:=qL;have hs:sizeLine=16777216:=cO;cases x with
 | dY=>cases rx;have e':k=false:=e;subst e';exact truthy_none #[H,I,q]
 | bl b=>cases rx;have e':k=b:=e;subst e';exact dA #[H,I,q]
 | int i=>let⟨t,rfl⟩:=rx;have e':k=(i !=0):=e;subst e';exact PySem.P.truthy_int #[H,I,q]
 | str y=>let⟨t,rfl⟩:=rx;let⟨hy,e'⟩:y.length<=sizeLine /\ k=((y.length:Int) !=0):=e;subst e';exact PySem.P.truthy_str (by lia) #[H,I.tok _,q]
 | zI y=>let⟨t,rfl⟩:=rx;let⟨hy,e'⟩:y.size<=sizeLine /\ k=((y.size:Int) !=0):=e;subst e';exact PySem.W.truthy_bytes (by lia) #[H,I.tok _,q]
 | ref p=>
  cases rx;have e':(∃xs,gB X.K H p xs /\ k= !xs.isEmpty) \/ (∃xs,jj X.K H p xs /\ k= !xs.isEmpty) \/ ∃kvs,H p=some (.dK kvs) /\ k= !kvs.isEmpty:=e;rcases e' with⟨xs,hx,e'⟩ | ⟨xs,hx,e'⟩ | ⟨kvs,hx,e'⟩
  .subst e';let⟨its,r,pl,hz⟩:=I.list hx;have hlen:=r.length;exact wpAny_truthy_list pl.isList (by simp![aR];lia) #[H,I.tok _,by rw[qS r];exact q]
  .subst e';let⟨its,r,pl,hz⟩:=I.tuple hx;have hlen:=r.length;exact truthy_tuple pl (by simp![aR];lia) #[H,I.tok _,by rw[qS r];exact q]
  .subst e';let⟨hz,hS,vs,r,m⟩:kvs.length<=sizeLine /\ (p==sysModules)=false /\ ∃vs,KV kvs vs /\ s.heap.DictOf (cH X.prog X.w) p vs:=I.dv p _ hx;have hlen:kvs.length=vs.length:=Paired.length r;exact wpAny_truthy_dict hS m (by lia) #[H,I.tok _,by rw[zp r];exact q]
 | _=>exact(show False from e).elim
def Fc (ha:PE X a ta)(he: ∀whole,isTrue a X.env whole=(do let v <- whole;standAt a.pos;holding [v] (truthy v))): PT X a (λσ H Q=>ta σ H λx H'=> ∃k,Kg X.K x H' k /\ Q k H'):=by intro pins s σ H Q I h;exact isTrue_plain (dt (ha pins s σ H _ I h) λv s1 ⟨x,H1,I1,r1,q1⟩=>MP pins s1 σ H1 x v Q I1 r1 q1) (he _)
def vals1 (r:Vals [x] us): ∃u,us= [u] /\ RelV x u:=by
 cases r with
 | cons r1 r2=>cases r2;exact#[_,rfl,r1]
def vals2 (r:Vals [x,y] us): ∃u w',us= [u,w'] /\ RelV x u /\ RelV y w':=by
 cases r with
 | cons r1 r2=>
  cases r2 with
  | cons r3 r4=>cases r4;exact#[_,_,rfl,r1,r3]
def Hf:gg X (.builtin "abs") (λxs H Q=> ∃i,xs= [.int i] /\ Q (.int (if i<0 then -i else i)) H):=by intro pins s σ H xs us Q I r h;let⟨i,rfl,q⟩:=h;let⟨u,rfl,t,rfl⟩:=vals1 r;exact call_abs_int λu tk=>#[.int (if i<0 then -i else i),H,I.tok _,#[_,rfl],q]
def C5 (hc:X.calm=true):gg X (.builtin "max") (λxs H Q=> ∃i j,xs= [.int i, .int j] /\ Q (.int (if j >i then j else i)) H):=by
 intro pins s σ H xs us Q I r h;let⟨i,j,rfl,q⟩:=h;let⟨u,w',rfl,⟨t,rfl⟩,⟨t',rfl⟩⟩:=vals2 r;refine max_two_ints (I.ok.hd hc) λh' tk k=>#[_,H,I.kept k,?_,q]
 by_cases hj:j >i
 .rw[aj hj,aj hj];exact#[_,rfl]
 .rw[ah hj,ah hj];exact#[_,rfl]
def C7:gg X (.type "int") (λxs H Q=>(∃i,xs= [.int i] /\ Q (.int i) H) \/ ∃k,xs= [.bl k] /\ Q (.int (if k then 1 else 0)) H):=by
 intro pins s σ H xs us Q I r h;rcases h with⟨i,rfl,q⟩ | ⟨k,rfl,q⟩
 .let⟨u,rfl,t,rfl⟩:=vals1 r;exact call_int_int #[.int i,H,I,#[_,rfl],q]
 .let⟨u,rfl,r1⟩:=vals1 r;cases r1;exact call_int_bool #[.int (if k then 1 else 0),H,I.tok _,#[_,rfl],q]
end
structure Dj (h:Heap)(x dx C:Addr)(mA:Str ->Option Value):Prop where
 obj:h.get? x=some (PySem.W.instObj C dx)
 ns:h.Ns1 dx mA
 ne:dx≠x
def Cp {h:Heap}(n:h.Ns1 dx mA): ∃od,h.get? dx=some od /\ ∀name,PySem.W.lookIn name od=some (mA name):=by
 let⟨o,es,ep,ho,hd,hk,_,hm⟩:=n;refine#[o,ho,λname=> ?_];have e:=hm name;unfold nsFind findBy at e;rw[<- Array.find?_toList] at e;unfold PySem.W.lookIn;rw[hd];dsimp only;split
 .rename_i y q;rw[q] at e;exact congrArg some e
 .rename_i q;rw[q] at e;have a:es.toList.any (·.refKey)=false:=by rw[List.any_eq_false];intro y hy;let⟨z,t,qT⟩:=hk y (Array.mem_toList_iff.mp hy);simp[DictEntry.refKey,qT]
  have a':¬es.toList.any (·.refKey)=true:=by rw[a];exact aX
  rw[ah a'];exact congrArg some e
theorem Dj.look (I:Dj h x dx C mA): ∃od,PySem.W.InstAt h x (PySem.W.instObj C dx) C (some od) /\ ∀name,PySem.W.lookIn name od=some (mA name):=
 let ⟨od,ho,hl⟩:=Cp I.ns
 #[od,#[I.obj,rfl,rfl,ho],hl]
section
variable {prog:Program}{w:World}{A:Around}{E:Value ->Shared ->Prop}{s:Shared}{K:PySem.W.Frag}{x dx C f:Addr}{mA:Str ->Option Value}{name:Str}{v:Value}
def get_map (X:K.In s.heap)(I:Dj s.heap x dx C mA)(hg:PySem.W.plainGet K C name=true)(hh:PySem.W.hasDictIn K C=true)(ha:PySem.W.findIn K (.ref C) name=some none)(hv:mA name=some v)(vg:PySem.W.handedIn v=true)(h:Q v {s with toks:=s.toks+1}): wpAny (model prog w) A (getAttr (.ref x) name expr) Q E s:=by let⟨od,J,hl⟩:=I.look;exact PySem.W.get_value X J (PySem.W.plainGet_of hg).1 (PySem.W.findObj_own hh ha rfl (by rw[hl,hv])) vg h
def Iu (X:K.In s.heap)(I:Dj s.heap x dx C mA)(hs:PySem.W.findIn K (.ref C) "__setattr__" =some (some (.builtin "object.__setattr__")))(hp:PySem.W.plainOver K C=true)(ht:PySem.W.takerIn K C name=some none)(hh:PySem.W.hasDictIn K C=true)(hw:PySem.Within mA ns)(hsz:ns.length<=sizeLine)(h: ∀h',Dj h' x dx C (λy=>if y=name then some v else mA y) ->Heap.SameBut dx s.heap h' ->Q () {s with heap:=h',toks:=s.toks+2}): wpAny (model prog w) A (setAttr (.ref x) name v) Q E s:=by let⟨od,J,hl⟩:=I.look;refine PySem.W.set_plain X J hs (PySem.W.osa_open (s:= {s with toks:=s.toks+1}) (r:=none) X J hp ht λb=> ?_);let⟨cd,hc,k9⟩:=PySem.W.any_some hh;have hx:s.heap.get? x=some #[.ref C,some dx, .plain, #[]]:=I.obj;refine ak (aO (ak (ak (wpAny_loadPart hx (ak (PySem.W.Looks.here (s:= {s with toks:=s.toks+1}) (PySem.W.looks_clsIn X hc) ?_))))));rw[k9];refine aO (a:=some dx) (ak (aO (ak ?_)));refine wpAny_nsSet1 (s:= {s with toks:=s.toks+1}) I.ns λh' Oo jU=> ?_;let⟨oD,esD,epD,hoD,hdD,hcD⟩:=Oo.count (PySem.Within.cons name v hw);refine ak (wpAny_lookBehind hoD (by rw[hdD];exact pastItsLine_dict (aZ hcD (by rw[aG];lia))) ?_);exact aO (h _ #[(jU.2 _ (a9 I.ne)).trans I.obj,Oo,I.ne] jU)
def FQ (X:K.In s.heap)(hm:PySem.W.makesIn K C=true)(hi:PySem.W.findIn K (.ref C) "__init__" =some (some (.ref f)))(hf:PySem.W.typeIn K (.ref f)=some (.type "function"))(h:codeAny (model prog w) (A.under (.builtin "type.__call__" #[.ref C::vs,kw])) (.call (.ref f) #[.ref (s.heap.objs.size+1)::vs,kw]) (PySem.W.InitBack (s.heap.objs.size+1) R) {s with heap:=(s.heap.push PySem.W.emptyDict).push (PySem.W.instObj C s.heap.objs.size)}): codeAny (model prog w) A (.call (.ref C) #[vs,kw]) R s:=by let⟨hh,g,d,t,os⟩:=s;exact PySem.W.make_core (PySem.W.makes_of X hm) (PySem.W.looks_findIn X hi) (λself=>PySem.W.bind_fn X self hf) (.inl rfl) h
end
noncomputable def jr (f:Str)(v:V):List (Str×V) ->List (Str×V)
 | []=> [(f,v)]
 | (g,x)::r=>if g=f then(g,v)::r else(g,x)::jr f v r
theorem oV (f g:Str)(v:V): ∀fs:List (Str×V),(jr f v fs).lookup g=if g=f then some v else fs.lookup g
 | []=>by
  show List.lookup g [(f,v)]=_;by_cases h:g=f
  .have hb:(g==f)=true:=beq_iff_eq.mpr h;simp![List.lookup,hb,aj h]
  .have hb:(g==f)=false:=beq_eq_false_iff_ne.mpr h;simp![List.lookup,hb,ah h]
 | (k, x)::r=>by
  have ih:=oV f g v r;rw[show jr f v ((k,x)::r)=(if k=f then(k,v)::r else(k,x)::jr f v r) from rfl];by_cases hk:k=f
  .rw[aj hk];by_cases h:g=k
   .have hb:(g==k)=true:=beq_iff_eq.mpr h;simp![List.lookup,hb,aj (h.trans hk)]
   .have hb:(g==k)=false:=beq_eq_false_iff_ne.mpr h;simp![List.lookup,hb,ah (λe:g=f=>h (e.trans hk.symm))]
  .rw[ah hk];by_cases h:g=k
   .have hb:(g==k)=true:=beq_iff_eq.mpr h;simp![List.lookup,hb,ah (λe:g=f=>hk (h.symm.trans e))]
   .have hb:(g==k)=false:=beq_eq_false_iff_ne.mpr h;simp![List.lookup,hb];exact ih
theorem oy (f:Str)(v:V): ∀fs:List (Str×V),f∈(jr f v fs).map (·.1) /\ ∀g,g∈fs.map (·.1) ->g∈(jr f v fs).map (·.1)
 | []=>#[by simp[jr],λg h=>by simp at h]
 | (k, x)::r=>by
  let⟨i1,i2⟩:=oy f v r;rw[show jr f v ((k,x)::r)=(if k=f then(k,v)::r else(k,x)::jr f v r) from rfl];by_cases hk:k=f
  .rw[aj hk];subst hk;exact#[by simp,λg h=>by simpa using h]
  .rw[ah hk];refine#[?_,λg h=> ?_]
   .rw[aK];exact aw _ i1
   .rw[aK] at h ⊢;rcases av.mp h with e | e
    .exact av.mpr (.inl e)
    .exact aw _ (i2 g e)
theorem oW (f:Str)(v:V): ∀fs:List (Str×V),(jr f v fs).length<=fs.length+1
 | []=>by simp[jr]
 | (k,x)::r=>by
  have ih:=oW f v r;rw[show jr f v ((k,x)::r)=(if k=f then(k,v)::r else(k,x)::jr f v r) from rfl];by_cases hk:k=f
  .rw[aj hk,aG,aG];lia
  .rw[ah hk,aG,aG];lia
def l9.some_of (r:l9 (some v) o): ∃u,o=some u /\ RelV v u:=by
 cases o with
 | none=>exact(show False from r).elim
 | some u=>exact#[u,rfl,r]
def CK (r:RelV v u):PySem.W.handedIn u=true:=by
 cases v with
 | dY=>cases (show u=Value.none from r);rfl
 | bl b=>cases (show u=Value.bool b from r);rfl
 | int i=>let⟨t,e⟩:=(show ∃t,u=Value.int i t from r);cases e;rfl
 | str x=>let⟨t,e⟩:=(show ∃t,u=Value.str x t from r);cases e;rfl
 | zI b=>let⟨t,e⟩:=(show ∃t,u=Value.bytes b t from r);cases e;rfl
 | A6 b=>let⟨t,e⟩:=(show ∃t,u=Value.float b t from r);cases e;rfl
 | ref a=>cases (show u=Value.ref a from r);rfl
 | ty n=>cases (show u=Value.type n from r);rfl
section
variable {P:Program}{w:World}{H H':Hp}{h h':Heap}{a C dx:Addr}{fs CM:List (Str×V)}
def ve (dv:lE P w H h)(e:H a=some (.ins C dx fs)): ∃mA,Dj h a dx C mA /\ (∀f,l9 (fs.lookup f) (mA f)) /\ PySem.Within mA (fs.map (·.1)) /\ fs.length<=1000 /\ H dx=some (.own a):=by
 let⟨d,z,ne,ob,mA,n,r,q⟩:=(show d6 P w H h a (.ins C dx fs) from dv a _ e)
 exact#[mA,#[ob,n,ne],r,q,z,d]
end
structure zP (K:PySem.W.Frag)(C:Addr):Prop where
 pg:PySem.W.plainGet K C Str.empty=true
 hd:PySem.W.hasDictIn K C=true
 po:PySem.W.plainOver K C=true
 sa:PySem.W.findIn K (.ref C) "__setattr__" =some (some (.builtin "object.__setattr__"))
theorem zP.get {K:PySem.W.Frag}{C:Addr}(c:zP K C)(f:Str):PySem.W.plainGet K C f=true:=c.pg
noncomputable def dZ (K:PySem.W.Frag)(C:Addr)(f:Str):Prop:=PySem.W.findIn K (.ref C) f=some none
def dZ.QF {K:PySem.W.Frag}(n:dZ K C f):PySem.W.takerIn K C f=some none:=by unfold PySem.W.takerIn;rw[show PySem.W.findIn K (.ref C) f=some none from n];rfl
section
variable {X:Cx}{pins:List (Addr×Obj)}{σ:St}{H:Hp}{s:Shared}{a C dx:Addr}{fs:List (Str×V)}{f:Str}{v:V}{A:Around}{E:Value ->Shared ->Prop}
def zy (I:Inv X pins σ H s)(e:H a=some (.ins C dx fs))(c:zP X.K C)(n:dZ X.K C f)(l:fs.lookup f=some v)(h: ∀u s',Inv X pins σ H s' ->RelV v u ->Q u s'):wpAny (model X.prog X.w) A (getAttr (.ref a) f b) Q E s:=by let⟨mA,O,r,_,_,_⟩:=ve I.dv e;let⟨u,hu,ru⟩:=l9.some_of (v:=v) (o:=mA f) (by rw[<- l];exact r f);exact get_map I.pE O (c.get f) c.hd n hu (CK ru) (h u _ (I.tok _) ru)
def yL (I:Inv X pins σ H s)(e:H a=some (.ins C dx fs))(c:zP X.K C)(n:dZ X.K C f)(hl:fs.length<1000)(ry:RelV y u)(h: ∀s',Inv X pins σ (upd H a (.ins C dx (jr f y fs))) s' ->Q () s'):wpAny (model X.prog X.w) A (setAttr (.ref a) f u) Q E s:=by
 let⟨mA,O,r,wi,_,ho⟩:=ve I.dv e;have hz:(fs.map (·.1)).length<=sizeLine:=by rw[aa,cO];lia
 refine Iu I.pE O c.sa c.po n.QF c.hd wi hz λh' O' sb=>h _ ?_;have hd: ∃o,h'.get? dx=some o:=let ⟨o,_,_,e',_⟩:=O'.ns;#[o,e']
 refine I.write (x:=a) (e:=dx) (by rw[e];exact True.intro) (.inr ho) (λb q hb z=>(sb.2 b hb).trans z) hd ?_;refine#[by rw[bM O.ne];exact ho,?_,O.ne,O'.obj,_,O'.ns,λg=> ?_,λg hg=> ?_]
 .have:=oW f y fs;lia
 .show l9 ((jr f y fs).lookup g) (if g=f then some u else mA g);rw[oV];by_cases q:g=f
  .rw[aj q,aj q];exact ry
  .rw[ah q,ah q];exact r g
 .by_cases q:g=f
  .rw[q];exact(oy f y fs).1
  .refine(oy f y fs).2 g (wi g λz=>hg ?_);show(if g=f then some u else mA g)=none;rw[ah q];exact z
def Inv.made (I:Inv X pins σ H s):Inv X pins σ (upd (upd H s.heap.objs.size (.own (s.heap.objs.size+1))) (s.heap.objs.size+1) (.ins C s.heap.objs.size [])) {s with heap:=(s.heap.push PySem.W.emptyDict).push (PySem.W.instObj C s.heap.objs.size)}:=by
 have e1:(s.heap.push PySem.W.emptyDict).get? s.heap.objs.size=some PySem.W.emptyDict:=aS s.heap rfl;have e2:((s.heap.push PySem.W.emptyDict).push (PySem.W.instObj C s.heap.objs.size)).get? (s.heap.objs.size+1)=some (PySem.W.instObj C s.heap.objs.size):=by have:=aS (s.heap.push PySem.W.emptyDict) (o:=PySem.W.instObj C s.heap.objs.size) rfl;rwa [Heap.size_push] at this
 have e3:(s.heap.push PySem.W.emptyDict).Ns s.heap.objs.size (λ_=>none):=#[PySem.W.emptyDict, #[],_,e1,rfl,(λe he=>absurd he (by simp)),λ_=>rfl]
 have I1:=I.laid (a:=s.heap.objs.size) (o:= .own (s.heap.objs.size+1)) (h':=s.heap.push PySem.W.emptyDict) (t':=s.toks) (λb u q=>aq _ q) (ao _) #[_,e1];refine I1.laid (a:=s.heap.objs.size+1) (o:= .ins C s.heap.objs.size []) (t':=s.toks) (λb u q=>aq _ q) (Nat.le_of_eq (Heap.size_push _ _)) ?_;have ne:s.heap.objs.size≠s.heap.objs.size+1:=a5 (Nat.lt_succ_self _);refine#[by rw[bM ne,cn],dj _,ne,e2,λ_=>none,(Heap.Ns1.of_empty e3).at λo q=>aq _ q,λ_=>True.intro,λy hy=>absurd rfl hy]
theorem J9 (hb:attributeBase e f env (eval e env)=eval e env)(h:wpAny (model prog w) A (eval e env) (λo s₁=>wpAny (model prog w) A (getAttr o f true) Q E s₁) E s):wpAny (model prog w) A (eval (.Attribute e f pos) env) Q E s:=Attribute_any_ h (by rw[arm_eval_Attribute,hb])
end
noncomputable def MW (K:PySem.W.Frag)(ta:TE)(f:Str):TE:=λσ H Q=>ta σ H λx H1=> ∃a C dx fs v,x= .ref a /\ H1 a=some (.ins C dx fs) /\ zP K C /\ dZ K C f /\ fs.lookup f=some v /\ Q v H1
noncomputable def Q1 (K:PySem.W.Frag)(ta tv:TE)(f:Str):TS:=λD σ H=>tv σ H λy H1=>ta σ H1 λx H2=> ∃a C dx fs,x= .ref a /\ H2 a=some (.ins C dx fs) /\ zP K C /\ dZ K C f /\ fs.length<1000 /\D.nx σ (upd H2 a (.ins C dx (jr f y fs)))
section
variable {X:Cx}{o e value:Expr}{f:Str}{pos pos' BR:Pos}{ta tv:TE}
def d9 (he:PE X e ta)(hb:attributeBase e f X.env (eval e X.env)=eval e X.env):PE X (.Attribute e f pos) (MW X.K ta f):=by intro pins s σ H Q I h;refine J9 hb (dt (he pins s σ H _ I h) λu s1 ⟨x,H1,I1,rx,a,C,dx,fs,v,ex,ea,c,n,l,q⟩=> ?_);subst ex;obtain rfl:u=Value.ref a:=rx;exact zy I1 ea c n l λu' s2 I2 ru=>#[v,H1,I2,ru,q]
def lQ (ha:PE X o ta)(hv:PE X value tv)(hs:swapsWith value (some (.Attribute o f pos')) pos.line X.env=pure false):PS X (.Assign [.Attribute o f pos'] value pos) (Q1 X.K ta tv f):=by intro pins s σ H D I h;refine plainObj_wpAny_Assign_Attribute (dt (hv pins s σ H _ I h) λu s1 ⟨y,H1,I1,ry,q⟩=>dt (ha pins s1 σ H1 _ I1 q) λov s2 ⟨x,H2,I2,rx,a,C,dx,fs,ex,ea,c,n,l,q2⟩=> ?_) hs;subst ex;obtain rfl:ov=Value.ref a:=rx;exact yL I2 ea c n l ry λs3 I3=>#[σ,_,I3,q2]
end
section
variable {X:Cx}{pins:List (Addr×Obj)}{σ:St}{H:Hp}{s:Shared}{A:Around}{E:Value ->Shared ->Prop}{Q:Value ->Shared ->Prop}{c:Value}{b:Bool}
inductive oN (K:PySem.W.Frag)(H:Hp):V ->Value ->Prop where
 | dY:oN K H .dY (.type "NoneType")
 | bl (x:Bool):oN K H (.bl x) (.type "bool")
 | int (i:Int):oN K H (.int i) (.type "int")
 | str (x:Str):oN K H (.str x) (.type "str")
 | A6 (x:UInt64):oN K H (.A6 x) (.type "float")
 | lst {a:Addr} {xs:List V} (e:H a=some (.lst xs)):oN K H (.ref a) (.type "list")
 | lZ {a:Addr} {o:Obj} {xs:List V} (e:H a=some (.lZ o (.lst xs))):oN K H (.ref a) (.type "list")
 | tup {a:Addr} {xs:List V} (e:H a=some (.tup xs)):oN K H (.ref a) (.type "tuple")
 | dK {a:Addr} {kvs:List (Key×V)} (e:H a=some (.dK kvs)):oN K H (.ref a) (.type "dict")
 | dT {a:Addr} {kvs:List (List Key×V)} (e:H a=some (.dT kvs)):oN K H (.ref a) (.type "dict")
 | ins {a C dx:Addr} {fs:List (Str×V)} (e:H a=some (.ins C dx fs)) (cl:zP K C) (ha:PySem.W.findIn K (.ref C) "__class__" =some (some (.builtin "object.__class__"))) (hn:PySem.W.specialIn K (.builtin "object.__class__") "__get__" =some (some (.builtin "getset_descriptor.__get__"))) (htk:PySem.W.takesIn K (.builtin "object.__class__")=some true) (hm:PySem.W.mroIn K C (.type "object")=some true):oN K H (.ref a) (.ref C)
def Cv (I:Inv X pins σ H s)(rx:RelV x u)(ty:oN X.K H x t)(e:PySem.W.kitOne X.K t c=some b)(h: ∀tk,Q (.bool b) {s with toks:=tk}): wpAny (model X.prog X.w) A (call (.builtin "isinstance") [u,c]) Q E s:=by
 cases ty with
 | dY=>cases (show u=Value.none from rx);exact cS PySem.W.kitx_none I.pE True.intro e (λz=>nomatch z) h
 | bl y=>cases (show u=Value.bool y from rx);exact cS PySem.W.kitx_bool I.pE True.intro e (λz=>nomatch z) h
 | int i=>let⟨t,q⟩:=(show ∃t,u=Value.int i t from rx);cases q;exact cS PySem.W.kitx_int I.pE True.intro e (λz=>nomatch z) h
 | str y=>let⟨t,q⟩:=(show ∃t,u=Value.str y t from rx);cases q;exact cS PySem.W.kitx_str I.pE True.intro e (λz=>nomatch z) h
 | A6 y=>let⟨t,q⟩:=(show ∃t,u=Value.float y t from rx);cases q;exact cS PySem.W.kitx_float I.pE True.intro e (λz=>nomatch z) h
 | @lst a xs ea=>
  cases (show u=Value.ref a from rx);let⟨_,_,n,_,h1⟩:=(show d6 X.prog X.w H s.heap a (.lst xs) from I.dv a _ ea)
  exact cS PySem.W.kitx_list I.pE #[_,h1,rfl] e (λz=>nomatch z) h
 | @lZ a ob xs ea=>
  cases (show u=Value.ref a from rx);let⟨_,_,_,n,_,h1⟩:=(show d6 X.prog X.w H s.heap a (.lZ ob (.lst xs)) from I.dv a _ ea)
  exact cS PySem.W.kitx_list I.pE #[_,h1,rfl] e (λz=>nomatch z) h
 | @tup a xs ea=>
  cases (show u=Value.ref a from rx);let⟨_,_,_,p⟩:=(show d6 X.prog X.w H s.heap a (.tup xs) from I.dv a _ ea)
  let⟨o,h1,h2,_⟩:=p;exact cS PySem.W.kitx_tuple I.pE #[o,h1,h2] e (λz=>nomatch z) h
 | @dK a kvs ea=>
  cases (show u=Value.ref a from rx);let⟨_,_,vs,_,p⟩:=(show d6 X.prog X.w H s.heap a (.dK kvs) from I.dv a _ ea)
  let⟨o,es,ep,h1,h2,_⟩:=p;exact cS PySem.W.kitx_dict I.pE #[o,h1,h2.1] e (λz=>nomatch z) h
 | @dT a kvs ea=>
  cases (show u=Value.ref a from rx);let⟨_,_,xs,_,o,es,ep,h1,h2,_⟩:=(show d6 X.prog X.w H s.heap a (.dT kvs) from I.dv a _ ea)
  exact cS PySem.W.kitx_dict I.pE #[o,h1,h2.1] e (λz=>nomatch z) h
 | @ins a C dx fs ea cl ha hn htk hm=>cases (show u=Value.ref a from rx);let⟨mA,O,_⟩:=ve I.dv ea;let⟨od,J,_⟩:=O.look;exact cS (PySem.W.kitx_own (cl.get _) cl.hd ha hn htk hm) I.pE J e (λz=>nomatch z) h
end
structure gi (k:Nat)(A:Around):Prop where
 hd:A.handled=none
 dp:A.depth+3*k+5<recursionLimit
 un:A.units+16*k+200<cLine
theorem gi.mono (r:gi k A)(h:j<=k):gi j A:=#[r.hd,by have:=r.dp;lia,by have:=r.un;lia]
theorem gi.deeper (r:gi (k+1) A)(env:Env):gi k (A.deeper env):=#[r.hd,by have:=r.dp;show A.depth+1+3*k+5<_;lia,by have:=r.un;show A.units+3+16*k+200<_;lia]
def zb {A:Around}:(A.under (.builtin "type.__call__" #[.ref C::us,kw])).depth=A.depth+1:=by first | rfl | simp[Around.under,Code.weight,Code.isCreation,Code.isGuard,Code.isCaller,Code.frames,Code.isFrame,guardIds]
def za {A:Around}:(A.under (.builtin "type.__call__" #[.ref C::us,kw])).units=A.units+1:=by first | rfl | simp[Around.under,Code.cUnits,Code.frames,Code.isFrame]
theorem gi.make (r:gi (k+1) A)(C:Addr)(us:List Value)(kw:List (Str×Value)):gi k (A.under (.builtin "type.__call__" #[.ref C::us,kw])):=#[r.hd,by have:=r.dp;rw[zb];lia,by have:=r.un;rw[za];lia]
def gi.depth (r:gi k A):A.depth<recursionLimit:=by have:=r.dp;lia
def gi.units (r:gi k A):A.units+64<cLine:=by have:=r.un;lia
noncomputable def MV:TA:=λ_ H Q=>Q [] H
noncomputable def Es (ta:TE)(tr:TA):TA:=λσ H Q=>ta σ H λx H1=>tr σ H1 λxs H2=>Q (x::xs) H2
section
variable {X:Cx}{e:Expr}{es:List Expr}{te:TE}{t:TA}{pos:Pos}
theorem aD:PA X [] MV:=λ_ _ _ _ H Q I h=>Calls.spliced_nil #[[],H,I, .nil,h]
def ab (ha:PE X e te)(hr:PA X es t)(hs:starEach (e::es) X.env=(false,eval e X.env)::starEach es X.env:=by rfl):PA X (e::es) (Es te t):=by intro pos pins s σ H Q I h;rw[hs];show wpAny _ _ (spliced ((false,eval e X.env)::backTo pos (starEach es X.env))) _ _ s;refine dJ (dt (ha pins s σ H _ I h) λu s1 ⟨x,H1,I1,r1,q1⟩=> ?_);exact dt (hr pos pins s1 σ H1 _ I1 q1) λus s2 ⟨xs,H2,I2,r2,q2⟩=>#[x::xs,H2,I2, .cons r1 r2,q2]
noncomputable def QH (t:TA):TE:=λσ H Q=>t σ H λxs H1=>xs.length<=sizeLine /\ ∀p,H1 p=none ->Q (.ref p) (upd H1 p (.tup xs))
noncomputable def QL (t:TA):TE:=λσ H Q=>t σ H λxs H1=>xs.length<=sizeLine /\ ∀p,H1 p=none ->Q (.ref p) (upd H1 p (.lst xs))
def gr {x1}(h:PA X es t):PE X (.Tuple es x1 pos) (QH t):=by intro pins s σ H Q I hq;refine wpAny_Tuple_spliced (dt (h pos pins s σ H _ I hq) λus s1 ⟨xs,H1,I1,r,z,q⟩=>#[by rw[<- r.length];exact z,?_]);have hf:H1 s1.heap.objs.size=none:=I1.dv.fresh (ao _);refine#[.ref s1.heap.objs.size,upd H1 s1.heap.objs.size (.tup xs),I1.laid (t':=s1.toks) (λb u e=>aq _ e) (ao _) ?_,rfl,q _ hf];exact#[z,us,r,#[_,aS _ rfl,rfl,_,rfl,rfl]]
def qC (h:PA X es t):PE X (.List es pos) (QL t):=by intro pins s σ H Q I hq;refine wpAny_List_spliced (dt (h pos pins s σ H _ I hq) λus s1 ⟨xs,H1,I1,r,z,q⟩=>#[by rw[<- r.length];exact z,?_]);have hf:H1 s1.heap.objs.size=none:=I1.dv.fresh (ao _);refine#[.ref s1.heap.objs.size,upd H1 s1.heap.objs.size (.lst xs),I1.laid (t':=s1.toks) (λb u e=>aq _ e) (ao _) ?_,rfl,q _ hf];exact#[z,us,0,r,aS _ rfl]
end
noncomputable abbrev Sp:=List V ->Hp ->VK ->XK ->Prop
noncomputable abbrev HB:=List Env ->Hp ->Shared ->XK ->Value ->Shared ->Prop
structure zN (P:Program)(w:World)(K:PySem.W.Frag)(mg:Str ->Option Value)(base:Heap)(A:Around)(outer:List Env)(s:Shared)(H:Hp):Prop where
 frames:A.frames=some outer
 mod:Mod K mg base
 bs: ∀b o,base.get? b=some o ->s.heap.get? b=some o /\ H b=none
 HR:base.objs.size<=s.heap.objs.size
 pL:s.heap.FunFrames base outer
 OO: ∀b∈GR outer,H b=none
 dv:lE P w H s.heap
 bare:AllBare s.gens
noncomputable def CE (outer:List Env)(P:Program)(w:World)(H:Hp)(s:Shared)(Q:VK)(u:Value)(s':Shared):Prop:=∃v H',s'.os=s.os /\ AllBare s'.gens /\ Un (GR outer) [] H H' s.heap s'.heap /\ lE P w H' s'.heap /\ RelV v u /\ Q v H'
noncomputable def CR (CX:HB)(outer:List Env)(P:Program)(w:World)(H:Hp)(s:Shared)(Q:VK)(E:XK)(r:Result)(s':Shared):Prop:=
 match r with
 | .ok (.ret u)=>CE outer P w H s Q u s'
 | .ok _=>False
 | .error e=>CX outer H s E e s'
structure d3 (P:Program)(w:World)(K:PySem.W.Frag)(mg:Str ->Option Value)(base:Heap)(CX:HB)(k:Nat)(f:Addr)(fd:FuncData)(ps:List Str)(sp:Sp):Prop where
 len: ∀vs H Q E,sp vs H Q E ->vs.length=ps.length
 run: ∀ (A:Around) (outer:List Env) (s:Shared) (H:Hp) (args:Args) (us:List Value) (vs:List V) (Q:VK) (E:XK),gi k A ->zN P w K mg base A outer s H ->BindsTo s fd args (ps.zip us) ->Vals vs us ->sp vs H Q E ->codeAny (model P w) A (.call (.ref f) args) (CR CX outer P w H s Q E) s
theorem d3.imp {K:PySem.W.Frag}(F:d3 P w K mg base CX k f fd ps sp)(h: ∀vs H Q E,ZP vs H Q E ->sp vs H Q E):d3 P w K mg base CX k f fd ps ZP:=#[λvs H Q E q=>F.len vs H Q E (h _ _ _ _ q),λA outer s H args us vs Q E hr he hb hv hs=>F.run A outer s H args us vs Q E hr he hb hv (h _ _ _ _ hs)]
theorem zN.make {K:PySem.W.Frag}(e:zN P w K mg base A outer s H)(C:Addr)(us:List Value)(kw:List (Str×Value)): zN P w K mg base (A.under (.builtin "type.__call__" #[.ref C::us,kw])) outer s H:=#[by first | exact e.frames | (simpa [Around.under,Code.envs,Code.isFrame,pushEnvs] using e.frames),e.mod,e.bs,e.HR,e.pL,e.OO,e.dv,e.bare]
section
variable {X:Cx}{pins:List (Addr×Obj)}{σ:St}{H:Hp}{s s':Shared}
theorem Inv.Td (I:Inv X pins σ H s):zN X.prog X.w X.K X.mg X.base X.A X.stack s H:=#[I.ok.frames,I.ok.mod,I.bs,aZ I.ok.HR I.sz,I.stack,I.Ag,I.dv,I.bare]
def Inv.after (I:Inv X pins σ H s)(h:CE X.stack X.prog X.w H s Q u s'):EP X pins σ Q u s':=by let⟨v,H',os,bare,un,dv,r,q⟩:=h;let⟨hh,g,d,t,os'⟩:=s';obtain rfl:os'=s.os:=os;exact#[v,H',I.call (h':=hh) (g':=g) (d':=d) (t':=t) (ch:= []) un dv bare (λb z=>absurd z (by simp)),r,q]
end
noncomputable def Af (sp:Sp)(zB:List V)(E:XK)(t:TA):TE:=λσ H Q=>t σ H λvs H1=>sp (vs++zB) H1 Q E
noncomputable def Ek (C:Addr)(sp:Sp)(zB:List V)(E:XK)(t:TA):TE:=λσ H Q=>t σ H λvs H1=> ∀x dx,H1 x=none ->H1 dx=none ->dx≠x ->sp (.ref x::(vs++zB)) (upd (upd H1 dx (.own x)) x (.ins C dx [])) (λv H2=>v= .dY /\ Q (.ref x) H2) E
noncomputable def Binds (K:PySem.W.Frag)(fd:FuncData)(ps:List Str)(ds:List Value):Prop:=∀ (s:Shared) (us:List Value),K.In s.heap ->(us++ds).length=ps.length ->BindsTo s fd #[us,[]] (ps.zip (us++ds))
theorem Binds.all {K:PySem.W.Frag}(h: ∀us:List Value,us.length=ps.length ->bindArgs fd #[us,[]]=pure (ps.zip us)):Binds K fd ps []:=λs us _ hl=>by rw[List.append_nil] at hl ⊢;exact .of_eq (h us hl)
noncomputable def Passes (CX:HB)(X:Cx)(E:XK):Prop:= ∀ (pins:List (Addr×Obj)) (σ:St) (H:Hp) (s:Shared) (e:Value) (s':Shared),Inv X pins σ H s ->CX X.stack H s E e s' ->X.xe e s'
section
variable {X:Cx}{CX:HB}{k:Nat}{f C:Addr}{fd:FuncData}{ps:List Str}{sp:Sp}{zB:List V}{ds:List Value}{E:XK}{x m:Str}{p pos apos:Pos}{e o:Expr}{es:List Expr}{ta:TE}{t:TA}
def Np {σ:St}(F:d3 X.prog X.w X.K X.mg X.base CX k f fd ps sp)(hr:gi k X.A)(hb:Binds X.K fd ps ds)(hd:Vals zB ds)(hx:Passes CX X E)(I:Inv X pins σ H s)(r:Vals vs us)(h:sp (vs++zB) H Q E):wpAny (model X.prog X.w) X.A (call (.ref f) us) (EP X pins σ Q) X.xe s:=by
 have r2:Vals (vs++zB) (us++ds):=r.append hd;have hl:(us++ds).length=ps.length:=by rw[<- r2.length];exact F.len _ _ _ _ h
 refine wpAny_call (codeAny_mono (F.run X.A X.stack s H #[us,[]] (us++ds) (vs++zB) Q E hr I.Td (hb s us I.pE hl) r2 h) λr s' hq=> ?_);cases r with
 | error e=>exact hx pins σ H s e s' I hq
 | ok fl=>
  cases fl with
  | ret u=>exact I.after hq
  | next=>exact False.elim hq
  | brk=>exact False.elim hq
  | cont=>exact False.elim hq
def I0 (F:d3 X.prog X.w X.K X.mg X.base CX k f fd ps sp)(hr:gi k X.A)(hg:Gl X x)(hm:X.mg x=some (.ref f))(hk:PySem.W.keepIn X.K (.ref f)=true)(hb:Binds X.K fd ps ds)(hd:Vals zB ds)(hx:Passes CX X E) (ha:PA X (e::es) t) (GC:(x==("__debug__" :Str))=false:=by decide) (he:starEach (e::es) X.env=(false,eval e X.env)::starEach es X.env:=by rfl) (rX:(backTo pos (starEach es X.env)).any (·.1)=false:=by rfl): PE X (.Call (.Name x p) (e::es) [] pos) (Af sp zB E t):=by intro pins s σ H Q I h;refine wpAny_Call_Name_kw (AQ I hg hm ?_ GC);refine PySem.W.callWith_K (h₀:=X.base) I.ok.mod.Ux hk (dt (ha pos pins s σ H _ I h) λus s1 ⟨vs,H1,I1,r,q⟩=>#[I1.pE,?_]) he rX;exact Np F hr hb hd hx I1 r q
structure Mk (K:PySem.W.Frag)(C f:Addr):Prop where
 makes:PySem.W.makesIn K C=true
 init:PySem.W.findIn K (.ref C) "__init__" =some (some (.ref f))
 fn:PySem.W.isFn K (.ref f)=true
 kp:PySem.W.keepIn K (.ref C)=true
def EW {σ:St}(M:Mk X.K C f)(F:d3 X.prog X.w X.K X.mg X.base CX k f fd ps sp)(hr:gi (k+1) X.A)(hb:Binds X.K fd ps ds)(hd:Vals zB ds)(hx:Passes CX X E)(I:Inv X pins σ H s)(r:Vals vs us)(h: ∀x dx,H x=none ->H dx=none ->dx≠x ->sp (.ref x::(vs++zB)) (upd (upd H dx (.own x)) x (.ins C dx [])) (λv H2=>v= .dY /\ Q (.ref x) H2) E): wpAny (model X.prog X.w) X.A (call (.ref C) us) (EP X pins σ Q) X.xe s:=by
 have hq:=h (s.heap.objs.size+1) s.heap.objs.size (I.dv.fresh (Nat.le_succ _)) (I.dv.fresh (ao _)) (a5 (Nat.lt_succ_self _));have I2:=Inv.made (C:=C) I;have r2:Vals (V.ref (s.heap.objs.size+1)::(vs++zB)) (Value.ref (s.heap.objs.size+1)::(us++ds)):= .cons rfl (r.append hd);have hl:(Value.ref (s.heap.objs.size+1)::us++ds).length=ps.length:=by have e:=r2.length;rw[F.len _ _ _ _ hq] at e;exact e.symm
 refine wpAny_call (FQ (f:=f) I.pE M.makes M.init (beq_iff_eq.mp M.fn) (codeAny_mono (F.run _ X.stack _ _ #[Value.ref (s.heap.objs.size+1)::us,[]] (Value.ref (s.heap.objs.size+1)::(us++ds)) _ _ E (hr.make C us []) (I2.Td.make C us []) (hb _ (Value.ref (s.heap.objs.size+1)::us) I2.pE hl) r2 hq) λr s' Sh=> ?_));cases r with
 | error e=>exact hx pins σ _ _ e s' I2 Sh
 | ok fl=>
  cases fl with
  | ret u=>let⟨v,H',I3,rv,ev,q3⟩:=I2.after Sh;subst ev;exact#[rv,#[V.ref (s.heap.objs.size+1),H',I3,rfl,q3]]
  | next=>exact False.elim Sh
  | brk=>exact False.elim Sh
  | cont=>exact False.elim Sh
def IY (M:Mk X.K C f)(F:d3 X.prog X.w X.K X.mg X.base CX k f fd ps sp)(hr:gi (k+1) X.A)(hg:Gl X x)(hm:X.mg x=some (.ref C))(hb:Binds X.K fd ps ds)(hd:Vals zB ds)(hx:Passes CX X E) (ha:PA X (e::es) t) (GC:(x==("__debug__" :Str))=false:=by decide) (he:starEach (e::es) X.env=(false,eval e X.env)::starEach es X.env:=by rfl) (rX:(backTo pos (starEach es X.env)).any (·.1)=false:=by rfl): PE X (.Call (.Name x p) (e::es) [] pos) (Ek C sp zB E t):=by intro pins s σ H Q I h;refine wpAny_Call_Name_kw (AQ I hg hm ?_ GC);refine PySem.W.callWith_K (h₀:=X.base) I.ok.mod.Ux M.kp (dt (ha pos pins s σ H _ I h) λus s1 ⟨vs,H1,I1,r,q⟩=>#[I1.pE,?_]) he rX;exact EW M F hr hb hd hx I1 r q
end
structure b7 (N P:List Str)(sc:Scope):Prop where
 kind:sc.kind= .function
 co:sc.isCoroutine=false
 gen:sc.isGenerator=false
 nd:N.Nodup
 pre:N.take P.length=P
 par: ∀x∈P,sc.names.lookup x=some .local \/ sc.names.lookup x=some .cell
 NS: ∀y∈sc.names,y.2≠ .free
theorem ud {kindOf:Str ->Option NameKind}{x:Str}: ∀ {binds:List (Str×Value)} {m:Str ->Option Value},(∀v,(x,v)∉binds) ->bindL kindOf binds m x=m x
 | [],_,_=>rfl
 | (n,v)::r,m,h=>by
  unfold bindL;rw[ud λw hw=>h w (aw _ hw)];split
  .have:x≠n:=by rintro rfl;exact h v aA
   simp[this]
  .rfl
theorem uf {kindOf:Str ->Option NameKind}{x:Str}: ∀ {binds:List (Str×Value)} {m:Str ->Option Value},(∀v,(x,v)∉binds) ->bindC kindOf binds m x=m x
 | [],_,_=>rfl
 | (n,v)::r,m,h=>by
  unfold bindC;rw[uf λw hw=>h w (aw _ hw)];split
  .rfl
  .have:x≠n:=by rintro rfl;exact h v aA
   simp[this]
theorem ue {kindOf:Str ->Option NameKind}{x:Str}{v:Value}: ∀ {P:List Str} {vs:List Value} {i:Nat} {m:Str ->Option Value},P.Nodup ->P[i]? =some x ->vs[i]? =some v ->kindOf x=some .local ->bindL kindOf (P.zip vs) m x=some v
 | [],_,_,_,_,h,_,_=>by simp at h
 | _::_,[],_,_,_,_,h,_=>by simp at h
 | p::P,w::vs,0,m,nd,h1,h2,hk=>by simp at h1 h2;subst h1;subst h2;show bindL kindOf ((p,w)::P.zip vs) m p=_;unfold bindL;rw[ud λv hv=>(bF.mp nd).1 (List.of_mem_zip hv).1,aj hk];simp
 | p::P,w::vs,i+1,m,nd,h1,h2,hk=>by show bindL kindOf ((p,w)::P.zip vs) m x=_;unfold bindL;exact ue (i:=i) (bF.mp nd).2 (by simpa using h1) (by simpa using h2) hk
theorem ug {kindOf:Str ->Option NameKind}{x:Str}{v:Value}: ∀ {P:List Str} {vs:List Value} {i:Nat} {m:Str ->Option Value},P.Nodup ->P[i]? =some x ->vs[i]? =some v ->kindOf x≠some .local ->bindC kindOf (P.zip vs) m x=some v
 | [],_,_,_,_,h,_,_=>by simp at h
 | _::_,[],_,_,_,_,h,_=>by simp at h
 | p::P,w::vs,0,m,nd,h1,h2,hk=>by simp at h1 h2;subst h1;subst h2;show bindC kindOf ((p,w)::P.zip vs) m p=_;unfold bindC;rw[uf λv hv=>(bF.mp nd).1 (List.of_mem_zip hv).1,ah hk];simp
 | p::P,w::vs,i+1,m,nd,h1,h2,hk=>by show bindC kindOf ((p,w)::P.zip vs) m x=_;unfold bindC;exact ug (i:=i) (bF.mp nd).2 (by simpa using h1) (by simpa using h2) hk
noncomputable def start (N:List Str)(vs:List V):St:=vs.map some++List.replicate (N.length - vs.length) none
noncomputable def fg (CX:HB)(P:Program)(w:World)(K:PySem.W.Frag)(mg:Str ->Option Value)(base:Heap)(N:List Str)(qual:Str)(scope:Scope)(f:Addr)(cd:Value)(A:Around)(outer:List Env)(s:Shared)(H:Hp)(E:XK):Cx where
 prog:=P
 w:=w
 K:=K
 mg:=mg
 base:=base
 A:=A.deeper (envOfC qual scope s.heap.objs.size f cd)
 N:=N
 s₀:=s
 H₀:=H
 env:=envOfC qual scope s.heap.objs.size f cd
 outer:=outer
 stack:=envOfC qual scope s.heap.objs.size f cd::outer
 ex:= []
 calm:=true
 fn:=λ_=>true
 pn:= []
 xe:=λe s'=>wpAny (model P w) (A.deeper (envOfC qual scope s.heap.objs.size f cd)) (leaving (envOfC qual scope s.heap.objs.size f cd) e) (λ_ Vz=>CX outer H s E e Vz) (λe' Vz=>CX outer H s E e' Vz) s'
def ya {sc:Scope}(h:sc.names.lookup x=some .cell): ∃c,(cellsFrom n sc.names []).lookup x=some c:=by have q:=PySem.W.cellsFrom_some sc.names n [] (.inl h);exact Option.isSome_iff_exists.mp q
def Cw {K:PySem.W.Frag}(S:b7 N ps scope)(hd:A.handled=none)(e0:zN P w K mg base A outer s H)(hl:vs.length=ps.length)(r:Vals vs us)(x:InCallC s s.heap.objs.size (bindL (envOfC qual scope s.heap.objs.size f cd).kindOf (ps.zip us) λ_=>none) (cellsFrom (s.heap.objs.size+1) scope.names []) (bindC (envOfC qual scope s.heap.objs.size f cd).kindOf (ps.zip us) λ_=>none) s1): Inv (fg CX P w K mg base N qual scope f cd A outer s H E) [] (start N vs) H s1:=by
 have rX:ps.length<=N.length:=by have:=congrArg List.length S.pre;rw[bu] at this;lia
 let⟨h1,tk,rfl,hk⟩:=x.done;have Rz: ∀b:Addr,b∉(fg CX P w K mg base N qual scope f cd A outer s H E).ex:=λb z=>absurd (show b∈([]:List Addr) from z) (by simp);refine#[#[e0.mod,S.kind,rfl,rfl,ao _,λy z c h1 h2=> ?_,λy hy=> ?_,λy c _ h=> ?_,λ_=>hd,Around.frames_deeper e0.frames, .inr #[rfl,rfl],λb z=>absurd z (Rz b),e0.bs,e0.HR,λb _ _=>Rz b,λb z=>absurd z (Rz b),e0.pL,e0.OO],
  rfl,e0.bare,Un.kept hk,#[_,x.toInCall.ns,λi y v h1 h2 h3=> ?_],λy c h=>#[_,x.cell y c h],e0.dv.fresh (ao _),λy c h=> ?_,λp hp=>absurd (show p∈([]:List (Addr×Obj)) from hp) (by simp),e0.dv.kept hk,?_]
 .exact name_of_addr x.apart (dP h1) (dP h2)
 .have hy:scope.names.lookup y=some .cell \/ scope.names.lookup y=some .free:=hy;rcases hy with hy | hy
  .exact ya hy
  .exact absurd rfl (S.NS _ (dP hy))
 .exact Nat.le_of_lt (x.above y c (dP h))
 .have hi:i<vs.length:=by
   unfold start at h2;by_cases hi:i<vs.length
   .exact hi
   .rw[aU (by simpa using hi)] at h2;rw[List.getElem?_replicate] at h2;split at h2<;>cases h2
  have ha:vs[i]? =some v:=by
   unfold start at h2;rw[a7 (by simpa using hi),ay] at h2;cases e:vs[i]? with
   | none=>rw[e] at h2;cases h2
   | some a=>rw[e] at h2;cases h2;rfl
  let⟨u,hu,rv⟩:=r.get ha;have hp:ps[i]? =some y:=by rw[<- S.pre,List.getElem?_take_of_lt (by lia)];exact h1
  have Z5:ps.Nodup:=by rw[<- S.pre];exact S.nd.sublist (List.take_sublist _ _)
  refine#[u,rv,?_];rcases S.par y (au hp) with k | k
  .exact .inl #[k,ue Z5 hp hu k]
  .let⟨c,e⟩:=ya (n:=s.heap.objs.size+1) k;refine .inr #[.inl k,c,e,?_];have q:=x.cell y c e;rw[ug Z5 hp hu (by show scope.names.lookup y≠_;rw[k];decide)] at q;exact q
 .exact e0.dv.fresh (Nat.le_of_lt (x.above y c (dP h)))
 .unfold start;show _=N.length;rw[aH,aa,cj];lia
def Tb {K:PySem.W.Frag}{dV kV doc pm eI ct oc:Value}(lk:K.lookup f=some #[oc,od, .func (PySem.W.fnOf name qual params body scope dV kV doc pm an eI ct),Dv])(CJ:PySem.W.codeIn K eI qual=true)(S:b7 N ps scope)(len: ∀vs H Q E,sp vs H Q E ->vs.length=ps.length)(nv: ∀ (A:Around) (outer:List Env) (s:Shared) (H:Hp) (vs:List V) (Q:VK) (E:XK),gi k (A.deeper (envOfC qual scope s.heap.objs.size f eI)) ->sp vs H Q E ->∃t,yq (fg CX P w K mg base N qual scope f eI A outer s H E) body t /\ t {nx:=λ_ H'=>Q .dY H',rt:=Q} (start N vs) H): d3 P w K mg base CX (k+1) f (PySem.W.fnOf name qual params body scope dV kV doc pm an eI ct) ps sp:=by
 refine#[len,λA outer s H args us vs Q E hr e0 hb r xo=> ?_];have hl:=len _ _ _ _ xo;have KX:K.In s.heap:=e0.mod.Ux.keeps λb o e=>(e0.bs b o e).1;have lim:s.heap.NoLimit:=e0.mod.nolimit.keeps λb o e=>(e0.bs b o e).1;have SD: ∀y∈ps.zip us,scope.names.lookup y.1=some .local \/ (scope.names.lookup y.1=some .cell /\ ((cellsFrom (s.heap.objs.size+1) scope.names []).lookup y.1).isSome=true):=λ⟨n,v⟩ hy=>by
  rcases S.par n (List.of_mem_zip hy).1 with q | q
  .exact .inl q
  .exact .inr #[q,PySem.W.cellsFrom_some _ _ _ (.inl q)]
 refine codeAny_call_function hr.depth (KX _ _ lk) rfl S.co S.gen rfl (PySem.W.codeRec_of KX CJ) (hb _ _ _ _ ?_);refine wpAny_newFunctionEnv_cells S.kind SD λenv he s1 x=> ?_;subst he;refine#[lim.keeps x.toInCall.keep,codeAny_func ?_];let⟨t,ht,hq⟩:=nv A outer s H vs Q E (hr.deeper _) xo;have I:Inv (fg CX P w K mg base N qual scope f eI A outer s H E) [] (start N vs) H s1:=Cw S hr.hd e0 hl r x;refine bV (ht [] s1 (start N vs) H _ I hq) (λfl s' hs=> ?_) λe s' hs=>hs;have fin: ∀ {σ':St} {H':Hp} {v:V} {u:Value},Inv (fg CX P w K mg base N qual scope f eI A outer s H E) [] σ' H' s' ->RelV v u ->Q v H' ->CE outer P w H s Q u s':=λ{σ' H' v u} J rv q=>#[v,H',J.os,J.bare,J.base,J.dv,rv,q]
 cases fl with
 | ret u=>let⟨v,σ',H',J,rv,q⟩:=hs;exact fin J rv q
 | next=>let⟨σ',H',J,q⟩:=hs;exact fin (v:=V.dY) (u:=Value.none) J rfl q
 | brk=>let⟨_,_,_,q⟩:=hs;exact False.elim q
 | cont=>let⟨_,_,_,q⟩:=hs;exact False.elim q
section
variable {X:Cx}{x:Str}{p pos:Pos}{e:Expr}{es:List Expr}{t:TA}{id T:String}{r:List V ->Hp ->VK ->Prop}
noncomputable def Vs (r:List V ->Hp ->VK ->Prop)(t:TA):TE:=λσ H Q=>t σ H λvs H1=>r vs H1 Q
def bL (hc:gg X (.builtin id) r)(hg:Gl X x)(hm:X.mg x=none)(hv:bootBuiltins x=some (.builtin id))(ha:PA X (e::es) t)(hn:x≠ "__name__" :=by decide)(GC:(x==("__debug__" :Str))=false:=by decide) (he:starEach (e::es) X.env=(false,eval e X.env)::starEach es X.env:=by rfl) (rX:(backTo pos (starEach es X.env)).any (·.1)=false:=by rfl):PE X (.Call (.Name x p) (e::es) [] pos) (Vs r t):=by intro pins s σ H Q I h;refine wpAny_Call_Name_kw (gJ I hg hm hv ?_ hn GC);exact PyProof.Rows.callWith_builtin1 (dt (ha pos pins s σ H _ I h) λus s1 ⟨vs,H1,I1,r1,q1⟩=>hc pins s1 σ H1 vs us Q I1 r1 q1) he rX
def dE (hc:gg X (.type T) r)(hg:Gl X x)(hm:X.mg x=none)(hv:bootBuiltins x=some (.type T))(ha:PA X (e::es) t)(hn:x≠ "__name__" :=by decide)(GC:(x==("__debug__" :Str))=false:=by decide) (he:starEach (e::es) X.env=(false,eval e X.env)::starEach es X.env:=by rfl) (rX:(backTo pos (starEach es X.env)).any (·.1)=false:=by rfl):PE X (.Call (.Name x p) (e::es) [] pos) (Vs r t):=by intro pins s σ H Q I h;refine wpAny_Call_Name_kw (gJ I hg hm hv ?_ hn GC);exact bP (dt (ha pos pins s σ H _ I h) λus s1 ⟨vs,H1,I1,r1,q1⟩=>hc pins s1 σ H1 vs us Q I1 r1 q1) he rX
end
end L2
namespace HT
open PySem PyProof.Rows
section
variable {prog:Program}{w:World}{A:Around}{E:Value ->Shared ->Prop}{s:Shared}
noncomputable def mL (n d:Nat):Option Int ->Nat
 | none=>d
 | some v=>if v<0 then(v+(n:Int)).toNat else min v.toNat n
theorem EU (n d:Nat):mL n d none=d:=rfl
def Iy (n d k:Nat):mL n d (some (k:Int))=min k n:=by show(if(k:Int) <0 then((k:Int)+(n:Int)).toNat else min (k:Int).toNat n)=min k n;rw[ah (by lia),Int.toNat_natCast]
end
end HT
namespace L2
open PySem PySem.Spec PyProof.Rows
noncomputable abbrev TO:=St ->Hp ->(Option Int ->Hp ->Prop) ->Prop
noncomputable def PO (X:Cx)(e:Option Expr)(t:TO):Prop:=∀ (pins:List (Addr×Obj)) (s:Shared) (σ:St) (H:Hp) (Q:Option Int ->Hp ->Prop),Inv X pins σ H s ->t σ H Q ->wpAny (model X.prog X.w) X.A (evalPart e X.env) (λu s'=> ∃o H',Inv X pins σ H' s' /\ IsPart u o /\ Q o H') X.xe s
noncomputable def Ac:TO:=λ_ H Q=>Q none H
noncomputable def KJ (t:TE):TO:=λσ H Q=>t σ H λx H1=> ∃i,x= .int i /\ Q (some i) H1
section
variable {X:Cx}{e:Expr}{te:TE}{lo hi:Option Expr}{tl th:TO}{pos p2:Pos}
def pZ:PO X none Ac:=by intro pins s σ H Q I h;rw[evalPart_none];exact aO #[none,H,I, .none,h]
def pY (h:PE X e te):PO X (some e) (KJ te):=by intro pins s σ H Q I hw;rw[evalPart_some];refine dt (h pins s σ H _ I hw) λu s1 ⟨x,H1,I1,r1,q1⟩=> ?_;let⟨i,rfl,q⟩:=q1;let⟨t,rfl⟩:=r1;exact#[some i,H1,I1, .int i t,q]
noncomputable def SlR (X:Cx)(r:V ->Option Int ->Option Int ->Hp ->VK ->Prop):Prop:=∀ (pins:List (Addr×Obj)) (s:Shared) (σ:St) (H:Hp) (x:V) (v vl vu:Value) (lo hi:Option Int) (sl:Addr) (Q:VK),Inv X pins σ H s ->RelV x v ->s.heap.IsSliceOf sl vl vu .none ->IsPart vl lo ->IsPart vu hi ->r x lo hi H Q ->∃T id,typeLookup (.type T) "__getitem__" =pure (some (.builtin id)) /\ s.TypeIs v T /\ wpAny (model X.prog X.w) X.A (getItem v (.ref sl)) (EP X pins σ Q) X.xe s
noncomputable def ZJ (r:V ->Option Int ->Option Int ->Hp ->VK ->Prop)(te:TE)(tl th:TO):TE:=λσ H Q=>te σ H λx H1=>tl σ H1 λl H2=>th σ H2 λu H3=>r x l u H3 Q
def mP (hr:SlR X r)(he:PE X e te)(hl:PO X lo tl)(hu:PO X hi th):PE X (.Subscript e (.Slice lo hi none p2) pos) (ZJ r te tl th):=by intro pins s σ H Q I h;refine Subscript_ (dt (he pins s σ H _ I h) λv s1 ⟨x,H1,I1,r1,q1⟩=> ?_);refine wpAny_Slice (dt (hl pins s1 σ H1 _ I1 q1) λvl s2 ⟨l,H2,I2,pl,q2⟩=>dt (hu pins s2 σ H2 _ I2 q2) λvu s3 ⟨u,H3,I3,pu,q3⟩=> ?_);rw[evalPart_none];refine aO ?_;have I4:Inv X pins σ H3 {s3 with heap:=s3.heap.push {cls:= .type "slice",data:= .fields (List.toArray [vl,vu, .none])}}:=I3.kept (t':=s3.toks) λb ob q=>aq _ q;let⟨T,id,hT,ht,hg⟩:=hr pins {s3 with heap:=s3.heap.push {cls:= .type "slice",data:= .fields (List.toArray [vl,vu, .none])}} σ H3 x v vl vu l u s3.heap.objs.size Q I4 r1 (Heap.IsSliceOf.new ..) pl pu q3;show wpAny (model X.prog X.w) X.A (subscriptTail e (.Slice lo hi none p2) v (.ref s3.heap.objs.size)) (EP X pins σ Q) X.xe {s3 with heap:=s3.heap.push {cls:= .type "slice",data:= .fields (List.toArray [vl,vu, .none])}};exact tail_any (ops:= [.ref s3.heap.objs.size,v]) ht hT hg (by with_unfolding_all rfl)
noncomputable def xW (xs:List V)(lo hi:Option Int):List V:=(xs.drop (HT.mL xs.length 0 lo)).take (HT.mL xs.length xs.length hi - HT.mL xs.length 0 lo)
def xV (xs:List V)(lo hi:Option Int):(xW xs lo hi).length<=xs.length:=by unfold xW;rw[bu,List.length_drop];lia
end
noncomputable def qR (n:Nat)(i:Int):Option Nat:=if 0<=i then(if i<n then some i.toNat else none) else if -(n:Int) <=i then some (i+n).toNat else none
noncomputable def iY {α:Type}(xs:List α)(i:Int):Option α:=(qR xs.length i).bind λj=>xs[j]?
def AX (h:qR n i=some j): seqIndex? i n=some j /\ j<n /\ -(n:Int) <=i /\ i<n:=by
 unfold qR at h;by_cases h0:0<=i
 .rw[aj h0] at h;by_cases h1:i<n
  .rw[aj h1] at h;have e:i.toNat=j:=bA h;exact#[by rw[seqIndex_of h0 h1,e],by lia,by lia,h1]
  .rw[ah h1] at h;cases h
 .rw[ah h0] at h;by_cases h1: -(n:Int) <=i
  .rw[aj h1] at h;have e:(i+n).toNat=j:=bA h;exact#[by rw[seqIndex_neg (by lia) h1,e],by lia,h1,by lia]
  .rw[ah h1] at h;cases h
def BF {v:α}(h:iY xs i=some v): ∃j, seqIndex? i xs.length=some j /\ xs[j]? =some v /\ j<xs.length /\ -(xs.length:Int) <=i /\ i<xs.length:=by
 unfold iY at h;cases e:qR xs.length i with
 | none=>rw[e] at h;cases h
 | some j=>rw[e] at h;let⟨h1,h2,h3,h4⟩:=AX e;exact#[j,h1,h,h2,h3,h4]
def gz {j:Nat}{v:α}(h:xs[j]? =some v):iY xs (j:Int)=some v:=by
 have hj:j<xs.length:=(ai.mp h).1;have e:qR xs.length (j:Int)=some j:=by unfold qR;rw[aj (by lia),aj (by lia)];simp
 unfold iY;rw[e];exact h
noncomputable def Kh (b:Expr):Prop:= ∀o i,subscripted b false o i=operate [o,i] (getItem o i)
noncomputable def BK (X:Cx)(r:R2):Prop:=∀ (value slice:Expr) (pins:List (Addr×Obj)) (s:Shared) (σ:St) (H:Hp) (x y:V) (v u:Value) (Q:VK),Inv X pins σ H s ->RelV x v ->RelV y u ->r x y H Q ->subscripted slice false v u=operate [v,u] (getItem v u) ->wpAny (model X.prog X.w) X.A (subscriptTail value slice v u) (EP X pins σ Q) X.xe s
noncomputable def MtR (X:Cx)(id:String)(r:V ->List V ->Hp ->VK ->Prop):Prop:=∀ (pins:List (Addr×Obj)) (s:Shared) (σ:St) (H:Hp) (x:V) (xs:List V) (v:Value) (us:List Value) (Q:VK),Inv X pins σ H s ->RelV x v ->Vals xs us ->r x xs H Q ->wpAny (model X.prog X.w) X.A (call (.builtin id) (v::us)) (EP X pins σ Q) X.xe s
section
variable {X:Cx}{a b:Expr}{ta tb:TE}{pos:Pos}
def BK.or (h:BK X r)(h':BK X r'):BK X (λx y H Q=>r x y H Q \/ r' x y H Q):=by
 intro value slice pins s σ H x y v u Q I rx ry q hs;rcases q with q | q
 .exact h value slice pins s σ H x y v u Q I rx ry q hs
 .exact h' value slice pins s σ H x y v u Q I rx ry q hs
def cP (hr:BK X r)(ha:PE X a ta)(hb:PE X b tb)(hs:Kh b):PE X (.Subscript a b pos) (QJ r ta tb):=by intro pins s σ H Q I h;exact Subscript_ (O1 ha hb I h λv u s2 x y H2 I2 rx ry q=>hr a b pins s2 σ H2 x y v u Q I2 rx ry q (hs _ _))
noncomputable def E5 (K:PySem.W.Frag):R2:=λx y H Q=> ∃p xs i v,x= .ref p /\ y= .int i /\ gB K H p xs /\ iY xs i=some v /\ Q v H
noncomputable def wB (K:PySem.W.Frag):R2:=λx y H Q=> ∃p xs i v,x= .ref p /\ y= .int i /\ jj K H p xs /\ iY xs i=some v /\ Q v H
def cY:BK X (E5 X.K):=by
 intro value slice pins s σ H x y v u Q I rx ry h hs;let⟨p,xs,i,z,rfl,rfl,hq,he,q⟩:=h;cases rx;let⟨t,rfl⟩:=ry;let⟨its,r,pl,hz⟩:=I.list hq;let⟨j,h1,h2,h3,h4,h5⟩:=BF he;let⟨w,ew,uM⟩:=r.get h2;have hl:=r.length;have hn:=qL;have fin:EP X pins σ Q w s:=#[z,H,I,uM,q]
 by_cases h0:0<=i
 .have hj:i.toNat=j:=by rw[seqIndex_of h0 h5] at h1;exact bA h1
  exact item_listR pl.isList h0 (by lia) (by rw[hj];simpa using ew) fin hs
 .have hj:(i+(its.toArray.size:Int)).toNat=j:=by rw[seqIndex_neg (by lia) h4] at h1;rw[aR, <- hl];exact bA h1
  exact subscriptTail_builtinR (x:=w) pl.isList.typeIs slot_list_getitem.lookup (wpAny_getItem_list_neg (Q:=λr s'=>r=w /\ EP X pins σ Q r s') pl.isList (by lia) (by rw[aR] <;>lia) (by lia) (by rw[hj];simpa using ew) #[rfl,fin]) hs
def eh:BK X (wB X.K):=by
 intro value slice pins s σ H x y v u Q I rx ry h hs;let⟨p,xs,i,z,rfl,rfl,hq,he,q⟩:=h;cases rx;let⟨t,rfl⟩:=ry;let⟨its,r,pl,hz⟩:=I.tuple hq;let⟨j,h1,h2,h3,h4,h5⟩:=BF he;let⟨w,ew,uM⟩:=r.get h2;have hl:=r.length;have hn:=qL;have fin:EP X pins σ Q w s:=#[z,H,I,uM,q]
 exact subscriptTail_builtinR (x:=w) pl.typeIs slot_tuple_getitem.lookup (getItem_tuple (j:=j) (Q:=λr s'=>r=w /\ EP X pins σ Q r s') pl (by lia) (by lia) (by rw[aR, <- hl];exact h1) (by simpa using ew) #[rfl,fin]) hs
def y9 (its:List Value)(n j:Nat)(u:Value):Obj.mapSeq (·.setIfInBounds j u) {cls:= .type "list",data:= .seq its.toArray n}= {cls:= .type "list",data:= .seq (its.set j u).toArray n}:=by simp[Obj.mapSeq]
def Inv.lst {pins:List (Addr×Obj)}{σ:St}{H:Hp}{s:Shared}{p:Addr}{xs:List V}(I:Inv X pins σ H s)(h:H p=some (.lst xs)): ∃ (its:List Value) (n:Nat),Vals xs its /\ s.heap.get? p=some {cls:= .type "list",data:= .seq its.toArray n} /\ xs.length<=sizeLine:=by let⟨z,its,n,r,e⟩:=I.dv p _ h;exact#[its,n,r,e,z]
def Inv.N4 {σ:St}{its its':List Value}(I:Inv X pins σ H s)(h:H p=some (.lst xs))(ho:s.heap.get? p=some {cls:= .type "list",data:= .seq its.toArray n})(hf:f {cls:= .type "list",data:= .seq its.toArray n}= {cls:= .type "list",data:= .seq its'.toArray n'})(r:Vals ys its')(hz:ys.length<=sizeLine)(t:Nat): Inv X pins σ (upd H p (.lst ys)) {s with heap:=s.heap.update p f,toks:=t}:=by
 have e:(s.heap.update p f).get? p=some {cls:= .type "list",data:= .seq its'.toArray n'}:=by rw[Heap.get?_update_self f ho (by rw[hf] <;>rfl),hf]
 refine I.write (x:=p) (e:=p) (by rw[h];trivial) (.inl rfl) (λb u hb q=>(dX _ _ (a9 hb)).trans q) #[_,e] ?_;exact#[hz,its',n',r,e]
noncomputable def Ld:V ->V ->V ->Hp ->(Hp ->Prop) ->Prop:=λo i v H Q=> ∃p xs k j,o= .ref p /\ i= .int k /\ H p=some (.lst xs) /\ qR xs.length k=some j /\ Q (upd H p (.lst (xs.set j v)))
def set_list:Tx X Ld:=by
 intro pins s σ H o i v ov iv u Q I ro ri rv h;let⟨p,xs,k,j,rfl,rfl,hp,hj,q⟩:=h;cases ro;let⟨t,rfl⟩:=ri;let⟨its,n,r,ho,hz⟩:=I.lst hp;let⟨h1,h2,h3,h4⟩:=AX hj;have hl:=r.length;have hn:=qL;have I':Inv X pins σ (upd H p (.lst (xs.set j v))) {s with heap:=s.heap.update p (Obj.mapSeq (·.setIfInBounds j u))}:=I.N4 hp ho (y9 its n j u) (r.set rv j) (by rw[List.length_set];exact hz) s.toks;by_cases h0:0<=k
 .have hk:k.toNat=j:=by rw[seqIndex_of h0 h4] at h1;exact bA h1
  exact PySem.W.ki_setAt ho h0 (by lia) (by rw[aR, <- hl];exact h4) (by rw[hk];exact#[_,I',q])
 .have hk:(k+(its.toArray.size:Int)).toNat=j:=by rw[seqIndex_neg (by lia) h3] at h1;rw[aR, <- hl];exact bA h1
  exact PySem.W.ki_setBack ho (by lia) (by rw[aR, <- hl];exact h3) (by lia) (by rw[hk];exact#[_,I',q])
def uF (lo hi:Option Int)(n:Nat):(sliceBounds lo hi none n).1=((HT.mL n 0 lo:Nat):Int) /\ (sliceBounds lo hi none n).2.1=((HT.mL n n hi:Nat):Int) /\ (sliceBounds lo hi none n).2.2=1:=by
 refine#[?_,?_,rfl]
 .cases lo with
  | none=>simp[sliceBounds,HT.mL]
  | some i=>
   simp![sliceBounds,HT.mL,Option.getD_none,show(1:Int) >0 by decide,bW];by_cases h:i<0
   .simp![h,bW] <;>lia
   .simp![h,bj] <;>lia
 .cases hi with
  | none=>simp[sliceBounds,HT.mL]
  | some i=>
   simp![sliceBounds,HT.mL,Option.getD_none,show(1:Int) >0 by decide,bW];by_cases h:i<0
   .simp![h,bW] <;>lia
   .simp![h,bj] <;>lia
def rQ (its:List Value)(lo hi:Option Int):slicePick its.toArray lo hi none=((its.drop (HT.mL its.length 0 lo)).take (HT.mL its.length its.length hi - HT.mL its.length 0 lo)).toArray:=by let⟨h1,h2,h3⟩:=uF lo hi its.toArray.size;unfold slicePick;rw[h1,h2,h3];simp![sliceRange_one,pick_run,aR] <;>rfl
noncomputable def Q6 (K:PySem.W.Frag):V ->Option Int ->Option Int ->Hp ->VK ->Prop:=λx lo hi H Q=> ∃a xs,x= .ref a /\ gB K H a xs /\ ∀p,H p=none ->Q (.ref p) (upd H p (.lst (xW xs lo hi)))
def pT:SlR X (Q6 X.K):=by intro pins s σ H x v vl vu lo hi sl Q I rx hs pl pu h;let⟨a,xs,rfl,hx,q⟩:=h;cases rx;let⟨its,r,ht,hz⟩:=I.list hx;have hlen:=r.length;refine#["list",_,slot_list_getitem.lookup,ht.isList.typeIs,?_];refine wpAny_getItem_list_slice ht.isList hs pl pu .none (by simp) ?_ (by rw[aR] <;>lia);rw[rQ, <- hlen];refine#[.ref s.heap.objs.size,_,I.laid (t':=s.toks) (o:= .lst (xW xs lo hi)) (λb ob q=>aq _ q) (ao _) ?_,rfl,q _ (I.dv.fresh (ao _))];exact#[aZ (xV xs lo hi) hz,_,0,(r.drop (HT.mL xs.length 0 lo)).take (HT.mL xs.length xs.length hi - HT.mL xs.length 0 lo),aS _ rfl]
noncomputable def L5:V ->Bool
 | .dY=>true
 | .bl _=>true
 | .int _=>true
 | .str _=>true
 | _=>false
noncomputable def eqV:V ->V ->Bool
 | .dY, .dY=>true
 | .bl a, .bl b=>a==b
 | .bl a, .int b=>(if a then 1 else 0)==b
 | .int a, .bl b=>a==(if b then 1 else 0)
 | .int a, .int b=>a==b
 | .str a, .str b=>a==b
 | _,_=>false
def fR (ry:RelV y u)(rx:RelV x v)(fy:L5 y=true)(fx:L5 x=true):SeqAt.EqAt A s u v (eqV y x):=by
 cases y with
 | dY=>
  cases ry;cases x with
  | dY=>cases rx;exact SeqAt.EqAt.same _
  | bl b=>cases rx;exact SeqAt.EqAt.none_bool b
  | int b=>let⟨t,rfl⟩:=rx;exact SeqAt.EqAt.none_int b t
  | str b=>let⟨t,rfl⟩:=rx;exact SeqAt.EqAt.none_str b t
  | _=>exact absurd (show false=true from fx) aX
 | bl a=>
  cases ry;cases x with
  | dY=>cases rx;exact SeqAt.EqAt.bool_none a
  | bl b=>cases rx;exact SeqAt.EqAt.bool_bool a b
  | int b=>let⟨t,rfl⟩:=rx;exact SeqAt.EqAt.bool_int a b t
  | str b=>let⟨t,rfl⟩:=rx;exact SeqAt.EqAt.bool_str a b t
  | _=>exact absurd (show false=true from fx) aX
 | int a=>
  let⟨t',rfl⟩:=ry;cases x with
  | dY=>cases rx;exact SeqAt.EqAt.int_none a t'
  | bl b=>cases rx;exact SeqAt.EqAt.int_bool a t' b
  | int b=>let⟨t,rfl⟩:=rx;exact SeqAt.EqAt.int_int a t' b t
  | str b=>let⟨t,rfl⟩:=rx;exact SeqAt.EqAt.int_str a t' b t
  | _=>exact absurd (show false=true from fx) aX
 | str a=>
  let⟨t',rfl⟩:=ry;cases x with
  | dY=>cases rx;exact SeqAt.EqAt.str_none a t'
  | bl b=>cases rx;exact SeqAt.EqAt.str_bool a t' b
  | int b=>let⟨t,rfl⟩:=rx;exact SeqAt.EqAt.str_int a t' b t
  | str b=>let⟨t,rfl⟩:=rx;exact SeqAt.EqAt.str_str a t' b t
  | _=>exact absurd (show false=true from fx) aX
 | _=>exact absurd (show false=true from fy) aX
def vz:gg X (.builtin "len") (λxs H Q=> ∃p ys,xs= [.ref p] /\ (gB X.K H p ys \/ jj X.K H p ys) /\ Q (.int ys.length) H):=by
 intro pins s σ H xs us Q I r h;let⟨p,ys,rfl,hq,q⟩:=h;let⟨u,rfl,rx⟩:=vals1 r;cases rx;have hn:=qL;rcases hq with hq | hq
 .let⟨its,r',pl,hz⟩:=I.list hq;have hlen:=r'.length;exact Calls.call_len_list pl.isList (by simp![aR] <;>lia) #[.int ys.length,H,I.tok _,#[s.toks+1,by rw[aR,hlen]],q]
 .let⟨its,r',pl,hz⟩:=I.tuple hq;have hlen:=r'.length;exact len_tuple pl (by simp![aR] <;>lia) #[.int ys.length,H,I.tok _,#[s.toks+1,by rw[aR,hlen]],q]
def vy:gg X (.type "list") (λxs H Q=> ∃p ys,xs= [.ref p] /\ (gB X.K H p ys \/ jj X.K H p ys) /\ ∀l,H l=none ->Q (.ref l) (upd H l (.lst ys))):=by
 intro pins s σ H xs us Q I r h;let⟨p,ys,rfl,hq,q⟩:=h;let⟨u,rfl,rx⟩:=vals1 r;cases rx;have fin: ∀ (its:List Value),Vals ys its ->ys.length<=sizeLine -> ∀ (h':Heap) (c':Nat),(∀b o',s.heap.get? b=some o' ->h'.get? b=some o') ->h'.get? s.heap.objs.size=some {cls:= .type "list",dict:=none,data:= .seq its.toArray c',slots:= #[]} ->EP X pins σ Q (.ref s.heap.objs.size) {s with heap:=h'}:=λits r' hz h' c' kp e=>#[.ref s.heap.objs.size,_,I.laid (t':=s.toks) kp (ao _) (show d6 X.prog X.w _ h' _ (.lst ys) from#[hz,its,c',r',e]),rfl,q _ (I.dv.fresh (ao _))]
 rcases hq with hq | hq
 .let⟨its,r',pl,hz⟩:=I.list hq;have hlen:=r'.length;let⟨o,ho,hc,n,hd⟩:=pl.isList;exact call_list_seq p (.inl rfl) ho hc hd (λh' c' kp e=>fin its r' hz h' c' kp e) (by simp![aR] <;>lia)
 .let⟨its,r',pl,hz⟩:=I.tuple hq;have hlen:=r'.length;let⟨o,ho,hc,n,hd⟩:=pl;exact call_list_seq p (.inr rfl) ho hc hd (λh' c' kp e=>fin its r' hz h' c' kp e) (by simp![aR] <;>lia)
def r8:gg X (.type "tuple") (λxs H Q=> ∃p ys,xs= [.ref p] /\ ((gB X.K H p ys /\ ∀l,H l=none ->Q (.ref l) (upd H l (.tup ys))) \/ (jj X.K H p ys /\ Q (.ref p) H))):=by
 intro pins s σ H xs us Q I r h;let⟨p,ys,rfl,h⟩:=h;let⟨u,rfl,rx⟩:=vals1 r;cases rx;rcases h with⟨hq,q⟩ | ⟨hq,q⟩
 .let⟨its,r',pl,hz⟩:=I.list hq;have hlen:=r'.length;refine call_tuple_list pl.isList (λh' kp=> ?_) (by simp![aR] <;>lia);have I1:Inv X pins σ H {s with heap:=h'}:=I.kept (t':=s.toks) kp;have I2:Inv X pins σ (upd H h'.objs.size (.tup ys)) {s with heap:=h'.push {cls:= .type "tuple",data:= .seq its.toArray}}:=I1.laid (t':=s.toks) (λb o e=>aq _ e) (ao _) (show d6 X.prog X.w _ _ _ (.tup ys) from#[hz,its,r',vF.new _ _]);exact#[.ref h'.objs.size,_,I2,rfl,q _ (I1.dv.fresh (ao _))]
 .let⟨its,r',pl,hz⟩:=I.tuple hq;exact call_tuple_same pl #[.ref p,H,I,rfl,q]
noncomputable def Vo (K:PySem.W.Frag)(T:String)(x:V)(H:Hp):Prop:=match x with
 | .str _=>T= "str"
 | .int _=>T= "int"
 | .ref p=>(T= "list" /\ ∃xs,gB K H p xs) \/ (T= "tuple" /\ ∃o,K.lookup p=some o /\ o.cls= .type "tuple" /\ o.dict=none) \/(T= "dict" /\ ((∃kvs,H p=some (.dK kvs)) \/ ∃kvs,H p=some (.dT kvs))) \/ (T= "set" /\ ∃S n,H p=some (.set S n))
 | _=>False
def ME {σ:St}(I:Inv X pins σ H s)(r:RelV x v)(ty:Vo X.K T x H): s.TypeIs v T /\ ∀a,v= .ref a -> ∃ob,s.heap.get? a=some ob /\ ob.dict=none:=by
 cases x with
 | str z=>let⟨t,rfl⟩:=r;cases (show T= "str" from ty);exact#[typeIs_str s z t,λ_ e=>nomatch e]
 | int i=>let⟨t,rfl⟩:=r;cases (show T= "int" from ty);exact#[typeIs_int s i t,λ_ e=>nomatch e]
 | ref p =>
  cases r;rcases ty with⟨rfl,xs,hq⟩ | ⟨rfl,o,hk,hc,hd⟩ | ⟨rfl,hk⟩ | ⟨rfl,S,n,hk⟩
  .let⟨its,_,pl,_⟩:=I.list hq;refine#[pl.isList.typeIs,λa e=> ?_];cases e;let⟨o,n,e,c,hd,_⟩:=pl;exact#[o,e,hd]
  .refine#[#[o,I.pE p o hk,hc],λa e=> ?_];cases e;exact#[o,I.pE _ o hk,hd]
  .have z: ∃o,s.heap.get? p=some o /\ o.ExactDict:=by
    rcases hk with⟨kvs,hk⟩ | ⟨kvs,hk⟩
    .let⟨_,_,_,_,o,_,_,e,ex,_⟩:=I.dv p _ hk;exact#[o,e,ex]
    .let⟨_,_,_,_,o,_,_,e,ex,_⟩:=I.dv p _ hk;exact#[o,e,ex]
   let⟨o,e,ex⟩:=z;refine#[#[o,e,ex.1],λa e2=> ?_];cases e2;exact#[o,e,ex.2.1]
  .let⟨o,_,_,_,e,ex,_⟩:=I.dv p _ hk;refine#[#[o,e,ex.1],λa e2=> ?_];cases e2;exact#[o,e,ex.2.1]
 | _=>exact False.elim ty
noncomputable def ZL (K:PySem.W.Frag)(T:String)(r:V ->List V ->Hp ->VK ->Prop)(to:TE)(t:TA):TE:=λσ H Q=>to σ H λx H1=>Vo K T x H1 /\ t σ H1 λxs H2=>r x xs H2 Q
variable {o e:Expr}{es:List Expr}{to:TE}{t:TA}{name:Str}{apos fY:Pos}{T id:String}{r:V ->List V ->Hp ->VK ->Prop}
def Fp (pa:PlainAttrs T)(slot:Slot T name id)(hty:typeOf (.builtin id)=pure (.type "method_descriptor"))(hm:MtR X id r)(ho:PE X o to)(ha:PA X (e::es) t) (xv:attributeBase o name X.env (eval o X.env)=eval o X.env:=by rfl) (Xp:((backTo fY (starEach (e::es) X.env)).all (λx=> !x.1) && (backToKw fY (keywordEach [] X.env)).all (λx=>x.1.isSome) && decide ((e::es).length+([]:List Keyword).length+(if([]:List Keyword).isEmpty then 0 else 1) <30))=true:=by rfl) (xr:(apos.endLine==fY.line)=true:=by rfl) (hs:starEach (e::es) X.env=(false,eval e X.env)::starEach es X.env:=by rfl) (Oj:(backTo fY (starEach es X.env)).any (·.1)=false:=by rfl): PE X (.Call (.Attribute o name apos) (e::es) [] fY) (ZL X.K T r to t):=by intro pins s σ H Q I h;refine wpAny_Call_method_late xv Xp xr rfl (dt (ho pins s σ H _ I h) λv s1 ⟨x,H1,I1,r1,ty,q1⟩=> ?_);let⟨h1,h2⟩:=ME I1 r1 ty;refine#[T,id,pa,slot,hty,h1,h2,?_];have hA:=ha fY pins s1 σ H1 _ I1 q1;rw[hs] at hA ⊢;refine Calls.callWith_builtin (by show(false || (backTo fY (starEach es X.env)).any (·.1))=false;rw[Oj] <;>rfl) (Calls.evalArgs_plain ?_);exact dt hA λus s2 ⟨vs,H2,I2,r2,q2⟩=>hm pins s2 σ H2 x vs v us Q I2 r1 r2 q2
end
noncomputable def MtM (X:Cx)(id:String)(r:V ->List V ->Hp ->VK ->Prop):Prop:=∀ (pins:List (Addr×Obj)) (s:Shared) (σ:St) (H:Hp) (x:V) (xs:List V) (v:Value) (us:List Value) (Q:VK),Inv X pins σ H s ->RelV x v ->Vals xs us ->r x xs H Q ->wpAny (model X.prog X.w) X.A (call (.builtin id) (v::us)) (EP X pins σ Q) X.xe s
def Vals.one: ∀ {x:V} {us:List Value},Vals [x] us -> ∃u,us= [u] /\ RelV x u :=by intro x us h;cases h with | cons r t=>cases t;exact#[_,rfl,r]
theorem Vals.rep {xs:List V}{us:List Value}(h:Vals xs us): ∀k:Nat,Vals (List.replicate k xs).flatten (List.replicate k us).flatten
 | 0=> .nil
 | k+1=>by rw[cT,cT,List.flatten_cons,List.flatten_cons];exact Vals.append h (Vals.rep h k)
theorem foldl_rep (its:List Value): ∀ (k:Nat) (acc:List Value),List.foldl (λx1 x2=>x1++x2) acc.toArray (List.replicate k its.toArray)=(acc++(List.replicate k its).flatten).toArray
 | 0,acc=>by simp
 | k +1,acc=>by
  have e:acc.toArray++its.toArray=(acc++its).toArray:=by simp
  have e2:(acc++its)++(List.replicate k its).flatten=acc++(List.replicate (k+1) its).flatten:=by rw[cT,List.flatten_cons,bQ]
  rw[<- e2, <- foldl_rep its k (acc++its), <- e,cT,List.foldl_cons]
section
variable {X:Cx}{pins:List (Addr×Obj)}{σ:St}{H:Hp}{s:Shared}{l b:Addr}{xs ys zs:List V}
def Inv.RK {its its':List Value}(I:Inv X pins σ H s)(hH:H l=some (.lst xs))(e:s.heap.get? l=some {cls:= .type "list",data:= .seq its.toArray n})(hf:f its.toArray=its'.toArray)(hv:Vals ys its')(hz:ys.length<=sizeLine): Inv X pins σ (upd H l (.lst ys)) {s with heap:=s.heap.update l (Obj.mapSeq f),toks:=t'}:=by have q:=PySem.IsL.update e f;rw[hf] at q;refine I.write (x:=l) (e:=l) (by rw[hH];exact trivial) (.inl rfl) (λb' u hb hu=>(dX s.heap (Obj.mapSeq f) (a9 hb)).trans hu) #[_,q] ?_;exact#[hz,its',_,hv,q]
theorem Inv.RL (I:Inv X pins σ H s)(hv:Vals ys its)(hz:ys.length<=sizeLine): Inv X pins σ (upd H s.heap.objs.size (.lst ys)) {s with heap:=s.heap.push {cls:= .type "list",data:= .seq its.toArray},toks:=t'}:=I.laid (λ_ _ q=>aq _ q) (ao _) #[hz,its,0,hv,aS _ rfl]
theorem Inv.fresh (I:Inv X pins σ H s):H s.heap.objs.size=none:=I.dv.fresh (ao _)
def Inv.Cn (I:Inv X pins σ H s)(hH:H l=some (.lst xs)):xs.length<=sizeLine /\ ∃ (its:List Value) (n:Nat),Vals xs its /\ xs.length=its.length /\ s.heap.get? l=some {cls:= .type "list",data:= .seq its.toArray n}:=by let⟨z,its,n,r,e⟩:=I.dv l _ hH;exact#[z,its,n,r,r.length,e]
def wR (h:n<=sizeLine):Builtin.List.listTooLong n=false:=by unfold Builtin.List.listTooLong;exact c7 (by lia)
end
section
variable {X:Cx}
noncomputable def Aw:V ->List V ->Hp ->VK ->Prop:=λx vs H Q=> ∃l xs y,x= .ref l /\ vs= [y] /\ H l=some (.lst xs) /\ xs.length<sizeLine /\ Q .dY (upd H l (.lst (xs++ [y])))
def kI:MtM X "list.append" Aw:=by intro pins s σ H x vs v us Q I rx rv h;let⟨l,xs,y,rfl,rfl,hH,hz,q⟩:=h;cases rx;let⟨u,rfl,ru⟩:=rv.one;let⟨z,its,n,r,hl,e⟩:=I.Cn hH;refine call_meets F.slot_list_append #[_,e,rfl] F.entry_list_append (F.args_list_append_2 _ _) (PySem.list_append l its.toArray n u (by rw[aR];lia)) #[e,?_];refine#[.dY,_,I.RK (its':=its++ [u]) hH e (by simp) (r.append (.cons ru .nil)) ?_,rfl,q];rw[aH,cC];lia
noncomputable def Av:V ->List V ->Hp ->VK ->Prop:=λx vs H Q=> ∃l b xs zs,x= .ref l /\ vs= [.ref b] /\ H l=some (.lst xs) /\ H b=some (.lst zs) /\ xs.length+zs.length<=sizeLine /\ Q .dY (upd H l (.lst (xs++zs)))
def Cg:MtM X "list.extend" Av:=by
 intro pins s σ H x vs v us Q I rx rv h;let⟨l,b,xs,zs,rfl,rfl,hH,hB,hz,q⟩:=h;cases rx;let⟨u,rfl,ru⟩:=rv.one;cases ru;let⟨z,its,n,r,hl,e⟩:=I.Cn hH;let⟨z2,zk,n2,r2,Ow,e2⟩:=I.Cn hB;have hsz:its.toArray.size+zk.toArray.size<=sizeLine:=by rw[aR,aR];lia
 have Gr:¬(!its.toArray.isEmpty && Builtin.List.listTooLong (its.toArray.size+zk.toArray.size))=true:=by rw[wR hsz,Bool.and_false];exact aX
 refine call_meets F.slot_list_extend #[_,e,rfl] F.entry_list_extend (F.args_list_extend_2 _ _) (AutoSeq1.list_extend_list_list_0 l its.toArray n b zk.toArray n2 Gr (by rw[aR];lia) (by lia)) #[e,e2,?_];refine#[.dY,_,I.RK (its':=its++zk) hH e (by simp) (r.append r2) ?_,rfl,q];rw[aH];lia
noncomputable def Rb:R2:=λx y H Q=> ∃l b xs zs,x= .ref l /\ y= .ref b /\ H l=some (.lst xs) /\ H b=some (.lst zs) /\ xs.length+zs.length<=sizeLine /\ ∀p,H p=none ->Q (.ref p) (upd H p (.lst (xs++zs)))
def FA:qf X (binaryOp .Add) Rb:=by
 intro pins s σ H x y v u Q I rx ry h;let⟨l,b,xs,zs,rfl,rfl,hH,hB,hz,q⟩:=h;cases rx;cases ry;let⟨z,its,n,r,hl,e⟩:=I.Cn hH;let⟨z2,zk,n2,r2,Ow,e2⟩:=I.Cn hB;refine PySem.P.add_list e e2 ?_ (by rw[aR,aR];lia);have ea:its.toArray++zk.toArray=(its++zk).toArray:=by simp
 rw[ea];exact#[.ref _,_,I.RL (t':=s.toks) (r.append r2) (by rw[aH];lia),rfl,q _ I.fresh]
noncomputable def Q7:R2:=λx y H Q=> ∃l k xs,x= .ref l /\ y= .int k /\ H l=some (.lst xs) /\ -(2 ^ 63) <=k /\ k<2 ^ 63 /\ xs.length*k.toNat<=sizeLine /\∀p,H p=none ->Q (.ref p) (upd H p (.lst (List.replicate k.toNat xs).flatten))
def len_rep {α:Type}(xs:List α)(k:Nat):(List.replicate k xs).flatten.length=k*xs.length:=by
 induction k with
 | zero=>simp
 | succ k ih=>rw[cT,List.flatten_cons,aH,ih,Nat.succ_mul,Nat.add_comm]
def Fy:qf X (binaryOp .Mult) Q7:=by
 intro pins s σ H x y v u Q I rx ry h;let⟨l,k,xs,rfl,rfl,hH,h1,h2,hz,q⟩:=h;cases rx;let⟨t,rfl⟩:=ry;let⟨z,its,n,r,hl,e⟩:=I.Cn hH;have hlen:its.toArray.size*k.toNat<=sizeLine:=by rw[aR, <- hl];exact hz
 have Xx:¬its.toArray.size*k.toNat >(2 ^ 63 - 1) / 8:=by
  have:(sizeLine:Nat) <=(2 ^ 63 - 1) / 8:=by decide
  lia
 have Xo:¬(!Builtin.List.listFitsIndex k)=true:=by rw[fitsIndex_both h1 h2];exact aX
 have Gr:¬Builtin.List.listTooLong (its.toArray.size*k.toNat)=true:=by rw[wR hlen];exact aX
 have CB:List.foldl (λx1 x2=>x1++x2) #[] (List.replicate (if its.toArray.isEmpty=true then 0 else k.toNat) its.toArray)=(List.replicate k.toNat its).flatten.toArray:=by
  have f0: ∀m:Nat,List.foldl (λx1 x2=>x1++x2) #[] (List.replicate m its.toArray)=(List.replicate m its).flatten.toArray:=λm=>by have:=foldl_rep its m [];rw[List.nil_append] at this;exact this
  rw[f0];cases its with
  | nil=>simp
  | cons a r'=>rw[ah (by simp)]
 refine wpAny_binaryOp_repeat_ref (T:= "list") (U:= "int") (by decide) #[_,e,rfl] (λs'=>typeIs_int s' k t) noFill_list_mul F.fills_int_mul F.slot_int_rmul repeat_list F.slot_int_index.lookup (call_meets F.slot_int_rmul (typeIs_int s k t) F.entry_int_rmul (F.args_int_rmul_2 _ _) (int___rmul___int_list k t l its.toArray n) #[e,rfl,#[_,e,rfl],call_meets F.slot_list_mul #[_,e,rfl] F.entry_list_mul (F.args_list_mul_2 _ _) (AutoListH.list___mul___list_int_3 l its.toArray n k t Xo Xx Gr) #[e,?_]]);rw[CB];exact#[.ref _,_,I.RL (t':=s.toks) (r.rep k.toNat) (by rw[len_rep,Nat.mul_comm];exact hz),rfl,q _ I.fresh]
end
section
variable {κ:Type} [DecidableEq κ]
noncomputable def gZ (kvs:List (κ×V))(k:κ):Option V:=(kvs.find? λkv=>decide (kv.1=k)).map (·.2)
noncomputable def putK (kvs:List (κ×V))(k:κ)(v:V):List (κ×V):=if(kvs.any λkv=>decide (kv.1=k))=true then kvs.map (λkv=>if kv.1=k then(kv.1,v) else kv) else kvs++ [(k,v)]
noncomputable def pd (kvs:List (κ×V))(k:κ):List (κ×V):=kvs.filter λkv=>decide (kv.1≠k)
def qi {k:κ}(e:p.1=k):gZ (p::r) k=some p.2:=by simp[gZ,c8,e]
def qj {k:κ}(e:¬p.1=k):gZ (p::r) k=gZ r k:=by simp[gZ,c8,e]
theorem vS (k:κ): ∀kvs:List (κ×V),(kvs.any λkv=>decide (kv.1=k))=(gZ kvs k).isSome
 | []=>rfl
 | p::r=>by
  rw[List.any_cons];by_cases e:p.1=k
  .simp![qi e,c5 e,Bool.true_or,Option.isSome_some]
  .rw[qj e,c7 e,Bool.false_or];exact vS k r
def gS (kvs:List (κ×V))(k:κ)(v:V):(putK kvs k v).length<=kvs.length+1:=by
 unfold putK;split
 .rw[aa];lia
 .rw[aH,aG,List.length_nil];lia
def l9.kN (r:l9 o u):o.isSome=u.isSome:=by
 cases o with
 | none=>cases u with
  | none=>rfl
  | some _=>exact(show False from r).elim
 | some _=>cases u with
  | none=>exact(show False from r).elim
  | some _=>rfl
def l9.getD (r:l9 o u)(rd:RelV d d'):RelV (o.getD d) (u.getD d'):=by
 cases o with
 | none=>cases u with
  | none=>exact rd
  | some _=>exact(show False from r).elim
 | some _=>cases u with
  | none=>exact(show False from r).elim
  | some _=>exact r
def KV.val (r:KV kvs vs)(k:κ):l9 (gZ kvs k) (valueAt vs k):=by
 unfold KV at r;induction r with
 | nil=>exact True.intro
 | @cons p q ps qs h t ih=>
  let⟨h1,h2⟩:=h;by_cases e:p.1=k
  .have e':q.1=k:=h1.symm.trans e;have b:valueAt (q::qs) k=some q.2:=by simp[valueAt,c8,e']
   rw[qi e,b];exact h2
  .have e':¬q.1=k:=λz=>e (h1.trans z);have b:valueAt (q::qs) k=valueAt qs k:=by simp[valueAt,c8,e']
   rw[qj e,b];exact ih
def KV.any (r:KV kvs vs)(k:κ):(kvs.any λkv=>decide (kv.1=k))=vs.any λkv=>decide (kv.1=k):=by
 unfold KV at r;induction r with
 | nil=>rfl
 | cons h t ih=>rw[List.any_cons,List.any_cons,ih,h.1]
def KV.Nr (r:KV kvs vs)(k:κ)(ry:RelV y u): KV (kvs.map λkv=>if kv.1=k then(kv.1,y) else kv) (vs.map λkv=>if kv.1=k then(kv.1,u) else kv):=by
 unfold KV at r ⊢;induction r with
 | nil=>exact .nil
 | @cons p q ps qs h t ih=>
  rw[aK,aK];refine .cons ?_ ih;let⟨h1,h2⟩:=h;by_cases e:p.1=k
  .rw[aj e,aj (h1.symm.trans e)];exact#[h1,ry]
  .rw[ah e,ah (λz=>e (h1.trans z))];exact#[h1,h2]
def KV.put (r:KV kvs vs)(k:κ)(ry:RelV y u):KV (putK kvs k y) (stored vs k u):=by
 unfold putK stored;rw[r.any k];by_cases e:(vs.any λkv=>decide (kv.1=k))=true
 .rw[aj e,aj e];exact r.Nr k ry
 .rw[ah e,ah e];exact Paired.snoc r #[rfl,ry]
def KV.drop (r:KV kvs vs)(k:κ):KV (pd kvs k) (without vs k):=by
 unfold KV at r ⊢;unfold pd without;induction r with
 | nil=>exact .nil
 | @cons p q ps qs h t ih=>
  let⟨h1,h2⟩:=h;rw[List.filter_cons,List.filter_cons];by_cases e:p.1=k
  .have a:¬decide (p.1≠k)=true:=by simp[e]
   have b:¬decide (q.1≠k)=true:=by simp[h1.symm.trans e]
   rw[ah a,ah b];exact ih
  .have e':¬q.1=k:=λz=>e (h1.trans z);have a:decide (p.1≠k)=true:=by simp[e]
   have b:decide (q.1≠k)=true:=by simp[e']
   rw[aj a,aj b];exact .cons #[h1,h2] ih
def KV.keys {vs:List (κ×Value)}(r:KV kvs vs):kvs.map (·.1)=vs.map (·.1):=by
 unfold KV at r;induction r with
 | nil=>rfl
 | cons h t ih=>rw[aK,aK,ih,h.1]
theorem KV.length {vs:List (κ×Value)}(r:KV kvs vs):kvs.length=vs.length:=Paired.length r
theorem G3 (kvs:List (κ×V))(k:κ):(pd kvs k).length<=kvs.length:=List.length_filter_le _ _
end
def ni (r:RelV (kV k) u):(cH P w).is k u=true:=by
 cases k with
 | inl i=>let⟨t,e⟩:=(show ∃t,u=Value.int i t from r);subst e;exact wZ P w i t
 | inr x=>let⟨t,e⟩:=(show ∃t,u=Value.str x t from r);subst e;exact wY P w x t
theorem tF {P:Program}{w:World}: ∀ {ks:List Key} {us:List Value},Vals (ks.map kV) us ->ItemsAre (cH P w) ks us
 | [],_,r=>by rw[List.map_nil] at r;cases r;exact .nil
 | k::ks,_,r=>by
  rw[aK] at r;cases r with
  | cons h t=>exact .cons (ni h) (tF t)
noncomputable abbrev KT (H:Hp):List (List Key×V) ->List (List Key×Addr×Value) ->Prop:=Paired λp q=>p.1=q.1 /\ H q.2.1=some (.tup (p.1.map kV)) /\ RelV p.2 q.2.2
def KT.val (r:KT H kvs xs)(k:List Key):l9 (gZ kvs k) ((atKey xs k).map (·.2)):=by
 induction r with
 | nil=>exact True.intro
 | @cons p q ps qs h t ih=>
  let⟨h1,_,h2⟩:=h;by_cases e:p.1=k
  .have e':q.1=k:=h1.symm.trans e;have b:atKey (q::qs) k=some q.2:=by simp[atKey,c8,e']
   rw[qi e,b];exact h2
  .have e':¬q.1=k:=λz=>e (h1.trans z);have b:atKey (q::qs) k=atKey qs k:=by simp[atKey,c8,e']
   rw[qj e,b];exact ih
def KT.Nr (r:KT H kvs xs)(k:List Key)(ry:RelV y u): KT H (kvs.map λkv=>if kv.1=k then(kv.1,y) else kv) (xs.map (putAt k u)):=by
 induction r with
 | nil=>exact .nil
 | @cons p q ps qs h t ih=>
  rw[aK,aK];refine .cons ?_ ih;let⟨h1,h2,h3⟩:=h;unfold putAt;by_cases e:p.1=k
  .rw[aj e,aj (h1.symm.trans e)];exact#[h1,h2,ry]
  .rw[ah e,ah (λz=>e (h1.trans z))];exact#[h1,h2,h3]
def KT.put (r:KT H kvs xs)(k:List Key)(hb:H b=some (.tup (k.map kV)))(ry:RelV y u): KT H (putK kvs k y) (storedH xs k b u):=by
 have e:(kvs.any λkv=>decide (kv.1=k))=(atKey xs k).isSome:=by rw[vS,(r.val k).kN,Option.isSome_map]
 unfold putK storedH;rw[e];by_cases q:(atKey xs k).isSome=true
 .rw[aj q,aj q];exact r.Nr k ry
 .rw[ah q,ah q];exact Paired.snoc r #[rfl,hb,ry]
theorem KT.keeps (r:KT H kvs xs)(ht: ∀b ys,H b=some (.tup ys) ->H' b=some (.tup ys)):KT H' kvs xs:=Paired.NW r λ_ _ z=>#[z.1,ht _ _ z.2.1,z.2.2]
section
variable {P:Program}{w:World}{H:Hp}{h:Heap}{a:Addr}
theorem Lc (ok:lE P w H h)(e:Rd H a u):d6 P w H h a u:=e.ok ok
theorem nH (ok:lE P w H h)(e:Rd H a (.dK kvs)):kvs.length<=sizeLine /\ (a==sysModules)=false /\ ∃vs,KV kvs vs /\ h.DictOf (cH P w) a vs:=
 show d6 P w H h a (.dK kvs) from Lc ok e
theorem xM (ok:lE P w H h)(e:H a=some (.dK kvs)):kvs.length<=sizeLine /\ (a==sysModules)=false /\ ∃vs,KV kvs vs /\ h.DictOf (cH P w) a vs:=nH ok (.inl e)
def qQ (ok:lE P w H h)(e:H a=some (.tup (ks.map kV))):(tupleKind (cH P w)).is h ks a:=by
 let⟨_,its,r,o,h1,h2,n,h3,_⟩:=(show d6 P w H h a (.tup (ks.map kV)) from ok a _ e)
 exact#[o,its.toArray,n,h1,h2,h3,by simpa using tF r]
def tR (ok:lE P w H h)(e:Rd H a (.dT kvs)):kvs.length<=sizeLine /\ (a==sysModules)=false /\∃xs,KT H kvs xs /\ h.DictOfH (tupleKind (cH P w)) a xs:=by
 let⟨z,y,xs,r,o,es,ep,h1,h2,h3,h4,h5⟩:=(show d6 P w H h a (.dT kvs) from Lc ok e)
 refine#[z,y,xs,r,o,es,ep,h1,h2,h3,h4,λx hx=> ?_,h5];have all: ∀ {l:List (List Key×V)} {m:List (List Key×Addr×Value)},KT H l m -> ∀x∈m,(tupleKind (cH P w)).is h x.1 x.2.1:=by
  intro l m q;induction q with
  | nil=>intro x hx;exact nomatch hx
  | @cons p q ps qs hq t ih=>
   intro x hx;rcases av.mp hx with e | hx
   .subst e;exact qQ ok (by rw[<- hq.1];exact hq.2.1)
   .exact ih x hx
 exact all r x hx
theorem Te (ok:lE P w H h)(e:H a=some (.dT kvs)):kvs.length<=sizeLine /\ (a==sysModules)=false /\∃xs,KT H kvs xs /\ h.DictOfH (tupleKind (cH P w)) a xs:=tR ok (.inl e)
end
noncomputable def pR (H:Hp)(a:Addr)(y:V)(r:Option V):Prop:=(∃kvs k,Rd H a (.dK kvs) /\ y=kV k /\ r=gZ kvs k) \/ ∃kvs k b,Rd H a (.dT kvs) /\ y= .ref b /\ H b=some (.tup (k.map kV)) /\ r=gZ kvs k
noncomputable def Hz (H:Hp)(a:Addr)(y v:V)(H':Hp):Prop:=(∃kvs k,H a=some (.dK kvs) /\ y=kV k /\ kvs.length<sizeLine /\ H'=upd H a (.dK (putK kvs k v))) \/∃kvs k b,H a=some (.dT kvs) /\ y= .ref b /\ H b=some (.tup (k.map kV)) /\ kvs.length<sizeLine /\ H'=upd H a (.dT (putK kvs k v))
theorem pR.k {k:Key}(e:H a=some (.dK kvs)):pR H a (kV k) (gZ kvs k):= .inl #[kvs,k, .inl e,rfl,rfl]
theorem Hz.k {k:Key}(e:H a=some (.dK kvs))(hl:kvs.length<sizeLine):Hz H a (kV k) v (upd H a (.dK (putK kvs k v))):= .inl #[kvs,k,e,rfl,hl,rfl]
section
variable {X:Cx}{pins:List (Addr×Obj)}{σ:St}{H:Hp}{s:Shared}{a:Addr}{y v:V}{u r:Value}{o:Option V}{A:Around}{E:Value ->Shared ->Prop}
def Inv.big (I:Inv X pins σ H s):sysModules<s.heap.objs.size:=by have h:mainGlobals<s.heap.objs.size:=(I.mod.glob.keeps I.bk).lt;exact Nat.lt_trans (by decide) h
def CV (hu:A.units+1<cLine)(I:Inv X pins σ H s)(g:pR H a y (some v))(ry:RelV y u)(h: ∀w' s',Inv X pins σ H s' ->RelV v w' ->Q w' s'): wpAny (model X.prog X.w) A (getItem (.ref a) u) Q E s:=by
 rcases g with⟨kvs,k,e,ey,l⟩ | ⟨kvs,k,b,e,ey,eb,l⟩
 .subst ey;let⟨z,hd,vs,rel,dd⟩:=nH I.dv e;let⟨w',hw,uM⟩:=l9.some_of (v:=v) (o:=valueAt vs k) (by rw[l];exact rel.val k);exact wpAny_getItem_of (ni ry) dd.mapOf hw (h w' _ (I.tok _) uM)
 .subst ey;cases (show u=Value.ref b from ry);let⟨z,hd,xs,rel,dd⟩:=tR I.dv e;let⟨w',hw,uM⟩:=l9.some_of (v:=v) (o:=(atKey xs k).map (·.2)) (by rw[l];exact rel.val k);let⟨p,hp,WB⟩:=Option.map_eq_some_iff.mp hw;refine wpAny_getItem_heap (tupleKind_room_in1 hu) (qQ I.dv eb) dd hp ?_;rw[WB];exact h w' _ (I.tok _) uM
def J6 (hu:A.units+1<cLine)(I:Inv X pins σ H s)(g:pR H a y o)(ry:RelV y u)(h: ∀s',Inv X pins σ H s' ->Q (.bool (!o.isSome)) s'): wpAny (model X.prog X.w) A (compareOp .NotIn u (.ref a)) Q E s:=by
 rcases g with⟨kvs,k,e,ey,l⟩ | ⟨kvs,k,b,e,ey,eb,l⟩
 .subst ey;let⟨z,hd,vs,rel,dd⟩:=nH I.dv e;refine wpAny_notIn_of (ni ry) hd dd.mapOf ?_;rw[<- (rel.val k).kN, <- l];exact h _ (I.tok _)
 .subst ey;cases (show u=Value.ref b from ry);let⟨z,hd,xs,rel,dd⟩:=tR I.dv e;refine wpAny_notIn_heap (tupleKind_room_in1 hu) (qQ I.dv eb) hd dd ?_;have q:=(rel.val k).kN;rw[Option.isSome_map] at q;rw[<- q, <- l];exact h _ (I.tok _)
theorem nJ (I:Inv X pins σ H s)(mu:TH (H a))(hs:Heap.SameBut a s.heap h')(he: ∃q,h'.get? a=some q)(new:d6 X.prog X.w (upd H a ob) h' a ob): Inv X pins σ (upd H a ob) {s with heap:=h',toks:=t'}:=I.write (x:=a) (e:=a) mu (.inl rfl) (λb q hb z=>(hs.2 b hb).trans z) he new
theorem qY (z:kvs.length<=sizeLine)(hd:(a==sysModules)=false)(rel:KV kvs vs)(dd:h'.DictOf (cH P w) a vs): d6 P w H' h' a (.dK kvs):=#[z,hd,vs,rel,dd]
def CU (hu:A.units+1<cLine)(I:Inv X pins σ H s)(g:Hz H a y v H')(ry:RelV y u)(rv:RelV v r)(h: ∀s',Inv X pins σ H' s' ->Q () s'): wpAny (model X.prog X.w) A (setItem (.ref a) u r) Q E s:=by
 rcases g with⟨kvs,k,e,ey,l,eH⟩ | ⟨kvs,k,b,e,ey,eb,l,eH⟩
 .subst ey eH;let⟨z,hd,vs,rel,dd⟩:=xM I.dv e;have hz:vs.length<=sizeLine:=by rw[<- rel.length];exact z
  have hl:(putK kvs k v).length<=sizeLine:=by have:=gS kvs k v;lia
  refine wpAny_setItem_pairs (hsz:=hz) (ni ry) dd λh' CT hs=>h _ ?_;have he: ∃q,h'.get? a=some q:=let ⟨q,_,_,hq,_⟩:=CT;#[q,hq]
  exact nJ I (by rw[e];exact True.intro) hs he (qY hl hd (rel.put k rv) CT)
 .subst ey eH;cases (show u=Value.ref b from ry);let⟨z,hd,xs,rel,dd⟩:=Te I.dv e;have hz:xs.length<=sizeLine:=by rw[<- Paired.length rel];exact z
  have hl:(putK kvs k v).length<=sizeLine:=by have:=gS kvs k v;lia
  refine wpAny_setItem_heap (hsz:=hz) (tupleKind_room_in1 hu) (qQ I.dv eb) dd λh' CT hs=>h _ ?_;let⟨q,es,ep,hq,h2,h3,h4,_,h5⟩:=CT;refine nJ I (by rw[e];exact True.intro) hs #[q,hq] #[hl,hd,_,(rel.put k eb rv).keeps λc ys ec=> ?_,q,es,ep,hq,h2,h3,h4,h5];rw[bM (RA ec e (λz=>nomatch z))];exact ec
end
section
variable {X:Cx}{pins:List (Addr×Obj)}{σ:St}{H:Hp}{s:Shared}{a:Addr}{kvs:List (Key×V)}{k:Key}{u:Value}{A:Around}{E:Value ->Shared ->Prop}
def CW (I:Inv X pins σ H s)(e:H a=some (.dK kvs))(ry:RelV (kV k) u)(l:(gZ kvs k).isSome=true)(h: ∀s',Inv X pins σ (upd H a (.dK (pd kvs k))) s' ->Q () s'): wpAny (model X.prog X.w) A (delItem (.ref a) u) Q E s:=by
 let⟨z,hd,vs,rel,dd⟩:=xM I.dv e;refine wpAny_delItem_slot dd.typeIs (by decide) PySem.F.slot_dict_delitem (call_meetsIn PySem.F.slot_dict_delitem dd.typeIs PySem.F.entry_dict_delitem (PySem.F.args_dict_delitem_2 _ _) (meets_dict_delitem_pairs (cH X.prog X.w) a (ni ry)) #[vs,dd,by rw[<- rel.length];exact z,by rw[<- (rel.val k).kN];exact l,λh' CT hs=>h _ ?_]);have he: ∃q,h'.get? a=some q:=let ⟨q,_,_,hq,_⟩:=CT;#[q,hq]
 exact nJ I (by rw[e];exact True.intro) hs he (qY (aZ (G3 kvs k) z) hd (rel.drop k) CT)
end
noncomputable def TB (i:Expr):Prop:= ∀ov iv,subscripted i false ov iv=operate [ov,iv] (getItem ov iv)
def Iq {T id:String}(hl:typeLookup (.type T) "__getitem__" =pure (some (.builtin id)))(hs:TB slice)(h:wpAny (model prog w) A (eval value env) (λo s₁=>wpAny (model prog w) A (eval slice env) (λi s₂=>s₂.TypeIs o T /\ wpAny (model prog w) A (getItem o i) Q E s₂) E s₁) E s): wpAny (model prog w) A (eval (.Subscript value slice pos) env) Q E s:=by
 refine Subscript_ (bV h (λo s₁ h₁=>bV h₁ (λi s₂ h₂=> ?_) λ_ _ x=>x) λ_ _ x=>x);let⟨hT,h₂⟩:=h₂;unfold subscriptTail;refine ak ?_;rw[getitemInPython_of_ne hT.not_modules];refine ak (wpAny_specialOf hT hl ?_);have fin:wpAny (model prog w) A (subscripted slice false o i) (λr s₃=>wpAny (model prog w) A (letTemporaryGo value o r >>=λ_=>pure r) Q E s₃) E s₂:=by rw[hs o i];exact wpAny_operating (bV h₂ (λr s₃ h₃=>ak (wpAny_letTemporaryGo (aO h₃))) λ_ _ x=>x)
 first
 | exact aO (ak fin)
 | exact ak (aO (ak fin))
 | exact ak fin
def xO {σ:St}(I:Inv X pins σ H s)(g:pR H a y o):s.TypeIs (.ref a) "dict" :=by
 rcases g with⟨kvs,k,e,_,_⟩ | ⟨kvs,k,b,e,_,_,_⟩
 .let⟨_,_,vs,_,dd⟩:=nH I.dv e;exact dd.typeIs
 .let⟨_,_,xs,_,dd⟩:=tR I.dv e;exact dd.typeIs
noncomputable def KS (td ty:TE):TE:=λσ H Q=>td σ H λx H1=>ty σ H1 λy H2=> ∃a v,x= .ref a /\ pR H2 a y (some v) /\ Q v H2
noncomputable def Ae (ty td:TE):TE:=λσ H Q=>ty σ H λy H1=>td σ H1 λx H2=> ∃a o,x= .ref a /\ pR H2 a y o /\ Q (.bl (!o.isSome)) H2
noncomputable def K8 (td ty tv:TE):TS:=λD σ H=>tv σ H λv H1=>td σ H1 λx H2=>ty σ H2 λy H3=> ∃a H4,x= .ref a /\ Hz H3 a y v H4 /\ D.nx σ H4
noncomputable def K9 (td ty:TE):TS:=λD σ H=>td σ H λx H1=>ty σ H1 λy H2=> ∃a kvs k,x= .ref a /\ H2 a=some (.dK kvs) /\ y=kV k /\ (gZ kvs k).isSome=true /\ D.nx σ (upd H2 a (.dK (pd kvs k)))
section
variable {X:Cx}{o i e value:Expr}{pos pos' BR:Pos}{td ty tv:TE}
def fu (hu:X.A.units+1<cLine)(ho:PE X o td)(hi:PE X i ty)(hs:TB i):PE X (.Subscript o i pos) (KS td ty):=by intro pins s σ H Q I h;refine Iq PySem.F.slot_dict_getitem.lookup hs (dt (ho pins s σ H _ I h) λu s1 ⟨x,H1,I1,rx,q1⟩=>dt (hi pins s1 σ H1 _ I1 q1) λiv s2 ⟨y,H2,I2,ry,a,v,ex,g,q2⟩=> ?_);subst ex;obtain rfl:u=Value.ref a:=rx;exact#[xO I2 g,CV hu I2 g ry λw' s3 I3 uM=>#[v,H2,I3,uM,q2]]
def B9 (hu:X.A.units+1<cLine)(hi:PE X i ty)(ho:PE X o td):PC X .NotIn i o (Ae ty td):=by intro pins s σ H Q I h;refine dt (hi pins s σ H _ I h) λiv s1 ⟨y,H1,I1,ry,q1⟩=>dt (ho pins s1 σ H1 _ I1 q1) λu s2 ⟨x,H2,I2,rx,a,ov,ex,g,q2⟩=> ?_;subst ex;obtain rfl:u=Value.ref a:=rx;exact J6 hu I2 g ry λs3 I3=>#[.bl (!ov.isSome),H2,I3,rfl,q2]
def mO (hu:X.A.units+1<cLine)(ho:PE X o td)(hi:PE X i ty)(hv:PE X value tv)(hs:swapsWith value (some (.Subscript o i pos')) pos.line X.env=pure false): PS X (.Assign [.Subscript o i pos'] value pos) (K8 td ty tv):=by intro pins s σ H D I h;refine wpAny_Assign_Subscript (dt (hv pins s σ H _ I h) λr s1 ⟨v,H1,I1,rv,q1⟩=>dt (ho pins s1 σ H1 _ I1 q1) λu s2 ⟨x,H2,I2,rx,q2⟩=>dt (hi pins s2 σ H2 _ I2 q2) λiv s3 ⟨y,H3,I3,ry,a,H4,ex,g,q3⟩=> ?_) hs;subst ex;obtain rfl:u=Value.ref a:=rx;exact CU hu I3 g ry rv λs4 I4=>#[σ,H4,I4,q3]
def IQ (ho:PE X o td)(hi:PE X i ty):PS X (.Delete [.Subscript o i BR] pos) (K9 td ty):=by intro pins s σ H D I h;refine wpAny_Delete (wpAny_deleteEach_cons (wpAny_delete_Subscript (dt (ho pins s σ H _ I h) λu s1 ⟨x,H1,I1,rx,q1⟩=>dt (hi pins s1 σ H1 _ I1 q1) λiv s2 ⟨y,H2,I2,ry,a,kvs,k,ex,e,ey,l,q2⟩=> ?_)));subst ex ey;obtain rfl:u=Value.ref a:=rx;exact CW I2 e ry l λs3 I3=>wpAny_deleteEach_nil #[σ,_,I3,q2]
end
theorem xN (h:Heap)(hb:sysModules<h.objs.size):d6 P w H (h.push {cls:= .type "dict",data:= .dict #[]}) h.objs.size (.dK []):=#[dj _,beq_eq_false_iff_ne.mpr (a9 (a5 hb)),[], .nil,Heap.DictOf.new h]
noncomputable def Ep:TE:=λ_ H Q=> ∀p,H p=none ->Q (.ref p) (upd H p (.dK []))
section
variable {X:Cx}{pos:Pos}
theorem jt:PE X (.Dict [] [] pos) Ep:=λpins s σ H Q I h=>wpAny_Dict_empty #[.ref s.heap.objs.size,_,I.laid (a:=s.heap.objs.size) (o:= .dK []) (t':=s.toks) (λ_ _ q=>aq _ q) (ao _) (xN s.heap I.big),rfl,h _ (I.dv.fresh (ao _))]
end
noncomputable def yG:List (TE×TE) ->St ->Hp ->(List (V×V) ->Hp ->Prop) ->Prop
 | [],_,H,Q=>Q [] H
 | (tk,tv)::r,σ,H,Q=>tk σ H λx H1=>tv σ H1 λy H2=>yG r σ H2 λps H3=>Q ((x,y)::ps) H3
noncomputable abbrev VV:List (V×V) ->List (Value×Value) ->Prop:=Paired λp q=>RelV p.1 q.1 /\ RelV p.2 q.2
noncomputable def U8 (X:Cx)(pos:Pos)(keys:List (Option Expr))(values:List Expr)(Ij:List (TE×TE)):Prop:=∀ (pins:List (Addr×Obj)) (s:Shared) (σ:St) (H:Hp) (Q:List (V×V) ->Hp ->Prop),Inv X pins σ H s ->yG Ij σ H Q ->wpAny (model X.prog X.w) X.A (evalPairs (pairTrees keys values X.env pos)) (λvs s'=> ∃ps H',Inv X pins σ H' s' /\ VV ps vs /\ Q ps H') X.xe s
theorem IV:U8 X pos [] [] []:=λpins s σ H Q I h=>pairTrees_nil_walk #[[],H,I, .nil,h]
theorem Ff (hk:PE X k tk)(hv:PE X v tv)(hr:U8 X pos ks vs Ij): U8 X pos (some k::ks) (v::vs) ((tk,tv)::Ij):=λpins s σ H Q I h=>pairTrees_cons_walk (dt (hk pins s σ H _ I h) λu s1 ⟨x,H1,I1,rx,q1⟩=>dt (hv pins s1 σ H1 _ I1 q1) λw2 s2 ⟨y,H2,I2,ry,q2⟩=>dt (hr pins s2 σ H2 _ I2 q2) λws s3 ⟨ps,H3,I3,rel,q3⟩=>#[(x,y)::ps,H3,I3, .cons #[rx,ry] rel,q3])
noncomputable def kg (kvs more:List (Key×V)):List (Key×V):=more.foldl (λacc kv=>putK acc kv.1 kv.2) kvs
def KV.merge: ∀ {more:List (Key×V)} {rs:List (Key×Value)} {kvs:List (Key×V)} {vs:List (Key×Value)},KV more rs ->KV kvs vs ->KV (kg kvs more) (merged vs rs):=by
 intro more rs kvs vs r;unfold KV at r;induction r generalizing kvs vs with
 | nil=>intro q;exact q
 | @cons p q ps qs h t ih=>
  intro r0;have e:KV (putK kvs p.1 p.2) (stored vs q.1 q.2):=by have:=r0.put p.1 h.2;rw[<- h.1];exact this
  exact ih e
theorem lu: ∀ (more kvs:List (Key×V)),(kg kvs more).length<=kvs.length+more.length
 | [],kvs=>by show kvs.length<=kvs.length+0;lia
 | p::r,kvs=>by have h1:=lu r (putK kvs p.1 p.2);have h2:=gS kvs p.1 p.2;show(kg (putK kvs p.1 p.2) r).length<=_;rw[aG];lia
theorem rq {P:Program}{w:World}: ∀ {kvs:List (Key×V)} {ws:List (Value×Value)},VV (kvs.map λkv=>(kV kv.1,kv.2)) ws -> ∃rs,Carries (cH P w) ws rs /\ KV kvs rs
 | [],_,r=>by rw[List.map_nil] at r;cases r;exact#[[],True.intro, .nil]
 | p ::kvs,_,r=>by
  rw[aK] at r;cases r with
  | @cons a b as bs h t=>let⟨rs,c,q⟩:=rq (P:=P) (w:=w) t;let⟨b1,b2⟩:=b;exact#[(p.1,b2)::rs,#[ni h.1,rfl,c], .cons #[rfl,h.2] q]
noncomputable def En (Ij:List (TE×TE)):TE:=λσ H Q=> ∀p,H p=none ->yG Ij σ (upd H p (.dK [])) λps H2=>H2 p=some (.dK []) /\ ∃kvs:List (Key×V),ps=kvs.map (λkv=>(kV kv.1,kv.2)) /\ kvs.length<=15 /\ Q (.ref p) (upd H2 p (.dK (kg [] kvs)))
def IZ (h:U8 X pos keys values Ij)(zw:keys.all (·.isSome)=true)(hl:keys.length=values.length)(h0:keys≠ [])(h15:keys.length<=15):PE X (.Dict keys values pos) (En Ij):=by
 intro pins s σ H Q I q;have hn:=I.dv.fresh (ao s.heap.objs.size);have I1:=I.laid (a:=s.heap.objs.size) (o:= .dK []) (h':=s.heap.push {cls:= .type "dict",data:= .dict #[]}) (t':=s.toks) (λ_ _ q=>aq _ q) (ao _) (xN s.heap I.big);refine wpAny_Dict_walk (knd:=cH X.prog X.w) zw hl h0 h15 (dt (h pins _ σ _ _ I1 (q _ hn)) λws s2 ⟨ps,H2,I2,rel,e,kvs,ep,lk,q2⟩=> ?_);subst ep;let⟨rs,c,rk⟩:=rq (P:=X.prog) (w:=X.w) rel;let⟨z,hd,vs0,r0,dd⟩:=xM I2.dv e;cases r0;refine#[rs,c,dd,λh' CT hs=>#[.ref s.heap.objs.size,_,?_,rfl,q2]];have hz:(kg [] kvs).length<=sizeLine:=by have h1:=lu kvs [];rw[List.length_nil] at h1;rw[cO];lia
 have he: ∃q,h'.get? s.heap.objs.size=some q:=let ⟨q,_,_,hq,_⟩:=CT;#[q,hq]
 exact nJ I2 (by rw[e];exact True.intro) hs he (qY hz hd (rk.merge .nil) CT)
structure M1 (X:Cx)(o:Expr)(m:Str)(apos:Pos)(e:Expr)(fY:Pos):Prop where
 base:attributeBase o m X.env (eval o X.env)=eval o X.env
 OR:((backTo fY (starEach [e] X.env)).all (λx=> !x.1) && (backToKw fY (keywordEach [] X.env)).all (λx=>x.1.isSome) && decide (([e]:List Expr).length+([]:List Keyword).length+(if([]:List Keyword).isEmpty then 0 else 1) <30))=true
 line:(apos.endLine==fY.line)=true
 trees:backTo fY (starEach [e] X.env)= [(false,eval e X.env)]
structure M2 (X:Cx)(o:Expr)(m:Str)(apos:Pos)(e f:Expr)(fY:Pos):Prop where
 base:attributeBase o m X.env (eval o X.env)=eval o X.env
 OR:((backTo fY (starEach [e,f] X.env)).all (λx=> !x.1) && (backToKw fY (keywordEach [] X.env)).all (λx=>x.1.isSome) && decide (([e,f]:List Expr).length+([]:List Keyword).length+(if([]:List Keyword).isEmpty then 0 else 1) <30))=true
 line:(apos.endLine==fY.line)=true
 trees:backTo fY (starEach [e,f] X.env)= [(false,eval e X.env),(false,eval f X.env)]
noncomputable def Zo (H:Hp)(a:Addr):Prop:=(∃kvs,Rd H a (.dK kvs)) \/ ∃kvs,Rd H a (.dT kvs)
def vb {σ:St}(I:Inv X pins σ H s)(d:Zo H a): s.TypeIs (.ref a) "dict" /\ (∀b,Value.ref a= .ref b -> ∃ob,s.heap.get? b=some ob /\ ob.dict=none) /\ (a==sysModules)=false:=by
 rcases d with⟨kvs,e⟩ | ⟨kvs,e⟩
 .let⟨_,hd,vs,_,dd⟩:=nH I.dv e;refine#[dd.typeIs,λb q=> ?_,hd];cases q;let⟨ob,_,_,h1,h2,_⟩:=dd;exact#[ob,h1,h2.2.1]
 .let⟨_,hd,xs,_,dd⟩:=tR I.dv e;refine#[dd.typeIs,λb q=> ?_,hd];cases q;let⟨ob,_,_,h1,h2,_⟩:=dd;exact#[ob,h1,h2.2.1]
section
variable {X:Cx}{pins:List (Addr×Obj)}{σ:St}{H:Hp}{s:Shared}{a:Addr}{y d:V}{u r:Value}{o:Option V}{A:Around}{E:Value ->Shared ->Prop}
def OX (hu:A.units+1<cLine)(I:Inv X pins σ H s)(g:pR H a y o)(ry:RelV y u)(rd:RelV d r)(h: ∀w' s',Inv X pins σ H s' ->RelV (o.getD d) w' ->Q w' s'): wpAny (model X.prog X.w) A (call (.builtin "dict.get") [.ref a,u,r]) Q E s:=by
 rcases g with⟨kvs,k,e,ey,l⟩ | ⟨kvs,k,b,e,ey,eb,l⟩
 .subst ey;let⟨z,hd,vs,rel,dd⟩:=nH I.dv e;refine call_meetsIn PySem.F.slot_dict_get dd.typeIs PySem.F.entry_dict_get (PySem.F.args_dict_get_3 _ _ _) (meets_dict_get_default (cH X.prog X.w) a (ni ry) hd r) #[_,dd.mapOf,h _ _ (I.tok _) ?_];rw[l];exact(rel.val k).getD rd
 .subst ey;cases (show u=Value.ref b from ry);let⟨z,hd,xs,rel,dd⟩:=tR I.dv e;refine call_meetsIn PySem.F.slot_dict_get dd.typeIs PySem.F.entry_dict_get (PySem.F.args_dict_get_3 _ _ _) (meetsH_dict_get_default (tupleKind (cH X.prog X.w)) a b hd r) #[tupleKind_room_in1 hu,k,xs,qQ I.dv eb,dd,h _ _ (I.tok _) ?_];rw[l];exact(rel.val k).getD rd
end
noncomputable def Er (td ty tx:TE):TE:=λσ H Q=>td σ H λx H1=> ∃a,x= .ref a /\ Zo H1 a /\ ty σ H1 λy H2=>tx σ H2 λz H3=> ∃o,pR H3 a y o /\ Q (o.getD z) H3
section
variable {X:Cx}{o e f:Expr}{apos fY:Pos}{td ty tx:TE}
def mR (hu:X.A.units+1<cLine)(ho:PE X o td)(he:PE X e ty)(hf:PE X f tx)(m:M2 X o "get" apos e f fY):PE X (.Call (.Attribute o "get" apos) [e,f] [] fY) (Er td ty tx):=by intro pins s σ H Q I h;refine wpAny_Call_method m.base m.OR m.line PySem.F.plainAttrs_dict PySem.F.slot_dict_get PySem.F.type_dict_get (dt (ho pins s σ H _ I h) λu s1 ⟨x,H1,I1,rx,a,ex,d,q1⟩=> ?_);subst ex;obtain rfl:u=Value.ref a:=rx;let⟨t1,t2,_⟩:=vb I1 d;refine#[t1,t2,?_];rw[m.trees];refine Calls.callWith_builtin rfl (Calls.evalArgs_plain (dJ (dt (he pins s1 σ H1 _ I1 q1) λiv s2 ⟨y,H2,I2,ry,q2⟩=>dJ (dt (hf pins s2 σ H2 _ I2 q2) λfv s3 ⟨z,H3,I3,rz,ov,g,q3⟩=>Calls.spliced_nil ?_))));exact OX hu I3 g ry rz λw' s4 I4 uM=>#[_,H3,I4,uM,q3]
end
end L2
namespace Att
open PySem PySem.W PySem.Calls PyProof.Rows
def pF: ∀ (ns:List Int) (vs:List Value),WellAll P h vs (ns.map WData.int) ->IntsAre vs ns:=by
 intro ns;induction ns with
 | nil=>intro vs w;rw[List.map_nil] at w;cases w;exact .nil
 | cons n ns ih=>
  intro vs w;rw[aK] at w;cases w with
  | cons a b=>cases a;exact .cons _ _ (ih _ b)
def BW {l:OpenLaw}(hn:l.most=some n)(JF:l.row.toRowW.claim.pre args=true)(R1:WellAll P h vals args): ∃a vs ns,vals= [Value.ref a] /\ args= [WData.list (ns.map WData.int)] /\ h.get? a=some {cls:= .type "list",data:= .seq vs.toArray} /\ IntsAre vs ns /\ ns.length<=n:=by
 have UA:WShape.hasAll [] args [.list .int]=true:=(pre_splitW JF).1;have hc:l.pre.holds [] {args:=args}=true:=(pre_splitW JF).2;let⟨d,r,rfl,h1,h2⟩:=hasAllW_cons UA;obtain rfl:=hasAllW_nil h2;let⟨xs,rfl,h3⟩:=hasW_list h1;let⟨ns,rfl⟩:=items_int h3;have hlen:ns.length<=n:=by
  unfold OpenLaw.pre at hc;have h4:(WTm.not (.lt (.lit (.int (n:Int))) (.len (.arg 0)))).holds [] {args:= [.list (ns.map .int)]}=true:=by have h4:=(holds_andW hc).1;rw[hn] at h4;exact h4
  have h5:=condW_of h4 (w_not (w_lt w_lit (w_len_list (w_arg rfl))));rw[aa] at h5;refine Nat.le_of_not_lt λq=> ?_;have q':(n:Int) < ((ns.length:Nat):Int):=by lia
  first
  | (rw[c5 q'] at h5;exact absurd h5 (by decide))
  | (simp at h5;lia)
 cases R1 with
 | cons w1 w2=>
  cases w2;cases w1 with
  | list ho zw=>exact#[_,_,ns,rfl,rfl,ho,pF ns _ zw,hlen]
theorem B6 (l:OpenLaw)(args:List WData):l.row.toRowW.claim.post args (.bool true) args=true:=postW_of (r:=l.row.toRowW) (X:=(true==true)) (show WShape.has [] (.bool true) .bool=true by first | rfl | decide | simp[WShape.has,WShape.arms,WShape.armsAll]) (show(WTm.eq .res (.lit (.bool true))).value [] {args:=args,res:=some (.bool true),after:=args}=some (.bool (true==true)) from w_eq_bool (w_res rfl) w_lit) rfl
def yd {l:OpenLaw}(hn:l.most=some n)(SQ:d.params.defaults= [])(call: ∀ (w:World) (s₀ s₁:Shared) (mg mb:Str ->Option Value) (fa:Addr) (o:Obj) (pm cd doc:Value) (a:Addr) (vs:List Value) (ns:List Int),Ground q loose [] XP w s₀ mg mb s₁.heap ->YP w s₁.heap ->s₁.heap.get? fa=some o ->o.data= .func (docDef d.name d.params d.body d.scope pm cd doc) ->s₁.heap.CodeRec cd d.name ->mg d.name=some (.ref fa) ->s₁.heap.get? a=some {cls:= .type "list",data:= .seq vs.toArray} ->IntsAre vs ns ->ns.length<=n ->s₁.gens= #[] ->codeAny (model l.prog w) callerA (.call (.ref fa) #[[.ref a],[]]) (λr s'=>r= .ok (.ret (.bool true)) /\ OldK s₁.heap s'.heap /\ s'.os=s₁.os /\ AllBare s'.gens) s₁): WalkO q loose XP YP l.row.toRowW d [] (λf vs=>PySem.call f vs):=by intro w s₀ s₁ mg mb G Y fa o pm cd doc dV kV ho hd CJ hD WZ hg args vals as JF aau hrd R1 Ot;obtain rfl:dV= .none:=Dflts.none hD SQ;obtain rfl:kV= .none:=Dflts.noKw hD;let⟨a,vs,ns,rfl,rfl,Ol,hints,hlen⟩:=BW hn JF R1;refine enter_call (codeAny_mono (call w s₀ s₁ mg mb fa o pm cd doc a vs ns G Y ho (fd_plain hd) CJ WZ Ol hints hlen hg) λr s' hq=> ?_);let⟨rfl,h2,h3,h4⟩:=hq;exact#[.inl #[.bool true, .bool true,[],rfl,λ_=>rfl, .bool true,B6 l _,λ_=>#[List.Pairwise.nil,λ_ hm=>(nomatch hm)]],h2,h3,h4]
end Att
namespace L2
open PySem PySem.Spec PyProof.Rows
theorem kA: ∀ {vs:List Value} {ns:List Int},IntsAre vs ns ->Vals (ns.map V.int) vs
 | _,_, .nil=> .nil
 | _,_, .cons n t h=> .cons #[t,rfl] (kA h)
noncomputable def O7 (H:Hp):Prop:= ∀b,H b=none \/ ∃o xs,H b=some (.lZ o (.lst xs))
def F2 {K:PySem.W.Frag}(KX:K.In s₁.heap)(LK:s₁.heap.Ns mainGlobals mg)(hb:s₁.heap.Ns builtinsNs mb)(PZ: ∀x:Str,x≠ "__name__" ->mb x=bootBuiltins x)(W6:s₁.heap.NoLimit)(hg:s₁.gens= #[])(ha:s₁.heap.get? a=some {cls:= .type "list",data:= .seq vs.toArray})(hi:IntsAre vs ns)(hl:ns.length<=sizeLine)(hr:gi k callerA)(F: ∀base:Heap,K.In base ->base.Ns mainGlobals mg ->d3 P w K mg base CX k fa fd [x] sp)(SW: ∀ (s:Shared) (u:Value),BindsTo s fd #[[u],[]] [(x,u)])(xo: ∀H:Hp,O7 H ->gB K H a (ns.map V.int) ->sp [.ref a] H (λv _=>v= .bl true) λ_ _ _=>False)(XJ: ∀H e s',CX [] H s₁ (λ_ _ _=>False) e s' ->False): codeAny (model P w) callerA (.call (.ref fa) #[[.ref a],[]]) (λr s'=>r= .ok (.ret (.bool true)) /\ OldK s₁.heap s'.heap /\ s'.os=s₁.os /\ AllBare s'.gens) s₁:=by
 have rv:=kA hi;have V7:=hi.length;have core : ∀H:Hp,O7 H ->gB K H a (ns.map V.int) ->lE P w H s₁.heap ->(∀b,H b≠none ->b=a) ->(H a≠none ->K.lookup a=none) ->codeAny (model P w) callerA (.call (.ref fa) #[[.ref a],[]]) (λr s'=>r= .ok (.ret (.bool true)) /\ OldK s₁.heap s'.heap /\ s'.os=s₁.os /\ AllBare s'.gens) s₁:=by
  intro H hO hS dv hA hK;have BE: ∀ {b:Addr} {o:Obj},s₁.heap.get? b=some o ->H b=none ->(vi s₁.heap H).get? b=some o:=λe n=>Gz e n;have Rz: ∀ {b:Addr} {o:Obj} {es:Array DictEntry} {ep:Nat},s₁.heap.get? b=some o ->o.data= .dict es ep ->H b=none:=λ{b o es ep} e d=>by
   cases q:H b with
   | none=>rfl
   | some u=>have e':b=a:=hA b (by rw[q];simp);subst e';rw[ha] at e;cases e;have d':Data.seq vs.toArray _=Data.dict es ep:=d;cases d'
  have Uj: ∀ {b:Addr} {m:Str ->Option Value},s₁.heap.Ns b m ->(vi s₁.heap H).Ns b m:=λ{b m} ⟨o,es,ep,e,d,r⟩=>#[o,es,ep,BE e (Rz e d),d,r]
  have hKb:K.In (vi s₁.heap H):=λb o e=>BE (KX b o e) (by
   cases q:H b with
   | none=>rfl
   | some u=>have e':b=a:=hA b (by rw[q];simp);subst e';rw[hK (by rw[q];simp)] at e;cases e)
  have hM:Mod K mg (vi s₁.heap H):=#[hKb,Uj LK,#[mb,Uj hb,PZ],let ⟨mc,h1,h2⟩:=W6;#[mc,Uj h1,h2]]
  have e0:zN P w K mg (vi s₁.heap H) callerA [] s₁ H:=#[rfl,hM,λb o e=>Jj e,Nat.le_of_eq (CH _ _),trivial,λb hb=>absurd (show b∈([]:List Addr) from hb) (by simp),dv, .of_eq hg]
  refine codeAny_mono ((F _ hKb (Uj LK)).run callerA [] s₁ H #[[.ref a],[]] [.ref a] [.ref a] _ _ hr e0 (SW s₁ (.ref a)) (.cons rfl .nil) (xo H hO hS)) λr s' h=> ?_;cases r with
  | error e=>exact(XJ H e s' h).elim
  | ok fl =>
   cases fl with
   | next=>exact False.elim h
   | brk=>exact False.elim h
   | cont=>exact False.elim h
   | ret u=>
    let⟨v,H',os,bare,un,WJ,r',q⟩:=h;have q':v= .bl true:=q;subst q';obtain rfl:u=Value.bool true:=r';refine#[rfl,OldK.of_keep λb o e=> ?_,os,bare];cases q:H b with
    | none=>exact un.keep b o e q (by intro z;exact absurd (show b∈([]:List Addr) from z) (by simp)) (by simp)
    | some u=>
     rcases hO b with z | ⟨ob,xs,z⟩
     .rw[q] at z;cases z
     .have z2:=un.lY b ob _ z;let⟨e1,_⟩:=dv b _ z;let⟨e2,_⟩:=WJ b _ z2;rw[e] at e1;cases e1;exact e2
 cases hk:K.lookup a with
 | some o=>have e:=KX a o hk;rw[ha] at e;cases e;refine core (λ_=>none) (λ_=> .inl rfl) (.inr #[_,vs.toArray,_,hk,rfl,rfl,rfl,by rw[aR,V7];exact hl,by simpa using rv]) (λb u z=>by have z':(none:Option HO)=some u:=z;cases z') (λb z=>absurd rfl z) λz=>absurd rfl z
 | none=>
  refine core (λb=>if b=a then some (.lZ {cls:= .type "list",data:= .seq vs.toArray} (.lst (ns.map V.int))) else none) (λb=> ?_) (.inl (.inr #[{cls:= .type "list",data:= .seq vs.toArray},aj rfl])) (λb u z=> ?_) (λb z=> ?_) λ_=>hk
  .by_cases hb:b=a
   .exact .inr #[_,_,aj hb]
   .exact .inl (ah hb)
  .by_cases hb:b=a
   .have z':=(aj hb).symm.trans z;cases z';subst hb;exact#[ha,by rw[aa];exact hl,vs,_,rv,ha]
   .have z':=(ah hb).symm.trans z;cases z'
  .by_cases hb:b=a
   .exact hb
   .exact absurd (ah hb) z
def HZ {l:PySem.W.OpenLaw}{K:Params ->PySem.W.Frag}{CX:World ->HB}{sp:World ->Sp}(hn:l.most=some n)(Oo:n<=sizeLine)(SQ:d.params.defaults= [])(hr:gi k callerA)(hY: ∀ (w:World) (h:Heap),YP w h ->(K w.params).In h)(F : ∀ (w:World) (mg:Str ->Option Value) (fa:Addr) (h:Heap),(K w.params).In h ->h.Ns mainGlobals mg ->mg d.name=some (.ref fa) ->∃ fd:FuncData,(∀ (s:Shared) (u:Value),BindsTo s fd #[[u],[]] [(x,u)]) /\∀base:Heap,(K w.params).In base ->base.Ns mainGlobals mg ->d3 l.prog w (K w.params) mg base (CX w) k fa fd [x] (sp w))(xo: ∀ (w:World) (H:Hp) (a:Addr) (ns:List Int),ns.length<=n ->O7 H ->gB (K w.params) H a (ns.map V.int) ->sp w [.ref a] H (λv _=>v= .bl true) λ_ _ _=>False)(XJ: ∀ (w:World) (H:Hp) (s:Shared) (e:Value) (s':Shared),CX w [] H s (λ_ _ _=>False) e s' ->False): PySem.W.WalkO q loose XP YP l.row.toRowW d [] (λf vs=>PySem.call f vs):=by refine Att.yd hn SQ λw s₀ s₁ mg mb fa o pm cd doc a vs ns G Y ho hd CJ WZ Ol hints hlen hg=> ?_;have KX:=hY w _ Y;let⟨fd,hb,hF⟩:=F w mg fa _ KX G.T.g WZ;exact F2 KX G.T.g G.T.b G.T.builtins G.T.nolimit hg Ol hints (aZ hlen Oo) hr hF hb (λH hO hS=>xo w H a ns hlen hO hS) λH e s'=>XJ w H s₁ e s'
noncomputable def gy (s:Stmt):Arguments:=match s with
 | .FunctionDef _ a _ _ _ _ _ _ _ _=>a
 | _=> {posonlyargs:= [],args:= [],vararg:=none,kwonlyargs:= [],kw_defaults:= [],kwarg:=none,defaults:= []}
noncomputable def ff (s:Stmt):List Stmt:=match s with
 | .FunctionDef _ _ b _ _ _ _ _ _ _=>b
 | _=> []
noncomputable def aP (s:Stmt):Scope:=match s with
 | .FunctionDef _ _ _ _ _ _ sc _ _ _=>sc
 | _=> {kind:= .function,names:= [],isGenerator:=false,isCoroutine:=false}
noncomputable abbrev i0:HB:=λ_ _ _ _ _ _=>False
noncomputable abbrev E0:XK:=λ_ _ _=>False
theorem Lj:Passes i0 X E0:=λ_ _ _ _ _ _ _ h=>h.elim
structure DF (K:PySem.W.Frag)(x qual:Str)(st:Stmt)(f:Addr)(fd:FuncData):Prop where
 ex: ∃ (oc:Value) (od:Option Addr) (kV doc pm:Value) (an:Option Addr) (eI ct:Value) (Dv:Array (Option Value)),fd=PySem.W.fnOf x qual (gy st) (ff st) (aP st) .none kV doc pm an eI ct /\ K.lookup f=some #[oc,od, .func fd,Dv] /\ PySem.W.codeIn K eI qual=true
 kp:PySem.W.keepIn K (.ref f)=true
section
variable {P:Program}{w:World}{K:PySem.W.Frag}{mg:Str ->Option Value}{base:Heap}
def DF.ok {st:Stmt}(F:DF K x qual st f fd)(S:b7 N ps (aP st))(len: ∀vs H Q E,sp vs H Q E ->vs.length=ps.length)(nv: ∀ (eI:Value) (A:Around) (outer:List Env) (s:Shared) (H:Hp) (vs:List V) (Q:VK) (E:XK),gi k (A.deeper (envOfC qual (aP st) s.heap.objs.size f eI)) ->sp vs H Q E ->∃t,yq (fg i0 P w K mg base N qual (aP st) f eI A outer s H E).NQ (ff st) t /\ t {nx:=λ_ H'=>Q .dY H',rt:=Q} (start N vs) H):d3 P w K mg base i0 (k+1) f fd ps sp:=by let⟨oc,od,kV,doc,pm,an,eI,ct,Dv,rfl,lk,CJ⟩:=F.ex;refine Tb lk CJ S len λA outer s H vs Q E hr xo=> ?_;let⟨t,h,q⟩:=nv eI A outer s H vs Q E hr xo;exact#[t,h.NQ,q]
def DF.binds {st:Stmt}(F:DF K x qual st f fd)(h: ∀ (kV doc pm:Value) (an:Option Addr) (eI ct:Value) (us:List Value),us.length=ps.length ->bindArgs (PySem.W.fnOf x qual (gy st) (ff st) (aP st) .none kV doc pm an eI ct) #[us,[]]=pure (ps.zip us)):Binds K fd ps []:=by let⟨oc,od,kV,doc,pm,an,eI,ct,Dv,rfl,lk,CJ⟩:=F.ex;exact .all (h kV doc pm an eI ct)
theorem vn {st:Stmt}{kV doc pm eI ct:Value}(l:K.lookup f=some #[oc,od, .func (PySem.W.fnOf x qual (gy st) (ff st) (aP st) .none kV doc pm an eI ct),Dv])(c:PySem.W.codeIn K eI qual=true)(k:PySem.W.keepIn K (.ref f)=true):DF K x qual st f (PySem.W.fnOf x qual (gy st) (ff st) (aP st) .none kV doc pm an eI ct):=#[#[oc,od,kV,doc,pm,an,eI,ct,Dv,rfl,l,c],k]
end
theorem fw (hr:gi k A):A.units+1<cLine:=Nat.lt_of_le_of_lt (Nat.add_le_add_left (by decide:1<=64) _) hr.units
section
variable {X:Cx}
theorem pv (i:Nat){pos:Pos}(hN:X.N[i]? =some x:=by rfl)(hv:U7 X.env.scope x:=by first | exact Or.inl rfl | exact Or.inr (Or.inl rfl) | exact Or.inr (Or.inr rfl))(hd:(x==("__debug__" :Str))=false:=by decide)(CJ:(x==("__classdict__" :Str))=false:=by decide):PE X (.Name x pos) (Ip i):=Nz hN hv hd CJ
end
noncomputable def fm (H H':Hp):Prop:= ∀b o,H b=some o ->H' b=some o
theorem fm.trans (a:fm H H1)(b:fm H1 H2):fm H H2:=λc o h=>b c o (a c o h)
section
variable {κ:Type} [DecidableEq κ]
theorem AJ: ∀ {l:List κ} {k:κ},l.Nodup ->¬k∈l ->(l++ [k]).Nodup
 | [],k,_,_=>by simp
 | a::r,k,h,hk=>by
  let⟨h1,h2⟩:=bF.mp h;show(a::(r++ [k])).Nodup;refine bF.mpr #[λm=> ?_,AJ h2 λm=>hk (av.mpr (Or.inr m))];rcases ax.mp m with q | q
  .exact h1 q
  .exact hk (av.mpr (Or.inl (af.mp q).symm))
end
def dc {α:Type}{c:α}{l:List (Str×α)}:((y,c)::l).lookup x=if x=y then some c else l.lookup x:=by
 by_cases h:x=y
 .subst h;simp[List.lookup_cons]
 .rw[ah h,List.lookup_cons];have:(x==y)=false:=by simpa using h
  rw[this]
theorem jL {env:Env}: ∀ (names:List (Str×NameKind)) (acc:List (Str×Addr)),(∀y∈names,y.2= .free -> ∃c,env.cells.lookup y.1=some c) ->(∀x c,acc.lookup x=some c ->env.cells.lookup x=some c) ->∃ cl,(forIn names acc λx s=>if(x.snd==NameKind.free)=true then(do let c <- cellOf env x.fst;pure (ForInStep.yield ((x.fst,c)::s)):Sem _) else pure (ForInStep.yield s))=(pure cl:Sem (List (Str×Addr))) /\(∀x c,cl.lookup x=some c ->env.cells.lookup x=some c) /\ (∀x,(acc.lookup x).isSome=true ->(cl.lookup x).isSome=true) /\ ∀y∈names,y.2= .free ->(cl.lookup y.1).isSome=true
 | [],acc,_,h2=>#[acc,rfl,h2,λ_ h=>h,λ_ h=>absurd h (by simp)]
 | (n, k)::r,acc,h1,h2=>by
  by_cases hk:k=NameKind.free
  .subst hk;let⟨c,hc⟩:=h1 (n, .free) aA rfl;have HP: ∀x c',((n,c)::acc).lookup x=some c' ->env.cells.lookup x=some c':=λx c' e=>by
    rw[dc] at e;by_cases hx:x=n
    .rw[aj hx] at e;cases e;rw[hx];exact hc
    .rw[ah hx] at e;exact h2 x c' e
   let⟨cl,e1,e2,e3,e4⟩:=jL r ((n,c)::acc) (λy hy=>h1 y (aw _ hy)) HP;refine#[cl,?_,e2,λx hx=>e3 x ?_,λy hy hf=> ?_]
   .rw[List.forIn_cons];have:cellOf env n=pure c:=by unfold cellOf;rw[hc]
    simp![beq_self_eq_true,bW,this,pure_bind];exact e1
   .rw[dc];by_cases gY:x=n
    .rw[aj gY];rfl
    .rw[ah gY];exact hx
   .rcases av.mp hy with rfl | hy
    .refine e3 n ?_;rw[dc,aj rfl];rfl
    .exact e4 y hy hf
  .obtain⟨cl,e1,e2,e3,e4⟩:=jL r acc (λy hy=>h1 y (aw _ hy)) h2;refine#[cl,?_,e2,e3,λy hy hf=> ?_]
   .rw[List.forIn_cons];have:(k==NameKind.free)=false:=by simpa using hk
    simp![this,az,bj,pure_bind];exact e1
   .rcases av.mp hy with rfl | hy
    .exact absurd hf hk
    .exact e4 y hy hf
def l4 (h: ∀y∈scope.names,y.2= .free -> ∃c,env.cells.lookup y.1=some c): ∃cl,closureFor scope env=pure cl /\ (∀x c,cl.lookup x=some c ->env.cells.lookup x=some c) /\ ∀y∈scope.names,y.2= .free ->(cl.lookup y.1).isSome=true:=by let⟨cl,e1,e2,_,e4⟩:=jL scope.names [] h (λ_ _ e=>by simp at e);refine#[cl,?_,e2,e4];simp![closureFor];rw[e1,pure_bind]
theorem iJ {env:Env}: ∀ {names:List (Str×NameKind)} {x:Str} {k:NameKind},(names.map λ(n,k)=>if(k==NameKind.free && env.scope.kind== .function && env.kindOf n==some .cell) then(n,NameKind.cell) else(n,k)).lookup x=some k ->names.lookup x=some k \/ (k= .cell /\ names.lookup x=some .free)
 | [],_,_,h=>by simp at h
 | (n, j)::r,x,k,h=>by
  have ih:= @iJ env r x k;rw[aK] at h;by_cases hc:(j==NameKind.free && env.scope.kind== .function && env.kindOf n==some .cell)=true
  .simp only[hc,bW] at h;rw[dc] at h;rw[dc];by_cases hx:x=n
   .rw[aj hx] at h ⊢;cases h;have hj:j=NameKind.free:=by rw[Bool.and_eq_true,Bool.and_eq_true] at hc;exact eq_of_beq hc.1.1
    exact .inr #[rfl,by rw[hj]]
   .rw[ah hx] at h ⊢;exact ih h
  .simp![hc,az,bj] at h;rw[dc] at h;rw[dc];by_cases hx:x=n
   .rw[aj hx] at h ⊢;exact .inl h
   .rw[ah hx] at h ⊢;exact ih h
theorem ij {env:Env}: ∀ {names:List (Str×NameKind)} {x:Str},names.lookup x=some .free ->(names.map λ(n,k)=>if(k==NameKind.free && env.scope.kind== .function && env.kindOf n==some .cell) then(n,NameKind.cell) else(n,k)).lookup x=some .cell \/(names.map λ(n,k)=>if(k==NameKind.free && env.scope.kind== .function && env.kindOf n==some .cell) then(n,NameKind.cell) else(n,k)).lookup x=some .free
 | [],_,h=>by simp at h
 | (n,j)::r,x,h=>by
  have ih:= @ij env r x;rw[aK];rw[dc] at h;by_cases hc:(j==NameKind.free && env.scope.kind== .function && env.kindOf n==some .cell)=true
  .simp![hc,bW];rw[dc];by_cases hx:x=n
   .rw[aj hx];exact .inl rfl
   .rw[ah hx] at h ⊢;exact ih h
  .simp![hc,az,bj];rw[dc];by_cases hx:x=n
   .rw[aj hx] at h ⊢;cases h;exact .inr rfl
   .rw[ah hx] at h ⊢;exact ih h
noncomputable abbrev b8 (X:Cx)(N':List Str)(scope:Scope)(cl:List (Str×Addr))(fp:List Addr)(s3:Shared)(H3:Hp):Cx:={X with N:=N',s₀:=s3,H₀:=H3,env:=compEnvC scope cl s3.heap.objs.size X.env,outer:=X.stack,stack:=X.stack,ex:=fp,fn:=λ_=>false,pn:= [],xe:=λ_ _=>False}
noncomputable def jW (own:Nat)(fr:List Nat)(σ:St):St:=List.replicate own none++fr.map λj=>(σ[j]?).join
structure dG (X:Cx)(own:List Str)(fr:List Nat)(N':List Str)(scope:Scope):Prop where
 kind:scope.kind= .function
 names:N'=own++fr.filterMap (λj=>X.N[j]?)
 len:N'.length=own.length+fr.length
 nd:N'.Nodup
 qH: ∀y∈scope.names,y.2≠ .cell
 loc: ∀y∈scope.names,y.2= .local ->scope.names.lookup y.1=some .local
 Qa: ∀x∈fr.filterMap (λj=>X.N[j]?),scope.names.lookup x=some .free
 free: ∀y∈scope.names,y.2= .free ->X.env.kindOf y.1=some .cell \/ X.env.kindOf y.1=some .free
theorem nC {N:List Str}: ∀ {fr:List Nat} {k:Nat} {x:Str},(fr.filterMap (λj=>N[j]?)).length=fr.length ->(fr.filterMap (λj=>N[j]?))[k]? =some x -> ∃j,fr[k]? =some j /\ N[j]? =some x
 | [],_,_,_,e=>by simp at e
 | j ::r,k,x,hl,e=>by
  cases hj:N[j]? with
  | none=>rw[List.filterMap_cons,hj] at hl;have:=List.length_filterMap_le (λj=>N[j]?) r;simp![aG] at hl;lia
  | some y=>
   rw[List.filterMap_cons,hj] at hl e;simp![aG,Nat.add_right_cancel_iff] at hl;cases k with
   | zero=>simp at e;exact#[j,by simp,by rw[hj,e]]
   | succ k=>exact nC (k:=k) hl (by simpa using e)
section
variable {X:Cx}{pins:List (Addr×Obj)}{σ:St}{H:Hp}{s s3:Shared}
def xn {fp:List Addr}(S:dG X own fr N' scope)(I:Inv X pins σ H s)(oE: ∀x c,cl.lookup x=some c ->X.env.cells.lookup x=some c)(pK: ∀y∈scope.names,y.2= .free ->(cl.lookup y.1).isSome=true)(vj: ∀b∈fp,jA X pins H b)(Oy: ∀b∈fp,b<s.heap.objs.size)(LK:h'.Ns s.heap.objs.size (λ_=>none))(hk: ∀b o,s.heap.get? b=some o ->h'.get? b=some o): Inv (b8 X N' scope cl fp s H) [] (jW own.length fr σ) H {s with heap:=h',toks:=t}:=by
 have look: ∀x,(compEnvC scope cl s.heap.objs.size X.env).kindOf x=(relabel scope X.env).names.lookup x:=λ_=>rfl;have S6:(fr.filterMap (λj=>X.N[j]?)).length=fr.length:=by have:=S.len;rw[S.names,aH] at this;lia
 refine#[#[I.ok.mod,?_,I.ok.glob,I.ok.blt,ao _,λx y c e1 e2=>I.ok.inj x y c (oE _ _ e1) (oE _ _ e2),λx hx=> ?_,(λx c z _=>nomatch z),I.ok.hd,I.ok.frames, .inl rfl,λb hb=>#[?_,λx c e=>(vj b hb).2.2.2.2.1 x c (oE x c e)],I.bs,aZ I.ok.HR I.sz,λb o e hb=> ?_,λb hb hz=> ?_,I.stack,I.Ag],
  rfl,I.bare,Un.kept hk,#[_,LK,λi x v e1 e2 e3=> ?_],λx c e=> ?_,I.dv.fresh (ao _),λx c e=>I.iN x c (oE x c e),λp hp=>absurd (show p∈([]:List (Addr×Obj)) from hp) (by simp),I.dv.kept hk,?_]
 .show(relabel scope X.env).kind=_;exact S.kind
 .have gY:scope.names.lookup x=some .free:=by
   rcases hx with hx | hx
   .rcases iJ hx with q | ⟨_,q⟩
    .exact absurd rfl (S.qH _ (dP q))
    .exact q
   .rcases iJ hx with q | ⟨q,_⟩
    .exact q
    .cases q
  exact Option.isSome_iff_exists.mp (pK _ (dP gY) rfl)
 .exact a5 (Oy b hb)
 .rcases (vj b hb).2.2.2.1 with z | z
  .exact I.ok.FK b o e z
  .exact absurd (bS (aF e) (aZ I.ok.HR z)) (cz _)
 .rcases av.mp (I.yK b hz) with q | q
  .exact(vj b hb).2.1 q
  .exact(vj b hb).2.2.1 q
 . -- a V0 value
  have e1:(own++fr.filterMap (λj=>X.N[j]?))[i]? =some x:=by rw[<- S.names];exact e1
  unfold jW at e2
  by_cases hi:i<own.length
  .rw[a7 (by simpa using hi),List.getElem?_replicate,aj hi] at e2;cases e2
  .rw [aU (by simpa using hi),cj] at e2;rw[aU (by simpa using hi)] at e1;let⟨j,ej,ex⟩:=nC S6 e1;rw[ay,ej] at e2;have e2:(σ[j]?).join=some v:=by simpa using e2
   have e2':σ[j]? =some (some v):=by
    cases q:σ[j]? with
    | none=>rw[q] at e2;cases e2
    | some w=>rw[q] at e2;simp at e2;rw[e2]
   have hf:=S.Qa x (au e1);have hm:=dP hf;let⟨m,_,hl⟩:=I.loc;have vis:U7 X.env.scope x:=by
    rcases S.free _ hm rfl with q | q
    .exact .inr (.inl q)
    .exact .inr (.inr q)
   let⟨u,r,l⟩:=hl j x v ex e2' vis;refine#[u,r, .inr #[?_,?_]]
   .exact ij hf
   .rcases l with⟨k,_⟩ | ⟨_,c,ec,z⟩
    .rcases S.free _ hm rfl with q | q
     .rw[k] at q;cases q
     .rw[k] at q;cases q
    .let⟨c',U5⟩:=Option.isSome_iff_exists.mp (pK _ hm rfl);have:=oE _ _ U5;rw[ec] at this;cases this;exact#[c,U5,z.keeps hk]
 .let⟨v,z⟩:=I.cell x c (oE x c e);exact#[v,z.keeps hk]
 .show(jW own.length fr σ).length=N'.length;unfold jW;rw[aH,cj,aa,S.len]
end
noncomputable def Kj (X:Cx)(cs:List Expr)(t:TT):Prop:=∀ (pins:List (Addr×Obj)) (s:Shared) (σ:St) (H:Hp) (Q:Bool ->Hp ->Prop),Inv X pins σ H s ->t σ H Q ->wpAny (model X.prog X.w) X.A (forIn cs true λc r=>if r=true then do let ok <- isTrue c X.env (eval c X.env);pure (ForInStep.yield ok) else pure (ForInStep.yield r)) (TP X pins σ Q) X.xe s
noncomputable def QG:TT:=λ_ H Q=>Q true H
theorem fq:Kj X [] QG:=λpins s σ H Q I h=>wpAny_tests_nil #[H,I,h]
theorem kG (h:PT X c t):Kj X [c] t:=λpins s σ H Q I q=>wpAny_tests_one (h pins s σ H Q I q)
section
variable {prog:Program}{w:World}{A:Around}{R:Result ->Shared ->Prop}{s:Shared}
theorem C0 (I:Nat ->Shared ->Prop)(turn : ∀n s,I n s ->wpAny (model prog w) A (pyNext it) (λr s₁=>match r with
   | none=>R (.ok .next) s₁
   | some v=>wpAny (model prog w) A (letOwnedTupleGo target it v) (λ_ s₀=>wpAny (model prog w) A (assign target env v) (λ_ s₂=>
    wpAny (model prog w) A (forIn ifs true λc r=>if r=true then do let ok <- isTrue c env (eval c env);pure (ForInStep.yield ok) else pure (ForInStep.yield r)) (λok s₃=>if ok=true then wpAny (model prog w) A (eval elt env) (λx s₄=>wpAny (model prog w) A (call (.builtin "list.append") [acc,x]) (λ_ s₅=> ∃m,m<n /\ I m s₅) (λ_ _=>False) s₄) (λ_ _=>False) s₃ else ∃m,m<n /\ I m s₃) (λ_ _=>False) s₂)
    (λ_ _=>False) s₀) (λ_ _=>False) s₁) (λ_ _=>False) s)(n:Nat)(h:I n s):codeAny (model prog w) A (.compLoop (.ListComp elt [#[target,iter,ifs,0]] scope pos) 0 it acc env) R s:=by
 refine codeAny_loop rfl I (λn s hI=> ?_) n h
 show wpAny _ A ((compTurn (.ListComp elt [#[target,iter,ifs,0]] scope pos) 0 it acc env).onRaise (λx=>do noteFrame x env;theTreesLotGoes x)) _ _ s
 refine wpAny_noted ?_
 rw[compTurn_list]
 refine ak (wpAny_standAt (ak (bV (turn n s hI) (λr s₁ h₁=> ?_) λ_ _ h'=>h'.elim)))
 cases r with
 | none=>exact aO h₁
 | some v=>
  refine ak (bV h₁ (λ_ s₀ R0=> ?_) λ_ _ h'=>h'.elim);refine ak (bV R0 (λ_ s₂ h₂=> ?_) λ_ _ h'=>h'.elim);refine ak (bV h₂ (λRu s₃ h₃=> ?_) λ_ _ h'=>h'.elim);cases Ru with
  | false=>exact aO #[rfl,h₃]
  | true=>exact ak (ak (bV h₃ (λx s₄ h₄=>ak (bV h₄ (λ_ s₅ h₅=>aO (aO #[rfl,h₅])) λ_ _ h'=>h'.elim)) λ_ _ h'=>h'.elim))
end
noncomputable def Wk (σ0 σ2:St):Prop:=σ2.length=σ0.length /\ ∀ (i:Nat) v,σ0[i]? =some (some v) ->σ2[i]? =some (some v)
noncomputable def HA (own:Nat)(g:TG):Prop:= ∀ (c:St) (v:V) (H:Hp) (Q:St ->Hp ->Prop),g v (List.replicate own none++c) H Q ->g v (List.replicate own none++c) H λσ2 H2=>Wk (List.replicate own none++c) σ2 /\ Q σ2 H2
def di:HA 1 (nB 0):=by
 intro c v H Q h;refine#[#[by simp,λi u e=> ?_],h];cases i with
 | zero=>simp at e
 | succ i=>simpa using e
def He {K:PySem.W.Frag}:HA 2 (OL K 2 (A5 (nB 0) (A5 (nB 1) OM))):=by
 rintro c v H Q ⟨a,xs,e,hs,hl,x,r,rfl,y,r',rfl,rfl,h⟩;refine#[a,_,e,hs,hl,x,_,rfl,y,_,rfl,rfl,#[by simp,λi u e=> ?_],h];match i with
 | 0=>simp at e
 | 1=>simp at e
 | i+2=>simpa using e
noncomputable def Mh (J:It)(own:Nat)(fr:List Nat)(g:TG)(tc:TT)(te:TE)(σ:St)(p:Addr)(H1:Hp)(Q:VK):Prop:=∃ W :Nat ->Nat ->List V ->Hp ->Prop,(∃m,W 0 m [] (upd H1 p (.lst []))) /\ ∀i m ys H',W i m ys H' ->H' p=some (.lst ys) /\((J.stop i H' /\ Q (.ref p) H') \/ (J.go i H' /\ ys.length<sizeLine /\ ∀x H2,J.Ms i H' x H2 ->g x (jW own fr σ) H2 λσ2 H3=>tc σ2 H3 λb H4=>if b=true then te σ2 H4 λy H5=> ∃zs,H5 p=some (.lst zs) /\ zs.length<sizeLine /\ ∃m',m'<m /\ W (i+1) m' (zs++ [y]) (upd H5 p (.lst (zs++ [y]))) else ∃zs m',m'<m /\ W (i+1) m' zs H4))
noncomputable def Eu (wi:TI)(own:Nat)(fr:List Nat)(g:TG)(tc:TT)(te:TE):TE:=λσ H Q=>wi σ H λJ H1=> ∀p,H1 p=none ->Mh J own fr g tc te σ p H1 Q
section
variable {X:Cx}{pins:List (Addr×Obj)}{σ:St}{H:Hp}{s s3:Shared}
theorem comp_back {σ':St}(I3:Inv X pins σ H s3)(vj: ∀b∈fp,jA X pins H b)(Ic:Inv (b8 X N' scope cl fp s3 H) AA σ' H' s'):Inv X pins σ H' s':=I3.Tg (ch:=fp) Ic.os Ic.base Ic.dv Ic.bare λb hb=>#[(vj b hb).2.2.2.1,(vj b hb).2.1,(vj b hb).2.2.2.2.1,(vj b hb).2.2.2.2.2]
def oI {C:Addr}{σ':St}(I3:Inv X pins σ H s3)(hC:C=s3.heap.objs.size)(J:Inv X pins σ' H' s')(hn:H' C=none)(hs:Heap.SameBut C s'.heap h'):Inv X pins σ' H' {s' with heap:=h'}:=by
 subst hC;refine J.turned (t':=s'.toks) (it:=s3.heap.objs.size) (λb o hb e=>hs.extBut b o hb e) hn (Nat.ne_of_gt I3.lt) (.inr I3.sz) (λx c e z=> ?_) λp hp z=> ?_
 .let⟨v,q⟩:=I3.cell x c e;exact absurd q.lt (by rw[z];exact cz _)
 .exact absurd (aF (I3.pin p hp).1) (by rw[z];exact cz _)
def rm {RR:Value ->Addr ->Result ->Shared ->Prop}(jw:X.calm=true)(S:dG X own fr N' scope)(hg: ∀s3 H3,PG (b8 X N' scope cl fp s3 H3) tg g)(hw:HA own.length g)(hc: ∀s3 H3,Kj (b8 X N' scope cl fp s3 H3) ifs tc)(he: ∀s3 H3,PE (b8 X N' scope cl fp s3 H3) elt te)(oE: ∀x c,cl.lookup x=some c ->X.env.cells.lookup x=some c)(pK: ∀y∈scope.names,y.2= .free ->(cl.lookup y.1).isSome=true)(I:Inv X pins σ H s)(T:Turn X.prog X.w X.K tg J fp it tn)(st:tn 0 s.heap)(vj: ∀b∈fp,jA X pins H b)(h: ∀p,H p=none ->Mh J own.length fr g tc te σ p H Q)(fin: ∀ (s3:Shared) (H3:Hp),Inv X pins σ H3 s3 ->(∀b∈fp,jA X pins H3 b) -> ∀ (D:Addr) (σ':St) (H':Hp) (s':Shared) (t:Nat),D<s3.heap.objs.size ->Inv (b8 X N' scope cl fp s3 H3) [] σ' H' s' ->Q (.ref D) H' ->RR (.ref D) s3.heap.objs.size (.ok .next) s'): wpAny (model X.prog X.w) X.A (newList []) (λacc s₃=>wpAny (model X.prog X.w) X.A (newFunctionEnv scope X.env.globals cl [] X.env.qual none .none (some X.env)) (λHd s₄=>codeAny (model X.prog X.w) X.A (.compStart (.ListComp elt [#[tg,iter,ifs,0]] scope pos) 0 (.ref it) acc {Hd with scope:=relabel scope X.env}) (RR acc Hd.locals) s₄) E s₃) E s:=by
 refine wpAny_newObj_type ?_;have hf:H s.heap.objs.size=none:=I.dv.fresh (ao _);let⟨W,⟨m0,w0⟩,turn⟩:=h _ hf;generalize e3:({s with heap:=s.heap.push {cls:= .type "list",dict:=none,data:= .seq ([]:List Value).toArray}}:Shared)=s3;have MY:s3.heap.objs.size=s.heap.objs.size+1:=by rw[<- e3];exact Heap.size_push ..
 have Vn: ∀b o,s.heap.get? b=some o ->s3.heap.get? b=some o:=λb o e=>by rw[<- e3];exact aq _ e
 have I3:Inv X pins σ (upd H s.heap.objs.size (.lst [])) s3:=by rw[<- e3];exact I.laid (t':=s.toks) (λb u e=>aq _ e) (ao _) #[dj _,[],0, .nil,aS _ rfl]
 have ON: ∀b∈fp,b<s.heap.objs.size:=λb hb=>by let⟨o,e,_⟩:=T.obj 0 _ st b hb;exact aF e
 have zv: ∀b∈fp,jA X pins (upd H s.heap.objs.size (.lst [])) b:=λb hb=>#[by rw[bM (a5 (ON b hb))];exact(vj b hb).1,(vj b hb).2]
 refine wpAny_newFunctionEnv S.qH (by intro y hy;simp at hy) (λh₁ Om Oh=> ?_) S.kind;have old: ∀b o,s3.heap.get? b=some o ->h₁.get? b=some o:=λb o e=>Oh.extBut b o (a5 (aF e)) (aq _ e);have Ic:=xn (t:=s3.toks+([]:List (Str×Value)).length) S I3 oE pK zv (λb hb=>by rw[MY];exact Nat.lt_succ_of_lt (ON b hb)) Om old;have BV:tn 0 h₁:=T.keep 0 _ _ st λb hb o e=>old b o (Vn b o e);have qo: ∀ {H':Hp},(∀b∈fp,H' b=none) -> ∀b∈fp,jA (b8 X N' scope cl fp s3 (upd H s.heap.objs.size (.lst []))) [] H' b:=λhn b hb=>by
  refine#[hn b hb,?_,?_, .inl hb,λx c e=>(vj b hb).2.2.2.2.1 x c (oE x c e),λp hp=>absurd (show p∈([]:List (Addr×Obj)) from hp) (by simp)]
  .show b≠s3.heap.objs.size;rw[MY];exact a5 (Nat.lt_succ_of_lt (ON b hb))
  .exact Ic.ok.CO b hb
 have loop:codeAny (model X.prog X.w) X.A (.compLoop (.ListComp elt [#[tg,iter,ifs,0]] scope pos) 0 (.ref it) (.ref s.heap.objs.size) (compEnvC scope cl s3.heap.objs.size X.env)) (RR (.ref s.heap.objs.size) s3.heap.objs.size) {s3 with heap:=h₁,toks:=s3.toks+([]:List (Str×Value)).length}:=by
  refine C0 (λn s'=> ∃i ys H',Inv (b8 X N' scope cl fp s3 (upd H s.heap.objs.size (.lst []))) [] (jW own.length fr σ) H' s' /\ tn i s'.heap /\ (∀b∈fp,H' b=none) /\ W i n ys H') ?_ m0 #[0,[],_,Ic,BV,λb hb=>(zv b hb).1,w0];rintro n s4 ⟨i,ys,H4,I4,f6,OP,w4⟩;let⟨vm,alt⟩:=turn i n ys H4 w4;rcases alt with⟨stop,q⟩ | ⟨go,hsz,step⟩
  .refine dt (T.done (b8 X N' scope cl fp s3 (upd H s.heap.objs.size (.lst []))) rfl rfl rfl jw i [] s4 _ H4 (λ_ _=>False) I4 (qo OP) f6 stop) λr s5 ⟨hr,I5⟩=> ?_;subst hr;exact fin s3 _ I3 zv _ _ H4 s5 s5.toks (by rw[MY];exact Nat.lt_succ_self _) I5 q
  .refine dt (T.item (b8 X N' scope cl fp s3 (upd H s.heap.objs.size (.lst []))) rfl rfl rfl jw i [] s4 _ H4 (λ_ _=>False) I4 (qo OP) f6 go) λr s5 ⟨u,hr,h5⟩=> ?_;subst hr;refine dt h5 λ_ s6 ⟨x,H6,I6,r6,y6,Nb,YK⟩=> ?_;have Zp:=I6.pinned (qo YK) (T.obj _ _ Nb);have KZ:=hw _ x H6 _ (step x H6 y6);refine dt (hg s3 _ _ s6 _ H6 x u _ Zp r6 KZ) λ_ s7 ⟨σ7,H7,I7,wk,q7⟩=> ?_;have again: ∀ {H9:Hp} {s9:Shared} {Mr:List V},Inv (b8 X N' scope cl fp s3 (upd H s.heap.objs.size (.lst []))) ([]++iK fp s6.heap) σ7 H9 s9 ->(∃m',m'<n /\ W (i+1) m' Mr H9) ->∃m,m<n /\ ∃i ys H',Inv (b8 X N' scope cl fp s3 (upd H s.heap.objs.size (.lst []))) [] (jW own.length fr σ) H' s9 /\ tn i s9.heap /\ (∀b∈fp,H' b=none) /\ W i m ys H':=λ{H9 s9 Mr} I9 ⟨m',hm,w9⟩=>by
    refine#[m',hm,i+1,Mr,H9,(I9.jk).weak ?_ wk.2,T.keep _ _ _ Nb λb hb o e=>(I9.pin (b,o) (aV _ (aV _ (fD hb e)))).1,λb hb=> ?_,w9]
    .exact wk.1.symm
    .let⟨o,e,d⟩:=T.obj _ _ Nb b hb;exact(I9.pin (b,o) (aV _ (aV _ (fD hb e)))).2.1
   refine dt (hc s3 _ _ s7 σ7 H7 _ I7 q7) λok s8 ⟨H8,I8,q8⟩=> ?_;cases ok with
   | false=>simp![az,bj] at q8 ⊢;let⟨zs,q8⟩:=q8;exact again I8 q8
   | true=>simp![bW] at q8 ⊢;refine dt (he s3 _ _ s8 σ7 H8 _ I8 q8) λy s9 ⟨yv,H9,I9,ry,zs,hp9,hz9,q9⟩=> ?_;refine dt (kI _ s9 σ7 H9 (.ref s.heap.objs.size) [yv] (.ref s.heap.objs.size) [y] (λv H'=>H'=upd H9 s.heap.objs.size (.lst (zs++ [yv]))) I9 rfl (.cons ry .nil) #[_,zs,yv,rfl,rfl,hp9,hz9,rfl]) λv Vy ⟨_,Qb,Zr,_,YY⟩=> ?_;subst YY;exact again Zr q9
 exact codeAny_compStart_list loop (T.self _ 0 _ _ _ BV loop)
end
section
variable {X:Cx}
theorem Cx.Ok.cellsOf (ok:X.Ok)(S:dG X own fr N' scope): ∀y∈scope.names,y.2= .free -> ∃c,X.env.cells.lookup y.1=some c:=λy hy hf=>ok.has y.1 (S.free y hy hf)
def eZ (jw:X.calm=true)(S:dG X own fr N' scope)(hi:PI X tg iter wi)(hg: ∀cl fp s3 H3,PG (b8 X N' scope cl fp s3 H3) tg g)(hw:HA own.length g)(hc: ∀cl fp s3 H3,Kj (b8 X N' scope cl fp s3 H3) ifs tc)(he: ∀cl fp s3 H3,PE (b8 X N' scope cl fp s3 H3) elt te)(hs: ∀x,foldedSetIterable iter X.env x=pure x:=by intro _;rfl):PE X (.ListComp elt [#[tg,iter,ifs,0]] scope pos) (Eu wi own.length fr g tc te):=by intro pins s σ H Q I h;let⟨cl,xu,oE,pK⟩:=l4 (I.ok.cellsOf S);rw[eval_ListComp];refine wpAny_comprehension_free (use:=none) rfl hs xu S.kind S.loc (dt (hi pins s σ H _ I h) λv s1 h1=>dt h1 λPr s2 h2=> ?_);let⟨it,fp,tn,J,H2,e,I2,T,lK,f2,h2⟩:=h2;subst e;refine rm (RR:=λacc C=>compPost (model X.prog X.w) X.A X.xe none (EP X pins σ Q) acc C) jw S (hg cl fp) hw (hc cl fp) (he cl fp) oE pK I2 T lK f2 h2 ?_;intro s3 H3 I3 f3 D σ' H' s' t hD Ic q;let⟨m,hn,_⟩:=Ic.loc;refine#[m,hn,λh' Oi=>#[.ref D,H',?_,rfl,q]];exact oI I3 rfl (comp_back I3 f3 Ic) Ic.free Oi
def lP {pos Nf pos':Pos}(jw:X.calm=true)(hN:X.N.Nodup)(hx:X.N[i]? =some x)(hl:Loc X.env.scope x)(S:dG X own fr N' scope)(hi:PI X tg iter wi)(hg: ∀cl fp s3 H3,PG (b8 X N' scope cl fp s3 H3) tg g)(hw:HA own.length g)(hc: ∀cl fp s3 H3,Kj (b8 X N' scope cl fp s3 H3) ifs tc)(he: ∀cl fp s3 H3,PE (b8 X N' scope cl fp s3 H3) elt te)(hsw:swapsWith (.ListComp elt [#[tg,iter,ifs,0]] scope pos) (some (.Name x pos')) Nf.line X.env=pure true)(hs: ∀x,foldedSetIterable iter X.env x=pure x:=by intro _;rfl)(hf:X.fn x=true \/ X.env.scope.names.lookup x=some .local:=by first | exact .inl rfl | exact .inr rfl | assumption):PS X (.Assign [.Name x pos'] (.ListComp elt [#[tg,iter,ifs,0]] scope pos) Nf) (Ex (Eu wi own.length fr g tc te) (nB i)):=by
 intro pins s σ H D I h;let⟨cl,xu,oE,pK⟩:=l4 (I.ok.cellsOf S);rw[exec_Assign_Name_used _ _ _ _ hsw];refine ak (wpAny_standAt (ak ?_));show wpAny _ X.A (do let _ <- comprehension (.ListComp elt [#[tg,iter,ifs,0]] scope pos) scope X.env _ (newList []) false (eval iter X.env) (some (assign (.Name x pos') X.env))) _ _ s;refine ak (dt (wpAny_comprehension_free (use:=some (assign (.Name x pos') X.env)) (Q:=λ_ s'=>SP X pins D .next s') rfl hs xu S.kind S.loc (dt (hi pins s σ H _ I h) λv s1 h1=>dt h1 λPr s2 h2=> ?_)) λ_ s' hq=>aO (aO hq));let⟨it,fp,tn,J,H2,e,I2,T,lK,f2,h2⟩:=h2;subst e;refine rm (RR:=λacc C=>compPost (model X.prog X.w) X.A X.xe (some (assign (.Name x pos') X.env)) (λ_ s'=>SP X pins D .next s') acc C) jw S (hg cl fp) hw (hc cl fp) (he cl fp) oE pK I2 T lK f2 h2 ?_;intro s3 H3 I3 f3 Da σ' H' s' t hD Ic q;let⟨m,hn,_⟩:=Ic.loc;have I5:=comp_back I3 f3 Ic;show wpAny _ X.A (assign (.Name x pos') X.env (.ref Da)) _ _ s';refine wpAny_assign_Name (sD I5 hN hx hl (show RelV (.ref Da) (.ref Da) from rfl) (λs6 I6 Oi=> ?_) hf);let⟨a,sb,ha⟩:=Oi;have dw:s3.heap.objs.size≠a:=by
  rcases ha with rfl | ha
  .exact Nat.ne_of_gt I3.lt
  .let⟨v,z⟩:=I3.cell x a ha;exact Nat.ne_of_gt z.lt
 refine#[m,hn.sameBut sb dw,λh' Wv=>#[_,H',oI I3 rfl I6 Ic.free Wv,q]]
end
set_option genInjectivity true in
inductive Dt where
 | dY | bl (b:Bool) | int (i:Int) | str (x:Str) | tup (l:List Dt) | lst (l:List Dt)
mutual
noncomputable def Rep (K:PySem.W.Frag)(H:Hp):Dt ->V ->Prop
 | .dY,v=>v= .dY
 | .bl b,v=>v= .bl b
 | .int i,v=>v= .int i
 | .str x,v=>v= .str x
 | .tup l,v=> ∃a vs,v= .ref a /\ jj K H a vs /\ gC K H l vs
 | .lst l,v=> ∃a vs,v= .ref a /\ gB K H a vs /\ gC K H l vs
noncomputable def gC (K:PySem.W.Frag)(H:Hp):List Dt ->List V ->Prop
 | [],vs=>vs= []
 | d::r,vs=> ∃v t,vs=v::t /\ Rep K H d v /\ gC K H r t
end
mutual
noncomputable def rZ:Dt ->Dt ->Bool
 | .dY, .dY=>true
 | .bl a, .bl b=>a==b
 | .bl a, .int b=>(if a then 1 else 0)==b
 | .int a, .bl b=>a==(if b then 1 else 0)
 | .int a, .int b=>a==b
 | .str a, .str b=>a==b
 | .tup a, .tup b=>vo a b
 | .lst a, .lst b=>vo a b
 | _,_=>false
noncomputable def vo:List Dt ->List Dt ->Bool
 | [],[]=>true
 | x::xs,y::ys=>rZ x y && vo xs ys
 | _,_=>false
end
mutual
noncomputable def yo:Dt ->Nat
 | .tup l=>pN l+1
 | .lst l=>pN l+1
 | _=>0
noncomputable def pN:List Dt ->Nat
 | []=>0
 | d::r=>max (yo d) (pN r)
end
theorem gC.length {K:PySem.W.Frag}{H:Hp}: ∀ {l:List Dt} {vs:List V},gC K H l vs ->l.length=vs.length
 | [],_,h=>by simp![gC] at h;subst h;rfl
 | d::r,vs,h=>by simp![gC] at h;let⟨v,t,rfl,_,h⟩:=h;simp[gC.length h]
theorem gC.at {K:PySem.W.Frag}{H:Hp}: ∀ {l:List Dt} {vs:List V} {j:Nat} {d:Dt},gC K H l vs ->l[j]? =some d -> ∃v,vs[j]? =some v /\ Rep K H d v
 | [],_,_,_,_,e=>by simp at e
 | d::r,vs,j,d',h,e=>by
  simp![gC] at h;let⟨v,t,rfl,h1,h⟩:=h;cases j with
  | zero=>simp at e;subst e;exact#[v,rfl,h1]
  | succ j=>simpa using gC.at (j:=j) h (by simpa using e)
theorem nF: ∀ {l:List Dt} {d:Dt},d∈l ->yo d<=pN l
 | [],_,h=>by simp at h
 | x::r,d,h=>by
  simp![pN];rcases av.mp h with rfl | h
  .exact Nat.le_max_left _ _
  .exact aZ (nF h) (Nat.le_max_right _ _)
theorem jI: ∀ (a b:List Dt),vo a b=((List.range (min a.length b.length)).all (λj=>rZ (a.getD j .dY) (b.getD j .dY)) && a.length==b.length)
 | [],[]=>rfl
 | [],y::ys=>by simp[vo]
 | x::xs,[]=>by simp[vo]
 | x::xs,y::ys=>by
  have e:min (x::xs).length (y::ys).length=min xs.length ys.length+1:=by simp![aG];lia
  rw[vo,jI xs ys,e,List.range_succ_eq_map,List.all_cons,List.all_map];have e2:((x::xs).length==(y::ys).length)=(xs.length==ys.length):=by simp
  rw[e2,Bool.and_assoc];rfl
mutual
theorem nE: ∀d:Dt,rZ d d=true
 | .dY=>rfl
 | .bl b=>by simp[rZ]
 | .int i=>by simp[rZ]
 | .str x=>by simp[rZ]
 | .tup l=>by simp![rZ];exact oG l
 | .lst l=>by simp![rZ];exact oG l
theorem oG: ∀l:List Dt,vo l l=true
 | []=>rfl
 | x::xs=>by simp![vo,nE x,oG xs,Bool.and_self]
end
def Un.ZO {K:PySem.W.Frag}(h: ∀b xs,Rd H b (.tup xs) ->Rd H' b (.tup xs))(q:jj K H a xs):jj K H' a xs:=by
 rcases q with q | q
 .exact .inl (h _ _ q)
 .exact .inr q
section
variable {X:Cx}{pins:List (Addr×Obj)}{σ:St}{H:Hp}{s:Shared}
mutual
theorem Rep.inj (I:Inv X pins σ H s): ∀ (d e:Dt) (v:V),Rep X.K H d v ->Rep X.K H e v ->d=e
 | .dY,e,v,h1,h2=>by simp![Rep] at h1;subst h1;cases e<;>simp![Rep] at h2<;>first | rfl | (cases h2;done) | (let⟨_,_,q,_⟩:=h2;cases q)
 | .bl b,e,v,h1,h2=>by simp![Rep] at h1;subst h1;cases e<;>simp![Rep] at h2<;>first | (cases h2;rfl) | (cases h2;done) | (let⟨_,_,q,_⟩:=h2;cases q)
 | .int b,e,v,h1,h2=>by simp![Rep] at h1;subst h1;cases e<;>simp![Rep] at h2<;>first | (cases h2;rfl) | (cases h2;done) | (let⟨_,_,q,_⟩:=h2;cases q)
 | .str b,e,v,h1,h2=>by simp![Rep] at h1;subst h1;cases e<;>simp![Rep] at h2<;>first | (cases h2;rfl) | (cases h2;done) | (let⟨_,_,q,_⟩:=h2;cases q)
 | .tup l,e,v,h1,h2=>by
  simp![Rep] at h1;let⟨a,vs,rfl,hs,hr⟩:=h1;cases e<;>simp![Rep] at h2<;>first | (cases h2;done) | skip
  .let⟨a',MA,q,gA,oB⟩:=h2;cases q;have:=I.nY hs gA;subst this;rw[gC.inj I l _ vs hr oB]
  .let⟨a',MA,q,gA,oB⟩:=h2;cases q;let⟨its,_,ht,_⟩:=I.tuple hs;let⟨its',_,hl,_⟩:=I.list gA;exact absurd rfl (SeqAt.ne_of_list_tuple (s:=s) hl.isList ht)
 | .lst l,e,v,h1,h2=>by
  simp![Rep] at h1;let⟨a,vs,rfl,hs,hr⟩:=h1;cases e<;>simp![Rep] at h2<;>first | (cases h2;done) | skip
  .let⟨a',MA,q,gA,oB⟩:=h2;cases q;let⟨its,_,ht,_⟩:=I.tuple gA;let⟨its',_,hl,_⟩:=I.list hs;exact absurd rfl (SeqAt.ne_of_list_tuple (s:=s) hl.isList ht)
  .let⟨a',MA,q,gA,oB⟩:=h2;cases q;have:=I.list_inj hs gA;subst this;rw[gC.inj I l _ vs hr oB]
theorem gC.inj (I:Inv X pins σ H s): ∀ (l m:List Dt) (vs:List V),gC X.K H l vs ->gC X.K H m vs ->l=m
 | [],m,vs,h1,h2=>by
  simp![gC] at h1;subst h1;cases m with
  | nil=>rfl
  | cons _ _=>simp![gC] at h2;let⟨_,_,q,_⟩:=h2;cases q
 | d ::r,m,vs,h1,h2=>by
  simp![gC] at h1;let⟨v,t,rfl,h1,h3⟩:=h1;cases m with
  | nil=>simp![gC] at h2;cases h2
  | cons d' r'=>simp![gC] at h2;let⟨v',t',q,h4,h5⟩:=h2;cases q;rw[Rep.inj I d d' v h1 h4,gC.inj I r r' t h3 h5]
end
def gC.items (h:gC X.K H l vs)(r:Vals vs its)(hj:j<its.length):Rep X.K H (l.getD j .dY) (vs.getD j .dY) /\ RelV (vs.getD j .dY) its[j] /\ l.getD j .dY∈l:=by
 have e1:=h.length;have e2:=r.length;have hl:j<l.length:=by lia
 let⟨v,hv,hr⟩:=h.at (ae hl);let⟨u,hu,ru⟩:=r.get hv;have e3:l.getD j .dY=l[j]:=by simp[List.getD,hl]
 have e4:vs.getD j .dY=v:=by simp[List.getD,hv]
 rw[ae hj] at hu;cases hu;rw[e3,e4];exact#[hr,ru,bK hl]
theorem vp (I:Inv X pins σ H s): ∀ (n:Nat) (A:Around) (d e:Dt) (x y:V) (u v:Value),yo d<=n ->A.units+n<cLine ->Rep X.K H d x ->Rep X.K H e y ->RelV x u ->RelV y v ->SeqAt.EqAt A s u v (rZ d e)
 | n, A, .tup l, .tup m,x,y,u,v,hn,hu,h1,h2,r1,r2=>by
  have OJ:=h1;have HP:=h2;simp![Rep] at h1 h2;let⟨a,vs,rfl,hs,hr⟩:=h1;let⟨b,ws,rfl,gA,oB⟩:=h2;cases r1;cases r2;by_cases GK:a=b
  .subst GK;rw[Rep.inj I _ _ _ OJ HP,nE];exact SeqAt.EqAt.same _
  .obtain⟨its,rv,ht,_⟩:=I.tuple hs;let⟨its',yP,nW,_⟩:=I.tuple gA;refine SeqAt.EqAt.of_refs GK ?_;simp![rZ];simp![yo] at hn;match n,hn with
   | n +1,hn=>
    have z:=SeqAt.RcAt.tuples (A:=A) (s:=s) (e:=λj=>rZ (l.getD j .dY) (m.getD j .dY)) ht nW (by lia) λj g1 g2=>by
     let⟨q1,q2,q3⟩:=hr.items rv (j:=j) (by simpa using g1);let⟨q4,q5,q6⟩:=oB.items yP (j:=j) (by simpa using g2);refine vp I n A.in1 _ _ _ _ _ _ ?_ ?_ q1 q4 (by simpa using q2) (by simpa using q5)
     .have:=nF q3;lia
     .show A.units+1+n<cLine;lia
    rw[jI,hr.length,oB.length,rv.length,yP.length];simpa using z
 | n, A, .lst l, .lst m,x,y,u,v,hn,hu,h1,h2,r1,r2=>by
  have OJ:=h1;have HP:=h2;simp![Rep] at h1 h2;let⟨a,vs,rfl,hs,hr⟩:=h1;let⟨b,ws,rfl,gA,oB⟩:=h2;cases r1;cases r2;by_cases GK:a=b
  .subst GK;rw[Rep.inj I _ _ _ OJ HP,nE];exact SeqAt.EqAt.same _
  .obtain⟨its,rv,ht,_⟩:=I.list hs;let⟨its',yP,nW,_⟩:=I.list gA;refine SeqAt.EqAt.of_refs GK ?_;simp![rZ];simp![yo] at hn;by_cases hl:its.length=its'.length
   .match n,hn with
    | n +1,hn=>
     have z:=SeqAt.RcAt.lists (A:=A) (s:=s) (e:=λj=>rZ (l.getD j .dY) (m.getD j .dY)) ht.isList nW.isList (by simpa using hl) (by lia) λj g1 g2=>by
      let⟨q1,q2,q3⟩:=hr.items rv (j:=j) (by simpa using g1);let⟨q4,q5,q6⟩:=oB.items yP (j:=j) (by simpa using g2);refine vp I n A.in1 _ _ _ _ _ _ ?_ ?_ q1 q4 (by simpa using q2) (by simpa using q5)
      .have:=nF q3;lia
      .show A.units+1+n<cLine;lia
     rw[jI,hr.length,oB.length,rv.length,yP.length,hl];simpa [hl] using z
   .have z:=SeqAt.RcAt.lists_lengths (A:=A) (s:=s) ht.isList nW.isList (by simpa using hl) (by lia);have hf:(its.length==its'.length)=false:=by simpa using hl
    rw[jI,hr.length,oB.length,rv.length,yP.length,hf,Bool.and_false];exact z
 | n,A, .tup l, .lst m,x,y,u,v,hn,hu,h1,h2,r1,r2=>by simp![Rep] at h1 h2;let⟨a,vs,rfl,hs,hr⟩:=h1;let⟨b,ws,rfl,gA,oB⟩:=h2;cases r1;cases r2;let⟨its,rv,ht,_⟩:=I.tuple hs;let⟨its',yP,nW,_⟩:=I.list gA;exact SeqAt.EqAt.tuple_list ht nW.isList (by lia)
 | n,A, .lst l, .tup m,x,y,u,v,hn,hu,h1,h2,r1,r2=>by simp![Rep] at h1 h2;let⟨a,vs,rfl,hs,hr⟩:=h1;let⟨b,ws,rfl,gA,oB⟩:=h2;cases r1;cases r2;let⟨its,rv,ht,_⟩:=I.list hs;let⟨its',yP,nW,_⟩:=I.tuple gA;exact SeqAt.EqAt.list_tuple ht.isList nW (by lia)
 | n,A, .tup l, .dY,x,y,u,v,hn,hu,h1,h2,r1,r2=>by simp![Rep] at h1 h2;let⟨a,vs,rfl,hs,hr⟩:=h1;subst h2;cases r1;cases r2;let⟨its,rv,ht,_⟩:=I.tuple hs;exact SeqAt.EqAt.tuple_none ht (by lia)
 | n,A, .tup l, .bl b,x,y,u,v,hn,hu,h1,h2,r1,r2=>by simp![Rep] at h1 h2;let⟨a,vs,rfl,hs,hr⟩:=h1;subst h2;cases r1;cases r2;let⟨its,rv,ht,_⟩:=I.tuple hs;exact SeqAt.EqAt.tuple_bool b ht (by lia)
 | n,A, .tup l, .int b,x,y,u,v,hn,hu,h1,h2,r1,r2=>by simp![Rep] at h1 h2;let⟨a,vs,rfl,hs,hr⟩:=h1;subst h2;cases r1;let⟨t,rfl⟩:=r2;let⟨its,rv,ht,_⟩:=I.tuple hs;exact SeqAt.EqAt.tuple_int b t ht (by lia)
 | n,A, .tup l, .str b,x,y,u,v,hn,hu,h1,h2,r1,r2=>by simp![Rep] at h1 h2;let⟨a,vs,rfl,hs,hr⟩:=h1;subst h2;cases r1;let⟨t,rfl⟩:=r2;let⟨its,rv,ht,_⟩:=I.tuple hs;exact SeqAt.EqAt.tuple_str b t ht (by lia)
 | n,A, .lst l, .dY,x,y,u,v,hn,hu,h1,h2,r1,r2=>by simp![Rep] at h1 h2;let⟨a,vs,rfl,hs,hr⟩:=h1;subst h2;cases r1;cases r2;let⟨its,rv,ht,_⟩:=I.list hs;exact SeqAt.EqAt.list_none ht.isList (by lia)
 | n,A, .lst l, .bl b,x,y,u,v,hn,hu,h1,h2,r1,r2=>by simp![Rep] at h1 h2;let⟨a,vs,rfl,hs,hr⟩:=h1;subst h2;cases r1;cases r2;let⟨its,rv,ht,_⟩:=I.list hs;exact SeqAt.EqAt.list_bool b ht.isList (by lia)
 | n,A, .lst l, .int b,x,y,u,v,hn,hu,h1,h2,r1,r2=>by simp![Rep] at h1 h2;let⟨a,vs,rfl,hs,hr⟩:=h1;subst h2;cases r1;let⟨t,rfl⟩:=r2;let⟨its,rv,ht,_⟩:=I.list hs;exact SeqAt.EqAt.list_int b t ht.isList (by lia)
 | n,A, .lst l, .str b,x,y,u,v,hn,hu,h1,h2,r1,r2=>by simp![Rep] at h1 h2;let⟨a,vs,rfl,hs,hr⟩:=h1;subst h2;cases r1;let⟨t,rfl⟩:=r2;let⟨its,rv,ht,_⟩:=I.list hs;exact SeqAt.EqAt.list_str b t ht.isList (by lia)
 | n,A, .dY, .tup l,x,y,u,v,hn,hu,h1,h2,r1,r2=>by simp![Rep] at h1 h2;let⟨a,vs,rfl,hs,hr⟩:=h2;subst h1;cases r2;cases r1;let⟨its,rv,ht,_⟩:=I.tuple hs;exact SeqAt.EqAt.none_tuple ht (by lia)
 | n,A, .bl b, .tup l,x,y,u,v,hn,hu,h1,h2,r1,r2=>by simp![Rep] at h1 h2;let⟨a,vs,rfl,hs,hr⟩:=h2;subst h1;cases r2;cases r1;let⟨its,rv,ht,_⟩:=I.tuple hs;exact SeqAt.EqAt.bool_tuple b ht (by lia)
 | n,A, .int b, .tup l,x,y,u,v,hn,hu,h1,h2,r1,r2=>by simp![Rep] at h1 h2;let⟨a,vs,rfl,hs,hr⟩:=h2;subst h1;cases r2;let⟨t,rfl⟩:=r1;let⟨its,rv,ht,_⟩:=I.tuple hs;exact SeqAt.EqAt.int_tuple b t ht (by lia)
 | n,A, .str b, .tup l,x,y,u,v,hn,hu,h1,h2,r1,r2=>by simp![Rep] at h1 h2;let⟨a,vs,rfl,hs,hr⟩:=h2;subst h1;cases r2;let⟨t,rfl⟩:=r1;let⟨its,rv,ht,_⟩:=I.tuple hs;exact SeqAt.EqAt.str_tuple b t ht (by lia)
 | n,A, .dY, .lst l,x,y,u,v,hn,hu,h1,h2,r1,r2=>by simp![Rep] at h1 h2;let⟨a,vs,rfl,hs,hr⟩:=h2;subst h1;cases r2;cases r1;let⟨its,rv,ht,_⟩:=I.list hs;exact SeqAt.EqAt.none_list ht.isList (by lia)
 | n,A, .bl b, .lst l,x,y,u,v,hn,hu,h1,h2,r1,r2=>by simp![Rep] at h1 h2;let⟨a,vs,rfl,hs,hr⟩:=h2;subst h1;cases r2;cases r1;let⟨its,rv,ht,_⟩:=I.list hs;exact SeqAt.EqAt.bool_list b ht.isList (by lia)
 | n,A, .int b, .lst l,x,y,u,v,hn,hu,h1,h2,r1,r2=>by simp![Rep] at h1 h2;let⟨a,vs,rfl,hs,hr⟩:=h2;subst h1;cases r2;let⟨t,rfl⟩:=r1;let⟨its,rv,ht,_⟩:=I.list hs;exact SeqAt.EqAt.int_list b t ht.isList (by lia)
 | n,A, .str b, .lst l,x,y,u,v,hn,hu,h1,h2,r1,r2=>by simp![Rep] at h1 h2;let⟨a,vs,rfl,hs,hr⟩:=h2;subst h1;cases r2;let⟨t,rfl⟩:=r1;let⟨its,rv,ht,_⟩:=I.list hs;exact SeqAt.EqAt.str_list b t ht.isList (by lia)
 | n,A, .dY, .dY,x,y,u,v,hn,hu,h1,h2,r1,r2=>by simp![Rep] at h1 h2;subst h1 h2;exact fR r1 r2 rfl rfl
 | n,A, .dY, .bl b,x,y,u,v,hn,hu,h1,h2,r1,r2=>by simp![Rep] at h1 h2;subst h1 h2;exact fR r1 r2 rfl rfl
 | n,A, .dY, .int b,x,y,u,v,hn,hu,h1,h2,r1,r2=>by simp![Rep] at h1 h2;subst h1 h2;exact fR r1 r2 rfl rfl
 | n,A, .dY, .str b,x,y,u,v,hn,hu,h1,h2,r1,r2=>by simp![Rep] at h1 h2;subst h1 h2;exact fR r1 r2 rfl rfl
 | n,A, .bl a, .dY,x,y,u,v,hn,hu,h1,h2,r1,r2=>by simp![Rep] at h1 h2;subst h1 h2;exact fR r1 r2 rfl rfl
 | n,A, .bl a, .bl b,x,y,u,v,hn,hu,h1,h2,r1,r2=>by simp![Rep] at h1 h2;subst h1 h2;exact fR r1 r2 rfl rfl
 | n,A, .bl a, .int b,x,y,u,v,hn,hu,h1,h2,r1,r2=>by simp![Rep] at h1 h2;subst h1 h2;exact fR r1 r2 rfl rfl
 | n,A, .bl a, .str b,x,y,u,v,hn,hu,h1,h2,r1,r2=>by simp![Rep] at h1 h2;subst h1 h2;exact fR r1 r2 rfl rfl
 | n,A, .int a, .dY,x,y,u,v,hn,hu,h1,h2,r1,r2=>by simp![Rep] at h1 h2;subst h1 h2;exact fR r1 r2 rfl rfl
 | n,A, .int a, .bl b,x,y,u,v,hn,hu,h1,h2,r1,r2=>by simp![Rep] at h1 h2;subst h1 h2;exact fR r1 r2 rfl rfl
 | n,A, .int a, .int b,x,y,u,v,hn,hu,h1,h2,r1,r2=>by simp![Rep] at h1 h2;subst h1 h2;exact fR r1 r2 rfl rfl
 | n,A, .int a, .str b,x,y,u,v,hn,hu,h1,h2,r1,r2=>by simp![Rep] at h1 h2;subst h1 h2;exact fR r1 r2 rfl rfl
 | n,A, .str a, .dY,x,y,u,v,hn,hu,h1,h2,r1,r2=>by simp![Rep] at h1 h2;subst h1 h2;exact fR r1 r2 rfl rfl
 | n,A, .str a, .bl b,x,y,u,v,hn,hu,h1,h2,r1,r2=>by simp![Rep] at h1 h2;subst h1 h2;exact fR r1 r2 rfl rfl
 | n,A, .str a, .int b,x,y,u,v,hn,hu,h1,h2,r1,r2=>by simp![Rep] at h1 h2;subst h1 h2;exact fR r1 r2 rfl rfl
 | n,A, .str a, .str b,x,y,u,v,hn,hu,h1,h2,r1,r2=>by simp![Rep] at h1 h2;subst h1 h2;exact fR r1 r2 rfl rfl
end
end L2
namespace L2
open PySem PySem.Spec PyProof.Rows
noncomputable def aaa:Dt ->Bool
 | .tup _=>true
 | .lst _=>true
 | _=>false
noncomputable def pU:Dt ->Dt ->Bool
 | .tup _, .tup _=>true
 | .lst _, .lst _=>true
 | _,_=>false
section
variable {X:Cx}
def VB {σ:St}(I:Inv X pins σ H s)(hs:pU d e=true)(hn:yo d<=50)(hu:A.units+60<cLine)(h1:Rep X.K H d x)(h2:Rep X.K H e y)(r1:RelV x u)(r2:RelV y v): SeqAt.RcAt A s u v (rZ d e) /\ SeqAt.RcNeAt A s u v (!rZ d e):=by
 cases d with
 | tup l=>
  cases e with
  | tup m=>
   simp![Rep] at h1 h2;let⟨a,vs,rfl,hs,hr⟩:=h1;let⟨b,ws,rfl,gA,oB⟩:=h2;cases r1;cases r2;let⟨its,rv,ht,_⟩:=I.tuple hs;let⟨its',yP,nW,_⟩:=I.tuple gA;simp![rZ];simp![yo] at hn;have he: ∀j (g1:j<its.toArray.size) (g2:j<its'.toArray.size),SeqAt.EqAt A.in1 s its.toArray[j] its'.toArray[j] ((λj=>rZ (l.getD j .dY) (m.getD j .dY)) j):=λj g1 g2=>by
    let⟨q1,q2,q3⟩:=hr.items rv (j:=j) (by simpa using g1);let⟨q4,q5,q6⟩:=oB.items yP (j:=j) (by simpa using g2);refine vp I 50 A.in1 _ _ _ _ _ _ ?_ ?_ q1 q4 (by simpa using q2) (by simpa using q5)
    .have:=nF q3;lia
    .show A.units+1+50<cLine;lia
   have z:=SeqAt.RcAt.tuples (A:=A) (s:=s) ht nW (by lia) he;have z':=SeqAt.RcNeAt.tuples (A:=A) (s:=s) ht nW (by lia) he;rw[jI,hr.length,oB.length,rv.length,yP.length];exact#[by simpa using z,by simpa using z']
  | _=>cases hs
 | lst l =>
  cases e with
  | lst m=>
   simp![Rep] at h1 h2;let⟨a,vs,rfl,hs,hr⟩:=h1;let⟨b,ws,rfl,gA,oB⟩:=h2;cases r1;cases r2;let⟨its,rv,ht,_⟩:=I.list hs;let⟨its',yP,nW,_⟩:=I.list gA;simp![rZ];simp![yo] at hn;by_cases hl:its.length=its'.length
   .have he: ∀j (g1:j<its.toArray.size) (g2:j<its'.toArray.size),SeqAt.EqAt A.in1 s its.toArray[j] its'.toArray[j] ((λj=>rZ (l.getD j .dY) (m.getD j .dY)) j):=λj g1 g2=>by
     let⟨q1,q2,q3⟩:=hr.items rv (j:=j) (by simpa using g1);let⟨q4,q5,q6⟩:=oB.items yP (j:=j) (by simpa using g2);refine vp I 50 A.in1 _ _ _ _ _ _ ?_ ?_ q1 q4 (by simpa using q2) (by simpa using q5)
     .have:=nF q3;lia
     .show A.units+1+50<cLine;lia
    have z:=SeqAt.RcAt.lists (A:=A) (s:=s) ht.isList nW.isList (by simpa using hl) (by lia) he;have z':=SeqAt.RcNeAt.lists (A:=A) (s:=s) ht.isList nW.isList (by simpa using hl) (by lia) he;rw[jI,hr.length,oB.length,rv.length,yP.length,hl];exact#[by simpa [hl] using z,by simpa [hl] using z']
   .have z:=SeqAt.RcAt.lists_lengths (A:=A) (s:=s) ht.isList nW.isList (by simpa using hl) (by lia);have z':=SeqAt.RcNeAt.lists_lengths (A:=A) (s:=s) ht.isList nW.isList (by simpa using hl) (by lia);have hf:(its.length==its'.length)=false:=by simpa using hl
    rw[jI,hr.length,oB.length,rv.length,yP.length,hf,Bool.and_false];exact#[z,z']
  | _=>cases hs
 | _=>cases hs
noncomputable def Ra (K:PySem.W.Frag):R2:=λx y H Q=> ∃d e,pU d e=true /\ yo d<=50 /\ Rep K H d x /\ Rep K H e y /\ Q (.bl (rZ d e)) H
def NL (hu:X.A.units+60<cLine):qf X (compareOp .Eq) (Ra X.K):=by intro pins s σ H x y v u Q I r1 r2 h;let⟨d,e,h0,hn,h1,h2,q⟩:=h;exact(VB I h0 hn hu h1 h2 r1 r2).1 X.prog X.w X.xe _ #[.bl _,H,I,rfl,q]
def gi.u60 (r:gi k A):A.units+60<cLine:=by have:=r.units;lia
theorem nk: ∀ {ns:List Int} {us:List Value},Vals (ns.map V.int) us ->IntsAre us ns
 | [],_,h=>by cases h;exact .nil
 | n ::r,_,h=>by
  cases h with
  | cons h1 h2=>let⟨t,rfl⟩:=h1;exact .cons n t (nk h2)
theorem AZ: ∀ {ks:List Int} {vs:List Value},vs.length=ks.length ->(∀ (j:Nat) (v:Value),vs[j]? =some v -> ∃ (k:Int) (t:Tok),ks[j]? =some k /\ v= .int k t) ->IntsAre vs ks
 | [],[],_,_=> .nil
 | [],_::_,h,_=>by simp at h
 | _::_,[],h,_=>by simp at h
 | k::ks,v::vs,h,hv=>by let⟨k',t,e1,e2⟩:=hv 0 v rfl;simp at e1;subst e1 e2;exact .cons k t (AZ (by simpa using h) λj u e=>by simpa using hv (j+1) u (by simpa using e))
noncomputable def wA:List V ->Hp ->VK ->Prop:=λxs H Q=> ∃ (d:Addr) (kvs:List (Key×V)) (ks:List Int),xs= [.ref d] /\ H d=some (.dK kvs) /\ kvs.map (·.1)=ks.map Sum.inl /\ ks.length<=sizeLine /\ ∀ (p:Addr) (ns:List Int),H p=none ->ns.Perm ks ->ns.Pairwise (· <= ·) ->Q (.ref p) (upd H p (.lst (ns.map V.int)))
def fJ (hc:X.calm=true):gg X (.builtin "sorted") wA:=by
 intro pins s σ H xs us Q I r h;let⟨d,kvs,ks,rfl,hd,hk,S2,q⟩:=h;let⟨u,rfl,ru⟩:=vals1 r;cases ru;have hh:X.A.in1.handled=none:=I.ok.hd hc;let⟨hz,lo,vs,rel,dd⟩:=xM I.dv hd;let⟨ep,tJ⟩:=dd.dictAt;have hlen:vs.length=ks.length:=by have e1:=congrArg List.length hk;rw[aa,aa] at e1;rw[<- rel.length,e1]
 refine Calls.call_function_entry kind_sorted plain_sorted entry_sorted (args_sorted1 _) ?_;unfold Builtin.«sorted»;refine ak (m:=checkCount "sorted" 1 1 _) (aO ?_);refine ak (PySem.W.kdu_collect (A:=X.A.in1) (PySem.W.kdl_dict (knd:=cH X.prog X.w) (kvs:=vs) (ep:=ep) lo) hh tJ (by rw[<- rel.length];exact hz) λh' tk acc Gv vm=> ?_);have hl:acc.toList.length=ks.length:=by rw[dg,vm.1,hlen]
 have hI:IntsAre acc.toList ks:=AZ hl λj v e=>by
  let⟨k,x,hx,SE⟩:=vm.2 j v (by rw[<- Array.getElem?_toList];exact e);have SA:(kvs.map (·.1))[j]? =some k:=by
   have:(vs.map (·.1))[j]? =some k:=by rw[ay,hx];rfl
   rw[<- rel.keys] at this;exact this
  rw[hk,ay] at SA;cases e2:ks[j]? with
  | none=>rw[e2] at SA;cases SA
  | some n=>
   rw[e2] at SA;cases SA;have Xb:nh (Sum.inl n) v=true:=SE;rcases dR Xb with⟨i,t,e3,e4⟩ | ⟨x,t,e3,e4⟩
   .cases e3;exact#[n,t,rfl,e4]
   .cases e3
 refine ak (wpAny_newList ?_ (by rw[hl];exact S2));have ho:(h'.push (seqObj "list" acc.toList.toArray 0)).get? h'.objs.size=some (seqObj "list" acc.toList.toArray 0):=aS _ rfl;refine ak (wpAny_holding (wpAny_call_entry slot_list_sort #[_,ho,rfl] entry_list_sort (TS.sE (s:= {s with heap:=h'.push (seqObj "list" acc.toList.toArray 0),toks:=tk}) ho hI (by rw[hl];exact S2) λout Jk a1 a2 a3=>#[_,rfl,?_]) (args_list_sort _)));let⟨ee,OF⟩:=sortedHeap_at (out:=out) ho;have I':Inv X pins σ H {s with heap:=h',toks:=tk}:=I.kept (t':=tk) Gv;refine aO #[_,rfl, .ref h'.objs.size,_,I'.laid (t':=tk) (o:= .lst (Jk.map V.int)) (λb o hb=> ?_) (ao _) ?_,rfl,q _ Jk (I'.dv.fresh (ao _)) a2 a3]
 .have fM:b<h'.objs.size:=aF hb;rw[sortedHeap_old (a5 fM) (by rw[Heap.size_push];exact Nat.lt_succ_of_lt fM)];exact aq _ hb
 .refine#[?_,out.toList,ee,kA a1,by simpa using OF];rw[aa,a2.length_eq];exact S2
end
def dG.of (hsc:X.env.scope=sc)(hN:X.N=N)(kind:scope.kind= .function)(names:N'=own++fr.filterMap (λj=>N[j]?))(len:N'.length=own.length+fr.length)(nd:N'.Nodup)(qH: ∀y∈scope.names,y.2≠ .cell)(loc: ∀y∈scope.names,y.2= .local ->scope.names.lookup y.1=some .local)(Qa: ∀x∈fr.filterMap (λj=>N[j]?),scope.names.lookup x=some .free)(free: ∀y∈scope.names,y.2= .free ->sc.names.lookup y.1=some .cell \/ sc.names.lookup y.1=some .free):dG X own fr N' scope:=by subst hN hsc;exact#[kind,names,len,nd,qH,loc,Qa,free]
structure lF (K:PySem.W.Frag)(mg:Str ->Option Value)(x:Str)(ps:List Str)(st:Stmt)(f:Addr)(fd:FuncData):Prop where
 at_:mg x=some (.ref f)
 fn:DF K x x st f fd
 bd:Binds K fd ps []
section
variable {X:Cx}{k:Nat}{f:Addr}{fd:FuncData}{ps:List Str}{sp:Sp}{x:Str}{st:Stmt}{p pos:Pos}{e:Expr}{es:List Expr}{t:TA}
theorem a8 (C:lF X.K X.mg x ps st f fd)(F:d3 X.prog X.w X.K X.mg X.base i0 k f fd ps sp)(hr:gi j X.A)(ha:PA X (e::es) t)(hk:k<=j:=by decide)(hg:Gl X x:=by rfl)(GC:(x==("__debug__" :Str))=false:=by decide)(he:starEach (e::es) X.env=(false,eval e X.env)::starEach es X.env:=by rfl)(rX:(backTo pos (starEach es X.env)).any (·.1)=false:=by rfl): PE X (.Call (.Name x p) (e::es) [] pos) (Af sp [] E0 t):=I0 F (hr.mono hk) hg C.at_ C.fn.kp C.bd .nil Lj ha GC he rX
end
theorem cw (h:H p=none):fm H (upd H p o):=λb u e=>by rw[bM (dB e h)];exact e
noncomputable def Ve (d:Addr)(H H':Hp):Prop:= ∀b o,b≠d ->H b=some o ->H' b=some o
theorem Ve.trans (a:Ve d H H1)(b:Ve d H1 H2):Ve d H H2:=λc o n h=>b c o n (a c o n h)
noncomputable def br (H H':Hp):Prop:= ∀b xs,Rd H b (.tup xs) ->Rd H' b (.tup xs)
theorem br.refl (H:Hp):br H H:=λ_ _ h=>h
theorem br.trans (a:br H H1)(b:br H1 H2):br H H2:=λc o h=>b c o (a c o h)
theorem fm.ts (a:fm H H'):br H H':=λb xs h=>by
 rcases h with h | ⟨o,h⟩
 .exact .inl (a _ _ h)
 .exact .inr #[o,a _ _ h]
inductive Tv (K:PySem.W.Frag)(H:Hp):V ->Value ->Prop where
 | of {x:V} {t:Value} (h:oN K H x t):Tv K H x t
 | tup {a:Addr} {xs:List V} (h:jj K H a xs):Tv K H (.ref a) (.type "tuple")
 | lst {a:Addr} {xs:List V} (h:gB K H a xs):Tv K H (.ref a) (.type "list")
section
variable {X:Cx}
noncomputable def Q9 (K:PySem.W.Frag):List V ->Hp ->VK ->Prop:=λxs H Q=> ∃x T t b,xs= [x, .ty T] /\ Tv K H x t /\ PySem.W.kitOne K t (.type T)=some b /\ Q (.bl b) H
def jx:gg X (.builtin "isinstance") (Q9 X.K):=by
 intro pins s σ H xs us Q I r h;let⟨x,T,t,b,rfl,ty,e,q⟩:=h;let⟨u,w',rfl,ru,uM⟩:=vals2 r;cases uM;cases ty with
 | of ty=>exact Cv I ru ty e λtk=>#[.bl b,H,I.tok tk,rfl,q]
 | tup hs=>cases ru;let⟨its,rv,⟨o,h1,h2,_⟩,_⟩:=I.tuple hs;exact cS PySem.W.kitx_tuple I.pE #[o,h1,h2] e (λz=>nomatch z) λtk=>#[.bl b,H,I.tok tk,rfl,q]
 | lst hs=>cases ru;let⟨its,rv,ht,_⟩:=I.list hs;let⟨o,h1,h2,_⟩:=ht.isList;exact cS PySem.W.kitx_list I.pE #[o,h1,h2] e (λz=>nomatch z) λtk=>#[.bl b,H,I.tok tk,rfl,q]
end
end L2
namespace L2
open PySem PyProof.Rows PyProof.V PySem.Calls PySem.Spec
noncomputable def ExcAt (a C:Addr)(h:Heap):Prop:= ∃o,h.get? a=some o /\ o.cls= .ref C
end L2
namespace WL
open PySem L2
set_option genInjectivity true in
inductive W where
 | v (x:V) | tup (l:List W)
set_option genInjectivity true in
inductive MO where
 | lst (l:List W) | dK (kvs:List (Key×W)) | ins (C dx:Addr) (fs:List (Str×W)) | exc (C:Addr) | fz (o:Obj) (ks:List (Key×V)) (kvs:List (Key×W))
noncomputable abbrev Mp:=Addr ->Option MO
noncomputable abbrev dN:=List (Option W)
noncomputable abbrev WK:=W ->Mp ->Prop
noncomputable abbrev WE:=dN ->Mp ->WK ->Prop
noncomputable abbrev WT:=dN ->Mp ->(Bool ->Mp ->Prop) ->Prop
noncomputable abbrev WA:=dN ->Mp ->(List W ->Mp ->Prop) ->Prop
noncomputable abbrev WG:=W ->dN ->Mp ->(dN ->Mp ->Prop) ->Prop
noncomputable abbrev Kf:=List W ->dN ->Mp ->(dN ->Mp ->Prop) ->Prop
noncomputable abbrev vP:=W ->W ->Mp ->WK ->Prop
noncomputable abbrev yp:=List W ->Mp ->WK ->Prop
noncomputable abbrev WI:=dN ->Mp ->(List W ->(Mp ->Prop) ->Mp ->Prop) ->Prop
structure jz where
 nx:dN ->Mp ->Prop
 rt:WK
 bk:dN ->Mp ->Prop:=λ_ _=>False
 ct:dN ->Mp ->Prop:=λ_ _=>False
noncomputable abbrev WS:=jz ->dN ->Mp ->Prop
@[reducible] def wi (i:Int):W:= .v (.int i)
@[reducible] def wb (b:Bool):W:= .v (.bl b)
@[reducible] def wr (a:Addr):W:= .v (.ref a)
@[reducible] def ws (x:Str):W:= .v (.str x)
@[reducible] def wn:W:= .v .dY
noncomputable def um (M:Mp)(a:Addr)(o:MO):Mp:=λb=>if b=a then some o else M b
def um_same:um M a o a=some o:=by unfold um;rw[aj rfl]
def aN (h:b≠a):um M a o b=M b:=by unfold um;rw[ah h]
def um_um:um (um M a o) a u=um M a u:=by funext b;unfold um;split<;>rfl
def dM {M:Mp}(h:M a=some o)(h':M b=none):a≠b:=by intro e;subst e;rw[h] at h';cases h'
noncomputable def Sm (M M':Mp):Prop:= ∀b o,M b=some o ->M' b=some o
theorem Sm.refl (M:Mp):Sm M M:=λ_ _ h=>h
theorem Sm.trans {M M1 M2:Mp}(a:Sm M M1)(b:Sm M1 M2):Sm M M2:=λc o h=>b c o (a c o h)
def Sm.free (a:Sm M M')(h:M' p=none):M p=none:=by
 cases e:M p with
 | none=>rfl
 | some o=>rw[a p o e] at h;cases h
theorem cu (h:M p=none):Sm M (um M p o):=λb u e=>by rw[aN (dM e h)];exact e
theorem Sm.um (a:Sm M M')(h:M p=none):Sm M (um M' p o):=λb u e=>by rw[aN (dM e h)];exact a b u e
mutual
noncomputable def WR (K:PySem.W.Frag)(H:Hp):W ->V ->Prop
 | .v x,v=>v=x
 | .tup l,v=> ∃a vs,v= .ref a /\ jj K H a vs /\ cM K H l vs
noncomputable def cM (K:PySem.W.Frag)(H:Hp):List W ->List V ->Prop
 | [],vs=>vs= []
 | x::r,vs=> ∃v t,vs=v::t /\ WR K H x v /\ cM K H r t
end
mutual
theorem WR.ts {K:PySem.W.Frag}{H H':Hp}(a:br H H'): ∀ (x:W) (v:V),WR K H x v ->WR K H' x v
 | .v x,v,h=>by simp![WR] at h ⊢;exact h
 | .tup l,v,h=>by simp![WR] at h ⊢;let⟨p,vs,e,hs,hr⟩:=h;exact#[p,vs,e,Un.ZO a hs,cM.ts a l vs hr]
theorem cM.ts {K:PySem.W.Frag}{H H':Hp}(a:br H H'): ∀ (l:List W) (vs:List V),cM K H l vs ->cM K H' l vs
 | [],vs,h=>by simp![cM] at h ⊢;exact h
 | x::r,vs,h=>by simp![cM] at h ⊢;let⟨v,t,e,h1,h2⟩:=h;exact#[v,t,e,WR.ts a x v h1,cM.ts a r t h2]
end
theorem cM.length {K:PySem.W.Frag}{H:Hp}: ∀ {l:List W} {vs:List V},cM K H l vs ->vs.length=l.length
 | [],_,h=>by simp![cM] at h;subst h;rfl
 | d::r,vs,h=>by simp![cM] at h;let⟨v,t,rfl,_,h⟩:=h;simp[cM.length h]
theorem cM.at {K:PySem.W.Frag}{H:Hp}: ∀ {l:List W} {vs:List V} {j:Nat} {d:W},cM K H l vs ->l[j]? =some d -> ∃v,vs[j]? =some v /\ WR K H d v
 | [],_,_,_,_,e=>by simp at e
 | d::r,vs,j,d',h,e=>by
  simp![cM] at h;let⟨v,t,rfl,h1,h⟩:=h;cases j with
  | zero=>simp at e;subst e;exact#[v,rfl,h1]
  | succ j=>simpa using cM.at (j:=j) h (by simpa using e)
theorem cM.mk {K:PySem.W.Frag}{H:Hp}: ∀ {l:List W} {vs:List V},vs.length=l.length ->(∀ (j:Nat) d v,l[j]? =some d ->vs[j]? =some v ->WR K H d v) ->cM K H l vs
 | [],vs,h,_=>by simp![cM];exact cZ.mp h
 | d::r,[],h,_=>by simp at h
 | d::r,v::vs,h,k=>by simp![cM];exact#[v,vs,rfl,k 0 d v rfl rfl,cM.mk (by simpa using h) λj x u e1 e2=>k (j+1) x u (by simpa using e1) (by simpa using e2)]
def cM.back {j:Nat}(h:cM K H l vs)(e:vs[j]? =some v): ∃d,l[j]? =some d /\ WR K H d v:=by
 have hl:=h.length;have hj:j<l.length:=by have:=(ai.mp e).1;lia
 let⟨u,hu,r⟩:=h.at (j:=j) (d:=l[j]) (ae hj);rw[e] at hu;cases hu;exact#[_,ae hj,r]
def cM.snoc (h:cM K H l vs)(hr:WR K H d v):cM K H (l++ [d]) (vs++ [v]):=by
 have hl:=h.length;refine cM.mk (by simp[hl]) λj x u e1 e2=> ?_;by_cases hj:j<l.length
 .rw[a7 hj] at e1;rw[a7 (by lia)] at e2;let⟨w,hw,r⟩:=h.at e1;rw[e2] at hw;cases hw;exact r
 .rw[aU (by lia)] at e1;rw[aU (by lia),hl] at e2;cases hk:j - l.length with
  | zero=>rw[hk] at e1 e2;simp at e1 e2;subst e1 e2;exact hr
  | succ k=>rw[hk] at e1;simp at e1
def cM.append (h:cM K H l vs)(h':cM K H m us):cM K H (l++m) (vs++us):=by
 have hl:=h.length;have k7:=h'.length;refine cM.mk (by simp[hl,k7]) λj x u e1 e2=> ?_;by_cases hj:j<l.length
 .rw[a7 hj] at e1;rw[a7 (by lia)] at e2;let⟨w,hw,r⟩:=h.at e1;rw[e2] at hw;cases hw;exact r
 .rw[aU (by lia)] at e1;rw[aU (by lia),hl] at e2;let⟨w,hw,r⟩:=h'.at e1;rw[e2] at hw;cases hw;exact r
def cM.drop (n:Nat)(h:cM K H l vs):cM K H (l.drop n) (vs.drop n):=by refine cM.mk (by simp[h.length]) λj x u e1 e2=> ?_;rw[List.getElem?_drop] at e1 e2;let⟨w,hw,r⟩:=h.at e1;rw[e2] at hw;cases hw;exact r
def cM.take (n:Nat)(h:cM K H l vs):cM K H (l.take n) (vs.take n):=by
 refine cM.mk (by simp[h.length]) λj x u e1 e2=> ?_;rw[List.getElem?_take] at e1 e2;split at e1
 .rename_i hj;rw[aj hj] at e2;let⟨w,hw,r⟩:=h.at e1;rw[e2] at hw;cases hw;exact r
 .cases e1
def cM.set (n:Nat)(h:cM K H l vs)(hr:WR K H d v):cM K H (l.set n d) (vs.set n v):=by
 have hl:=h.length;refine cM.mk (by simp[h.length]) λj x u e1 e2=> ?_;rw[List.getElem?_set] at e1 e2;split at e1
 .rename_i hj;rw[aj hj] at e2;split at e1
  .split at e2
   .cases e1;cases e2;exact hr
   .cases e2
  .cases e1
 .rename_i hj;rw[ah hj] at e2;let⟨w,hw,r⟩:=h.at e1;rw[e2] at hw;cases hw;exact r
def cM.nil:cM K H [] []:=by simp![cM]
def cM.cons {K:PySem.W.Frag}{H:Hp}{x:W}{v:V}{l:List W}{vs:List V}(h:WR K H x v)(r:cM K H l vs):cM K H (x::l) (v::vs):=by simp![cM];exact#[v,vs,rfl,h,r]
def WR.v:WR K H (.v x) x:=by simp![WR]
def WR.eq {x v:V}(h:WR K H (.v x) v):v=x:=by simpa only[WR] using h
def WR.tup {K:PySem.W.Frag}{H:Hp}{l:List W}{v:V}(h:WR K H (.tup l) v): ∃a vs,v= .ref a /\ jj K H a vs /\ cM K H l vs:=by simpa only[WR] using h
def WR.Pn (h:jj K H a vs)(r:cM K H l vs):WR K H (.tup l) (.ref a):=by simp![WR];exact#[a,vs,rfl,h,r]
noncomputable def KR (K:PySem.W.Frag)(H:Hp){κ:Type}:List (κ×W) ->List (κ×V) ->Prop:=Paired λp q=>p.1=q.1 /\ WR K H p.2 q.2
theorem KR.ts {K:PySem.W.Frag}{H H':Hp}{κ:Type}(a:br H H'): ∀ {l:List (κ×W)} {vs:List (κ×V)},KR K H l vs ->KR K H' l vs
 | _,_, .nil=> .nil
 | _,_, .cons ⟨e,r⟩ t=> .cons #[e,r.ts a] (KR.ts a t)
noncomputable def MR (K:PySem.W.Frag)(H:Hp)(a:Addr):MO ->Prop
 | .lst l=> ∃vs,H a=some (.lst vs) /\ cM K H l vs
 | .dK kvs=> ∃ks,H a=some (.dK ks) /\ KR K H kvs ks
 | .ins C dx fs=> ∃ks,H a=some (.ins C dx ks) /\ KR K H fs ks
 | .exc C=>H a=some (.ext (ExcAt a C))
 | .fz o ks kvs=>H a=some (.lZ o (.dK ks)) /\ KR K H kvs ks
def MR.some (h:MR K H a o): ∃u,H a=some u:=by
 cases o with
 | lst l=>let⟨_,e,_⟩:=h;exact#[_,e]
 | dK l=>let⟨_,e,_⟩:=h;exact#[_,e]
 | ins C d l=>let⟨_,e,_⟩:=h;exact#[_,e]
 | exc C=>exact#[_,h]
 | fz o l l2=>exact#[_,h.1]
def MR.mv (t:br H H')(e:H' a=H a)(h:MR K H a o):MR K H' a o:=by
 cases o with
 | lst l=>let⟨vs,e1,r⟩:=h;exact#[vs,e.trans e1,r.ts t]
 | dK l=>let⟨vs,e1,r⟩:=h;exact#[vs,e.trans e1,r.ts t]
 | ins C d l=>let⟨vs,e1,r⟩:=h;exact#[vs,e.trans e1,r.ts t]
 | exc C=>exact e.trans h
 | fz o l l2=>exact#[e.trans h.1,h.2.ts t]
noncomputable def gD (K:PySem.W.Frag)(M:Mp)(H:Hp):Prop:= ∀a o,M a=some o ->MR K H a o
def gD.fresh (h:gD K M H)(hp:H p=none):M p=none:=by
 cases e:M p with
 | none=>rfl
 | some o=>let⟨u,hu⟩:=(h p o e).some;rw[hp] at hu;cases hu
theorem gD.new (h:gD K M H)(hp:H p=none):gD K M (upd H p u):=λa o e=>by have:=h a o e;let⟨w,hw⟩:=this.some;exact this.mv (L2.fm.ts (cw hp)) (bM (dB hw hp))
theorem zZ (h:H a=some o)(hn: ∀xs,o≠ .tup xs)(hf: ∀b xs,o≠ .lZ b (.tup xs)):br H (upd H a u):=λb xs r=>by
 have nb:b≠a:=λe=>by
  subst e;rcases r with r | ⟨w,r⟩
  .rw[h] at r;cases r;exact hn _ rfl
  .rw[h] at r;cases r;exact hf _ _ rfl
 unfold Rd;rw[bM nb];exact r
theorem gD.put (h:gD K M H)(t:br H (upd H a u))(new:MR K (upd H a u) a o):gD K (um M a o) (upd H a u):=λb x e=>by
 by_cases hb:b=a
 .subst hb;rw[um_same] at e;cases e;exact new
 .rw[aN hb] at e;exact(h b x e).mv t (bM hb)
theorem gD.oo (h:gD K M H)(hp:H p=none)(r:cM K H l vs):gD K (um M p (.lst l)) (upd H p (.lst vs)):=h.put (L2.fm.ts (cw hp)) #[vs,cn,r.ts (L2.fm.ts (cw hp))]
theorem lH (h:H a=some (.lst xs)):br H (upd H a u):=zZ h (λ_ z=>nomatch z) λ_ _ z=>nomatch z
theorem mj (h:H a=some (.dK xs)):br H (upd H a u):=zZ h (λ_ z=>nomatch z) λ_ _ z=>nomatch z
theorem MM (h:H a=some (.ins C d xs)):br H (upd H a u):=zZ h (λ_ z=>nomatch z) λ_ _ z=>nomatch z
theorem gD.putL (h:gD K M H)(e:H a=some (.lst xs))(r:cM K H l vs):gD K (um M a (.lst l)) (upd H a (.lst vs)):=h.put (lH e) #[vs,cn,r.ts (lH e)]
theorem gD.putD (h:gD K M H)(e:H a=some (.dK xs))(r:KR K H l vs):gD K (um M a (.dK l)) (upd H a (.dK vs)):=h.put (mj e) #[vs,cn,KR.ts (mj e) r]
noncomputable def HV (K:PySem.W.Frag)(H:Hp)(ρ:dN)(σ:St):Prop:=ρ.length=σ.length /\ ∀ (i:Nat) x,ρ[i]? =some (some x) -> ∃v,σ[i]? =some (some v) /\ WR K H x v
theorem HV.ts (t:br H H')(h:HV K H ρ σ):HV K H' ρ σ:=#[h.1,λi x e=>let ⟨v,a,r⟩:=h.2 i x e;#[v,a,r.ts t]]
structure Ok (K:PySem.W.Frag)(ρ:dN)(M:Mp)(σ:St)(H:Hp):Prop where
 env:HV K H ρ σ
 hp:gD K M H
theorem Ok.mv (o:Ok K ρ M σ H)(t:br H H')(m:gD K M' H'):Ok K ρ M' σ H':=#[o.env.ts t,m]
def HV.set (h:HV K H ρ σ)(i:Nat)(r:WR K H x v):HV K H (ρ.set i (some x)) (σ.set i (some v)):=by
 refine#[by simp[h.1],λj y e=> ?_];rw[List.getElem?_set] at e ⊢;split at e
 .rename_i hj;rw[aj hj];split at e
  .rename_i fM;rw[aj (by rw[<- h.1];exact fM)];cases e;exact#[v,rfl,r]
  .cases e
 .rename_i hj;rw[ah hj];exact h.2 j y e
section
variable (K:PySem.W.Frag)
class IE (t:TE) (w:outParam WE):Prop where
 imp: ∀ (ρ:dN) (M:Mp) (σ:St) (H:Hp) (q:WK) (Q:VK),Ok K ρ M σ H ->w ρ M q ->(∀x M' v H',q x M' ->br H H' ->gD K M' H' ->WR K H' x v ->Q v H') ->t σ H Q
class IT (t:TT) (w:outParam WT):Prop where
 imp: ∀ (ρ:dN) (M:Mp) (σ:St) (H:Hp) (q:Bool ->Mp ->Prop) (Q:Bool ->Hp ->Prop),Ok K ρ M σ H ->w ρ M q ->(∀b M' H',q b M' ->br H H' ->gD K M' H' ->Q b H') ->t σ H Q
class IA (t:TA) (w:outParam WA):Prop where
 imp: ∀ (ρ:dN) (M:Mp) (σ:St) (H:Hp) (q:List W ->Mp ->Prop) (Q:List V ->Hp ->Prop),Ok K ρ M σ H ->w ρ M q ->(∀x M' v H',q x M' ->br H H' ->gD K M' H' ->cM K H' x v ->Q v H') ->t σ H Q
class IG (t:TG) (w:outParam WG):Prop where
 imp: ∀ (x:W) (v:V) (ρ:dN) (M:Mp) (σ:St) (H:Hp) (q:dN ->Mp ->Prop) (Q:St ->Hp ->Prop),Ok K ρ M σ H ->WR K H x v ->w x ρ M q ->(∀ρ' M' σ' H',q ρ' M' ->br H H' ->Ok K ρ' M' σ' H' ->Q σ' H') ->t v σ H Q
class Vc (t:HW) (w:outParam Kf):Prop where
 imp: ∀ (x:List W) (v:List V) (ρ:dN) (M:Mp) (σ:St) (H:Hp) (q:dN ->Mp ->Prop) (Q:St ->Hp ->Prop),Ok K ρ M σ H ->cM K H x v ->w x ρ M q ->(∀ρ' M' σ' H',q ρ' M' ->br H H' ->Ok K ρ' M' σ' H' ->Q σ' H') ->t v σ H Q
structure vH (H:Hp)(D':jz)(D:Ends):Prop where
 nx: ∀ρ' M' σ' H',D'.nx ρ' M' ->br H H' ->Ok K ρ' M' σ' H' ->D.nx σ' H'
 rt: ∀x M' v H',D'.rt x M' ->br H H' ->gD K M' H' ->WR K H' x v ->D.rt v H'
 bk: ∀ρ' M' σ' H',D'.bk ρ' M' ->br H H' ->Ok K ρ' M' σ' H' ->D.bk σ' H'
 ct: ∀ρ' M' σ' H',D'.ct ρ' M' ->br H H' ->Ok K ρ' M' σ' H' ->D.ct σ' H'
class IS (t:TS) (w:outParam WS):Prop where
 imp: ∀ (ρ:dN) (M:Mp) (σ:St) (H:Hp) (D':jz) (D:Ends),Ok K ρ M σ H ->w D' ρ M ->vH K H D' D ->t D σ H
class IR (r:R2) (w:outParam vP):Prop where
 imp: ∀ (x y:W) (v u:V) (M:Mp) (H:Hp) (q:WK) (Q:VK),gD K M H ->WR K H x v ->WR K H y u ->w x y M q ->(∀x M' v H',q x M' ->br H H' ->gD K M' H' ->WR K H' x v ->Q v H') ->r v u H Q
class IU (r:V ->Hp ->VK ->Prop) (w:outParam (W ->Mp ->WK ->Prop)):Prop where
 imp: ∀ (x:W) (v:V) (M:Mp) (H:Hp) (q:WK) (Q:VK),gD K M H ->WR K H x v ->w x M q ->(∀x M' v H',q x M' ->br H H' ->gD K M' H' ->WR K H' x v ->Q v H') ->r v H Q
class IC (r:List V ->Hp ->VK ->Prop) (w:outParam yp):Prop where
 imp: ∀ (x:List W) (v:List V) (M:Mp) (H:Hp) (q:WK) (Q:VK),gD K M H ->cM K H x v ->w x M q ->(∀x M' v H',q x M' ->br H H' ->gD K M' H' ->WR K H' x v ->Q v H') ->r v H Q
end
theorem vH.mv (e:vH K H D' D)(t:br H H'):vH K H' D' D:=#[λa b c d h s=>e.nx a b c d h (t.trans s),λa b c d h s=>e.rt a b c d h (t.trans s),λa b c d h s=>e.bk a b c d h (t.trans s),λa b c d h s=>e.ct a b c d h (t.trans s)]
end WL
namespace WL
open PySem L2
section
variable {K:PySem.W.Frag}
noncomputable def gE (i:Nat):WE:=λρ M q=>match ρ[i]? with
 | some (some x)=>q x M
 | _=>False
def Mu (h:gE i ρ M q): ∃x,ρ[i]? =some (some x) /\ q x M:=by
 unfold gE at h;split at h
 .rename_i x e;exact#[x,e,h]
 .exact h.elim
instance {i:Nat}:IE K (Ip i) (gE i) where
 imp:=λρ M σ H q Q o h k=>let ⟨x,e,h⟩:=Mu h;let ⟨v,e',r⟩:=o.env.2 i x e;#[v,e',k x M v H h (br.refl H) o.hp r]
noncomputable def wC (x:W):WE:=λ_ M q=>q x M
instance {v:V}:IE K (tC v) (wC (.v v)) where
 imp:=λρ M σ H q Q o h k=>k (.v v) M v H h (br.refl H) o.hp WR.v
noncomputable def Zz (r:vP)(a b:WE):WE:=λρ M q=>a ρ M λx M1=>b ρ M1 λy M2=>r x y M2 q
instance {r:R2}{w:vP}{ta tb:TE}{a b:WE} [ir:IR K r w] [ia:IE K ta a] [ib:IE K tb b]:IE K (QJ r ta tb) (Zz w a b) where
 imp:=λρ M σ H q Q o h k=>ia.imp ρ M σ H _ _ o h λx M1 v H1 h1 t1 m1 r1=>ib.imp ρ M1 σ H1 _ _ (o.mv t1 m1) h1 λy M2 u H2 h2 t2 m2 r2=>ir.imp x y v u M2 H2 _ _ m2 (r1.ts t2) r2 h2 λz M3 v3 H3 h3 t3 m3 r3=>k z M3 v3 H3 h3 ((t1.trans t2).trans t3) m3 r3
noncomputable def Zw (r:W ->Mp ->WK ->Prop)(a:WE):WE:=λρ M q=>a ρ M λx M1=>r x M1 q
instance {r:V ->Hp ->VK ->Prop}{w:W ->Mp ->WK ->Prop}{ta:TE}{a:WE} [ir:IU K r w] [ia:IE K ta a]:IE K (ZI r ta) (Zw w a) where
 imp:=λρ M σ H q Q o h k=>ia.imp ρ M σ H _ _ o h λx M1 v H1 h1 t1 m1 r1=>ir.imp x v M1 H1 _ _ m1 r1 h1 λz M3 v3 H3 h3 t3 m3 r3=>k z M3 v3 H3 h3 (t1.trans t3) m3 r3
noncomputable def wI (C:Int ->Int ->Prop)(g:Int ->Int ->V):vP:=λx y M q=> ∃i j,x=wi i /\ y=wi j /\ C i j /\ q (.v (g i j)) M
noncomputable def ZC (g:Int ->Int ->V):vP:=λx y M q=> ∃i j,x=wi i /\ y=wi j /\ q (.v (g i j)) M
noncomputable def wU (g:Int ->V):W ->Mp ->WK ->Prop:=λx M q=> ∃i,x=wi i /\ q (.v (g i)) M
instance {C:Int ->Int ->Prop}{g:Int ->Int ->V}:IR K (rI C g) (wI C g) where
 imp:=by rintro x y v u M H q Q m r1 r2 ⟨i,j,rfl,rfl,c,h⟩ k;exact#[i,j,r1.eq,r2.eq,c,k _ M _ H h (br.refl H) m WR.v]
instance {g:Int ->Int ->V}:IR K (Lh g) (ZC g) where
 imp:=by rintro x y v u M H q Q m r1 r2 ⟨i,j,rfl,rfl,h⟩ k;exact#[i,j,r1.eq,r2.eq,k _ M _ H h (br.refl H) m WR.v]
instance {g:Int ->V}:IU K (rU g) (wU g) where
 imp:=by rintro x v M H q Q m r1 ⟨i,rfl,h⟩ k;exact#[i,r1.eq,k _ M _ H h (br.refl H) m WR.v]
noncomputable def ZD:vP:=λx y M q=> ∃a b,x= .v a /\ y= .v b /\ Iv a b=true /\ q (wb (decide (a=b))) M
noncomputable def ZA:vP:=λx y M q=> ∃a b,x= .v a /\ y= .v b /\ Iv a b=true /\ q (wb (!decide (a=b))) M
instance:IR K ZV ZD where
 imp:=by rintro x y v u M H q Q m r1 r2 ⟨i,j,rfl,rfl,c,h⟩ k;cases r1.eq;cases r2.eq;exact#[c,k _ M _ H h (br.refl H) m WR.v]
instance:IR K ZU ZA where
 imp:=by rintro x y v u M H q Q m r1 r2 ⟨i,j,rfl,rfl,c,h⟩ k;cases r1.eq;cases r2.eq;exact#[c,k _ M _ H h (br.refl H) m WR.v]
noncomputable def DN (a:WE):WT:=λρ M q=>a ρ M λx M1=> ∃k,x=wb k /\ q k M1
instance {t:TE}{a:WE} [ia:IE K t a]:IT K (Ej t) (DN a) where
 imp:=λρ M σ H q Q o h k=>ia.imp ρ M σ H _ _ o h λx M1 v H1 ⟨b,e,h1⟩ t1 m1 r1=>by subst e;exact#[b,r1.eq,k b M1 H1 h1 t1 m1]
instance {t:TE}{a:WE} [ia:IE K t a]:IT K (tB t) (DN a) where
 imp:=λρ M σ H q Q o h k=>ia.imp ρ M σ H _ _ o h λx M1 v H1 ⟨b,e,h1⟩ t1 m1 r1=>by subst e;exact#[b,r1.eq,k b M1 H1 h1 t1 m1]
noncomputable def Qr (a b:WT):WT:=λρ M q=>a ρ M λc M1=>if c=true then b ρ M1 q else q false M1
noncomputable def Zy (a b:WT):WT:=λρ M q=>a ρ M λc M1=>if c=true then q true M1 else b ρ M1 q
noncomputable def Ql (a:WT):WT:=λρ M q=>a ρ M λc M1=>q (!c) M1
instance {t u:TT}{a b:WT} [ia:IT K t a] [ib:IT K u b]:IT K (QO t u) (Qr a b) where
 imp:=λρ M σ H q Q o h k=>ia.imp ρ M σ H _ _ o h λc M1 H1 h1 t1 m1=>by
  cases c with
  | true=>simp![bW] at h1 ⊢;exact ib.imp ρ M1 σ H1 _ _ (o.mv t1 m1) h1 λb M2 H2 h2 t2 m2=>k b M2 H2 h2 (t1.trans t2) m2
  | false=>simp![az,bj] at h1 ⊢;exact k _ M1 H1 h1 t1 m1
instance {t u:TT}{a b:WT} [ia:IT K t a] [ib:IT K u b]:IT K (ZK t u) (Zy a b) where
 imp:=λρ M σ H q Q o h k=>ia.imp ρ M σ H _ _ o h λc M1 H1 h1 t1 m1=>by
  cases c with
  | false=>simp![az,bj] at h1 ⊢;exact ib.imp ρ M1 σ H1 _ _ (o.mv t1 m1) h1 λb M2 H2 h2 t2 m2=>k b M2 H2 h2 (t1.trans t2) m2
  | true=>simp![bW] at h1 ⊢;exact k _ M1 H1 h1 t1 m1
instance {t:TT}{a:WT} [ia:IT K t a]:IT K (QK t) (Ql a) where
 imp:=λρ M σ H q Q o h k=>ia.imp ρ M σ H _ _ o h λc M1 H1 h1 t1 m1=>k _ M1 H1 h1 t1 m1
noncomputable def KC (a b:WE):WE:=λρ M q=>a ρ M λx M1=> ∃c,x=wb c /\ if c=true then b ρ M1 q else q (wb false) M1
noncomputable def Kt (a:WE):WE:=λρ M q=>a ρ M λx M1=> ∃c,x=wb c /\ q (wb (!c)) M1
instance {t u:TE}{a b:WE} [ia:IE K t a] [ib:IE K u b]:IE K (KW t u) (KC a b) where
 imp:=λρ M σ H q Q o h k=>ia.imp ρ M σ H _ _ o h λx M1 v H1 ⟨c,e,h1⟩ t1 m1 r1=>by
  subst e;refine#[c,r1.eq,?_];cases c with
  | true=>simp![bW] at h1 ⊢;exact ib.imp ρ M1 σ H1 _ _ (o.mv t1 m1) h1 λb M2 v H2 h2 t2 m2 r2=>k b M2 v H2 h2 (t1.trans t2) m2 r2
  | false=>simp![az,bj] at h1 ⊢;exact k _ M1 _ H1 h1 t1 m1 WR.v
instance {t:TE}{a:WE} [ia:IE K t a]:IE K (KL t) (Kt a) where
 imp:=λρ M σ H q Q o h k=>ia.imp ρ M σ H _ _ o h λx M1 v H1 ⟨c,e,h1⟩ t1 m1 r1=>by subst e;exact#[c,r1.eq,k _ M1 _ H1 h1 t1 m1 WR.v]
noncomputable def D0 (r r':vP)(a b c:WE):WE:=λρ M q=>a ρ M λx M1=>b ρ M1 λy M2=>r x y M2 λz M3=> ∃k,z=wb k /\ if k=true then c ρ M3 λy' M4=>r' y y' M4 λz' M5=>q z' M5 else q (wb false) M3
noncomputable def Qm:WA:=λ_ M q=>q [] M
noncomputable def Ky (a:WE)(r:WA):WA:=λρ M q=>a ρ M λx M1=>r ρ M1 λxs M2=>q (x::xs) M2
instance:IA K MV Qm where
 imp:=λρ M σ H q Q o h k=>k [] M [] H h (br.refl H) o.hp cM.nil
instance {t:TE}{u:TA}{a:WE}{b:WA} [ia:IE K t a] [ib:IA K u b]:IA K (Es t u) (Ky a b) where
 imp:=λρ M σ H q Q o h k=>ia.imp ρ M σ H _ _ o h λx M1 v H1 h1 t1 m1 r1=>ib.imp ρ M1 σ H1 _ _ (o.mv t1 m1) h1 λy M2 u H2 h2 t2 m2 r2=>k _ M2 _ H2 h2 (t1.trans t2) m2 (cM.cons (r1.ts t2) r2)
noncomputable def Qh (a:WA):WE:=λρ M q=>a ρ M λxs M1=>xs.length<=sizeLine /\ q (.tup xs) M1
noncomputable def Qn (a:WA):WE:=λρ M q=>a ρ M λxs M1=>xs.length<=sizeLine /\ ∀p,M1 p=none ->q (wr p) (um M1 p (.lst xs))
instance {t:TA}{a:WA} [ia:IA K t a]:IE K (QH t) (Qh a) where
 imp:=λρ M σ H q Q o h k=>ia.imp ρ M σ H _ _ o h λx M1 v H1 ⟨hl,h1⟩ t1 m1 r1=>#[by rw[r1.length];exact hl,λp hp=>k _ M1 _ _ h1 (t1.trans (L2.fm.ts (cw hp))) (m1.new hp) (WR.Pn (jj.of cn) (r1.ts (L2.fm.ts (cw hp))))]
instance {t:TA}{a:WA} [ia:IA K t a]:IE K (QL t) (Qn a) where
 imp:=λρ M σ H q Q o h k=>ia.imp ρ M σ H _ _ o h λx M1 v H1 ⟨hl,h1⟩ t1 m1 r1=>#[by rw[r1.length];exact hl,λp hp=>k _ _ _ _ (h1 p (m1.fresh hp)) (t1.trans (L2.fm.ts (cw hp))) (m1.oo hp r1) WR.v]
noncomputable def Ib:vP:=λx y M q=> ∃a l i u,x=wr a /\ y=wi i /\ M a=some (.lst l) /\ iY l i=some u /\ q u M
noncomputable def Ia:vP:=λx y M q=> ∃l i u,x= .tup l /\ y=wi i /\ iY l i=some u /\ q u M
def cM.iY (r:cM K H l vs)(e:iY l i=some u): ∃v,L2.iY vs i=some v /\ WR K H u v:=by
 unfold L2.iY at e ⊢;rw[r.length];cases h:qR l.length i with
 | none=>rw[h] at e;cases e
 | some j=>rw[h] at e;exact r.at e
instance:IR K (E5 K) Ib where
 imp:=by rintro x y v u M H q Q m r1 r2 ⟨a,l,i,z,rfl,rfl,hl,e,h⟩ k;let⟨vs,hv,r⟩:=m a _ hl;let⟨v',e',r'⟩:=r.iY e;exact#[a,vs,i,v',r1.eq,r2.eq,gB.of hv,e',k _ M _ H h (br.refl H) m r']
instance:IR K (wB K) Ia where
 imp:=by rintro x y v u M H q Q m r1 r2 ⟨l,i,z,rfl,rfl,e,h⟩ k;let⟨a,vs,rfl,hv,r⟩:=r1.tup;let⟨v',e',r'⟩:=r.iY e;exact#[a,vs,i,v',rfl,r2.eq,hv,e',k _ M _ H h (br.refl H) m r']
noncomputable def pO (xs:List W)(lo hi:Option Int):List W:=(xs.drop (HT.mL xs.length 0 lo)).take (HT.mL xs.length xs.length hi - HT.mL xs.length 0 lo)
def cM.cut (lo hi:Option Int)(r:cM K H l vs):cM K H (pO l lo hi) (xW vs lo hi):=by unfold pO xW;rw[r.length];exact(r.drop _).take _
end
noncomputable abbrev WO:=dN ->Mp ->(Option Int ->Mp ->Prop) ->Prop
class IO (K:PySem.W.Frag) (t:TO) (w:outParam WO):Prop where
 imp: ∀ (ρ:dN) (M:Mp) (σ:St) (H:Hp) (q:Option Int ->Mp ->Prop) (Q:Option Int ->Hp ->Prop),Ok K ρ M σ H ->w ρ M q ->(∀b M' H',q b M' ->br H H' ->gD K M' H' ->Q b H') ->t σ H Q
noncomputable abbrev Tu:=W ->Option Int ->Option Int ->Mp ->WK ->Prop
class ISl (K:PySem.W.Frag) (r:V ->Option Int ->Option Int ->Hp ->VK ->Prop) (w:outParam Tu):Prop where
 imp: ∀ (x:W) (v:V) (lo hi:Option Int) (M:Mp) (H:Hp) (q:WK) (Q:VK),gD K M H ->WR K H x v ->w x lo hi M q ->(∀x M' v H',q x M' ->br H H' ->gD K M' H' ->WR K H' x v ->Q v H') ->r v lo hi H Q
section
variable {K:PySem.W.Frag}
noncomputable def zS:WO:=λ_ M q=>q none M
noncomputable def Ks (a:WE):WO:=λρ M q=>a ρ M λx M1=> ∃i,x=wi i /\ q (some i) M1
instance:IO K Ac zS where
 imp:=λρ M σ H q Q o h k=>k _ M H h (br.refl H) o.hp
instance {t:TE}{a:WE} [ia:IE K t a]:IO K (KJ t) (Ks a) where
 imp:=λρ M σ H q Q o h k=>ia.imp ρ M σ H _ _ o h λx M1 v H1 ⟨i,e,h1⟩ t1 m1 r1=>by subst e;exact#[i,r1.eq,k _ M1 H1 h1 t1 m1]
noncomputable def Zx (r:Tu)(a:WE)(lo hi:WO):WE:=λρ M q=>a ρ M λx M1=>lo ρ M1 λl M2=>hi ρ M2 λu M3=>r x l u M3 q
instance {r:V ->Option Int ->Option Int ->Hp ->VK ->Prop}{w:Tu}{t:TE}{tl th:TO}{a:WE}{lo hi:WO} [ir:ISl K r w] [ia:IE K t a] [il:IO K tl lo] [ih:IO K th hi]:IE K (ZJ r t tl th) (Zx w a lo hi) where
 imp:=λρ M σ H q Q o h k=>ia.imp ρ M σ H _ _ o h λx M1 v H1 h1 t1 m1 r1=>il.imp ρ M1 σ H1 _ _ (o.mv t1 m1) h1 λl M2 H2 h2 t2 m2=>ih.imp ρ M2 σ H2 _ _ (o.mv (t1.trans t2) m2) h2 λu M3 H3 h3 t3 m3=>ir.imp x v l u M3 H3 _ _ m3 (r1.ts (t2.trans t3)) h3 λy M4 v4 H4 h4 t4 m4 r4=>k y M4 v4 H4 h4 (((t1.trans t2).trans t3).trans t4) m4 r4
noncomputable def Qi:Tu:=λx lo hi M q=> ∃a l,x=wr a /\ M a=some (.lst l) /\ ∀p,M p=none ->q (wr p) (um M p (.lst (pO l lo hi)))
instance:ISl K (Q6 K) Qi where
 imp:=by rintro x v lo hi M H q Q m r1 ⟨a,l,rfl,hl,h⟩ k;let⟨vs,hv,r⟩:=m a _ hl;exact#[a,vs,r1.eq,gB.of hv,λp hp=>k _ _ _ _ (h p (m.fresh hp)) (L2.fm.ts (cw hp)) (m.oo hp (r.cut lo hi)) WR.v]
noncomputable def ZE (r:yp)(a:WA):WE:=λρ M q=>a ρ M λxs M1=>r xs M1 q
instance {r:List V ->Hp ->VK ->Prop}{w:yp}{t:TA}{a:WA} [ir:IC K r w] [ia:IA K t a]:IE K (Vs r t) (ZE w a) where
 imp:=λρ M σ H q Q o h k=>ia.imp ρ M σ H _ _ o h λx M1 v H1 h1 t1 m1 r1=>ir.imp x v M1 H1 _ _ m1 r1 h1 λy M4 v4 H4 h4 t4 m4 r4=>k y M4 v4 H4 h4 (t1.trans t4) m4 r4
noncomputable abbrev jS:=List W ->Mp ->WK ->Prop
noncomputable def kX (K:PySem.W.Frag)(p:jS):Sp:=λvs H Q _=> ∃ (xs:List W) (M:Mp) (q:WK),cM K H xs vs /\ gD K M H /\ p xs M q /\ ∀x M' v H',q x M' ->br H H' ->gD K M' H' ->WR K H' x v ->Q v H'
noncomputable def KA (p:jS)(a:WA):WE:=λρ M q=>a ρ M λxs M1=>p xs M1 q
instance {p:jS}{E:XK}{t:TA}{a:WA} [ia:IA K t a]:IE K (Af (kX K p) [] E t) (KA p a) where
 imp:=λρ M σ H q Q o h k=>ia.imp ρ M σ H _ _ o h λx M1 v H1 h1 t1 m1 r1=>#[x,M1,q,by rw[List.append_nil];exact r1,m1,h1,λy M4 v4 H4 h4 t4 m4 r4=>k y M4 v4 H4 h4 (t1.trans t4) m4 r4]
def okW (F:DF K x qual st f fd)(S:b7 N ps (aP st))(len: ∀vs M q,p vs M q ->vs.length=ps.length)(nv: ∀ (eI:Value) (A:Around) (outer:List Env) (s:Shared) (H:Hp) (E:XK),gi k (A.deeper (PyProof.Rows.envOfC qual (aP st) s.heap.objs.size f eI)) ->∃t w',yq (fg i0 P w K mg base N qual (aP st) f eI A outer s H E).NQ (ff st) t /\ IS K t w' /\ ∀vs M q,p vs M q ->w' {nx:=λ_ M'=>q wn M',rt:=q} (vs.map some++List.replicate (N.length - vs.length) none) M): d3 P w K mg base i0 (k+1) f fd ps (kX K p):=by
 refine DF.ok F S (λvs H Q E ⟨xs,M,q,r,m,h,_⟩=>by rw[r.length];exact len xs M q h) λeI A outer s H vs Q E hr h=> ?_;let⟨t,w',h1,h2,h3⟩:=nv eI A outer s H E hr;let⟨xs,M,q,r,m,h,k'⟩:=h;refine#[t,h1,h2.imp _ M _ H _ _ #[#[?_,λi x e=> ?_],m] (h3 xs M q h) #[λρ' M' σ' H' h ts o=>k' _ M' _ H' h ts o.hp WR.v,λx M' v H' h ts m' r'=>k' x M' v H' h ts m' r',λ_ _ _ _ h=>h.elim,λ_ _ _ _ h=>h.elim]]
 .have:=r.length;simp[L2.start,this]
 .have hl:=r.length;unfold L2.start;by_cases hi:i<xs.length
  .rw[a7 (by simpa using hi),ay] at e;cases ex:xs[i]? with
   | none=>rw[ex] at e;cases e
   | some y=>rw[ex] at e;cases e;let⟨v,hv,rv⟩:=r.at ex;refine#[v,?_,rv];rw[a7 (by simp;lia),ay,hv];rfl
  .rw[aU (by simpa using hi),List.getElem?_replicate] at e;split at e<;>cases e
noncomputable def Q8 (K:PySem.W.Frag):List V ->Hp ->VK ->Prop:=λxs H Q=> ∃p ys,xs= [.ref p] /\ (gB K H p ys \/ jj K H p ys) /\ Q (.int ys.length) H
theorem cR:gg X (.builtin "len") (Q8 X.K):=vz
noncomputable def Mw:yp:=λxs M q=>(∃a l,xs= [wr a] /\ M a=some (.lst l) /\ q (wi l.length) M) \/ ∃l,xs= [.tup l] /\ q (wi l.length) M
def cM.one (h:cM K H [x] vs): ∃v,vs= [v] /\ WR K H x v:=by simp![cM] at h;let⟨v,t,rfl,h1,rfl⟩:=h;exact#[v,rfl,h1]
def cM.two (h:cM K H [x,y] vs): ∃v u,vs= [v,u] /\ WR K H x v /\ WR K H y u:=by simp![cM] at h;let⟨v,t,rfl,h1,u,t',rfl,h2,rfl⟩:=h;exact#[v,u,rfl,h1,h2]
instance:IC K (Q8 K) Mw where
 imp :=by
  rintro xs v M H q Q m r1 h k;rcases h with⟨a,l,rfl,hl,h⟩ | ⟨l,rfl,h⟩
  .let⟨v,rfl,r⟩:=r1.one;cases r.eq;let⟨vs,hv,rr⟩:=m a _ hl;refine#[a,vs,rfl, .inl (gB.of hv),k _ M _ H h (br.refl H) m ?_];rw[rr.length];exact WR.v
  .let⟨v,rfl,r⟩:=r1.one;let⟨a,vs,rfl,hv,rr⟩:=r.tup;refine#[a,vs,rfl, .inr hv,k _ M _ H h (br.refl H) m ?_];rw[rr.length];exact WR.v
noncomputable def Rf:List V ->Hp ->VK ->Prop:=λxs H Q=> ∃i,xs= [.int i] /\ Q (.int (if i<0 then -i else i)) H
theorem ub:gg X (.builtin "abs") Rf:=Hf
noncomputable def Qt:yp:=λxs M q=> ∃i,xs= [wi i] /\ q (wi (if i<0 then -i else i)) M
instance:IC K Rf Qt where
 imp:=by rintro xs v M H q Q m r1 ⟨i,rfl,h⟩ k;let⟨v,rfl,r⟩:=r1.one;cases r.eq;exact#[i,rfl,k _ M _ H h (br.refl H) m WR.v]
noncomputable def Lf:List V ->Hp ->VK ->Prop:=λxs H Q=> ∃i j,xs= [.int i, .int j] /\ Q (.int (if j >i then j else i)) H
theorem zH (hc:X.calm=true):gg X (.builtin "max") Lf:=C5 hc
noncomputable def Ku:yp:=λxs M q=> ∃i j,xs= [wi i,wi j] /\ q (wi (if j >i then j else i)) M
instance:IC K Lf Ku where
 imp:=by rintro xs v M H q Q m r1 ⟨i,j,rfl,h⟩ k;let⟨v,u,rfl,r,r'⟩:=r1.two;cases r.eq;cases r'.eq;exact#[i,j,rfl,k _ M _ H h (br.refl H) m WR.v]
noncomputable def Au (K:PySem.W.Frag):List V ->Hp ->VK ->Prop:=λxs H Q=> ∃p ys,xs= [.ref p] /\ (gB K H p ys \/ jj K H p ys) /\ ∀l,H l=none ->Q (.ref l) (upd H l (.lst ys))
theorem jM:gg X (.type "list") (Au X.K):=vy
noncomputable def uw:yp:=λxs M q=> ∃l,((∃a,xs= [wr a] /\ M a=some (.lst l)) \/ xs= [.tup l]) /\ ∀p,M p=none ->q (wr p) (um M p (.lst l))
instance:IC K (Au K) uw where
 imp :=by
  rintro xs v M H q Q m r1 ⟨l,hx,h⟩ k;rcases hx with⟨a,rfl,hl⟩ | rfl
  .let⟨v,rfl,r⟩:=r1.one;cases r.eq;let⟨vs,hv,rr⟩:=m a _ hl;exact#[a,vs,rfl, .inl (gB.of hv),λp hp=>k _ _ _ _ (h p (m.fresh hp)) (L2.fm.ts (cw hp)) (m.oo hp rr) WR.v]
  .let⟨v,rfl,r⟩:=r1.one;let⟨a,vs,rfl,hv,rr⟩:=r.tup;exact#[a,vs,rfl, .inr hv,λp hp=>k _ _ _ _ (h p (m.fresh hp)) (L2.fm.ts (cw hp)) (m.oo hp rr) WR.v]
noncomputable def wz (K:PySem.W.Frag):List V ->Hp ->VK ->Prop:=λxs H Q=> ∃p ys,xs= [.ref p] /\ ((gB K H p ys /\ ∀l,H l=none ->Q (.ref l) (upd H l (.tup ys))) \/ (jj K H p ys /\ Q (.ref p) H))
theorem gT:gg X (.type "tuple") (wz X.K):=r8
noncomputable def vR:yp:=λxs M q=> ∃l,((∃a,xs= [wr a] /\ M a=some (.lst l)) \/ xs= [.tup l]) /\ q (.tup l) M
instance:IC K (wz K) vR where
 imp :=by
  rintro xs v M H q Q m r1 ⟨l,hx,h⟩ k;rcases hx with⟨a,rfl,hl⟩ | rfl
  .let⟨v,rfl,r⟩:=r1.one;cases r.eq;let⟨vs,hv,rr⟩:=m a _ hl;exact#[a,vs,rfl, .inl #[gB.of hv,λp hp=>k _ M _ _ h (L2.fm.ts (cw hp)) (m.new hp) (WR.Pn (jj.of cn) (rr.ts (L2.fm.ts (cw hp))))]]
  .let⟨v,rfl,r⟩:=r1.one;let⟨a,vs,rfl,hv,rr⟩:=r.tup;exact#[a,vs,rfl, .inr #[hv,k _ M _ H h (br.refl H) m (WR.Pn hv rr)]]
theorem cM.ints {H:Hp}: ∀ {ns:List Int} {vs:List V},cM K H (ns.map wi) vs ->vs=ns.map V.int
 | [],vs,h=>by simpa only[List.map_nil,cM] using h
 | n::r,vs,h=>by simp![aK,cM] at h;let⟨v,t,rfl,h1,h2⟩:=h;rw[cM.ints h2,h1.eq];rfl
theorem cM.ofInts {H:Hp}: ∀ (ns:List Int),cM K H (ns.map wi) (ns.map V.int)
 | []=>cM.nil
 | n::r=>cM.cons WR.v (cM.ofInts r)
noncomputable def tyW (M:Mp):W ->Option Value
 | .v (.int _)=>some (.type "int")
 | .v (.bl _)=>some (.type "bool")
 | .v (.str _)=>some (.type "str")
 | .v .dY=>some (.type "NoneType")
 | .tup _=>some (.type "tuple")
 | .v (.ref a)=>match M a with
  | some (.lst _)=>some (.type "list")
  | _=>none
 | _=>none
noncomputable def Qo (K:PySem.W.Frag):yp:=λxs M q=> ∃x T t b,xs= [x, .v (.ty T)] /\ tyW M x=some t /\ PySem.W.kitOne K t (.type T)=some b /\ q (wb b) M
def MD (m:gD K M H)(r:WR K H x v)(e:tyW M x=some t):Tv K H v t:=by
 cases x with
 | tup l=>let⟨a,vs,rfl,hv,rr⟩:=r.tup;cases e;exact .tup hv
 | v y =>
  cases r.eq;cases v with
  | int i=>cases e;exact .of (.int i)
  | bl i=>cases e;exact .of (.bl i)
  | str i=>cases e;exact .of (.str i)
  | dY=>cases e;exact .of .dY
  | ref a=>
   simp![tyW] at e;cases ha:M a with
   | none=>rw[ha] at e;cases e
   | some o=>
    rw[ha] at e;cases o with
    | lst l=>cases e;let⟨vs,hv,_⟩:=m a _ ha;exact .lst (gB.of hv)
    | dK l=>cases e
    | ins C d l=>cases e
    | exc C=>cases e
    | fz o l l2=>cases e
  | zI _=>cases e
  | A6 _=>cases e
  | ty _=>cases e
instance:IC K (Q9 K) (Qo K) where
 imp:=by rintro xs v M H q Q m r1 ⟨x,T,t,b,rfl,ht,e,h⟩ k;let⟨v,u,rfl,r,r'⟩:=r1.two;cases r'.eq;exact#[v,T,t,b,rfl,MD m r ht,e,k _ M _ H h (br.refl H) m WR.v]
end
section
variable {K:PySem.W.Frag}
noncomputable abbrev WM:=W ->List W ->Mp ->WK ->Prop
class IM (K:PySem.W.Frag) (r:V ->List V ->Hp ->VK ->Prop) (w:outParam WM):Prop where
 imp: ∀ (x:W) (v:V) (ys:List W) (us:List V) (M:Mp) (H:Hp) (q:WK) (Q:VK),gD K M H ->WR K H x v ->cM K H ys us ->w x ys M q ->(∀x M' v H',q x M' ->br H H' ->gD K M' H' ->WR K H' x v ->Q v H') ->r v us H Q
noncomputable def IsL (M:Mp)(x:W):Prop:= ∃a l,x=wr a /\ M a=some (.lst l)
def IsL.ty (m:gD K M H)(r:WR K H x v)(h:IsL M x):Vo K "list" v H:=by let⟨a,l,rfl,hl⟩:=h;cases r.eq;let⟨vs,hv,_⟩:=m a _ hl;exact .inl #[rfl,vs,gB.of hv]
noncomputable def Vm (r:WM)(a:WE)(b:WA):WE:=λρ M q=>a ρ M λx M1=>IsL M1 x /\ b ρ M1 λxs M2=>r x xs M2 q
instance {r:V ->List V ->Hp ->VK ->Prop}{w:WM}{t:TE}{u:TA}{a:WE}{b:WA} [ir:IM K r w] [ia:IE K t a] [ib:IA K u b]:IE K (ZL K "list" r t u) (Vm w a b) where
 imp:=λρ M σ H q Q o h k=>ia.imp ρ M σ H _ _ o h λx M1 v H1 ⟨hl,h1⟩ t1 m1 r1=>#[hl.ty m1 r1,ib.imp ρ M1 σ H1 _ _ (o.mv t1 m1) h1 λy M2 u H2 h2 t2 m2 r2=>ir.imp x v y u M2 H2 _ _ m2 (r1.ts t2) r2 h2 λz M3 v3 H3 h3 t3 m3 r3=>k z M3 v3 H3 h3 ((t1.trans t2).trans t3) m3 r3]
noncomputable def zW:WM:=λx ys M q=> ∃a l y,x=wr a /\ ys= [y] /\ M a=some (.lst l) /\ l.length<sizeLine /\ q wn (um M a (.lst (l++ [y])))
instance:IM K Aw zW where
 imp:=by rintro x v ys us M H q Q m r1 r2 ⟨a,l,y,rfl,rfl,hl,hn,h⟩ k;cases r1.eq;let⟨u,rfl,r⟩:=r2.one;let⟨vs,hv,rr⟩:=m a _ hl;exact#[a,vs,u,rfl,rfl,hv,by rw[rr.length];exact hn,k _ _ _ _ h (lH hv) (m.putL hv (rr.snoc r)) WR.v]
noncomputable def zV:WM:=λx ys M q=> ∃a b l l',x=wr a /\ ys= [wr b] /\ M a=some (.lst l) /\ M b=some (.lst l') /\ l.length+l'.length<=sizeLine /\ q wn (um M a (.lst (l++l')))
instance:IM K Av zV where
 imp:=by rintro x v ys us M H q Q m r1 r2 ⟨a,b,l,l',rfl,rfl,hl,k7,hn,h⟩ k;cases r1.eq;let⟨u,rfl,r⟩:=r2.one;cases r.eq;let⟨vs,hv,rr⟩:=m a _ hl;let⟨MA,vg,Lb⟩:=m b _ k7;exact#[a,b,vs,MA,rfl,rfl,hv,vg,by rw[rr.length,Lb.length];exact hn,k _ _ _ _ h (lH hv) (m.putL hv (rr.append Lb)) WR.v]
noncomputable def Qq:vP:=λx y M q=> ∃a b l l',x=wr a /\ y=wr b /\ M a=some (.lst l) /\ M b=some (.lst l') /\ l.length+l'.length<=sizeLine /\ ∀p,M p=none ->q (wr p) (um M p (.lst (l++l')))
instance:IR K Rb Qq where
 imp:=by rintro x y v u M H q Q m r1 r2 ⟨a,b,l,l',rfl,rfl,hl,k7,hn,h⟩ k;cases r1.eq;cases r2.eq;let⟨vs,hv,rr⟩:=m a _ hl;let⟨MA,vg,Lb⟩:=m b _ k7;exact#[a,b,vs,MA,rfl,rfl,hv,vg,by rw[rr.length,Lb.length];exact hn,λp hp=>k _ _ _ _ (h p (m.fresh hp)) (L2.fm.ts (cw hp)) (m.oo hp (rr.append Lb)) WR.v]
noncomputable def H0 (M:Mp):W ->Bool ->Prop
 | .v .dY,k=>k=false
 | .v (.bl b),k=>k=b
 | .v (.int i),k=>k=(i !=0)
 | .v (.str y),k=>y.length<=sizeLine /\ k=((y.length:Int) !=0)
 | .v (.ref a),k=>(∃l,M a=some (.lst l) /\ k= !l.isEmpty) \/ (∃l,M a=some (.dK l) /\ k= !l.isEmpty)
 | .tup l,k=>k= !l.isEmpty
 | _,_=>False
noncomputable def Ei (K:PySem.W.Frag)(ta:TE):TT:=λσ H Q=>ta σ H λx H'=> ∃k,Kg K x H' k /\ Q k H'
theorem BZ (ha:PE X a ta)(he: ∀whole,isTrue a X.env whole=(do let v <- whole;standAt a.pos;holding [v] (truthy v)):=by intro _;rfl):PT X a (Ei X.K ta):=Fc ha he
noncomputable def DM (a:WE):WT:=λρ M q=>a ρ M λx M1=> ∃k,H0 M1 x k /\ q k M1
def cM.isEmpty (r:cM K H l vs):vs.isEmpty=l.isEmpty:=by have:=r.length;cases l<;>cases vs<;>simp_all
def KR.isEmpty {vs:List (Key×V)}(r:KR K H l vs):vs.isEmpty=l.isEmpty:=by cases r<;>rfl
def H0.ok (m:gD K M H)(r:WR K H x v)(h:H0 M x k):Kg K v H k:=by
 cases x with
 | tup l=>let⟨a,vs,rfl,hv,rr⟩:=r.tup;exact .inr (.inl #[vs,hv,by rw[rr.isEmpty];exact h])
 | v y =>
  cases r.eq;cases v with
  | ref a=>
   rcases h with⟨l,hl,e⟩ | ⟨l,hl,e⟩
   .let⟨vs,hv,rr⟩:=m a _ hl;exact .inl #[vs,gB.of hv,by rw[rr.isEmpty];exact e]
   .let⟨vs,hv,rr⟩:=m a _ hl;exact .inr (.inr #[vs,hv,by rw[rr.isEmpty];exact e])
  | _=>first | exact h | exact(show False from h).elim
instance {t:TE}{a:WE} [ia:IE K t a]:IT K (Ei K t) (DM a) where
 imp:=λρ M σ H q Q o h k=>ia.imp ρ M σ H _ _ o h λx M1 v H1 ⟨b,hb,h1⟩ t1 m1 r1=>#[b,hb.ok m1 r1,k b M1 H1 h1 t1 m1]
noncomputable def fQ:Key ->W
 | .inl k=>wi k
 | .inr x=>ws x
noncomputable def fh (kvs:List (Key×W))(k:Key):Option W:=(kvs.find? λkv=>decide (kv.1=k)).map (·.2)
noncomputable def jq (kvs:List (Key×W))(k:Key)(v:W):List (Key×W):=if(kvs.any λkv=>decide (kv.1=k))=true then kvs.map (λkv=>if kv.1=k then(kv.1,v) else kv) else kvs++ [(k,v)]
noncomputable def tS (kvs:List (Key×W))(k:Key):List (Key×W):=kvs.filter λkv=>decide (kv.1≠k)
theorem KR.keys {H:Hp}: ∀ {l:List (Key×W)} {vs:List (Key×V)},KR K H l vs ->vs.map (·.1)=l.map (·.1)
 | _,_, .nil=>rfl
 | _,_, .cons ⟨e,r⟩ t=>by rw[aK,aK,KR.keys t,e]
theorem KR.length {H:Hp}{κ:Type}: ∀ {l:List (κ×W)} {vs:List (κ×V)},KR K H l vs ->vs.length=l.length
 | _,_, .nil=>rfl
 | _,_, .cons _ t=>by rw[aG,aG,KR.length t]
theorem KR.val {H:Hp}(k:Key): ∀ {l:List (Key×W)} {vs:List (Key×V)},KR K H l vs ->(fh l k=none /\ gZ vs k=none) \/ ∃x v,fh l k=some x /\ gZ vs k=some v /\ WR K H x v
 | _,_, .nil=> .inl #[rfl,rfl]
 | (k1,x)::l,(k2,v)::vs, .cons ⟨e,r⟩ t=>by
  have e:k1=k2:=e;subst e;unfold fh gZ;rw[c8,c8];by_cases hk:k1=k
  .simp![hk,decide_true];exact .inr #[x,v,rfl,rfl,r]
  .simp![hk,decide_false];exact KR.val k t
theorem KR.map {H:Hp}{k:Key}{x:W}{v:V}(rx:WR K H x v): ∀ {l:List (Key×W)} {vs:List (Key×V)},KR K H l vs ->KR K H (l.map (λkv=>if kv.1=k then(kv.1,x) else kv)) (vs.map (λkv=>if kv.1=k then(kv.1,v) else kv))
 | _,_, .nil=> .nil
 | (k1,y)::l,(k2,u)::vs, .cons ⟨e,r⟩ t=>by
  have e:k1=k2:=e;subst e;rw[aK,aK];refine .cons ?_ (KR.map rx t);by_cases hk:k1=k
  .rw[aj hk,aj hk];exact#[rfl,rx]
  .rw[ah hk,ah hk];exact#[rfl,r]
theorem KR.append {H:Hp}{k:Key}{x:W}{v:V}(rx:WR K H x v): ∀ {l:List (Key×W)} {vs:List (Key×V)},KR K H l vs ->KR K H (l++ [(k,x)]) (vs++ [(k,v)])
 | _,_, .nil=> .cons #[rfl,rx] .nil
 | _,_, .cons r t=> .cons r (KR.append rx t)
def KR.put (rx:WR K H x v)(r:KR K H l vs):KR K H (jq l k x) (putK vs k v):=by
 have ek:(l.any λkv=>decide (kv.1=k))=vs.any λkv=>decide (kv.1=k):=by
  have:=r.keys;have e1:(l.any λkv=>decide (kv.1=k))=(l.map (·.1)).any λy=>decide (y=k):=by rw[List.any_map];rfl
  have e2:(vs.any λkv=>decide (kv.1=k))=(vs.map (·.1)).any λy=>decide (y=k):=by rw[List.any_map];rfl
  rw[e1,e2,this]
 unfold jq putK;rw[ek];split
 .exact KR.map rx r
 .exact KR.append rx r
theorem KR.drop {H:Hp}{k:Key}: ∀ {l:List (Key×W)} {vs:List (Key×V)},KR K H l vs ->KR K H (tS l k) (pd vs k)
 | _,_, .nil=> .nil
 | (k1,y)::l,(k2,u)::vs, .cons ⟨e,r⟩ t=>by
  have e:k1=k2:=e;subst e;unfold tS pd;rw[List.filter_cons,List.filter_cons];by_cases hk:k1=k
  .simp![hk,ne_eq,not_true,decide_false,az,bj];exact KR.drop t
  .simp![ne_eq,hk,not_false_eq_true,decide_true,bW];exact .cons #[rfl,r] (KR.drop t)
def kL (r:WR K H (fQ k) v):v=kV k:=by cases k<;>exact r.eq
noncomputable def Kx:WE:=λ_ M q=> ∀p,M p=none ->q (wr p) (um M p (.dK []))
instance:IE K Ep Kx where
 imp:=λρ M σ H q Q o h k=>λp hp=>k _ _ _ _ (h p (o.hp.fresh hp)) (L2.fm.ts (cw hp)) (o.hp.put (L2.fm.ts (cw hp)) #[[],cn, .nil]) WR.v
noncomputable def DY (a b:WE):WE:=λρ M q=>a ρ M λx M1=>b ρ M1 λy M2=> ∃p kvs k z,x=wr p /\ M2 p=some (.dK kvs) /\ y=fQ k /\ fh kvs k=some z /\ q z M2
instance {t u:TE}{a b:WE} [ia:IE K t a] [ib:IE K u b]:IE K (KS t u) (DY a b) where
 imp :=λρ M σ H q Q o h k=>ia.imp ρ M σ H _ _ o h λx M1 v H1 h1 t1 m1 r1=>ib.imp ρ M1 σ H1 _ _ (o.mv t1 m1) h1 λy M2 u H2 ⟨p,kvs,ky,z,e1,e2,e3,e4,h2⟩ t2 m2 r2=>by
  subst e1 e3;let⟨ks,hk,rr⟩:=m2 p _ e2;rcases rr.val ky with⟨n1,_⟩ | ⟨x',v',n1,n2,rx⟩
  .rw[n1] at e4;cases e4
  .rw[n1] at e4;cases e4;refine#[p,v',r1.eq,?_,k _ M2 _ H2 h2 (t1.trans t2) m2 rx];rw[kL r2, <- n2];exact pR.k hk
noncomputable def uy (a b:WE):WE:=λρ M q=>a ρ M λy M1=>b ρ M1 λx M2=> ∃p kvs k,x=wr p /\ M2 p=some (.dK kvs) /\ y=fQ k /\ q (wb (!(fh kvs k).isSome)) M2
def KR.some (k:Key)(r:KR K H l vs):(gZ vs k).isSome=(fh l k).isSome:=by rcases r.val k with⟨a,b⟩ | ⟨x,v,a,b,_⟩ <;>rw[a,b] <;>rfl
instance {t u:TE}{a b:WE} [ia:IE K t a] [ib:IE K u b]:IE K (Ae t u) (uy a b) where
 imp:=λρ M σ H q Q o h k=>ia.imp ρ M σ H _ _ o h λy M1 v H1 h1 t1 m1 r1=>ib.imp ρ M1 σ H1 _ _ (o.mv t1 m1) h1 λx M2 u H2 ⟨p,kvs,ky,e1,e2,e3,h2⟩ t2 m2 r2=>by subst e1 e3;let⟨ks,hk,rr⟩:=m2 p _ e2;refine#[p,gZ ks ky,r2.eq,by rw[kL r1];exact pR.k hk,k _ M2 _ H2 h2 (t1.trans t2) m2 ?_];rw[rr.some];exact WR.v
noncomputable def yw (a b c:WE):WE:=λρ M q=>a ρ M λx M1=> ∃p,x=wr p /\ (∃kvs,M1 p=some (.dK kvs)) /\ b ρ M1 λy M2=>c ρ M2 λz M3=> ∃kvs k,M3 p=some (.dK kvs) /\ y=fQ k /\ q ((fh kvs k).getD z) M3
instance {t u s:TE}{a b c:WE} [ia:IE K t a] [ib:IE K u b] [ic:IE K s c]:IE K (Er t u s) (yw a b c) where
 imp:=λρ M σ H q Q o h k=>ia.imp ρ M σ H _ _ o h λx M1 v H1 ⟨p,e,⟨kvs,hp⟩,h1⟩ t1 m1 r1=>by
  subst e;let⟨ks,hk,rr⟩:=m1 p _ hp;refine#[p,r1.eq, .inl #[ks, .inl hk],ib.imp ρ M1 σ H1 _ _ (o.mv t1 m1) h1 λy M2 u H2 h2 t2 m2 r2=>ic.imp ρ M2 σ H2 _ _ (o.mv (t1.trans t2) m2) h2 λz M3 u3 H3 ⟨kvs,ky,e2,e3,h3⟩ t3 m3 r3=> ?_];subst e3;let⟨ks,hk,rr⟩:=m3 p _ e2;refine#[gZ ks ky,by rw[kL (r2.ts t3)];exact pR.k hk,k _ M3 _ H3 h3 ((t1.trans t2).trans t3) m3 ?_];rcases rr.val ky with⟨n1,n2⟩ | ⟨x',v',n1,n2,rx⟩
  .rw[n1,n2];exact r3
  .rw[n1,n2];exact rx
end
section
variable {K:PySem.W.Frag}
noncomputable def KG (i:Nat):WG:=λx ρ M q=>q (ρ.set i (some x)) M
instance {i:Nat}:IG K (nB i) (KG i) where
 imp:=λx v ρ M σ H q Q o r h k=>k _ M _ H h (br.refl H) #[o.env.set i r,o.hp]
noncomputable def MB:Kf:=λxs ρ M q=>xs= [] /\ q ρ M
noncomputable def KH (a:WG)(b:Kf):Kf:=λxs ρ M q=> ∃x r,xs=x::r /\ a x ρ M λρ' M'=>b r ρ' M' q
instance:Vc K OM MB where
 imp:=λx v ρ M σ H q Q o r h k=>by let⟨rfl,h⟩:=h;exact#[by simpa only[cM] using r,k _ M _ H h (br.refl H) o]
instance {t:TG}{u:HW}{a:WG}{b:Kf} [ia:IG K t a] [ib:Vc K u b]:Vc K (A5 t u) (KH a b) where
 imp:=λx v ρ M σ H q Q o r h k=>by let⟨y,rest,rfl,h⟩:=h;simp![cM] at r;let⟨v1,t1,rfl,r1,r2⟩:=r;exact#[v1,t1,rfl,ia.imp y v1 ρ M σ H _ _ o r1 h λρ' M' σ' H' h' ts o'=>ib.imp rest t1 ρ' M' σ' H' _ _ o' (r2.ts ts) h' λρ2 M2 σ2 H2 h2 Qz o2=>k ρ2 M2 σ2 H2 h2 (ts.trans Qz) o2]
noncomputable def Qu (n:Nat)(a:Kf):WG:=λx ρ M q=> ∃l,x= .tup l /\ l.length=n /\ a l ρ M q
instance {n:Nat}{t:HW}{a:Kf} [ia:Vc K t a]:IG K (OL K n t) (Qu n a) where
 imp:=λx v ρ M σ H q Q o r h k=>by let⟨l,rfl,hl,h⟩:=h;let⟨a',vs,rfl,hv,rr⟩:=r.tup;exact#[a',vs,rfl,hv,by rw[rr.length];exact hl,ia.imp l vs ρ M σ H _ _ o rr h k]
noncomputable abbrev Hn:=W ->W ->W ->Mp ->(Mp ->Prop) ->Prop
class TM (K:PySem.W.Frag) (t:Ho) (w:outParam Hn):Prop where
 imp: ∀ (x y z:W) (v u r:V) (M:Mp) (H:Hp) (q:Mp ->Prop) (Q:Hp ->Prop),gD K M H ->WR K H x v ->WR K H y u ->WR K H z r ->w x y z M q ->(∀M' H',q M' ->br H H' ->gD K M' H' ->Q H') ->t v u r H Q
noncomputable def Kr:Hn:=λx y z M q=> ∃a l k j,x=wr a /\ y=wi k /\ M a=some (.lst l) /\ qR l.length k=some j /\ q (um M a (.lst (l.set j z)))
instance:TM K Ld Kr where
 imp:=by rintro x y z v u r M H q Q m r1 r2 r3 ⟨a,l,i,j,rfl,rfl,hl,e,h⟩ k;let⟨vs,hv,rr⟩:=m a _ hl;exact#[a,vs,i,j,r1.eq,r2.eq,hv,by rw[rr.length];exact e,k _ _ h (lH hv) (m.putL hv (rr.set j r3))]
noncomputable def Qv (a b:WE)(s:Hn):WG:=λx ρ M q=>a ρ M λo M1=>b ρ M1 λi M2=>s o i x M2 λM3=>q ρ M3
instance {t u:TE}{s:Ho}{a b:WE}{w:Hn} [ia:IE K t a] [ib:IE K u b] [is:TM K s w]:IG K (S3 t u s) (Qv a b w) where
 imp:=λx v ρ M σ H q Q o r h k=>ia.imp ρ M σ H _ _ o h λy M1 v1 H1 h1 t1 m1 r1=>ib.imp ρ M1 σ H1 _ _ (o.mv t1 m1) h1 λz M2 v2 H2 h2 t2 m2 r2=>is.imp y z x v1 v2 v M2 H2 _ _ m2 (r1.ts t2) r2 (r.ts (t1.trans t2)) h2 λM3 H3 h3 t3 m3=>k ρ M3 σ H3 h3 ((t1.trans t2).trans t3) (o.mv ((t1.trans t2).trans t3) m3)
noncomputable def K6:WS:=λD ρ M=>D.nx ρ M
instance:IS K KN K6 where
 imp:=λρ M σ H D' D o h e=>e.nx ρ M σ H h (br.refl H) o
noncomputable def Iw (a b:WS):WS:=λD ρ M=>a {D with nx:=b D} ρ M
instance {t u:TS}{a b:WS} [ia:IS K t a] [ib:IS K u b]:IS K (MU t u) (Iw a b) where
 imp:=λρ M σ H D' D o h e=>ia.imp ρ M σ H _ _ o h #[λρ' M' σ' H' h' ts o'=>ib.imp ρ' M' σ' H' D' D o' h' (e.mv ts),e.rt,e.bk,e.ct]
noncomputable def La:WS:=λD ρ M=>D.ct ρ M
instance:IS K KU La where
 imp:=λρ M σ H D' D o h e=>e.ct ρ M σ H h (br.refl H) o
noncomputable def K7 (a:WE):WS:=λD ρ M=>a ρ M λ_ M1=>D.nx ρ M1
instance {t:TE}{a:WE} [ia:IE K t a]:IS K (KQ t) (K7 a) where
 imp:=λρ M σ H D' D o h e=>ia.imp ρ M σ H _ _ o h λx M1 v H1 h1 t1 m1 r1=>e.nx ρ M1 σ H1 h1 t1 (o.mv t1 m1)
noncomputable def QZ (a:WE):WS:=λD ρ M=>a ρ M D.rt
instance {t:TE}{a:WE} [ia:IE K t a]:IS K (QI t) (QZ a) where
 imp:=λρ M σ H D' D o h e=>ia.imp ρ M σ H _ _ o h λx M1 v H1 h1 t1 m1 r1=>e.rt x M1 v H1 h1 t1 m1 r1
noncomputable def K5:WS:=λD _ M=>D.rt wn M
instance:IS K KI K5 where
 imp:=λρ M σ H D' D o h e=>e.rt wn M .dY H h (br.refl H) o.hp WR.v
noncomputable def Ub (c:WT)(a b:WS):WS:=λD ρ M=>c ρ M λk M1=>if k=true then a D ρ M1 else b D ρ M1
instance {tc:TT}{t u:TS}{c:WT}{a b:WS} [ic:IT K tc c] [ia:IS K t a] [ib:IS K u b]:IS K (QM tc t u) (Ub c a b) where
 imp:=λρ M σ H D' D o h e=>ic.imp ρ M σ H _ _ o h λk M1 H1 h1 t1 m1=>by
  cases k with
  | true=>simp![bW] at h1 ⊢;exact ia.imp ρ M1 σ H1 D' D (o.mv t1 m1) h1 (e.mv t1)
  | false=>simp![az,bj] at h1 ⊢;exact ib.imp ρ M1 σ H1 D' D (o.mv t1 m1) h1 (e.mv t1)
noncomputable def Q2 (a:WE)(g:WG):WS:=λD ρ M=>a ρ M λx M1=>g x ρ M1 D.nx
instance {t:TE}{g:TG}{a:WE}{w:WG} [ia:IE K t a] [ig:IG K g w]:IS K (Ex t g) (Q2 a w) where
 imp:=λρ M σ H D' D o h e=>ia.imp ρ M σ H _ _ o h λx M1 v H1 h1 t1 m1 r1=>ig.imp x v ρ M1 σ H1 _ _ (o.mv t1 m1) r1 h1 λρ2 M2 σ2 H2 h2 t2 o2=>e.nx ρ2 M2 σ2 H2 h2 (t1.trans t2) o2
noncomputable def yN (a b c:WE):WS:=λD ρ M=>c ρ M λz M1=>a ρ M1 λx M2=>b ρ M2 λy M3=> ∃p kvs k,x=wr p /\ M3 p=some (.dK kvs) /\ y=fQ k /\ kvs.length<sizeLine /\ D.nx ρ (um M3 p (.dK (jq kvs k z)))
instance {t u s:TE}{a b c:WE} [ia:IE K t a] [ib:IE K u b] [ic:IE K s c]:IS K (K8 t u s) (yN a b c) where
 imp :=λρ M σ H D' D o h e=>ic.imp ρ M σ H _ _ o h λz M1 v1 H1 h1 t1 m1 r1=>ia.imp ρ M1 σ H1 _ _ (o.mv t1 m1) h1 λx M2 v2 H2 h2 t2 m2 r2=>ib.imp ρ M2 σ H2 _ _ (o.mv (t1.trans t2) m2) h2 λy M3 v3 H3 ⟨p,kvs,k,e1,e2,e3,hl,h3⟩ t3 m3 r3=>by subst e1 e3;let⟨ks,hk,rr⟩:=m3 p _ e2;have ts:=mj (u:= .dK (putK ks k v1)) hk;refine#[p,_,r2.eq,?_,e.nx ρ _ σ (upd H3 p (.dK (putK ks k v1))) h3 (((t1.trans t2).trans t3).trans ts) (o.mv (((t1.trans t2).trans t3).trans ts) (m3.putD hk (KR.put (r1.ts (t2.trans t3)) rr)))];rw[kL r3];exact Hz.k hk (by rw[rr.length];exact hl)
noncomputable def yO (a b:WE):WS:=λD ρ M=>a ρ M λx M1=>b ρ M1 λy M2=> ∃p kvs k,x=wr p /\ M2 p=some (.dK kvs) /\ y=fQ k /\ (fh kvs k).isSome=true /\ D.nx ρ (um M2 p (.dK (tS kvs k)))
instance {t u:TE}{a b:WE} [ia:IE K t a] [ib:IE K u b]:IS K (K9 t u) (yO a b) where
 imp :=λρ M σ H D' D o h e=>ia.imp ρ M σ H _ _ o h λx M2 v2 H2 h2 t2 m2 r2=>ib.imp ρ M2 σ H2 _ _ (o.mv t2 m2) h2 λy M3 v3 H3 ⟨p,kvs,k,e1,e2,e3,hl,h3⟩ t3 m3 r3=>by subst e1 e3;let⟨ks,hk,rr⟩:=m3 p _ e2;have ts:=mj (u:= .dK (pd ks k)) hk;exact#[p,ks,k,r2.eq,hk,kL r3,by rw[rr.some];exact hl,e.nx ρ _ σ _ h3 ((t2.trans t3).trans ts) (o.mv ((t2.trans t3).trans ts) (m3.putD hk rr.drop))]
noncomputable def Dk (K:PySem.W.Frag)(H1:Hp)(J:It)(xs:List W)(keep:Mp ->Prop):Prop:=∀i M H,br H1 H ->gD K M H ->keep M ->(xs.length=i ->J.stop i H) /\ (i<xs.length ->J.go i H) /\ ∀v H',i<xs.length ->J.Ms i H v H' ->br H H' /\ gD K M H' /\ ∃x,xs[i]? =some x /\ WR K H' x v
class II (K:PySem.W.Frag) (t:TI) (w:outParam WI):Prop where
 imp: ∀ (ρ:dN) (M:Mp) (σ:St) (H:Hp) (q:List W ->(Mp ->Prop) ->Mp ->Prop) (R:It ->Hp ->Prop),Ok K ρ M σ H ->w ρ M q ->(∀xs keep J M' H',q xs keep M' ->br H H' ->gD K M' H' ->Dk K H' J xs keep ->R J H') ->t σ H R
noncomputable def F' (a:WE):WI:=λρ M q=>a ρ M λx M1=> ∃p l,x=wr p /\ M1 p=some (.lst l) /\ q l (λM'=>M' p=some (.lst l)) M1
noncomputable def RS (a:WE):WI:=λρ M q=>a ρ M λx M1=> ∃l,x= .tup l /\ q l (λ_=>True) M1
noncomputable def eM (lo:Int)(n:Nat):List W:=(List.range n).map λ(k:Nat)=>wi (lo+(k:Int))
noncomputable def F9 (a:WA):WI:=λρ M q=>a ρ M λxs M1=> ∃j:Int,xs= [wi j] /\ -(2 ^ 62) <=j /\ j<2 ^ 62 /\ q (eM 0 j.toNat) (λ_=>True) M1
noncomputable def F8 (a:WA):WI:=λρ M q=>a ρ M λxs M1=> ∃i j:Int,xs= [wi i,wi j] /\ (-(2 ^ 62) <=i /\ i<2 ^ 62 /\ -(2 ^ 62) <=j /\ j<2 ^ 62) /\ q (eM i (j - i).toNat) (λ_=>True) M1
def tE:Dk K H1 (Va K p) l (λM'=>M' p=some (.lst l)):=by intro i M H ts m hk;let⟨vs,hv,rr⟩:=m p _ hk;have hl:=rr.length;refine#[λh=>#[vs,gB.of hv,by lia],λh=>#[vs,vs[i]'(by lia),gB.of hv,by simp],λv H' hi y=> ?_];let⟨rfl,y⟩:=y;have:=y vs (gB.of hv);let⟨d,hd,r⟩:=rr.back this;exact#[br.refl _,m,d,hd,r]
def xk (hv:jj K H1 p vs)(rr:cM K H1 l vs):Dk K H1 (U' K p) l (λ_=>True):=by intro i M H ts m _;have vg:=Un.ZO ts hv;have Lb:=rr.ts ts;have hl:=Lb.length;refine#[λh=>#[vs,vg,by lia],λh=>#[vs,vs[i]'(by lia),vg,by simp],λv H' hi y=> ?_];let⟨rfl,y⟩:=y;have:=y vs vg;let⟨d,hd,r⟩:=Lb.back this;exact#[br.refl _,m,d,hd,r]
def xl:Dk K H1 (TL lo n) (eM lo n) (λ_=>True):=by
 intro i M H ts m _;have hl:(eM lo n).length=n:=by simp[eM]
 rw[hl];refine#[λh=>Nat.le_of_eq h,λh=>h,λv H' hi y=> ?_];let⟨rfl,y⟩:=y;refine#[br.refl _,m,wi (lo+i),?_,by rw[y];exact WR.v];simp[eM,hi]
instance {t:TE}{a:WE} [ia:IE K t a]:II K (Gd K t) (F' a) where
 imp:=λρ M σ H q R o h k=>ia.imp ρ M σ H _ _ o h λx M1 v H1 ⟨p,l,e,hp,h1⟩ t1 m1 r1=>by subst e;let⟨vs,hv,rr⟩:=m1 p _ hp;exact#[p,r1.eq,#[vs,gB.of hv],k l _ _ M1 H1 h1 t1 m1 tE]
instance {t:TE}{a:WE} [ia:IE K t a]:II K (RY K t) (RS a) where
 imp:=λρ M σ H q R o h k=>ia.imp ρ M σ H _ _ o h λx M1 v H1 ⟨l,e,h1⟩ t1 m1 r1=>by subst e;let⟨p,vs,rfl,hv,rr⟩:=r1.tup;exact#[p,rfl,#[vs,hv],k l _ _ M1 H1 h1 t1 m1 (xk hv rr)]
instance {t:TA}{a:WA} [ia:IA K t a]:II K (Lz t) (F9 a) where
 imp:=λρ M σ H q R o h k=>ia.imp ρ M σ H _ _ o h λxs M1 v H1 ⟨j,e,h0,h1,h2⟩ t1 m1 r1=>by subst e;let⟨v,rfl,r⟩:=r1.one;cases r.eq;exact#[j,rfl,h0,h1,k _ _ _ M1 H1 h2 t1 m1 xl]
instance {t:TA}{a:WA} [ia:IA K t a]:II K (Ly t) (F8 a) where
 imp:=λρ M σ H q R o h k=>ia.imp ρ M σ H _ _ o h λxs M1 v H1 ⟨i,j,e,h0,h2⟩ t1 m1 r1=>by subst e;let⟨v,u,rfl,r,r'⟩:=r1.two;cases r.eq;cases r'.eq;exact#[i,j,rfl,h0,k _ _ _ M1 H1 h2 t1 m1 xl]
noncomputable def Q0 (it:WI)(g:WG)(b:WS):WS:=λD ρ M=>it ρ M λxs keep M1=> ∃I:Nat ->dN ->Mp ->Prop,I 0 ρ M1 /\ (∀i ρ M,i<=xs.length ->I i ρ M ->keep M) /\(∀i x ρ M,xs[i]? =some x ->I i ρ M ->g x ρ M λρ2 M2=>b {D with nx:=I (i+1),ct:=I (i+1),bk:=D.nx} ρ2 M2) /\ ∀ρ M,I xs.length ρ M ->D.nx ρ M
instance {ti:TI}{g:TG}{t:TS}{it:WI}{w:WG}{b:WS} [ii:II K ti it] [ig:IG K g w] [ib:IS K t b]:IS K (QN ti g t) (Q0 it w b) where
 imp :=λρ M σ H D' D o h e=>ii.imp ρ M σ H _ _ o h λxs keep J M1 H1 h1 t1 m1 ok=>by
  let⟨I,h0,hk,hs,hd⟩:=h1;refine#[λi m σ' H'=>m=xs.length - i /\ i<=xs.length /\ ∃ρ' M',I i ρ' M' /\ br H1 H' /\ Ok K ρ' M' σ' H',#[_,rfl,dj _,ρ,M1,h0,br.refl _,o.mv t1 m1],?_];rintro i m σ' H' ⟨rfl,hi,ρ',M',hI,ts,o'⟩;let⟨k1,k2,k3⟩:=ok i M' H' ts o'.hp (hk i ρ' M' hi hI);by_cases fM:i<xs.length
  .refine .inr #[k2 fM,λσ2 H2=> ∃ρ2 M2,I (i+1) ρ2 M2 /\ br H1 H2 /\ Ok K ρ2 M2 σ2 H2,λσ2 H2 ⟨ρ2,M2,a,b,c⟩=>#[xs.length - (i+1),by lia,rfl,fM,ρ2,M2,a,b,c],λv H2 y=> ?_];let⟨ty,my,x,hx,r⟩:=k3 v H2 fM y;replace ts:=ts.trans ty;refine ig.imp x v ρ' M' σ' H2 _ _ (o'.mv ty my) r (hs i x ρ' M' hx hI) λρ3 M3 σ3 H3 h3 t3 o3=>ib.imp ρ3 M3 σ3 H3 _ _ o3 h3 #[λa b c d h t o=>#[a,b,h,(ts.trans t3).trans t,o],λa b c d h t=>e.rt a b c d h (t1.trans ((ts.trans t3).trans t)),λa b c d h t=>e.nx a b c d h (t1.trans ((ts.trans t3).trans t)),λa b c d h t o=>#[a,b,h,(ts.trans t3).trans t,o]]
  .have e':i=xs.length:=by lia
   subst e';exact .inl #[k1 rfl,e.nx ρ' M' σ' H' (hd ρ' M' hI) (t1.trans ts) o']
noncomputable def yM (c:WT)(b:WS):WS:=λD ρ M=> ∃I:Nat ->dN ->Mp ->Prop,(∃m,I m ρ M) /\ ∀m ρ M,I m ρ M ->c ρ M λk M1=>if k=true then b {D with nx:=λρ' M'=> ∃m',m'<m /\ I m' ρ' M',ct:=λρ' M'=> ∃m',m'<m /\ I m' ρ' M',bk:=D.nx} ρ M1 else D.nx ρ M1
instance {tc:TT}{t:TS}{c:WT}{b:WS} [ic:IT K tc c] [ib:IS K t b]:IS K (Eh tc t) (yM c b) where
 imp :=λρ M σ H D' D o ⟨I,⟨m,h0⟩,hs⟩ e=>by
  refine#[λm σ' H'=> ∃ρ' M',I m ρ' M' /\ br H H' /\ Ok K ρ' M' σ' H',#[m,ρ,M,h0,br.refl _,o],?_];rintro m σ' H' ⟨ρ',M',hI,ts,o'⟩;refine ic.imp ρ' M' σ' H' _ _ o' (hs m ρ' M' hI) λk M1 H1 h1 t1 m1=> ?_;cases k with
  | true=>simp![bW] at h1 ⊢;refine#[λσ2 H2=> ∃m',m'<m /\ ∃ρ2 M2,I m' ρ2 M2 /\ br H H2 /\ Ok K ρ2 M2 σ2 H2,λσ2 H2 h=>h,ib.imp ρ' M1 σ' H1 _ _ (o'.mv t1 m1) h1 #[λa b c d ⟨m',hm,h⟩ t o=>#[m',hm,a,b,h,(ts.trans t1).trans t,o],λa b c d h t=>e.rt a b c d h ((ts.trans t1).trans t),λa b c d h t=>e.nx a b c d h ((ts.trans t1).trans t),λa b c d ⟨m',hm,h⟩ t o=>#[m',hm,a,b,h,(ts.trans t1).trans t,o]]]
  | false=>simp![az,bj] at h1 ⊢;exact e.nx ρ' M1 σ' H1 h1 (ts.trans t1) (o'.mv t1 m1)
noncomputable def capρ (own:Nat)(fr:List Nat)(ρ:dN):dN:=List.replicate own none++fr.map λj=>(ρ[j]?).join
def HV.Qa (own:Nat)(fr:List Nat)(h:HV K H ρ σ):HV K H (capρ own fr ρ) (jW own fr σ):=by
 unfold capρ jW;refine#[by simp,λi x e=> ?_];by_cases hi:i<own
 .rw[a7 (by simpa using hi),List.getElem?_replicate,aj hi] at e;cases e
 .rw [aU (by simpa using hi),cj,ay] at e;rw[aU (by simpa using hi),cj,ay];cases ej:fr[i - own]? with
  | none=>rw[ej] at e;cases e
  | some j=>
   rw[ej] at e;simp![Option.map_some,Option.some.injEq] at e ⊢;cases er:ρ[j]? with
   | none=>rw[er] at e;cases e
   | some z=>rw[er] at e;simp![Option.join_some] at e;subst e;let⟨v,ev,r⟩:=h.2 j x er;exact#[v,by rw[ev];rfl,r]
noncomputable def Kz (it:WI)(own:Nat)(fr:List Nat)(g:WG)(c:WT)(el:WE):WE:=λρ M q=>it ρ M λxs keep M1=>xs.length<=sizeLine /\ ∀p,M1 p=none -> ∃I:Nat ->List W ->Mp ->Prop,I 0 [] (um M1 p (.lst [])) /\(∀i ys M,i<=xs.length ->I i ys M ->keep M /\ M p=some (.lst ys) /\ ys.length<=i) /\(∀i x ys M,xs[i]? =some x ->I i ys M ->g x (capρ own fr ρ) M λρ2 M2=>c ρ2 M2 λb M3=>if b=true then el ρ2 M3 λy M4=>M4 p=some (.lst ys) /\ I (i+1) (ys++ [y]) (um M4 p (.lst (ys++ [y]))) else I (i+1) ys M3) /\∀ys M,I xs.length ys M ->q (wr p) M
instance {ti:TI}{own:Nat}{fr:List Nat}{g:TG}{tc:TT}{te:TE}{it:WI}{w:WG}{c:WT}{el:WE} [ii:II K ti it] [ig:IG K g w] [ic:IT K tc c] [ie:IE K te el]:IE K (Eu ti own fr g tc te) (Kz it own fr w c el) where
 imp :=λρ M σ H q Q o h k=>ii.imp ρ M σ H _ _ o h λxs keep J M1 H1 h1 t1 m1 ok=>by
  intro p hp;let⟨hz,h1⟩:=h1;let⟨I,h0,hk,hs,hd⟩:=h1 p (m1.fresh hp);have tp:=L2.fm.ts (cw (o:= .lst []) hp);refine#[λi m vs H'=>m=xs.length - i /\ i<=xs.length /\ ∃ys M',I i ys M' /\ br H1 H' /\ gD K M' H' /\ cM K H' ys vs /\ H' p=some (.lst vs),#[_,rfl,dj _,[],_,h0,tp,m1.oo hp cM.nil,cM.nil,cn],?_];rintro i m vs H' ⟨rfl,hi,ys,M',hI,ts,m',rv,hv⟩;refine#[hv,?_];let⟨kp,hMp,hyl⟩:=hk i ys M' hi hI;let⟨k1,k2,k3⟩:=ok i M' H' ts m' kp;by_cases fM:i<xs.length
  .refine .inr #[k2 fM,by rw[rv.length];lia,λv H2 y=> ?_];let⟨ty,my,x,hx,r⟩:=k3 v H2 fM y;replace ts:=ts.trans ty;have oc:Ok K (capρ own fr ρ) M' (jW own fr σ) H2:=#[(o.env.ts (t1.trans ts)).Qa own fr,my]
   refine ig.imp x v _ M' _ H2 _ _ oc r (hs i x ys M' hx hI) λρ3 M3 σ3 H3 h3 t3 o3=>ic.imp ρ3 M3 σ3 H3 _ _ o3 h3 λb M4 H4 h4 t4 m4=> ?_;cases b with
   | true=>simp![bW] at h4 ⊢;refine ie.imp ρ3 M4 σ3 H4 _ _ (o3.mv t4 m4) h4 λz M5 u H5 ⟨h5,h6⟩ t5 m5 r5=> ?_;let⟨KD,Gh,IB⟩:=m5 p _ h5;have Vt:=(t3.trans t4).trans t5;have t6:=lH (u:= .lst (KD++ [u])) Gh;exact#[KD,Gh,by rw[IB.length];lia,_,by lia,rfl,fM,_,_,h6,(ts.trans Vt).trans t6,m5.putL Gh (IB.snoc r5),(IB.snoc r5).ts t6,cn]
   | false=>simp![az,bj] at h4 ⊢;let⟨KD,Gh,IB⟩:=m4 p _ (hk (i+1) ys M4 fM h4).2.1;exact#[KD,_,by lia,rfl,fM,_,_,h4,ts.trans (t3.trans t4),m4,IB,Gh]
  .have e':i=xs.length:=by lia
   subst e';exact .inl #[k1 rfl,k _ M' _ H' (hd ys M' hI) (t1.trans ts) m' WR.v]
noncomputable def Qg:WT:=λ_ M q=>q true M
instance:IT K QG Qg where
 imp:=λρ M σ H q Q o h k=>k _ M H h (br.refl H) o.hp
end
section
variable {K:PySem.W.Frag}
theorem gD.sub (s:Sm M M')(m:gD K M' H):gD K M H:=λa o e=>m a o (s a o e)
def mU (F:DF K x qual st f fd)(S:b7 N ps (aP st))(len: ∀vs M q,p vs M q ->vs.length=ps.length)(nv: ∀ (eI:Value) (A:Around) (outer:List Env) (s:Shared) (H:Hp) (E:XK),gi k (A.deeper (PyProof.Rows.envOfC qual (aP st) s.heap.objs.size f eI)) ->∃t,yq (fg i0 P w K mg base N qual (aP st) f eI A outer s H E).NQ (ff st) t /\ ∃w',IS K t w' /\ ∀vs M q,p vs M q ->w' {nx:=λ_ M'=> ∃M0,Sm M0 M' /\ q wn M0,rt:=λx M'=> ∃M0,Sm M0 M' /\ q x M0} (vs.map some++List.replicate (N.length - vs.length) none) M): d3 P w K mg base i0 (k+1) f fd ps (kX K p):=by
 have h:=okW (K:=K) (P:=P) (w:=w) (mg:=mg) (base:=base) (k:=k) (p:=λvs M q=> ∃q',p vs M q' /\ q=λx M'=> ∃M0,Sm M0 M' /\ q' x M0) F S (λvs M q ⟨q',h,_⟩=>len vs M q' h) λeI A outer s H E hr=>by let⟨t,h1,w',h2,h3⟩:=nv eI A outer s H E hr;refine#[t,w',h1,h2,?_];rintro vs M q ⟨q',h,rfl⟩;exact h3 vs M q' h
 refine h.imp λvs H Q E ⟨xs,M,q,r,m,hp,hk⟩=>#[xs,M,_,r,m,#[q,hp,rfl],?_]
 rintro x M' v H' ⟨M0,s,hq⟩ ts m' r';exact hk x M0 v H' hq ts (m'.sub s) r'
def CZ {xs:List W}{keep:Mp ->Prop}{M1:Mp}{g:WG}{c:WT}{el:WE}{q:WK}(f:W ->Option W)(hz:xs.length<=sizeLine)(jv: ∀M,Sm M1 M ->keep M)(hs: ∀ (i:Nat) x,xs[i]? =some x -> ∀ (M:Mp) (N:Option W ->Mp ->Prop),Sm M1 M ->N (f x) M ->g x (capρ own fr ρ) M λρ2 M2=>c ρ2 M2 λb M3=>if b=true then el ρ2 M3 λy M4=>N (some y) M4 else N none M3)(hq: ∀p,M1 p=none ->q (wr p) (um M1 p (.lst (xs.filterMap f)))): xs.length<=sizeLine /\ ∀p,M1 p=none -> ∃I:Nat ->List W ->Mp ->Prop,I 0 [] (um M1 p (.lst [])) /\(∀i ys M,i<=xs.length ->I i ys M ->keep M /\ M p=some (.lst ys) /\ ys.length<=i) /\(∀i x ys M,xs[i]? =some x ->I i ys M ->g x (capρ own fr ρ) M λρ2 M2=>c ρ2 M2 λb M3=>if b=true then el ρ2 M3 λy M4=>M4 p=some (.lst ys) /\ I (i+1) (ys++ [y]) (um M4 p (.lst (ys++ [y]))) else I (i+1) ys M3) /\∀ys M,I xs.length ys M ->q (wr p) M:=by
 refine#[hz,λp hp=>#[λi ys M=>M=um M1 p (.lst ys) /\ ys=(xs.take i).filterMap f,#[rfl,by simp],?_,?_,?_]]
 .rintro i ys M hi ⟨rfl,rfl⟩;refine#[jv _ (cu hp),um_same,aZ (List.length_filterMap_le _ _) ?_];rw[bu];lia
 .rintro i x ys M hx ⟨rfl,rfl⟩;refine hs i x hx _ (λo M4=>match o with
  | some y=>M4 p=some (.lst ((xs.take i).filterMap f)) /\ (um M4 p (.lst ((xs.take i).filterMap f++ [y]))=um M1 p (.lst ((xs.take i).filterMap f++ [y])) /\ (xs.take i).filterMap f++ [y]=(xs.take (i+1)).filterMap f)
  | none=>M4=um M1 p (.lst ((xs.take i).filterMap f)) /\ (xs.take i).filterMap f=(xs.take (i+1)).filterMap f) (cu hp) ?_
  have e:xs.take (i+1)=xs.take i++ [x]:=by rw[bC,hx];rfl
  cases hf:f x with
  | none=>exact#[rfl,by rw[e,List.filterMap_append];simp[hf]]
  | some y=>exact#[um_same,um_um,by rw[e,List.filterMap_append];simp[hf]]
 .rintro ys M ⟨rfl,rfl⟩;rw[cb];exact hq p hp
mutual
noncomputable def CY:W ->Option Dt
 | .v .dY=>some .dY
 | .v (.bl b)=>some (.bl b)
 | .v (.int i)=>some (.int i)
 | .v (.str x)=>some (.str x)
 | .v _=>none
 | .tup l=>(oH l).map .tup
noncomputable def oH:List W ->Option (List Dt)
 | []=>some []
 | x::r=>match CY x,oH r with
  | some d,some l=>some (d::l)
  | _,_=>none
end
mutual
theorem E1 {H:Hp}: ∀ (x:W) (d:Dt) (v:V),CY x=some d ->WR K H x v ->Rep K H d v
 | .v y,d,v,e,r=>by cases r.eq;cases y<;>simp![CY,Option.some.injEq,reduceCtorEq] at e<;>subst e<;>simp![Rep]
 | .tup l,d,v,e,r=>by
  let⟨a,vs,rfl,hv,rr⟩:=r.tup;simp![CY] at e;cases hd:oH l with
  | none=>rw[hd] at e;cases e
  | some ds=>rw[hd] at e;cases e;simp![Rep];exact#[a,vs,rfl,hv,uP l ds vs hd rr]
theorem uP {H:Hp}: ∀ (l:List W) (ds:List Dt) (vs:List V),oH l=some ds ->cM K H l vs ->gC K H ds vs
 | [],ds,vs,e,r=>by simp![oH] at e;cases e;simp![cM] at r;simp![gC];exact r
 | x ::l,ds,vs,e,r=>by
  simp![oH] at e;cases hx:CY x with
  | none=>rw[hx] at e;cases e
  | some d=>
   cases hl:oH l with
   | none=>rw[hx,hl] at e;cases e
   | some ds'=>rw[hx,hl] at e;cases e;simp![cM] at r;let⟨v,t,rfl,r1,r2⟩:=r;simp![gC];exact#[v,t,rfl,E1 x d v hx r1,uP l ds' t hl r2]
end
noncomputable def DR (M:Mp)(x:W)(d:Dt):Prop:=CY x=some d \/ ∃a l ds,x=wr a /\ M a=some (.lst l) /\ oH l=some ds /\ d= .lst ds
def DR.rep (m:gD K M H)(r:WR K H x v)(h:DR M x d):Rep K H d v:=by
 rcases h with h | ⟨a,l,ds,rfl,hl,e,rfl⟩
 .exact E1 x d v h r
 .cases r.eq;let⟨vs,hv,rr⟩:=m a _ hl;simp![Rep];exact#[a,vs,rfl,gB.of hv,uP l ds vs e rr]
noncomputable def Qp:vP:=λx y M q=> ∃d e,DR M x d /\ DR M y e /\ pU d e=true /\ yo d<=50 /\ q (wb (rZ d e)) M
instance:IR K (Ra K) Qp where
 imp:=by rintro x y v u M H q Q m r1 r2 ⟨d,e,h1,h2,h3,h4,h⟩ k;exact#[d,e,h3,h4,h1.rep m r1,h2.rep m r2,k _ M _ H h (br.refl H) m WR.v]
instance {r r':R2}{t u s:TE}{a b c:WE}{w w':vP} [ir:IR K r w] [ir':IR K r' w'] [ia:IE K t a] [ib:IE K u b] [ic:IE K s c]:IE K (Ew r r' t u s) (D0 w w' a b c) where
 imp :=λρ M σ H q Q o h k=>ia.imp ρ M σ H _ _ o h λx M1 v H1 h1 t1 m1 r1=>ib.imp ρ M1 σ H1 _ _ (o.mv t1 m1) h1 λy M2 u H2 h2 t2 m2 r2=>ir.imp x y v u M2 H2 _ _ m2 (r1.ts t2) r2 h2 λz M3 v3 H3 ⟨kk,e,h3⟩ t3 m3 r3=>by
  subst e;refine#[kk,r3.eq,?_];cases kk with
  | true=>simp![bW] at h3 ⊢;exact ic.imp ρ M3 σ H3 _ _ (o.mv ((t1.trans t2).trans t3) m3) h3 λy4 M4 v4 H4 h4 t4 m4 r4=>ir'.imp y y4 u v4 M4 H4 _ _ m4 (r2.ts (t3.trans t4)) r4 h4 λz5 M5 v5 H5 h5 t5 m5 r5=>k z5 M5 v5 H5 h5 ((((t1.trans t2).trans t3).trans t4).trans t5) m5 r5
  | false=>simp![az,bj] at h3 ⊢;exact k _ M3 _ H3 h3 ((t1.trans t2).trans t3) m3 WR.v
noncomputable def DO:yp:=λxs M q=> ∃ (d:Addr) (kvs:List (Key×W)) (ks:List Int),xs= [wr d] /\ M d=some (.dK kvs) /\ kvs.map (·.1)=ks.map Sum.inl /\ ks.length<=sizeLine /\ ∀ (p:Addr) (ns:List Int),M p=none ->ns.Perm ks ->ns.Pairwise (· <= ·) ->q (wr p) (um M p (.lst (ns.map wi)))
instance:IC K wA DO where
 imp:=by rintro xs v M H q Q m r1 ⟨d,kvs,ks,rfl,hd,hk,hl,h⟩ k;let⟨v,rfl,r⟩:=r1.one;cases r.eq;let⟨vs,hv,rr⟩:=m d _ hd;exact#[d,vs,ks,rfl,hv,by rw[rr.keys];exact hk,hl,λp ns hp h1 h2=>k _ _ _ _ (h p ns (m.fresh hp) h1 h2) (L2.fm.ts (cw hp)) (m.oo hp (cM.ofInts ns)) WR.v]
noncomputable def Lg:List V ->Hp ->VK ->Prop:=λxs H Q=>(∃i,xs= [.int i] /\ Q (.int i) H) \/ ∃k,xs= [.bl k] /\ Q (.int (if k then 1 else 0)) H
theorem C6:gg X (.type "int") Lg:=C7
noncomputable def Kw:yp:=λxs M q=>(∃i,xs= [wi i] /\ q (wi i) M) \/ ∃k,xs= [wb k] /\ q (wi (if k then 1 else 0)) M
instance:IC K Lg Kw where
 imp:=by
  rintro xs v M H q Q m r1 h k;rcases h with⟨i,rfl,h⟩ | ⟨b,rfl,h⟩ <;>let⟨v,rfl,r⟩:=r1.one<;>cases r.eq
  .exact .inl #[i,rfl,k _ M _ H h (br.refl H) m WR.v]
  .exact .inr #[b,rfl,k _ M _ H h (br.refl H) m WR.v]
noncomputable def Qj:vP:=λx y M q=> ∃a k l,x=wr a /\ y=wi k /\ M a=some (.lst l) /\ -(2 ^ 63) <=k /\ k<2 ^ 63 /\ l.length*k.toNat<=sizeLine /\ ∀p,M p=none ->q (wr p) (um M p (.lst (List.replicate k.toNat l).flatten))
theorem cM.rep {H:Hp}{l:List W}{vs:List V}(r:cM K H l vs): ∀n:Nat,cM K H (List.replicate n l).flatten (List.replicate n vs).flatten
 | 0=>cM.nil
 | n+1=>by rw[cT,cT,List.flatten_cons,List.flatten_cons];exact r.append (cM.rep r n)
instance:IR K Q7 Qj where
 imp:=by rintro x y v u M H q Q m r1 r2 ⟨a,n,l,rfl,rfl,hl,h0,h1,h2,h⟩ k;cases r1.eq;cases r2.eq;let⟨vs,hv,rr⟩:=m a _ hl;exact#[a,n,vs,rfl,rfl,hv,h0,h1,by rw[rr.length];exact h2,λp hp=>k _ _ _ _ (h p (m.fresh hp)) (L2.fm.ts (cw hp)) (m.oo hp (rr.rep _)) WR.v]
end
end WL
namespace WL
open PySem L2
theorem atI_0 {l:List α}:iY (a::l) 0=some a:=gz (j:=0) (by rfl)
theorem atI_1 {l:List α}:iY (a::b::l) 1=some b:=gz (j:=1) (by rfl)
theorem atI_2 {l:List α}:iY (a::b::c::l) 2=some c:=gz (j:=2) (by rfl)
theorem atI_3 {l:List α}:iY (a::b::c::d::l) 3=some d:=gz (j:=3) (by rfl)
def ixN_1:qR (n+1+1) 1=some 1:=by unfold qR;rw[aj (by lia),aj (by lia)];rfl
def ixN_2:qR (n+1+1+1) 2=some 2:=by unfold qR;rw[aj (by lia),aj (by lia)];rfl
def ixN_3:qR (n+1+1+1+1) 3=some 3:=by unfold qR;rw[aj (by lia),aj (by lia)];rfl
def Ka {a:α}(h0:0<=i)(h:l[i.toNat]? =some a):iY l i=some a:=by
 have e:((i.toNat:Nat):Int)=i:=by lia
 rw[<- e];exact gz h
theorem pM {P:Mp ->Prop}(h:P M): ∃M0,Sm M0 M /\ P M0:=#[M,Sm.refl M,h]
noncomputable def NB (d:Addr)(M M':Mp):Prop:= ∀b,b≠d ->M' b=M b
theorem NB.refl (d:Addr)(M:Mp):NB d M M:=λ_ _=>rfl
theorem NB.trans {M M1 M2:Mp}(a:NB d M M1)(b:NB d M1 M2):NB d M M2:=λc n=>(b c n).trans (a c n)
theorem NB.put:NB d M (um M d o):=λb n=>aN n
noncomputable def Dr (M:Mp)(d l:Addr):Prop:= ∃ (ns:List Int) (i c s:Int),M d=some (.lst [wr l,wi i,wi c,wi s]) /\ M l=some (.lst (ns.map wi)) /\ 0<=i /\ d≠l
def Dr.put (h:Dr M d l)(hp:M p=none):Dr (um M p o) d l:=by let⟨ns,i,c,s,h1,h2,h3,h4⟩:=h;exact#[ns,i,c,s,by rw[aN (dM h1 hp)];exact h1,by rw[aN (dM h2 hp)];exact h2,h3,h4]
def Dr.Rh (h:Dr M d l)(hd:p≠d)(hl:p≠l):Dr (um M p o) d l:=by let⟨ns,i,c,s,h1,h2,h3,h4⟩:=h;exact#[ns,i,c,s,by rw[aN hd.symm];exact h1,by rw[aN hl.symm];exact h2,h3,h4]
def Dr.ne (h:Dr M d l)(hp:M p=none):p≠d /\ p≠l:=by let⟨ns,i,c,s,h1,h2,h3,h4⟩:=h;exact#[(dM h1 hp).symm,(dM h2 hp).symm]
noncomputable def cQ (q:Int×Int):W:= .tup [wi q.1,wi q.2]
noncomputable def fG (l:List (Int×Int)):W:= .tup (l.map cQ)
def pairs_at {l:List (Int×Int)}{i:Nat}(h:(l.map cQ)[i]? =some x): ∃q,l[i]? =some q /\ x=cQ q:=by
 rw[ay] at h;cases e:l[i]? with
 | none=>rw[e] at h;cases h
 | some q=>rw[e] at h;cases h;exact#[q,rfl,rfl]
def nj {l:List Int}{i:Nat}(h:(l.map wi)[i]? =some x): ∃n,l[i]? =some n /\ x=wi n:=by
 rw[ay] at h;cases e:l[i]? with
 | none=>rw[e] at h;cases h
 | some q=>rw[e] at h;cases h;exact#[q,rfl,rfl]
def ka (h:(eM lo n)[i]? =some x):i<n /\ x=wi (lo+i):=by
 unfold eM at h;rw[ay] at h;by_cases hi:i<n
 .rw[List.getElem?_range hi] at h;cases h;exact#[hi,rfl]
 .rw[cD (by simpa using hi)] at h;cases h
def iy:(eM lo n).length=n:=by simp[eM]
noncomputable def lstK (o:Option MO)(k:List W ->Prop):Prop:= ∃l,o=some (.lst l) /\ k l
noncomputable def jJ (o:Option MO)(k:List (Key×W) ->Prop):Prop:= ∃l,o=some (.dK l) /\ k l
noncomputable def rT {α:Type}(o:Option α)(k:α ->Prop):Prop:= ∃a,o=some a /\ k a
noncomputable def gL (C Q:Prop):Prop:=C /\ Q
noncomputable def iM (b:Bool)(A B:Prop):Prop:=if b=true then A else B
noncomputable def pD (M:Mp)(k:Addr ->Prop):Prop:= ∀p,M p=none ->k p
noncomputable def Hg (p:jS)(xs:List W)(M:Mp)(q:WK):Prop:=p xs M q
noncomputable def RV (x:W)(M:Mp)(q:Bool ->Mp ->Prop):Prop:= ∃k,x=wb k /\ q k M
noncomputable def gG (x:W)(k:Addr ->Prop):Prop:= ∃a,x=wr a /\ k a
noncomputable def tupK (x:W)(k:List W ->Prop):Prop:= ∃l,x= .tup l /\ k l
noncomputable def MQ (M:Mp)(x:W)(k:Bool ->Prop):Prop:= ∃b,H0 M x b /\ k b
noncomputable def oz (x:W)(k:Key ->Prop):Prop:= ∃y,x=fQ y /\ k y
noncomputable def Ta (xs:List W)(keep:Mp ->Prop)(g:WG)(b:WS)(D:jz)(ρ:dN)(M1:Mp):Prop:= ∃I:Nat ->dN ->Mp ->Prop,I 0 ρ M1 /\ (∀i ρ M,i<=xs.length ->I i ρ M ->keep M) /\(∀i x ρ M,xs[i]? =some x ->I i ρ M ->g x ρ M λρ2 M2=>b {D with nx:=I (i+1),ct:=I (i+1),bk:=D.nx} ρ2 M2) /\ ∀ρ M,I xs.length ρ M ->D.nx ρ M
noncomputable def ua (xs:List W)(keep:Mp ->Prop)(own:Nat)(fr:List Nat)(g:WG)(c:WT)(el:WE)(ρ:dN)(M1:Mp)(q:WK):Prop:=xs.length<=sizeLine /\ ∀p,M1 p=none -> ∃I:Nat ->List W ->Mp ->Prop,I 0 [] (um M1 p (.lst [])) /\(∀i ys M,i<=xs.length ->I i ys M ->keep M /\ M p=some (.lst ys) /\ ys.length<=i) /\(∀i x ys M,xs[i]? =some x ->I i ys M ->g x (capρ own fr ρ) M λρ2 M2=>c ρ2 M2 λb M3=>if b=true then el ρ2 M3 λy M4=>M4 p=some (.lst ys) /\ I (i+1) (ys++ [y]) (um M4 p (.lst (ys++ [y]))) else I (i+1) ys M3) /\∀ys M,I xs.length ys M ->q (wr p) M
noncomputable def DL (c:WT)(b:WS)(D:jz)(ρ:dN)(M:Mp):Prop:=yM c b D ρ M
section
variable {M:Mp}{ρ:dN}{q:WK}{a b c:WE}{D:jz}
def lstK_e:lstK (some (.lst l)) k=k l:=by apply propext;constructor;(· rintro⟨_,h,k⟩;cases h;exact k);(· intro h;exact#[_,rfl,h])
def dicK_e:jJ (some (.dK l)) k=k l:=by apply propext;constructor;(· rintro⟨_,h,k⟩;cases h;exact k);(· intro h;exact#[_,rfl,h])
def optK_e {k:α ->Prop}:rT (some x) k=k x:=by apply propext;constructor;(· rintro⟨_,h,k⟩;cases h;exact k);(· intro h;exact#[_,rfl,h])
def andK_e:gL True Q=Q:=by simp[gL]
def iteK_t:iM true A B=A:=by simp[iM]
def iteK_f:iM false A B=B:=by simp[iM]
def isB_e {q:Bool ->Mp ->Prop}:RV (.v (.bl k)) M q=q k M:=by apply propext;constructor;(· rintro⟨_,h,k⟩;cases h;exact k);(· intro h;exact#[_,rfl,h])
def refK_e:gG (.v (.ref x)) k=k x:=by apply propext;constructor;(· rintro⟨_,h,k⟩;cases h;exact k);(· intro h;exact#[_,rfl,h])
def tupK_e:tupK (.tup x) k=k x:=by apply propext;constructor;(· rintro⟨_,h,k⟩;cases h;exact k);(· intro h;exact#[_,rfl,h])
def keyK_i:oz (.v (.int i)) k=k (.inl i):=by apply propext;constructor;(· rintro⟨y,h,z⟩;cases y<;>cases h;exact z);(· intro h;exact#[.inl i,rfl,h])
theorem wVar_0 {r:dN}:gE 0 (some x::r) M q=q x M:=rfl
theorem wVar_1 {r:dN}:gE 1 (x0::some x::r) M q=q x M:=rfl
theorem wVar_2 {r:dN}:gE 2 (x0::x1::some x::r) M q=q x M:=rfl
theorem wVar_3 {r:dN}:gE 3 (x0::x1::x2::some x::r) M q=q x M:=rfl
theorem wVar_4 {r:dN}:gE 4 (x0::x1::x2::x3::some x::r) M q=q x M:=rfl
theorem wVar_5 {r:dN}:gE 5 (x0::x1::x2::x3::x4::some x::r) M q=q x M:=rfl
theorem wVar_6 {r:dN}:gE 6 (x0::x1::x2::x3::x4::x5::some x::r) M q=q x M:=rfl
theorem wVar_7 {r:dN}:gE 7 (x0::x1::x2::x3::x4::x5::x6::some x::r) M q=q x M:=rfl
theorem wVar_8 {r:dN}:gE 8 (x0::x1::x2::x3::x4::x5::x6::x7::some x::r) M q=q x M:=rfl
theorem wVar_9 {r:dN}:gE 9 (x0::x1::x2::x3::x4::x5::x6::x7::x8::some x::r) M q=q x M:=rfl
theorem wVar_10 {r:dN}:gE 10 (x0::x1::x2::x3::x4::x5::x6::x7::x8::x9::some x::r) M q=q x M:=rfl
theorem wVar_11 {r:dN}:gE 11 (x0::x1::x2::x3::x4::x5::x6::x7::x8::x9::pB::some x::r) M q=q x M:=rfl
theorem wVar_12 {r:dN}:gE 12 (x0::x1::x2::x3::x4::x5::x6::x7::x8::x9::pB::qg::some x::r) M q=q x M:=rfl
theorem wVar_13 {r:dN}:gE 13 (x0::x1::x2::x3::x4::x5::x6::x7::x8::x9::pB::qg::rM::some x::r) M q=q x M:=rfl
theorem wVar_14 {r:dN}:gE 14 (x0::x1::x2::x3::x4::x5::x6::x7::x8::x9::pB::qg::rM::ur::some x::r) M q=q x M:=rfl
theorem wVar_15 {r:dN}:gE 15 (x0::x1::x2::x3::x4::x5::x6::x7::x8::x9::pB::qg::rM::ur::vQ::some x::r) M q=q x M:=rfl
theorem wVar_16 {r:dN}:gE 16 (x0::x1::x2::x3::x4::x5::x6::x7::x8::x9::pB::qg::rM::ur::vQ::yr::some x::r) M q=q x M:=rfl
theorem wVar_17 {r:dN}:gE 17 (x0::x1::x2::x3::x4::x5::x6::x7::x8::x9::pB::qg::rM::ur::vQ::yr::BL::some x::r) M q=q x M:=rfl
theorem wVar_18 {r:dN}:gE 18 (x0::x1::x2::x3::x4::x5::x6::x7::x8::x9::pB::qg::rM::ur::vQ::yr::BL::DH::some x::r) M q=q x M:=rfl
theorem wVar_19 {r:dN}:gE 19 (x0::x1::x2::x3::x4::x5::x6::x7::x8::x9::pB::qg::rM::ur::vQ::yr::BL::DH::HX::some x::r) M q=q x M:=rfl
theorem wVar_20 {r:dN}:gE 20 (x0::x1::x2::x3::x4::x5::x6::x7::x8::x9::pB::qg::rM::ur::vQ::yr::BL::DH::HX::Mt::some x::r) M q=q x M:=rfl
theorem wVar_21 {r:dN}:gE 21 (x0::x1::x2::x3::x4::x5::x6::x7::x8::x9::pB::qg::rM::ur::vQ::yr::BL::DH::HX::Mt::Qc::some x::r) M q=q x M:=rfl
theorem wVar_22 {r:dN}:gE 22 (x0::x1::x2::x3::x4::x5::x6::x7::x8::x9::pB::qg::rM::ur::vQ::yr::BL::DH::HX::Mt::Qc::Vg::some x::r) M q=q x M:=rfl
theorem wVar_23 {r:dN}:gE 23 (x0::x1::x2::x3::x4::x5::x6::x7::x8::x9::pB::qg::rM::ur::vQ::yr::BL::DH::HX::Mt::Qc::Vg::x22::some x::r) M q=q x M:=rfl
theorem wC_e:wC x ρ M q=q x M:=rfl
theorem wOp_e:Zz r a b ρ M q=a ρ M λx M1=>b ρ M1 λy M2=>r x y M2 q:=rfl
theorem wUn_e:Zw r a ρ M q=a ρ M λx M1=>r x M1 q:=rfl
def wI_e:wI C g (.v (.int i)) (.v (.int j)) M q=gL (C i j) (q (.v (g i j)) M):=by apply propext;constructor;(· rintro⟨_,_,h1,h2,k⟩;cases h1;cases h2;exact k);(· intro h;exact#[_,_,rfl,rfl,h])
def wI0_e:ZC g (.v (.int i)) (.v (.int j)) M q=q (.v (g i j)) M:=by apply propext;constructor;(· rintro⟨_,_,h1,h2,k⟩;cases h1;cases h2;exact k);(· intro h;exact#[_,_,rfl,rfl,h])
def wU_e:wU g (.v (.int i)) M q=q (.v (g i)) M:=by apply propext;constructor;(· rintro⟨_,h,k⟩;cases h;exact k);(· intro h;exact#[_,rfl,h])
def wEq_i:ZD (.v (.int i)) (.v (.int j)) M q=q (wb (decide (i=j))) M:=by apply propext;constructor;(· rintro⟨_,_,h1,h2,_,k⟩;cases h1;cases h2;simpa using k);(· intro h;exact#[_,_,rfl,rfl,rfl,by simpa using h])
def wNe_i:ZA (.v (.int i)) (.v (.int j)) M q=q (wb (!decide (i=j))) M:=by apply propext;constructor;(· rintro⟨_,_,h1,h2,_,k⟩;cases h1;cases h2;simpa using k);(· intro h;exact#[_,_,rfl,rfl,rfl,by simpa using h])
theorem wTest_e {q:Bool ->Mp ->Prop}:DN a ρ M q=a ρ M λx M1=>RV x M1 q:=rfl
theorem wAnd_e {a b:WT}{q:Bool ->Mp ->Prop}:Qr a b ρ M q=a ρ M λc M1=>iM c (b ρ M1 q) (q false M1):=rfl
theorem wOr_e {a b:WT}{q:Bool ->Mp ->Prop}:Zy a b ρ M q=a ρ M λc M1=>iM c (q true M1) (b ρ M1 q):=rfl
theorem wNot_e {a:WT}{q:Bool ->Mp ->Prop}:Ql a ρ M q=a ρ M λc M1=>q (!c) M1:=rfl
theorem wAndV_e:KC a b ρ M q=a ρ M λx M1=>RV x M1 λc M1=>iM c (b ρ M1 q) (q (wb false) M1):=rfl
theorem wNotV_e:Kt a ρ M q=a ρ M λx M1=>RV x M1 λc M1=>q (wb (!c)) M1:=rfl
theorem wChain_e:D0 r r' a b c ρ M q=a ρ M λx M1=>b ρ M1 λy M2=>r x y M2 λz M3=>RV z M3 λk M3=>iM k (c ρ M3 λy' M4=>r' y y' M4 q) (q (wb false) M3):=rfl
theorem wNil_e {q:List W ->Mp ->Prop}:Qm ρ M q=q [] M:=rfl
theorem wCons_e {q:List W ->Mp ->Prop}:Ky a r ρ M q=a ρ M λx M1=>r ρ M1 λxs M2=>q (x::xs) M2:=rfl
theorem wTup_e {a:WA}:Qh a ρ M q=a ρ M λxs M1=>gL (xs.length<=sizeLine) (q (.tup xs) M1):=rfl
theorem wLst_e {a:WA}:Qn a ρ M q=a ρ M λxs M1=>gL (xs.length<=sizeLine) (pD M1 λp=>q (wr p) (um M1 p (.lst xs))):=rfl
def wIxL_e:Ib (.v (.ref x)) (.v (.int i)) M q=lstK (M x) λl=>rT (iY l i) λu=>q u M:=by apply propext;constructor;(· rintro⟨_,l,_,u,h1,h2,h3,h4,k⟩;cases h1;cases h2;exact#[l,h3,u,h4,k]);(· rintro⟨l,h3,u,h4,k⟩;exact#[_,l,_,u,rfl,rfl,h3,h4,k])
def wIxT_e:Ia (.tup l) (.v (.int i)) M q=rT (iY l i) λu=>q u M:=by apply propext;constructor;(· rintro⟨_,_,u,h1,h2,h4,k⟩;cases h1;cases h2;exact#[u,h4,k]);(· rintro⟨u,h4,k⟩;exact#[_,_,u,rfl,rfl,h4,k])
theorem wNoPart_e {q:Option Int ->Mp ->Prop}:zS ρ M q=q none M:=rfl
noncomputable def zq (x:W)(k:Int ->Prop):Prop:= ∃i,x=wi i /\ k i
def intK_e:zq (.v (.int i)) k=k i:=by apply propext;constructor;(· rintro⟨_,h,k⟩;cases h;exact k);(· intro h;exact#[_,rfl,h])
theorem wPart_e {q:Option Int ->Mp ->Prop}:Ks a ρ M q=a ρ M λx M1=>zq x λi=>q (some i) M1:=rfl
theorem wSl_e:Zx r a lo hi ρ M q=a ρ M λx M1=>lo ρ M1 λl M2=>hi ρ M2 λu M3=>r x l u M3 q:=rfl
def wSlL_e:Qi (.v (.ref x)) lo hi M q=lstK (M x) λl=>pD M λp=>q (wr p) (um M p (.lst (pO l lo hi))):=by apply propext;constructor;(· rintro⟨_,l,h1,h3,k⟩;cases h1;exact#[l,h3,k]);(· rintro⟨l,h3,k⟩;exact#[_,l,rfl,h3,k])
theorem wCB_e {a:WA}:ZE r a ρ M q=a ρ M λxs M1=>r xs M1 q:=rfl
theorem wCall_e {a:WA}:KA p a ρ M q=a ρ M λxs M1=>Hg p xs M1 q:=rfl
def wLen_l:Mw [.v (.ref x)] M q=lstK (M x) λl=>q (wi l.length) M:=by apply propext;constructor;(· rintro(⟨_,l,h1,h2,k⟩ | ⟨_,h1,_⟩);(· cases h1;exact#[l,h2,k]);cases h1);(· rintro⟨l,h3,k⟩;exact .inl #[_,l,rfl,h3,k])
def wLen_t:Mw [.tup l] M q=q (wi l.length) M:=by apply propext;constructor;(· rintro(⟨_,l,h1,h2,k⟩ | ⟨_,h1,k⟩);(· cases h1);cases h1;exact k);(· intro k;exact .inr #[l,rfl,k])
def wAbs_e:Qt [.v (.int i)] M q=q (wi (if i<0 then -i else i)) M:=by apply propext;constructor;(· rintro⟨_,h,k⟩;cases h;exact k);(· intro h;exact#[_,rfl,h])
def wMax2_e:Ku [.v (.int i), .v (.int j)] M q=q (wi (if j >i then j else i)) M:=by apply propext;constructor;(· rintro⟨_,_,h,k⟩;cases h;exact k);(· intro h;exact#[_,_,rfl,h])
def wListOf_l:uw [.v (.ref x)] M q=lstK (M x) λl=>pD M λp=>q (wr p) (um M p (.lst l)):=by apply propext;constructor;(· rintro⟨l,⟨_,h1,h2⟩ | h1,k⟩;(· cases h1;exact#[l,h2,k]);cases h1);(· rintro⟨l,h3,k⟩;exact#[l, .inl #[_,rfl,h3],k])
def wListOf_t:uw [.tup l] M q=pD M λp=>q (wr p) (um M p (.lst l)):=by apply propext;constructor;(· rintro⟨l,⟨_,h1,h2⟩ | h1,k⟩;(· cases h1);cases h1;exact k);(· intro k;exact#[l, .inr rfl,k])
def wTupleOf_l:vR [.v (.ref x)] M q=lstK (M x) λl=>q (.tup l) M:=by apply propext;constructor;(· rintro⟨l,⟨_,h1,h2⟩ | h1,k⟩;(· cases h1;exact#[l,h2,k]);cases h1);(· rintro⟨l,h3,k⟩;exact#[l, .inl #[_,rfl,h3],k])
def wIsX_e:Qo K [x, .v (.ty T)] M q=rT (tyW M x) λt=>rT (PySem.W.kitOne K t (.type T)) λb=>q (wb b) M:=by apply propext;constructor;(· rintro⟨_,_,t,b,h1,h2,h3,k⟩;cases h1;exact#[t,h2,b,h3,k]);(· rintro⟨t,h2,b,h3,k⟩;exact#[_,_,t,b,rfl,h2,h3,k])
theorem kit_int_int:PySem.W.kitOne K (.type "int") (.type "int")=some true:=rfl
theorem kit_int_bool:PySem.W.kitOne K (.type "int") (.type "bool")=some false:=rfl
theorem kit_int_str:PySem.W.kitOne K (.type "int") (.type "str")=some false:=rfl
theorem kit_int_tuple:PySem.W.kitOne K (.type "int") (.type "tuple")=some false:=rfl
theorem kit_int_list:PySem.W.kitOne K (.type "int") (.type "list")=some false:=rfl
theorem kit_bool_int:PySem.W.kitOne K (.type "bool") (.type "int")=some true:=rfl
theorem kit_bool_bool:PySem.W.kitOne K (.type "bool") (.type "bool")=some true:=rfl
theorem kit_bool_str:PySem.W.kitOne K (.type "bool") (.type "str")=some false:=rfl
theorem kit_bool_tuple:PySem.W.kitOne K (.type "bool") (.type "tuple")=some false:=rfl
theorem kit_bool_list:PySem.W.kitOne K (.type "bool") (.type "list")=some false:=rfl
theorem kit_str_int:PySem.W.kitOne K (.type "str") (.type "int")=some false:=rfl
theorem kit_str_bool:PySem.W.kitOne K (.type "str") (.type "bool")=some false:=rfl
theorem kit_str_str:PySem.W.kitOne K (.type "str") (.type "str")=some true:=rfl
theorem kit_str_tuple:PySem.W.kitOne K (.type "str") (.type "tuple")=some false:=rfl
theorem kit_str_list:PySem.W.kitOne K (.type "str") (.type "list")=some false:=rfl
theorem kit_NoneType_int:PySem.W.kitOne K (.type "NoneType") (.type "int")=some false:=rfl
theorem kit_NoneType_bool:PySem.W.kitOne K (.type "NoneType") (.type "bool")=some false:=rfl
theorem kit_NoneType_str:PySem.W.kitOne K (.type "NoneType") (.type "str")=some false:=rfl
theorem kit_NoneType_tuple:PySem.W.kitOne K (.type "NoneType") (.type "tuple")=some false:=rfl
theorem kit_NoneType_list:PySem.W.kitOne K (.type "NoneType") (.type "list")=some false:=rfl
theorem kit_tuple_int:PySem.W.kitOne K (.type "tuple") (.type "int")=some false:=rfl
theorem kit_tuple_bool:PySem.W.kitOne K (.type "tuple") (.type "bool")=some false:=rfl
theorem kit_tuple_str:PySem.W.kitOne K (.type "tuple") (.type "str")=some false:=rfl
theorem kit_tuple_tuple:PySem.W.kitOne K (.type "tuple") (.type "tuple")=some true:=rfl
theorem kit_tuple_list:PySem.W.kitOne K (.type "tuple") (.type "list")=some false:=rfl
theorem kit_list_int:PySem.W.kitOne K (.type "list") (.type "int")=some false:=rfl
theorem kit_list_bool:PySem.W.kitOne K (.type "list") (.type "bool")=some false:=rfl
theorem kit_list_str:PySem.W.kitOne K (.type "list") (.type "str")=some false:=rfl
theorem kit_list_tuple:PySem.W.kitOne K (.type "list") (.type "tuple")=some false:=rfl
theorem kit_list_list:PySem.W.kitOne K (.type "list") (.type "list")=some true:=rfl
def wBM_e {b:WA}:Vm r a b ρ M q=a ρ M λx M1=>gG x λp=>lstK (M1 p) λ_=>b ρ M1 λxs M2=>r x xs M2 q:=by unfold Vm IsL gG lstK;congr 1;funext x M1;apply propext;constructor;(· rintro⟨⟨p,l,h1,h2⟩,k⟩;exact#[p,h1,l,h2,k]);(· rintro⟨p,h1,l,h2,k⟩;exact#[#[p,l,h1,h2],k])
def wAppend_e:zW (.v (.ref x)) [y] M q=lstK (M x) λl=>gL (l.length<sizeLine) (q wn (um M x (.lst (l++ [y])))):=by apply propext;constructor;(· rintro⟨_,l,_,h1,h2,h3,h4,k⟩;cases h1;cases h2;exact#[l,h3,h4,k]);(· rintro⟨l,h3,h4,k⟩;exact#[_,l,_,rfl,rfl,h3,h4,k])
def wExtend_e:zV (.v (.ref x)) [.v (.ref y)] M q=lstK (M x) λl=>lstK (M y) λl'=>gL (l.length+l'.length<=sizeLine) (q wn (um M x (.lst (l++l')))):=by apply propext;constructor;(· rintro⟨_,_,l,l',h1,h2,h3,h4,h5,k⟩;cases h1;cases h2;exact#[l,h3,l',h4,h5,k]);(· rintro⟨l,h3,l',h4,h5,k⟩;exact#[_,_,l,l',rfl,rfl,h3,h4,h5,k])
def wCat_e:Qq (.v (.ref x)) (.v (.ref y)) M q=lstK (M x) λl=>lstK (M y) λl'=>gL (l.length+l'.length<=sizeLine) (pD M λp=>q (wr p) (um M p (.lst (l++l')))):=by apply propext;constructor;(· rintro⟨_,_,l,l',h1,h2,h3,h4,h5,k⟩;cases h1;cases h2;exact#[l,h3,l',h4,h5,k]);(· rintro⟨l,h3,l',h4,h5,k⟩;exact#[_,_,l,l',rfl,rfl,h3,h4,h5,k])
def wRep_e:Qj (.v (.ref x)) (.v (.int n)) M q=lstK (M x) λl=>gL (-(2 ^ 63) <=n /\ n<2 ^ 63 /\ l.length*n.toNat<=sizeLine) (pD M λp=>q (wr p) (um M p (.lst (List.replicate n.toNat l).flatten))):=by apply propext;constructor;(· rintro⟨_,_,l,h1,h2,h3,h4,h5,h6,k⟩;cases h1;cases h2;exact#[l,h3,#[h4,h5,h6],k]);(· rintro⟨l,h3,⟨h4,h5,h6⟩,k⟩;exact#[_,_,l,rfl,rfl,h3,h4,h5,h6,k])
theorem wTruth_e {q:Bool ->Mp ->Prop}:DM a ρ M q=a ρ M λx M1=>MQ M1 x λk=>q k M1:=rfl
theorem wDNew_e:Kx ρ M q=pD M λp=>q (wr p) (um M p (.dK [])):=rfl
def wDGet_e:DY a b ρ M q=a ρ M λx M1=>b ρ M1 λy M2=>gG x λp=>oz y λk=>jJ (M2 p) λkvs=>rT (fh kvs k) λz=>q z M2:=by unfold DY gG oz jJ rT;congr 1;funext x M1;congr 1;funext y M2;apply propext;constructor;(· rintro⟨p,kvs,k,z,h1,h2,h3,h4,h⟩;exact#[p,h1,k,h3,kvs,h2,z,h4,h]);(· rintro⟨p,h1,k,h3,kvs,h2,z,h4,h⟩;exact#[p,kvs,k,z,h1,h2,h3,h4,h])
def wDNotIn_e:uy a b ρ M q=a ρ M λy M1=>b ρ M1 λx M2=>gG x λp=>oz y λk=>jJ (M2 p) λkvs=>q (wb (!(fh kvs k).isSome)) M2:=by unfold uy gG oz jJ;congr 1;funext x M1;congr 1;funext y M2;apply propext;constructor;(· rintro⟨p,kvs,k,h1,h2,h3,h⟩;exact#[p,h1,k,h3,kvs,h2,h]);(· rintro⟨p,h1,k,h3,kvs,h2,h⟩;exact#[p,kvs,k,h1,h2,h3,h])
def wDGet2_e:yw a b c ρ M q=a ρ M λx M1=>gG x λp=>jJ (M1 p) λ_=>b ρ M1 λy M2=>c ρ M2 λz M3=>oz y λk=>jJ (M3 p) λkvs=>q ((fh kvs k).getD z) M3:=by
 unfold yw gG oz jJ;congr 1;funext x M1;apply propext;constructor
 .rintro⟨p,h1,⟨kvs,h2⟩,h⟩;refine#[p,h1,kvs,h2,?_];have e:(λy M2=>c ρ M2 λz M3=> ∃kvs k,M3 p=some (.dK kvs) /\ y=fQ k /\ q ((fh kvs k).getD z) M3)=(λy M2=>c ρ M2 λz M3=> ∃k,y=fQ k /\ ∃kvs,M3 p=some (.dK kvs) /\ q ((fh kvs k).getD z) M3):=by
   funext y M2;congr 1;funext z M3;apply propext;constructor
   .rintro⟨a,b,c,d,e⟩;exact#[b,d,a,c,e]
   .rintro⟨b,d,a,c,e⟩;exact#[a,b,c,d,e]
  rw[<- e];exact h
 .rintro⟨p,h1,kvs,h2,h⟩;refine#[p,h1,#[kvs,h2],?_];have e:(λy M2=>c ρ M2 λz M3=> ∃kvs k,M3 p=some (.dK kvs) /\ y=fQ k /\ q ((fh kvs k).getD z) M3)=(λy M2=>c ρ M2 λz M3=> ∃k,y=fQ k /\ ∃kvs,M3 p=some (.dK kvs) /\ q ((fh kvs k).getD z) M3):=by
   funext y M2;congr 1;funext z M3;apply propext;constructor
   .rintro⟨a,b,c,d,e⟩;exact#[b,d,a,c,e]
   .rintro⟨b,d,a,c,e⟩;exact#[a,b,c,d,e]
  rw[e];exact h
theorem cG {a b:WS}:Iw a b D ρ M=a {nx:=b D,rt:=D.rt,bk:=D.bk,ct:=D.ct} ρ M:=rfl
theorem sNext_e:K6 D ρ M=D.nx ρ M:=rfl
theorem sCont_e:La D ρ M=D.ct ρ M:=rfl
theorem sDrop_e:K7 a D ρ M=a ρ M λ_ M1=>D.nx ρ M1:=rfl
theorem sRet_e:QZ a D ρ M=a ρ M D.rt:=rfl
theorem sRetN_e:K5 D ρ M=D.rt wn M:=rfl
theorem sIf_e {c:WT}{a b:WS}:Ub c a b D ρ M=c ρ M λk M1=>iM k (a D ρ M1) (b D ρ M1):=rfl
theorem sAsg_e:Q2 a g D ρ M=a ρ M λx M1=>g x ρ M1 D.nx:=rfl
noncomputable def MF (xs:List W)(k:W ->W ->Prop):Prop:= ∃x y,xs= [x,y] /\ k x y
def twoK_e:MF [x,y] k=k x y:=by apply propext;constructor;(· rintro⟨_,_,h,z⟩;cases h;exact z);(· intro h;exact#[_,_,rfl,h])
def sDPutW_e:yN a b c D ρ M=c ρ M λz M1=>a ρ M1 λx M2=>b ρ M2 λy M3=>gG x λp=>oz y λk=>jJ (M3 p) λkvs=>gL (kvs.length<sizeLine) (D.nx ρ (um M3 p (.dK (jq kvs k z)))):=by unfold yN gG oz jJ gL;congr 1;funext z M1;congr 1;funext x M2;congr 1;funext y M3;apply propext;constructor;(· rintro⟨p,kvs,k,h1,h2,h3,h4,h⟩;exact#[p,h1,k,h3,kvs,h2,h4,h]);(· rintro⟨p,h1,k,h3,kvs,h2,h4,h⟩;exact#[p,kvs,k,h1,h2,h3,h4,h])
theorem sFor_e {b:WS}:Q0 it g b D ρ M=it ρ M λxs keep M1=>Ta xs keep g b D ρ M1:=rfl
theorem sWhile_e {c:WT}{b:WS}:yM c b D ρ M=DL c b D ρ M:=rfl
theorem vName_e {q:dN ->Mp ->Prop}:KG i x ρ M q=q (ρ.set i (some x)) M:=rfl
def vNil_e {q:dN ->Mp ->Prop}:MB [] ρ M q=q ρ M:=by simp[MB]
def vCons_e {a:WG}{b:Kf}{q:dN ->Mp ->Prop}:KH a b (x::r) ρ M q=a x ρ M λρ' M'=>b r ρ' M' q:=by apply propext;constructor;(· rintro⟨_,_,h,k⟩;cases h;exact k);(· intro h;exact#[_,_,rfl,h])
def vTup_e {a:Kf}{q:dN ->Mp ->Prop}:Qu n a (.tup l) ρ M q=gL (l.length=n) (a l ρ M q):=by apply propext;constructor;(· rintro⟨_,h,k⟩;cases h;exact k);(· intro h;exact#[_,rfl,h])
theorem vSub_e {q:dN ->Mp ->Prop}:Qv a b s x ρ M q=a ρ M λo M1=>b ρ M1 λi M2=>s o i x M2 λM3=>q ρ M3:=rfl
def wSetL_e {q:Mp ->Prop}:Kr (.v (.ref x)) (.v (.int i)) z M q=lstK (M x) λl=>rT (qR l.length i) λj=>q (um M x (.lst (l.set j z))):=by apply propext;constructor;(· rintro⟨_,l,_,j,h1,h2,h3,h4,k⟩;cases h1;cases h2;exact#[l,h3,j,h4,k]);(· rintro⟨l,h3,j,h4,k⟩;exact#[_,l,_,j,rfl,rfl,h3,h4,k])
def jList_e {q:List W ->(Mp ->Prop) ->Mp ->Prop}:F' a ρ M q=a ρ M λx M1=>gG x λp=>lstK (M1 p) λl=>q l (λM'=>M' p=some (.lst l)) M1:=by unfold F' gG lstK;congr 1;funext x M1;apply propext;constructor;(· rintro⟨p,l,h1,h2,h⟩;exact#[p,h1,l,h2,h]);(· rintro⟨p,h1,l,h2,h⟩;exact#[p,l,h1,h2,h])
theorem jTup_e {q:List W ->(Mp ->Prop) ->Mp ->Prop}:RS a ρ M q=a ρ M λx M1=>tupK x λl=>q l (λ_=>True) M1:=rfl
noncomputable def FD (xs:List W)(k:W ->Prop):Prop:= ∃x,xs= [x] /\ k x
def oneK_e:FD [x] k=k x:=by apply propext;constructor;(· rintro⟨_,h,k⟩;cases h;exact k);(· intro h;exact#[_,rfl,h])
def jRng1_e {a:WA}{q:List W ->(Mp ->Prop) ->Mp ->Prop}:F9 a ρ M q=a ρ M λxs M1=>FD xs λx=>zq x λj=>gL (-(2 ^ 62) <=j /\ j<2 ^ 62) (q (eM 0 j.toNat) (λ_=>True) M1):=by unfold F9 FD zq gL;congr 1;funext x M1;apply propext;constructor;(· rintro⟨j,h1,h2,h3,h⟩;exact#[_,h1,j,rfl,#[h2,h3],h]);(· rintro⟨_,h1,j,rfl,⟨h2,h3⟩,h⟩;exact#[j,h1,h2,h3,h])
def jRng2_e {a:WA}{q:List W ->(Mp ->Prop) ->Mp ->Prop}:F8 a ρ M q=a ρ M λxs M1=>MF xs λx y=>zq x λi=>zq y λj=>gL (-(2 ^ 62) <=i /\ i<2 ^ 62 /\ -(2 ^ 62) <=j /\ j<2 ^ 62) (q (eM i (j - i).toNat) (λ_=>True) M1):=by unfold F8 MF zq gL;congr 1;funext x M1;apply propext;constructor;(· rintro⟨i,j,h1,h2,h⟩;exact#[_,_,h1,i,rfl,j,rfl,h2,h]);(· rintro⟨_,_,h1,i,rfl,j,rfl,h2,h⟩;exact#[i,j,h1,h2,h])
theorem wComp_e {c:WT}:Kz it own fr g c el ρ M q=it ρ M λxs keep M1=>ua xs keep own fr g c el ρ M1 q:=rfl
theorem wYes_e {q:Bool ->Mp ->Prop}:Qg ρ M q=q true M:=rfl
end
def sl1:(1<=sizeLine)=True:=by rw[cO];decide
def sl2:(2<=sizeLine)=True:=by rw[cO];decide
def sl3:(3<=sizeLine)=True:=by rw[cO];decide
def sl4:(4<=sizeLine)=True:=by rw[cO];decide
def sl0:(0<=sizeLine)=True:=by simp
def d8 [Decidable c](h1:c ->A)(h2:¬c ->B):iM (decide c) A B:=by
 unfold iM;by_cases h:c
 .rw[aj (c5 h)];exact h1 h
 .rw[ah (by simpa using h)];exact h2 h
def zo [Decidable c](h1:¬c ->A)(h2:c ->B):iM (!decide c) A B:=by
 unfold iM;by_cases h:c
 .rw[ah (by simpa using h)];exact h2 h
 .rw[aj (by simpa using h)];exact h1 h
theorem jK {M1:Mp}(f:W ->Option W)(hz:xs.length<=sizeLine)(jv: ∀M,Sm M1 M ->keep M)(hs: ∀ (i:Nat) x,xs[i]? =some x -> ∀ (M:Mp) (N:Option W ->Mp ->Prop),Sm M1 M ->N (f x) M ->g x (capρ own fr ρ) M λρ2 M2=>c ρ2 M2 λb M3=>iM b (el ρ2 M3 λy M4=>N (some y) M4) (N none M3))(hq: ∀p,M1 p=none ->q (wr p) (um M1 p (.lst (xs.filterMap f)))):ua xs keep own fr g c el ρ M1 q:=CZ f hz jv hs hq
end WL
namespace WL
noncomputable def hold (f:dN ->Mp ->Prop)(ρ:dN)(M:Mp):Prop:=f ρ M
theorem gw (h:f ρ M):hold f ρ M:=h
theorem cy:Iw a b D ρ M=a {nx:=hold (b D),rt:=D.rt,bk:=D.bk,ct:=D.ct} ρ M:=rfl
theorem zt (Mid:dN ->Mp ->Prop)(rest: ∀ρ M,Mid ρ M ->R D ρ M)(h: ∀N:dN ->Mp ->Prop,(∀ρ M,Mid ρ M ->N ρ M) ->Ub c a b {nx:=N,rt:=D.rt,bk:=D.bk,ct:=D.ct} ρ M):Iw (Ub c a b) R D ρ M:=h _ rest
theorem ip (I:Nat ->dN ->Mp ->Prop)(h0:I 0 ρ M1)(hk: ∀i ρ M,i<=xs.length ->I i ρ M ->keep M)(hs: ∀i x ρ M,xs[i]? =some x ->I i ρ M -> ∀N:dN ->Mp ->Prop,(∀ρ' M',I (i+1) ρ' M' ->N ρ' M') ->g x ρ M λρ2 M2=>b {nx:=N,rt:=D.rt,bk:=D.nx,ct:=N} ρ2 M2)(hd: ∀ρ M,I xs.length ρ M ->D.nx ρ M):Ta xs keep g b D ρ M1:=#[I,h0,hk,λi x ρ M hx hI=>hs i x ρ M hx hI _ λ_ _ h=>h,hd]
theorem pS (I:Nat ->dN ->Mp ->Prop)(m:Nat)(h0:I m ρ M)(hs: ∀m ρ M,I m ρ M -> ∀N:dN ->Mp ->Prop,(∀m' ρ' M',m'<m ->I m' ρ' M' ->N ρ' M') ->c ρ M λk M1=>iM k (b {nx:=N,rt:=D.rt,bk:=D.nx,ct:=N} ρ M1) (D.nx ρ M1)):DL c b D ρ M:=#[I,#[m,h0],λm ρ M hI=>hs m ρ M hI _ λm' _ _ hm h=>#[m',hm,h]]
end WL
namespace WP
open PySem L2 WL
noncomputable abbrev Pt:=List (Int×Int)
noncomputable def look:Pt ->Int ->Int
 | [],_=>0
 | q::r,x=>if q.1=x then q.2 else look r x
noncomputable def d7 (p:Int)(l:Pt):Prop:=(∀q∈l,0<q.2 /\ q.2<p) /\ l.Pairwise (λa b=>a.1<b.1)
noncomputable def dH:Pt ->Int ->Int
 | [],_=>0
 | q::r,x=>(if q.1=x then q.2 else 0)+dH r x
def fA (a b:Pt)(x:Int):dH (a++b) x=dH a x+dH b x:=by
 induction a with
 | nil=>simp[dH]
 | cons q r ih=>rw[List.cons_append,dH,dH,ih];lia
def ml (a:Pt)(q:Int×Int)(x:Int):dH (a++ [q]) x=dH a x+if q.1=x then q.2 else 0:=by rw[fA];simp[dH]
def eU (h: ∀q∈l,q.1≠x):look l x=0:=by
 induction l with
 | nil=>rfl
 | cons q r ih=>rw[look,ah (h q (by simp)),ih λz hz=>h z (by simp[hz])]
def z7 (h: ∀q∈l,q.1≠x):dH l x=0:=by
 induction l with
 | nil=>rfl
 | cons q r ih=>rw[dH,ah (h q (by simp)),ih λz hz=>h z (by simp[hz])];rfl
def mq (h:l.Pairwise (λa b=>a.1<b.1))(x:Int):dH l x=look l x:=by
 induction l with
 | nil=>rfl
 | cons q r ih=>
  rw[a4] at h;rw[dH,look,ih h.2];by_cases e:q.1=x
  .rw[aj e,aj e,eU]
   .lia
   .intro z hz;have:=h.1 z hz;lia
  .rw[ah e,ah e];lia
def ju (h:l.Pairwise (λa b=>a.1<b.1))(hq:q∈l):look l q.1=q.2:=by
 induction l with
 | nil=>cases hq
 | cons a r ih=>
  rw[a4] at h;rw[look];rcases av.mp hq with rfl | hq
  .rw[aj rfl]
  .rw[ah (by have:=h.1 q hq;lia),ih h.2 hq]
def jG (hp:0<p)(h:d7 p l)(x:Int):0<=look l x /\ look l x<p:=by
 induction l with
 | nil=>rw[look];lia
 | cons q r ih=>
  rw[look];split
  .have:=h.1 q (by simp);lia
  .exact ih #[λz hz=>h.1 z (by simp[hz]),(a4.mp h.2).2]
theorem d7.tail {r:Pt}(h:d7 p (q::r)):d7 p r:=#[λz hz=>h.1 z (by simp[hz]),(a4.mp h.2).2]
theorem d7.nil:d7 p []:=#[λ_ h=>absurd h (by simp),List.Pairwise.nil]
theorem uX {p p':Int}: ∀ {a b:Pt},d7 p a ->d7 p' b ->(∀x,look a x=look b x) ->a=b
 | [],[],_,_,_=>rfl
 | [],q::r,_,hb,h=>by have:=h q.1;rw[look,look,aj rfl] at this;have:=hb.1 q (by simp);lia
 | q::r,[],ha,_,h=>by have:=h q.1;rw[look,look,aj rfl] at this;have:=ha.1 q (by simp);lia
 | q ::r,q'::r',ha,hb,h=>by
  have pa:=ha.1 q (by simp);have pb:=hb.1 q' (by simp);have sa:=(a4.mp ha.2).1;have sb:=(a4.mp hb.2).1;have e1:q.1=q'.1:=by
   rcases Int.lt_trichotomy q.1 q'.1 with l | l | l
   .have e:=h q.1;rw[look,aj rfl,look,ah (by lia),eU (λz hz=>by have:=sb z hz;lia)] at e;lia
   .exact l
   .have e:=h q'.1;rw[look,ah (by lia),eU (λz hz=>by have:=sa z hz;lia),look,aj rfl] at e;lia
  have e2:q.2=q'.2:=by have e:=h q.1;rw[look,aj rfl,look,aj e1.symm] at e;exact e
  have e:r=r':=uX ha.tail hb.tail λx=>by
   by_cases hx:q.1=x
   .rw[eU (λz hz=>by have:=sa z hz;lia),eU (λz hz=>by have:=sb z hz;lia)]
   .have e:=h x;rwa [look,ah hx,look,ah (by lia)] at e
  rw[e,Prod.ext e1 e2]
noncomputable def iS (p:Int):Pt ->Int ->Int ->Pt
 | [],x,s=>if s % p=0 then [] else [(x,s % p)]
 | q::r,x,s=>if x<q.1 then(if s % p=0 then q::r else(x,s % p)::q::r) else if x=q.1 then(if(q.2+s) % p=0 then r else(x,(q.2+s) % p)::r) else q::iS p r x s
noncomputable def iU (p:Int)(ps:Pt):Pt:=ps.foldl (λa q=>iS p a q.1 q.2) []
def uj (h:z∈iS p l x s):z.1=x \/ z∈l:=by
 induction l with
 | nil=>
  rw[iS] at h;split at h
  .cases h
  .left;rw[af.mp h]
 | cons q r ih=>
  rw[iS] at h;split at h
  .split at h
   .exact .inr h
   .rcases av.mp h with h | h
    .left;rw[h]
    .exact .inr h
  .split at h
   .split at h
    .exact .inr (by simp[h])
    .rcases av.mp h with h | h
     .left;rw[h]
     .exact .inr (by simp[h])
   .rcases av.mp h with h | h
    .exact .inr (by simp[h])
    .rcases ih h with h | h
     .exact .inl h
     .exact .inr (by simp[h])
def y8 {p s:Int}(hp:0<p)(h:¬s % p=0):0<s % p /\ s % p<p:=by have:=cF s (show p≠0 by lia);have:=cf s hp;lia
def Df (hp:0<p)(h:d7 p l):d7 p (iS p l x s):=by
 induction l with
 | nil=>
  rw[iS];split
  .exact d7.nil
  .rename_i hs;exact#[λq hq=>by rw[af.mp hq];exact y8 hp hs,by simp]
 | cons q r ih=>
  have sa:=(a4.mp h.2).1;rw[iS];split
  .rename_i hx;split
   .exact h
   .rename_i hs;refine#[λz hz=> ?_,a4.mpr #[λz hz=> ?_,h.2]]
    .rcases av.mp hz with rfl | hz
     .exact y8 hp hs
     .exact h.1 z hz
    .rcases av.mp hz with rfl | hz
     .exact hx
     .have:=sa z hz;show x<z.1;lia
  .split
   .rename_i hx;split
    .exact h.tail
    .rename_i hs;refine#[λz hz=> ?_,a4.mpr #[λz hz=> ?_,h.tail.2]]
     .rcases av.mp hz with rfl | hz
      .exact y8 hp hs
      .exact h.1 z (by simp[hz])
     .have:=sa z hz;show x<z.1;lia
   .rename_i h1 h2;have ih':=ih h.tail;refine#[λz hz=> ?_,a4.mpr #[λz hz=> ?_,ih'.2]]
    .rcases av.mp hz with rfl | hz
     .exact h.1 z (by simp)
     .exact ih'.1 z hz
    .rcases uj hz with e | hz
     .lia
     .exact sa z hz
def zd (hp:0<p)(h:d7 p l)(y:Int):look (iS p l x s) y=if y=x then(look l x+s) % p else look l y:=by
 induction l with
 | nil=>
  rw[iS];by_cases hs:s % p=0
  .rw[aj hs];simp[look,hs]
  .rw[ah hs];by_cases e:y=x
   .subst e;simp[look]
   .rw[ah e];simp[look,a9 e]
 | cons q r ih=>
  have sa:=(a4.mp h.2).1;have qr:=h.1 q (by simp);rw[iS];split
  .rename_i hx;have hn:look (q::r) x=0:=eU (λz hz=>by
    rcases av.mp hz with rfl | hz
    .lia
    .have:=sa z hz;lia)
   rw[hn,bB];split
   .rename_i hs;by_cases e:y=x
    .rw[aj e,e,hn,hs]
    .rw[ah e]
   .by_cases e:y=x
    .rw[aj e,look,aj e.symm]
    .rw[ah e,look,ah (a9 e)]
  .split
   .rename_i hx;have hq:look (q::r) x=q.2:=by rw[look,aj hx.symm]
    rw[hq];split
    .rename_i hs;by_cases e:y=x
     .rw[aj e,hs,eU (λz hz=>by have:=sa z hz;lia)]
     .rw[ah e,look,ah (by lia)]
    .by_cases e:y=x
     .rw[aj e,look,aj e.symm]
     .rw[ah e,look,ah (a9 e),look,ah (by lia)]
   .rename_i h1 h2;rw[look,ih h.tail];by_cases e:y=x
    .rw[aj e,aj e,ah (by lia)];conv=>rhs;rw[look,ah (by lia)]
    .rw[ah e,ah e,look]
def mV (p:Int)(ps:Pt)(q:Int×Int):iU p (ps++ [q])=iS p (iU p ps) q.1 q.2:=by unfold iU;rw[List.foldl_append];rfl
def fH {α:Type}{P:List α ->Prop}(h0:P [])(h1: ∀l a,P l ->P (l++ [a]))(l:List α):P l:=by
 have key: ∀n:Nat, ∀l:List α,l.length=n ->P l:=by
  intro n;induction n with
  | zero=>intro l hl;rw[cZ.mp hl];exact h0
  | succ n ih=>
   intro l hl;have dw:l≠ []:=by intro e;rw[e] at hl;cases hl
   rw[<- List.dropLast_concat_getLast dw];exact h1 _ _ (ih _ (by rw[List.length_dropLast];lia))
 exact key _ l rfl
def gN (hp:0<p)(ps:Pt):d7 p (iU p ps):=by
 induction ps using fH with
 | h0=>exact d7.nil
 | h1 l a ih=>rw[mV];exact Df hp ih
def kh (hp:0<p)(ps:Pt)(x:Int):look (iU p ps) x=dH ps x % p:=by
 induction ps using fH with
 | h0=>simp[iU,look,dH]
 | h1 l a ih=>
  rw[mV,zd hp (gN hp l),ml];by_cases e:x=a.1
  .subst e;rw[aj rfl,aj rfl,ih,Int.emod_add_emod]
  .rw[ah e,ah (a9 e),ih,bE]
def Dg:(iS p l x s).length<=l.length+1:=by
 induction l with
 | nil=>rw[iS];split<;>simp
 | cons q r ih=>
  rw[iS];split
  .split<;>simp
  .split
   .split<;>simp<;>lia
   .simp;exact ih
def Jl (p:Int)(ps:Pt):(iU p ps).length<=ps.length:=by
 induction ps using fH with
 | h0=>simp[iU]
 | h1 l a ih=>rw[mV,aH];exact aZ Dg (by simp;exact ih)
def FJ (h:z∈iU p ps): ∃q∈ps,q.1=z.1:=by
 induction ps using fH generalizing z with
 | h0=>simp[iU] at h
 | h1 l a ih=>
  rw[mV] at h;rcases uj h with e | h
  .exact#[a,by simp,e.symm]
  .let⟨q,h1,h2⟩:=ih h;exact#[q,by simp[h1],h2]
noncomputable def fP (m:Pt):List (Key×W):=m.map λq=>((Sum.inl q.1:Key),wi q.2)
noncomputable def kZ (m:Pt)(x v:Int):Pt:=if(m.any λq=>decide (q.1=x))=true then m.map (λq=>if q.1=x then(q.1,v) else q) else m++ [(x,v)]
def nO {m:Pt}:(m.any λq=>decide (q.1=x))=true↔x∈m.map (·.1):=by
 rw[List.any_eq_true,ag];constructor
 .rintro⟨q,hq,e⟩;exact#[q,hq,by simpa using e]
 .rintro⟨q,hq,e⟩;exact#[q,hq,by simpa using e]
def vf (a b:Int):decide ((Sum.inl a:Key)=Sum.inl b)=decide (a=b):=by simp
def pX (m:Pt)(x v:Int):jq (fP m) (.inl x) (wi v)=fP (kZ m x v):=by
 unfold jq kZ;have e:((fP m).any λkv=>decide (kv.1=(Sum.inl x:Key)))=m.any λq=>decide (q.1=x):=by unfold fP;rw[List.any_map];congr 1;funext q;exact vf _ _
 rw[e];split
 .unfold fP;rw[aE,aE];apply bD;intro q _;show(if(Sum.inl q.1:Key)=Sum.inl x then((Sum.inl q.1:Key),wi v) else(Sum.inl q.1,wi q.2))=((Sum.inl (if q.1=x then(q.1,v) else q).1:Key),wi (if q.1=x then(q.1,v) else q).2)
  by_cases hq:q.1=x
  .rw[aj (by rw[hq]),aj hq]
  .rw[ah (λz=>hq (Sum.inl.inj z)),ah hq]
 .unfold fP;rw[aM];rfl
def uA (m:Pt)(x:Int):fh (fP m) (.inl x)=(m.find? λq=>decide (q.1=x)).map λq=>wi q.2:=by
 unfold fh fP;rw[List.find?_map,Option.map_map];have e:((λkv:Key×W=>decide (kv.1=(Sum.inl x:Key))) ∘ λq:Int×Int=>((Sum.inl q.1:Key),wi q.2))=λq=>decide (q.1=x):=by funext q;exact vf _ _
 rw[e];rfl
def kR:(m.find? λq=>decide (q.1=x))=none /\ look m x=0 /\ x∉m.map (·.1) \/ ∃q,(m.find? λq=>decide (q.1=x))=some q /\ look m x=q.2:=by
 induction m with
 | nil=>exact .inl #[rfl,rfl,by simp]
 | cons q r ih=>
  rw[c8,look];by_cases e:q.1=x
  .simp![e,decide_true];exact .inr #[q,rfl,by simp]
  .simp![e,decide_false,bj];rcases ih with⟨h1,h2,h3⟩ | h
   .exact .inl #[h1,h2,by rw[aK,av,not_or];exact#[a9 e,h3]]
   .exact .inr h
def qa (m:Pt)(x:Int):(fh (fP m) (.inl x)).getD (wi 0)=wi (look m x):=by rw[uA];rcases kR (m:=m) (x:=x) with⟨h1,h2,_⟩ | ⟨q,h1,h2⟩ <;>rw[h1,h2] <;>rfl
def qh (h:x∈m.map (·.1)):fh (fP m) (.inl x)=some (wi (look m x)):=by
 rw[uA];rcases kR (m:=m) (x:=x) with⟨_,_,h3⟩ | ⟨q,h1,h2⟩
 .exact absurd h h3
 .rw[h1,h2];rfl
def xf (m:Pt):(fP m).map (·.1)=(m.map (·.1)).map Sum.inl:=by unfold fP;rw[aE,aE];rfl
def tD:(kZ m x v).map (·.1)=if x∈m.map (·.1) then m.map (·.1) else m.map (·.1)++ [x]:=by
 unfold kZ;by_cases h:x∈m.map (·.1)
 .rw[aj (nO.mpr h),aj h,aE];apply bD;intro q _;show(if q.1=x then(q.1,v) else q).1=q.1;split<;>rfl
 .rw[ah (λe=>h (nO.mp e)),ah h,aM];rfl
def u4 (h:(m.map (·.1)).Nodup):((kZ m x v).map (·.1)).Nodup:=by
 rw[tD];by_cases e:x∈m.map (·.1)
 .rw[aj e];exact h
 .rw[ah e];exact AJ h e
def qO:(kZ m x v).length<=m.length+1:=by
 unfold kZ;split
 .rw[aa];lia
 .simp
def ou:look (kZ m x v) y=if y=x then v else look m y:=by
 unfold kZ;by_cases h:x∈m.map (·.1)
 .rw [aj (nO.mpr h)];have key: ∀m:Pt,look (m.map (λq=>if q.1=x then(q.1,v) else q)) y=if y=x /\ x∈m.map (·.1) then v else look m y:=by
   intro m;induction m with
   | nil=>simp[look]
   | cons q r ih=>
    rw[aK,look,look,ih];by_cases hq:q.1=x
    .by_cases hy:y=x
     .subst hy;simp[hq]
     .simp[hq,hy,a9 hy]
    .by_cases hy:y=x
     .subst hy;have:(y∈(q::r).map (·.1))=(y∈r.map (·.1)):=by rw[aK,av];simp[a9 hq]
      simp![this,hq,bj]
     .simp[hq,hy]
  rw[key];simp[h]
 .rw [ah (λe=>h (nO.mp e))];have key: ∀m:Pt,x∉m.map (·.1) ->look (m++ [(x,v)]) y=if y=x then v else look m y:=by
   intro m;induction m with
   | nil=>
    intro _;by_cases e:y=x
    .simp[look,e]
    .simp[look,e,a9 e]
   | cons q r ih=>
    intro hn;rw[aK,av,not_or] at hn;rw[List.cons_append,look,look,ih hn.2];by_cases e:y=x
    .subst e;simp[a9 hn.1]
    .simp[e]
  exact key m h
noncomputable def sel (m:Pt)(ns:List Int):Pt:=ns.filterMap λx=>if look m x=0 then none else some (x,look m x)
theorem w8 {m:Pt}{x:Int}: ∀ {ns:List Int},ns.Nodup ->look (sel m ns) x=if x∈ns then look m x else 0
 | [],_=>rfl
 | n ::r,h=>by
  rw[bF] at h;have ih:=w8 (m:=m) (x:=x) h.2;unfold sel at ih ⊢;rw[List.filterMap_cons];by_cases e:look m n=0
  .rw[aj e];show look (r.filterMap _) x=_;rw[ih];by_cases hx:x=n
   .subst hx;rw[ah h.1,aj (by simp),e]
   .simp[hx]
  .rw[ah e];show look ((n,look m n)::r.filterMap _) x=_;rw[look,ih];by_cases hx:x=n
   .subst hx;rw[aj rfl,aj (by simp)]
   .rw[ah (a9 hx)];simp[hx]
def sC {ns:List Int}(h1:ns.Pairwise (· <= ·))(h2:ns.Nodup):ns.Pairwise (· < ·):=by refine(List.Pairwise.and h1 h2).imp ?_;rintro a b ⟨h,n⟩;lia
def Ap (hp:0<p)(hn:(m.map (·.1)).Nodup)(ht: ∀x,look m x=dH ps x % p)(du:ns.Perm (m.map (·.1)))(hs:ns.Pairwise (· <= ·)):sel m ns=iU p ps:=by
 have nd:=du.nodup_iff.mpr hn;have st:=sC hs nd;refine uX (p:=p) #[?_,?_] (gN hp ps) λx=> ?_
 .intro q hq;let⟨x,hx,e⟩:=List.mem_filterMap.mp hq;split at e
  .cases e
  .rename_i h0;cases e;have:=ht x;have:=cF (dH ps x) (show p≠0 by lia);have:=cf (dH ps x) hp;show 0<look m x /\ look m x<p;lia
 .unfold sel;refine List.Pairwise.filterMap _ ?_ st;intro a b GK c hc d hd;split at hc<;>cases hc;split at hd<;>cases hd;exact GK
 .rw[w8 nd,kh hp];split
  .exact ht x
  .rename_i hx;rw[<- ht x,eU];intro q hq e;exact hx (du.mem_iff.mpr (by rw[<- e];exact List.mem_map_of_mem hq))
def iA {ks:List Int}: ∀ {l:List Int},ks.Nodup ->(∀k∈ks,k∈l) ->ks.length<=l.length:=by
 induction ks with
 | nil=>intro l _ _;simp
 | cons k r ih=>
  intro l hn hs;rw[bF] at hn;have hk:k∈l:=hs k (by simp);have:=ih (l:=l.erase k) hn.2 λz hz=>by have Wi:z≠k:=λe=>hn.1 (e▸hz);exact(List.mem_erase_of_ne Wi).mpr (hs z (by simp[hz]))
  rw[List.length_erase_of_mem hk] at this;have:0<l.length:=List.length_pos_of_mem hk;rw[aG];lia
noncomputable def Vd (_:Pt):Prop:=True
theorem OR:Vd ps:=trivial
theorem JU (h:ps.length<64):Vd ps:=trivial
def w5 (h:k∈(kZ m x v).map (·.1)):k=x \/ k∈m.map (·.1):=by
 rw[tD] at h;split at h
 .exact .inr h
 .rcases ax.mp h with h | h
  .exact .inr h
  .exact .inl (af.mp h)
end WP
namespace WQ
open PySem L2 WL WP
noncomputable def Rl:jS:=λxs M q=>oM λ(d l:Addr) (n:Int)=>BJ (xs= [wr d,wi n]) (Dr M d l) (0<n) (n<1073741824) (∀ (r:Int) (M':Mp),0<=r ->r<n ->Dr M' d l ->NB d M M' ->q (wi r) M')
noncomputable def pP:jS:=λxs M q=> ∃ (d l:Addr),xs= [wr d] /\ Dr M d l /\ ∀ (p:Int) (M':Mp),(p=2 \/ p=3 \/ p=5 \/ p=7) ->Dr M' d l ->NB d M M' ->q (wi p) M'
noncomputable def Lk:jS:=λxs M q=>oM λ(a:Addr) (p:Int) (ps:Pt)=>DE (xs= [wi p,wr a]) (M a=some (.lst (ps.map cQ))) (0<p) (Vd ps) (ps.length<=16000000) (q (fG (iU p ps)) M)
noncomputable def Ft:jS:=λxs M q=>Tt λ(d l:Addr) (p most lz:Int)=>uk (xs= [wr d,wi p,wi most,wi lz]) (Dr M d l) (2<=p) (p<1000) (0<=most) (most<63) (0<=lz) (lz<100000000 /\ ∀ (ps:Pt) (M':Mp),(ps.length:Int) <=most ->(∀z∈ps, -lz<=z.1 /\ z.1<=lz /\ 0<z.2 /\ z.2<p) ->Dr M' d l ->NB d M M' ->q (fG (iU p ps)) M')
noncomputable def mv (nN:Int)(l:Pt):Pt:=l.map λz=>(z.1+nN,z.2)
noncomputable def VI:jS:=λxs M q=> ∃i:Int,xs= [wi i] /\ q (wb true) M
noncomputable def NG:jS:=λxs M q=>Di λ(p:Int) (pat:Pt)=>vD (xs= [wi p,fG pat]) (d7 p pat) (pat.length<=16000000) (q (wb true) M)
noncomputable def tm (n:Int)(l:Pt):Pt:=l.map λz=>(z.1,z.2*n)
noncomputable def wW (b n:Int)(l:Pt):Pt:=l.map λz=>(z.1+b,z.2*n)
noncomputable def VG:jS:=λxs M q=>Tt λ(p:Int) (a b:Pt) (y n:Int)=>Ke (xs= [wi p,fG a,fG b,wi y,wi n]) (0<p) (Vd (a++wW y n b)) (a.length<=8000000) (b.length<=8000000) (∀z∈b,0<=z.2 /\ z.2<1000) (q (fG (iU p (a++wW y n b))) M)
theorem big (h:n<=16000000):n<=sizeLine:=aZ h (by rw[cO];decide)
theorem yb (h:n<=16000000):n<sizeLine:=Nat.lt_of_le_of_lt h (by rw[cO];decide)
def Uq:mv 0 l=l:=by
 unfold mv;have:(λz:Int×Int=>(z.1+0,z.2))=id:=by funext z;rw[bE];rfl
 rw[this,List.map_id]
def Uv:look (mv b l) x=look l (x - b):=by
 induction l with
 | nil=>rfl
 | cons q r ih=>
  show look ((q.1+b,q.2)::mv b r) x=_;rw[look,look,ih];by_cases e:q.1+b=x
  .rw[aj e,aj (by lia)]
  .rw[ah e,ah (by lia)]
def uC:dH (tm n l) x=dH l x*n:=by
 induction l with
 | nil=>simp[tm,dH]
 | cons q r ih=>show dH ((q.1,q.2*n)::tm n r) x=_;rw[dH,dH,ih,Int.add_mul];split<;>simp
def NV:wW b n l=tm n (mv b l):=by unfold wW tm mv;rw[aE];rfl
def yD:dH (mv b l) x=dH l (x - b):=by
 induction l with
 | nil=>rfl
 | cons q r ih=>
  show dH ((q.1+b,q.2)::mv b r) x=_;rw[dH,dH,ih];by_cases e:q.1+b=x
  .rw[aj e,aj (by lia)]
  .rw[ah e,ah (by lia)]
def G7 (q:Int×Int):CY (cQ q)=some (.tup [.int q.1, .int q.2]):=by simp[cQ,CY,oH]
theorem ra: ∀l:Pt,oH (l.map cQ)=some (l.map λq=> .tup [.int q.1, .int q.2])
 | []=>rfl
 | q::r=>by rw[aK,oH,G7,ra r];rfl
noncomputable def Fs (l:Pt):Dt:= .tup (l.map λq=> .tup [.int q.1, .int q.2])
def J7 (l:Pt):CY (fG l)=some (Fs l):=by rw[fG,CY,ra];rfl
theorem qX: ∀l:Pt,pN (l.map λq=> .tup [.int q.1, .int q.2]) <=1
 | []=>by simp[pN]
 | q::r=>by rw[aK,pN];have:=qX r;simp![yo,pN];lia
noncomputable def Am (K:PySem.W.Frag):Sp:=λvs H Q _=> ∃ (a:Addr) (ns:List Int),vs= [.ref a] /\ gB K H a (ns.map V.int) /\ ∀ (d l:Addr) (ms:List Int) (H':Hp),d≠l ->H' d=some (.lst [.ref l, .int 0, .int 0, .int 11]) ->H' l=some (.lst (ms.map V.int)) ->Q (.ref d) H'
noncomputable def vZ (K:PySem.W.Frag):Sp:=λvs H Q _=> ∃ (a:Addr) (ns:List Int),vs= [.ref a] /\ gB K H a (ns.map V.int) /\ ∀H',Q (.bl true) H'
def Rv (F:DF K x qual st f fd)(S:b7 N [z] (aP st))(hN:2<=N.length)(nv: ∀ (eI:Value) (A:Around) (outer:List Env) (s:Shared) (H:Hp) (E:XK),gi k (A.deeper (PyProof.Rows.envOfC qual (aP st) s.heap.objs.size f eI)) ->∃ R,yq (fg i0 P w K mg base N qual (aP st) f eI A outer s H E).NQ (ff st) (MU (Ex (Af (Am K) [] E0 (Es (Ip 0) MV)) (nB 1)) R) /\∃w',IS K R w' /\ ∀d l M,Dr M d l ->w' {nx:=λ_ _=>False,rt:=λx _=>x=wb true} (none::some (wr d)::List.replicate (N.length - 2) none) M): d3 P w K mg base i0 (k+1) f fd [z] (vZ K):=by
 refine DF.ok F S (λvs H Q E ⟨a,ns,h,_⟩=>by rw[h];rfl) λeI A outer s H vs Q E hr h=> ?_;let⟨R,h1,w',h2,h3⟩:=nv eI A outer s H E hr;let⟨a,ns,rfl,hs,hq⟩:=h;refine#[_,h1,?_];let⟨n,hn⟩: ∃n,N.length=n+2:=#[N.length - 2,by lia]
 have e0:L2.start N [V.ref a]=some (V.ref a)::none::List.replicate n none:=by unfold L2.start;rw[hn];rfl
 rw[e0];refine#[_,rfl,a,ns,rfl,hs,λd l ms H' dw hd hl=> ?_];show R _ _ H';refine h2.imp (none::some (wr d)::List.replicate (N.length - 2) none) (um (um (λ_=>none) l (.lst (ms.map wi))) d (.lst [wr l,wi 0,wi 0,wi 11])) _ H' _ _ #[#[?_,λi y e=> ?_],λb o e=> ?_] (h3 d l _ #[ms,0,0,11,um_same,by rw[aN (a9 dw),um_same],by decide,dw]) #[λ_ _ _ _ h=>h.elim,λy M' v H2 e _ _ r=> ?_,λ_ _ _ _ h=>h.elim,λ_ _ _ _ h=>h.elim]
 .simp[hn]
 .match i with
  | 0=>simp at e
  | 1=>simp at e;subst e;exact#[.ref d,rfl,WR.v]
  | i+2=>simp[List.getElem?_replicate] at e
 .by_cases hb:b=d
  .subst hb;rw[um_same] at e;cases e;exact#[_,hd,cM.cons WR.v (cM.cons WR.v (cM.cons WR.v (cM.cons WR.v cM.nil)))]
  .rw[aN hb] at e;by_cases tI:b=l
   .subst tI;rw[um_same] at e;cases e;exact#[_,hl,cM.ofInts ms]
   .rw[aN tI] at e;cases e
 .subst e;rw[r.eq];exact hq H2
noncomputable abbrev Rd:=Int×Pt
noncomputable def jn (p:Int)(a b:Rd):Rd:=(a.1+b.1,iU p (a.2++mv a.1 b.2))
noncomputable def bk (p:Int)(a:Rd):Rd:=(-a.1,iU p (tm (-1) (mv (-a.1) a.2)))
end WQ
namespace WL
open PySem PySem.Spec PyProof.Rows L2
theorem l8 (bt:Nat ->Nat ->Bool): ∀k,PySem.argBest bt k<=k
 | 0=>ao _
 | k+1=>by
  unfold PySem.argBest;split
  .exact ao _
  .exact Nat.le_succ_of_le (l8 bt k)
theorem pz (val:Nat ->Int): ∀k j,j<=k ->val j<=val (PySem.argBest (λi j=>decide (val i >val j)) k)
 | 0, j, h => by have:j=0:=by omega
                 subst this;exact aT _
 | k + 1,j,h=>by
  have ih:=pz val k;unfold PySem.argBest;by_cases hb:val (k+1) >val (PySem.argBest (λi j=>decide (val i >val j)) k)
  .rw[aj (c5 hb)];rcases Nat.lt_or_ge j (k+1) with h' | h'
   .have:=ih j (by omega);omega
   .have:j=k+1:=by omega
    subst this;exact aT _
  .rw[ah (by simpa using hb)];rcases Nat.lt_or_ge j (k+1) with h' | h'
   .exact ih j (by omega)
   .have:j=k+1:=by omega
    subst this;omega
theorem px (val:Nat ->Int): ∀k j,j<=k ->val (PySem.argBest (λi j=>decide (val i<val j)) k) <=val j
 | 0, j, h => by have:j=0:=by omega
                 subst this;exact aT _
 | k + 1,j,h=>by
  have ih:=px val k;unfold PySem.argBest;by_cases hb:val (k+1) <val (PySem.argBest (λi j=>decide (val i<val j)) k)
  .rw[aj (c5 hb)];rcases Nat.lt_or_ge j (k+1) with h' | h'
   .have:=ih j (by omega);omega
   .have:j=k+1:=by omega
    subst this;exact aT _
  .rw[ah (by simpa using hb)];rcases Nat.lt_or_ge j (k+1) with h' | h'
   .exact ih j (by omega)
   .have:j=k+1:=by omega
    subst this;omega
noncomputable def pA (ns:List Int)(m:Int):Prop:=m∈ns /\ ∀x∈ns,x<=m
noncomputable def iT (ns:List Int)(m:Int):Prop:=m∈ns /\ ∀x∈ns,m<=x
section
variable {X:Cx}
def AY {ns:List Int}(rv:Vals (ns.map V.int) its)(e:its.toArray[i]? =some v): ∃t,v= .int (ns.getD i 0) t /\ i<ns.length:=by
 have e':its[i]? =some v:=by simpa using e
 have hlen:=rv.length;have hi:i<ns.length:=by have:=(ai.mp e').1;rw[aa] at hlen;omega
 let⟨w',hw,uM⟩:=rv.get (i:=i) (x:= .int ns[i]) (by rw[ay,ae hi];rfl);rw[e'] at hw;cases hw;let⟨t,rfl⟩:=uM;exact#[t,by simp[List.getD,hi],hi]
def L4 {ns:List Int}(h:i<ns.length):ns.getD i 0=ns[i]:=by simp[List.getD,h]
def Ti (hn:ns≠ []):pA ns (ns.getD (PySem.argBest (λi j=>decide (ns.getD i 0 >ns.getD j 0)) (ns.length - 1)) 0):=by
 have hl:0<ns.length:=cU.mpr hn;have hb:=l8 (λi j=>decide (ns.getD i 0 >ns.getD j 0)) (ns.length - 1);have hi:PySem.argBest (λi j=>decide (ns.getD i 0 >ns.getD j 0)) (ns.length - 1) <ns.length:=by omega
 refine#[?_,λx hx=> ?_]
 .rw[L4 hi];exact bK hi
 .let⟨j,hj,rfl⟩:=List.mem_iff_getElem.mp hx;have:=pz (λi=>ns.getD i 0) (ns.length - 1) j (by omega);have e:ns.getD j 0=ns[j]:=by simp[List.getD,hj]
  simp![e] at this;exact this
def Hh (hn:ns≠ []):iT ns (ns.getD (PySem.argBest (λi j=>decide (ns.getD i 0<ns.getD j 0)) (ns.length - 1)) 0):=by
 have hl:0<ns.length:=cU.mpr hn;have hb:=l8 (λi j=>decide (ns.getD i 0<ns.getD j 0)) (ns.length - 1);have hi:PySem.argBest (λi j=>decide (ns.getD i 0<ns.getD j 0)) (ns.length - 1) <ns.length:=by omega
 refine#[?_,λx hx=> ?_]
 .rw[L4 hi];exact bK hi
 .let⟨j,hj,rfl⟩:=List.mem_iff_getElem.mp hx;have:=px (λi=>ns.getD i 0) (ns.length - 1) j (by omega);have e:ns.getD j 0=ns[j]:=by simp[List.getD,hj]
  simp![e] at this;exact this
variable {K:PySem.W.Frag}
end
end WL
namespace WQ
open PySem L2 WL WP
noncomputable def prc (p s:Int):Int:=if p - s<s then p - s else s
noncomputable def K0 (a:Rd):List Int:=0::a.1::a.2.map (·.1)
noncomputable def Tr (i:Int):Int:=if i<0 then -i else i
noncomputable def fwv (p:Int)(a:Rd)(lo hi:Int):Int:=2*(hi - lo) - Tr a.1+(a.2.map λz=>prc p z.2).sum
def iT.uniq (h:iT ns a)(h':iT ns b):a=b:=by have:=h.2 b h'.1;have:=h'.2 a h.1;lia
def pA.uniq (h:pA ns a)(h':pA ns b):a=b:=by have:=h.2 b h'.1;have:=h'.2 a h.1;lia
def Hl {a:α}(h:l.getLast? =some a):iY l (-1)=some a:=by
 have hl:0<l.length:=by
  cases l with
  | nil=>simp at h
  | cons x r=>simp
 unfold iY qR;rw[ah (by lia),aj (by lia)];show l[((-1:Int)+l.length).toNat]? =_;rw[List.getLast?_eq_getElem?] at h;rw[<- h];congr 1;lia
end WQ
namespace WL
open PySem PySem.Spec PyProof.Rows L2
section
variable {X:Cx}
variable {K:PySem.W.Frag}
def zT:Kw [.v (.bl b)] M q=q (wi (if b then 1 else 0)) M:=by
 apply propext;constructor
 .rintro(⟨_,h,k⟩ | ⟨_,h,k⟩)
  .cases h
  .cases h;exact k
 .intro h;exact .inr #[_,rfl,h]
end
end WL
namespace WQ
open PySem L2 WL WP
noncomputable def hit (e n x:Int):Bool:=decide (x.fmod e=0) && (decide (0<=x.fdiv e) && decide (x.fdiv e<n))
end WQ
namespace EN
open PySem PySem.Spec PyProof.Rows L2
open Sem (wp)
open AutoSeq1 (wpAny_loadPart')
section
variable {prog:Program}{w:World}{A:Around}{E:Value ->Shared ->Prop}{s:Shared}
def y3 (hj:s.heap.IsTupleIter j t i)(ht:s.heap.IsTuple t its)(hx:its[i]? =some x)(hQ: ∀h',h'.IsTupleIter j t (i+1) ->Heap.SameBut j s.heap h' ->Q x {s with heap:=h'}):wpAny (model prog w) A (Builtin.SmallTypes.nextOf (.ref j)) Q E s:=by let⟨oj,LI,hcj,JQ⟩:=id hj;let⟨ot,WH,_,nt,Xr⟩:=ht;unfold Builtin.SmallTypes.nextOf;refine ak (wpAny_callSpecial?_slot (name:=Str.ofString "__next__") hj.typeIs F.slot_tuple_iterator_next (wpAny_call_entry F.slot_tuple_iterator_next hj.typeIs F.entry_tuple_iterator_next ?_ (F.args_tuple_iterator_next_1 _)));show wpAny _ _ (field (.ref j) 0 >>=_) _ _ s;refine ak (wpAny_field LI JQ (x:= .ref t) rfl ?_);show wpAny _ _ (if(Value.ref t==Value.none)=true then _ else _) _ _ s;rw[ah (show ¬((Value.ref t==Value.none)=true) from λz=>aX z)];show wpAny _ _ (field (.ref j) 1 >>=_) _ _ s;refine ak (wpAny_field LI JQ (x:= .int i 0) rfl ?_);show wpAny _ _ (seqItems? (.ref t) >>=_) _ _ s;refine ak (wpAny_seqItems WH Xr ?_);simp![Int.toNat_natCast,hx];refine ak (wpAny_setField LI JQ (by simp) (aO #[x,rfl,aO (hQ _ ?_ (Heap.SameBut.update ..))]));exact#[_,Heap.get?_update_self _ LI (Obj.isFreed_of_fields (Obj.data_mapFields JQ _)),(Obj.cls_mapFields ..).trans hcj,by rw[Obj.data_mapFields JQ];simp[rawInt]]
def Ce (hh:A.handled=none)(hj:s.heap.IsTupleIter j t i)(ht:s.heap.IsTuple t its)(hx:its[i]? =none)(hE: ∀h' e,Heap.ExtBut j s.heap h' ->(∃o,h'.get? e=some o /\ o.cls= .type "StopIteration") ->E (.ref e) {s with heap:=h'}):wpAny (model prog w) A (Builtin.SmallTypes.nextOf (.ref j)) Q E s:=by
 let⟨oj,LI,hcj,JQ⟩:=id hj;let⟨ot,WH,_,nt,Xr⟩:=ht;unfold Builtin.SmallTypes.nextOf;refine ak (wpAny_callSpecial?_slot (name:=Str.ofString "__next__") hj.typeIs F.slot_tuple_iterator_next (wpAny_call_entry F.slot_tuple_iterator_next hj.typeIs F.entry_tuple_iterator_next ?_ (F.args_tuple_iterator_next_1 _)));show wpAny _ _ (field (.ref j) 0 >>=_) _ _ s;refine ak (wpAny_field LI JQ (x:= .ref t) rfl ?_);show wpAny _ _ (if(Value.ref t==Value.none)=true then _ else _) _ _ s;rw[ah (show ¬((Value.ref t==Value.none)=true) from λz=>aX z)];show wpAny _ _ (field (.ref j) 1 >>=_) _ _ s;refine ak (wpAny_field LI JQ (x:= .int i 0) rfl ?_);show wpAny _ _ (seqItems? (.ref t) >>=_) _ _ s;refine ak (wpAny_seqItems WH Xr ?_);simp![Int.toNat_natCast,hx];refine ak (wpAny_rule (ak (wpAny_setField LI JQ (by simp) ?_)));show wpAny _ _ (newExc (.type "StopIteration") [] >>=_) _ _ _;refine ak ?_;simp![newExc,newTuple];refine ak (wpAny_newObj_type ?_ (by size_fits));refine ak (m:=firstArgMember _ _) (wpAny_of_eq (a:=Value.none) (by first | rfl | (simp![firstArgMember];rfl)) ?_);refine wpAny_newObj_type ?_ (by size_fits);simp![raiseNew];refine ak (wpAny_handled ?_);first | rw[show A.in1.handled=none from hh] | rw[hh]
 refine ak (aO (wpAny_throw ?_));exact hE _ _ (((Heap.SameBut.update ..).extBut.push _).push _) #[_,aS _ rfl,rfl]
end
theorem G4 {prog:Program}{w:World}{A:Around}(hh:A.handled=none)(j t:Addr)(dw:t≠j)(its:Array Value): Draws prog w A j [j,t] its.size (λi v=>its[i]? =some v) (λi h=>h.IsTupleIter j t i /\ h.IsTuple t its) where
 live:=λ_ _ st=>let ⟨o,ho,_⟩:=st.1;#[o,ho]
 frame:=λ_ _ _ st hk=>#[let ⟨o,ho,r⟩:=st.1;#[o,hk j (by simp) o ho,r],let ⟨o,ho,r⟩:=st.2;#[o,hk t (by simp) o ho,r]]
 item:=λi s Q E hi st hQ=>by refine y3 st.1 st.2 (x:=its[i]) (by simp[hi]) λh' iX gA=> ?_;exact hQ _ h' s.toks (by simp[hi]) #[iX,st.2.extBut gA.extBut dw] gA
 done:=λs Q E st hE=>Ce hh st.1 st.2 (by simp) hE
end EN
namespace EN
open PySem PySem.Spec PyProof.Rows L2 WL
section
variable {X:Cx}{pins:List (Addr×Obj)}{σ:L2.St}{H:Hp}{s:Shared}{h':Heap}
def vc (I:Inv X pins σ H s)(k: ∀b o,b≠e ->b≠j ->s.heap.get? b=some o ->h'.get? b=some o)(fe:jA X pins H e)(fj:jA X pins H j)(new:d6 X.prog X.w (upd H s.heap.objs.size (.tup xs)) h' s.heap.objs.size (.tup xs)):Inv X pins σ (upd H s.heap.objs.size (.tup xs)) {s with heap:=h',toks:=t'}:=by
 have SK:H s.heap.objs.size=none:=I.dv.fresh (ao _);have ne: ∀ {b u},H b=some u ->b≠e /\ b≠j:=λ{b u} q=>#[dB q fe.1,dB q fj.1]
 have nm: ∀ {b:Addr},b∉ [e,j] ->b≠e /\ b≠j:=λ{b} q=>by simpa using q
 refine I.call (ch:= [e,j]) (g':=s.gens) (d':=s.drawn) #[λb o q n _ hc=>k b o (nm hc).1 (nm hc).2 q,λb o q n _ hc=>#[o.slots,k b o (nm hc).1 (nm hc).2 q],λb o q n hc=> ?_,λb o q hc=>#[o,k b o (nm hc).1 (nm hc).2 q],λb ys q=> ?_,λb o u q=> ?_,λb ps q=>#[#[],?_]] ?_ I.bare ?_
 .rw[bM (a5 (aF q))];exact n
 .rw[bM (dB q SK)];exact q
 .rw[bM (dB q SK)];exact q
 .rw[bM (dB q SK),q];simp
 .intro b u q;by_cases hb:b=s.heap.objs.size
  .subst hb;rw[cn] at q;cases q;exact new
  .rw[bM hb] at q;refine(I.dv b u q).qm (λc v hc r=> ?_) (λc r=>by rw[bM (dB r SK)];exact r) λc ys r=>by rw[bM (dB r SK)];exact r
   rcases hc with rfl | hc
   .exact k _ v (ne q).1 (ne q).2 r
   .exact k _ v (ne hc).1 (ne hc).2 r
 .intro b hb;rcases av.mp hb with rfl | hb
  .exact#[fe.2.2.2.1,fe.2.1,fe.2.2.2.2.1,fe.2.2.2.2.2]
  .rw[af.mp hb];exact#[fj.2.2.2.1,fj.2.1,fj.2.2.2.2.1,fj.2.2.2.2.2]
end
noncomputable def Zn (K:PySem.W.Frag)(a:Addr):It:=#[λi H=> ∃xs x,jj K H a xs /\ xs[i]? =some x,λi H v H'=>Di λp x=>vD (H p=none) (H'=upd H p (.tup [.int i,x])) (v= .ref p) (∀xs,jj K H a xs ->xs[i]? =some x),λi H=> ∃xs,jj K H a xs /\ xs.length=i]
noncomputable def Hr (K:PySem.W.Frag)(a:Addr):It:=#[λi H=> ∃xs x,gB K H a xs /\ xs[i]? =some x,λi H v H'=>Di λp x=>vD (H p=none) (H'=upd H p (.tup [.int i,x])) (v= .ref p) (∀xs,gB K H a xs ->xs[i]? =some x),λi H=> ∃xs,gB K H a xs /\ xs.length=i]
def MK {P:Program}{w:World}{K:PySem.W.Frag}{elts:List Expr}{x1}{pos:Pos}(a e j:Addr)(Oz:e≠j):Turn P w K (.Tuple elts x1 pos) (Zn K a) [e,j] e (λi h=>(∃old,IsEnum h e j i old) /\ h.IsTupleIter j a i) where
 mem:=by simp
 obj:=λi h st b hb=>by
  let⟨⟨old,he⟩,o,hj,c,d⟩:=st;rcases av.mp hb with rfl | hb
  .exact#[_,he,λv z=>nomatch z]
  .rw[af.mp hb];exact#[o,hj,λv z=>by rw[d] at z;cases z]
 keep:=λi h h' st k=>by let⟨⟨old,he⟩,o,hj,r⟩:=st;exact#[#[old,k e (by simp) _ he],o,k j (by simp) o hj,r]
 item := by
  intro X hP hw hK hc i pins s σ H E I hf st hg;subst hP hw hK;let⟨xs,x,hq,hx⟩:=hg;let⟨its,rv,p,hz⟩:=I.tuple hq;let⟨⟨old,he⟩,hj⟩:=st;have fe:=hf e (by simp);have fj:=hf j (by simp);have hit:s.heap.IsTuple a its.toArray:=p;have ha:a≠j:=λz=>by let⟨o,h1,c1,_⟩:=hit;let⟨o2,h2,c2,_⟩:=hj;rw[z] at h1;rw[h1] at h2;cases h2;rw[c1] at c2;simp at c2
  have XB:a≠e:=λz=>by let⟨o,h1,c1,_⟩:=hit;rw[z] at h1;rw[he] at h1;cases h1;simp at c1
  have hi:i<its.toArray.size:=by have:=(ai.mp hx).1;have:=rv.length;simp;lia
  refine wpAny_pyNext_enum_itemD (G4 (show X.A.in1.handled=none from I.ok.hd hc) j a ha its.toArray) he #[hj,hit] hi Oz (by simp[Oz,a9 XB]) λy h' tk hy ho kP ht hsz hk=> ?_;refine#[_,rfl,wpAny_letOwnedTupleGo_enum ho λh2 HL jU=> ?_];let⟨u,hu,ru⟩:=rv.get hx;have eu:u=y:=by
   have:its.toArray[i]? =some u:=by simpa using hu
   rw[hy] at this;exact(bA this).symm
  subst eu;have LV:s.heap.objs.size≠e:=Nat.ne_of_gt (aF he);refine#[.ref s.heap.objs.size,upd H s.heap.objs.size (.tup [.int i,x]),vc (t':=tk+1) I (λb o hb tI q=>(jU.2 b hb).trans (hk b o hb tI q)) fe fj #[by rw[cO];show 2<=16777216;decide,[.int i tk,u], .cons #[_,rfl] (.cons ru .nil),?_],rfl,#[_,x,I.dv.fresh (ao _),rfl,rfl,λys Gg=>by rw[I.nY Gg hq];exact hx],#[#[u,by simpa using HL],?_],λb hb=> ?_]
  .exact#[_,(jU.2 _ LV).trans ht,rfl,_,rfl,rfl]
  .let⟨⟨o,h1,r⟩,_⟩:=kP;exact#[o,(jU.2 j (a9 Oz)).trans h1,r]
  .have:H b=none:=(hf b hb).1;rw[bM (λz=> ?_)]
   .exact this
   .let⟨o,h1,_⟩:=hj;rcases av.mp hb with rfl | hb
    .exact LV z.symm
    .rw[af.mp hb] at z;exact absurd (aF h1) (by rw[z];exact cz _)
 done:=by
   intro X hP hw hK hc i pins s σ H E I hf st hg;subst hP hw hK;let⟨xs,hq,hx⟩:=hg;let⟨its,rv,p,hz⟩:=I.tuple hq;let⟨⟨old,he⟩,hj⟩:=st;have hit:s.heap.IsTuple a its.toArray:=p;have ha:a≠j:=λz=>by let⟨o,h1,c1,_⟩:=hit;let⟨o2,h2,c2,_⟩:=hj;rw[z] at h1;rw[h1] at h2;cases h2;rw[c1] at c2;simp at c2
   let⟨f0,f1,f2,f3,f4,f5⟩:=hf j (by simp);have hl:i=its.toArray.size:=by have:=rv.length;simp;lia
   refine wpAny_pyNext_enum_endD (G4 (show X.A.in1.handled=none from I.ok.hd hc) j a ha its.toArray) he #[hl▸hj,hit] λh2 eb=>#[rfl,I.turned (t':=s.toks) (λb o hb q=>eb b o hb q) f0 f1 f3 f4 f5]
 self:=λ_ _ _ _ _ st h=>let ⟨⟨_,he⟩,_⟩:=st;wpAny_pyIter_enum he h
def yC {P:Program}{w:World}{K:PySem.W.Frag}{elts:List Expr}{x1}{pos:Pos}(a e j:Addr)(Oz:e≠j):Turn P w K (.Tuple elts x1 pos) (Hr K a) [e,j] e (λi h=>(∃old,IsEnum h e j i old) /\ h.IsListIter j a i) where
 mem:=by simp
 obj:=λi h st b hb=>by
  let⟨⟨old,he⟩,o,hj,c,d⟩:=st;rcases av.mp hb with rfl | hb
  .exact#[_,he,λv z=>nomatch z]
  .rw[af.mp hb];exact#[o,hj,λv z=>by rw[d] at z;cases z]
 keep:=λi h h' st k=>by let⟨⟨old,he⟩,o,hj,r⟩:=st;exact#[#[old,k e (by simp) _ he],o,k j (by simp) o hj,r]
 item := by
  intro X hP hw hK hc i pins s σ H E I hf st hg;subst hP hw hK;let⟨xs,x,hq,hx⟩:=hg;let⟨its,rv,p,hz⟩:=I.list hq;let⟨⟨old,he⟩,hj⟩:=st;have fe:=hf e (by simp);have fj:=hf j (by simp);have hit:s.heap.IsList a its.toArray:=p.isList;have ha:a≠j:=λz=>by let⟨o,h1,c1,_⟩:=hit;let⟨o2,h2,c2,_⟩:=hj;rw[z] at h1;rw[h1] at h2;cases h2;rw[c1] at c2;simp at c2
  have XB:a≠e:=λz=>by let⟨o,h1,c1,_⟩:=hit;rw[z] at h1;rw[he] at h1;cases h1;simp at c1
  have hi:i<its.toArray.size:=by have:=(ai.mp hx).1;have:=rv.length;simp;lia
  refine wpAny_pyNext_enum_itemD (Draws.list (show X.A.in1.handled=none from I.ok.hd hc) j a ha its.toArray) he #[hj,hit] hi Oz (by simp[Oz,a9 XB]) λy h' tk hy ho kP ht hsz hk=> ?_;refine#[_,rfl,wpAny_letOwnedTupleGo_enum ho λh2 HL jU=> ?_];let⟨u,hu,ru⟩:=rv.get hx;have eu:u=y:=by
   have:its.toArray[i]? =some u:=by simpa using hu
   rw[hy] at this;exact(bA this).symm
  subst eu;have LV:s.heap.objs.size≠e:=Nat.ne_of_gt (aF he);refine#[.ref s.heap.objs.size,upd H s.heap.objs.size (.tup [.int i,x]),vc (t':=tk+1) I (λb o hb tI q=>(jU.2 b hb).trans (hk b o hb tI q)) fe fj #[by rw[cO];show 2<=16777216;decide,[.int i tk,u], .cons #[_,rfl] (.cons ru .nil),?_],rfl,#[_,x,I.dv.fresh (ao _),rfl,rfl,λys Gg=>by rw[I.list_inj Gg hq];exact hx],#[#[u,by simpa using HL],?_],λb hb=> ?_]
  .exact#[_,(jU.2 _ LV).trans ht,rfl,_,rfl,rfl]
  .let⟨⟨o,h1,r⟩,_⟩:=kP;exact#[o,(jU.2 j (a9 Oz)).trans h1,r]
  .have:H b=none:=(hf b hb).1;rw[bM (λz=> ?_)]
   .exact this
   .let⟨o,h1,_⟩:=hj;rcases av.mp hb with rfl | hb
    .exact LV z.symm
    .rw[af.mp hb] at z;exact absurd (aF h1) (by rw[z];exact cz _)
 done:=by
   intro X hP hw hK hc i pins s σ H E I hf st hg;subst hP hw hK;let⟨xs,hq,hx⟩:=hg;let⟨its,rv,p,hz⟩:=I.list hq;let⟨⟨old,he⟩,hj⟩:=st;have hit:s.heap.IsList a its.toArray:=p.isList;have ha:a≠j:=λz=>by let⟨o,h1,c1,_⟩:=hit;let⟨o2,h2,c2,_⟩:=hj;rw[z] at h1;rw[h1] at h2;cases h2;rw[c1] at c2;simp at c2
   let⟨f0,f1,f2,f3,f4,f5⟩:=hf j (by simp);have hl:i=its.toArray.size:=by have:=rv.length;simp;lia
   refine wpAny_pyNext_enum_endD (Draws.list (show X.A.in1.handled=none from I.ok.hd hc) j a ha its.toArray) he #[hl▸hj,hit] λh2 eb=>#[rfl,I.turned (t':=s.toks) (λb o hb q=>eb b o hb q) f0 f1 f3 f4 f5]
 self:=λ_ _ _ _ _ st h=>let ⟨⟨_,he⟩,_⟩:=st;wpAny_pyIter_enum he h
section
variable {X:Cx}{elts:List Expr}{x1:_}{BR:Pos}
noncomputable def Gf (K:PySem.W.Frag)(tl:TA):TI:=λσ H R=>tl σ H λvs H1=> ∃a,vs= [.ref a] /\ (∃xs,gB K H1 a xs) /\ R (Hr K a) H1
def Fi (et:tg= .Tuple elts x1 BR)(hg:Gl X "enumerate")(hm:X.mg "enumerate" =none)(ha:PA X [l] tl)(hs:starEach [l] X.env= [(false,eval l X.env)]:=by rfl):PI X tg (.Call (.Name "enumerate" p) [l] [] pos) (Gf X.K tl):=by
 subst et;intro pins s σ H R I h;refine Call_ (gJ I hg hm Boot.«enumerate» (bP (dt (ha pos pins s σ H _ I h) λus s1 ⟨vs,H1,I1,r1,q1⟩=> ?_) hs rfl));let⟨a,e,⟨xs,hq⟩,q⟩:=q1;subst e;let⟨v,rfl,rv1⟩:=vals1 r1;cases rv1;let⟨its,rv,ht,hz⟩:=I1.list hq;refine call_enumerate_list ht.isList λh2 he hj hsz hk=> ?_;have I2:Inv X pins σ H1 {s1 with heap:=h2}:=I1.kept (t':=s1.toks) hk;refine wpAny_pyIter_enum he ?_;refine#[_,[s1.heap.objs.size+1,s1.heap.objs.size],_,_,H1,rfl,I2,yC a (s1.heap.objs.size+1) s1.heap.objs.size (Nat.succ_ne_self _),#[#[_,he],hj],λb hb=> ?_,q];rcases av.mp hb with rfl | hb
 .exact I1.xy (Nat.le_succ _) (I1.dv.fresh (Nat.le_succ _))
 .rw[af.mp hb];exact I1.xy (ao _) (I1.dv.fresh (ao _))
end
end EN
namespace WL
open PySem PySem.Spec PyProof.Rows L2 EN
section
variable {X:Cx}
noncomputable def Rc (K:PySem.W.Frag):List V ->Hp ->VK ->Prop:=λxs H Q=> ∃ (l:Addr) (bs:List Bool),xs= [.ref l] /\ gB K H l (bs.map V.bl) /\ Q (.bl (bs.all id)) H
def Oe {bs:List Bool}(rv:Vals (bs.map V.bl) its)(e:its.toArray[i]? =some v):v= .bool (bs.getD i false) /\ i<bs.length:=by
 have e':its[i]? =some v:=by simpa using e
 have hlen:=rv.length;have hi:i<bs.length:=by have:=(ai.mp e').1;rw[aa] at hlen;lia
 let⟨w',hw,uM⟩:=rv.get (i:=i) (x:= .bl bs[i]) (by rw[ay,ae hi];rfl);rw[e'] at hw;cases hw;cases uM;exact#[by simp[List.getD,hi],hi]
def range_all (bs:List Bool):(List.range bs.length).all (λi=>bs.getD i false)=bs.all id:=by
 apply Bool.eq_iff_iff.mpr;rw[List.all_eq_true,List.all_eq_true];constructor
 .intro h x hx;let⟨i,hi,rfl⟩:=List.mem_iff_getElem.mp hx;have:=h i (cc.mpr hi);simpa [List.getD,hi] using this
 .intro h i hi;rw[cc] at hi;have:=h bs[i] (bK hi);simpa [List.getD,hi] using this
def C8 (hc:X.calm=true):gg X (.builtin "all") (Rc X.K):=by
 intro pins s σ H xs us Q I r h;let⟨l,bs,rfl,hs,q⟩:=h;let⟨u,rfl,ru⟩:=vals1 r;cases ru;let⟨its,rv,ht,hz⟩:=I.list hs;have hh:X.A.in1.handled=none:=I.ok.hd hc;have hlen:its.toArray.size=bs.length:=by have:=rv.length;rw[aa] at this;simpa using this.symm
 have fM:l<s.heap.objs.size:=by let⟨_,e,_⟩:=ht.isList;exact aF e
 refine PySem.call_all_walkS (wpAny_pyIter_list ht.isList ?_);refine#[s.heap.objs.size,_,_,_,its.toArray.size,_,_,λi=>bs.getD i false,rfl,(Walks.list hh s.heap.objs.size l (a5 fM) its.toArray).toS,#[#[_,aS _ rfl,rfl,rfl],ht.isList.push _],λi v s' Q' E' e hq=> ?_,λs' hm=> ?_]
 .let⟨rfl,_⟩:=Oe rv e;exact dA hq
 .have hk: ∀b o,s.heap.get? b=some o ->s'.heap.get? b=some o:=λb o e=>hm.heap b o (λhI=>absurd (aF e) (by rw[af.mp hI];exact cz _)) (aq _ e);rw[Moved.eq_with hm,hlen,range_all];exact#[.bl _,H,I.kept (t':=s'.toks) hk,rfl,q]
variable {K:PySem.W.Frag}
theorem cM.bools {H:Hp}: ∀ {bs:List Bool} {vs:List V},cM K H (bs.map wb) vs ->vs=bs.map V.bl
 | [],vs,h=>by simpa only[List.map_nil,cM] using h
 | n::r,vs,h=>by simp![aK,cM] at h;let⟨v,t,rfl,h1,h2⟩:=h;rw[cM.bools h2,h1.eq];rfl
noncomputable def Qs:yp:=λxs M q=> ∃ (a:Addr) (bs:List Bool),xs= [wr a] /\ M a=some (.lst (bs.map wb)) /\ q (wb (bs.all id)) M
instance:IC K (Rc K) Qs where
 imp:=by rintro xs v M H q Q m r1 ⟨a,ns,rfl,hl,h⟩ k;let⟨v,rfl,r⟩:=r1.one;cases r.eq;let⟨vs,hv,rr⟩:=m a _ hl;cases rr.bools;exact#[a,ns,rfl,gB.of hv,k _ M _ H h (br.refl H) m WR.v]
noncomputable def iO (l:List W):List W:=(List.range l.length).map λ(i:Nat)=> .tup [wi i,l.getD i wn]
def J0 {i:Nat}(h:(iO l)[i]? =some x): ∃y,l[i]? =some y /\ x= .tup [wi i,y]:=by
 unfold iO at h;rw[ay] at h;by_cases hi:i<l.length
 .rw[List.getElem?_range hi] at h;cases h;exact#[l[i],ae hi,by simp[List.getD,hi]]
 .rw[cD (by simpa using hi)] at h;cases h
def G1:(iO l).length=l.length:=by simp[iO]
def JZ {i:Nat}(h:l[i]? =some y):(iO l)[i]? =some (.tup [wi i,y]):=by let⟨hi,rfl⟩:=ai.mp h;unfold iO;rw[ay,List.getElem?_range hi];simp[List.getD,hi]
noncomputable def zj (a:WA):WI:=λρ M q=>a ρ M λxs M1=> ∃p l,xs= [wr p] /\ M1 p=some (.lst l) /\ q (iO l) (λM'=>M' p=some (.lst l)) M1
def GS {i:Nat}(m:gD K M H)(rr:cM K H l vs)(hi:vs[i]? =some x)(hp:H p=none): br H (upd H p (.tup [.int i,x])) /\ gD K M (upd H p (.tup [.int i,x])) /\ ∃z,(iO l)[i]? =some z /\ WR K (upd H p (.tup [.int i,x])) z (.ref p):=by let⟨d,hd,r⟩:=rr.back hi;have ts:=L2.fm.ts (cw (o:= .tup [.int i,x]) hp);exact#[ts,m.new hp,_,JZ hd,WR.Pn (jj.of cn) (cM.cons WR.v (cM.cons (r.ts ts) cM.nil))]
def zm: ∀i M H,br H1 H ->gD K M H ->M p=some (.lst l) ->((iO l).length=i ->(Hr K p).stop i H) /\ (i< (iO l).length ->(Hr K p).go i H) /\ ∀v H',i< (iO l).length ->(Hr K p).Ms i H v H' ->br H H' /\ gD K M H' /\ ∃x,(iO l)[i]? =some x /\ WR K H' x v:=by intro i M H ts m hk;let⟨vs,hv,rr⟩:=m p _ hk;have hl:=rr.length;rw[G1];refine#[λh=>#[vs,gB.of hv,by lia],λh=>#[vs,vs[i]'(by lia),gB.of hv,by simp],λv H' hi y=> ?_];let⟨q,x,hq,rfl,rfl,y⟩:=y;exact GS m rr (y vs (gB.of hv)) hq
instance {t:TA}{a:WA} [ia:IA K t a]:II K (Gf K t) (zj a) where
 imp:=λρ M σ H q R o h k=>ia.imp ρ M σ H _ _ o h λxs M1 v H1 ⟨p,l,e,hp,h1⟩ t1 m1 r1=>by subst e;let⟨v,rfl,r⟩:=r1.one;cases r.eq;let⟨vs,hv,rr⟩:=m1 p _ hp;exact#[p,rfl,#[vs,gB.of hv],k _ _ _ M1 H1 h1 t1 m1 zm]
def Ga:zj a ρ M q=a ρ M λxs M1=>FD xs λx=>gG x λp=>lstK (M1 p) λl=>q (iO l) (λM'=>M' p=some (.lst l)) M1:=by
 unfold zj FD gG lstK;congr 1;funext xs M1;apply propext;constructor
 .rintro⟨p,l,h,h2,k⟩;exact#[_,h,p,rfl,l,h2,k]
 .rintro⟨_,h,p,rfl,l,h2,k⟩;exact#[p,l,h,h2,k]
end
end WL
namespace WL
open PySem L2
def zE {M1:Mp}(hz:xs.length<=sizeLine)(h: ∀p,M1 p=none -> ∃I:Nat ->List W ->Mp ->Prop,I 0 [] (um M1 p (.lst [])) /\ (∀i ys M,i<=xs.length ->I i ys M ->keep M /\ M p=some (.lst ys) /\ ys.length<=i) /\(∀i x ys M,xs[i]? =some x ->I i ys M -> ∀N:List W ->Mp ->Prop,(∀ys M,I (i+1) ys M ->N ys M) ->g x (capρ own fr ρ) M λρ2 M2=>c ρ2 M2 λb M3=>iM b (el ρ2 M3 λy M4=>M4 p=some (.lst ys) /\ N (ys++ [y]) (um M4 p (.lst (ys++ [y])))) (N ys M3)) /\∀ys M,I xs.length ys M ->q (wr p) M):ua xs keep own fr g c el ρ M1 q:=by refine#[hz,λp hp=> ?_];let⟨I,h0,h1,h2,h3⟩:=h p hp;exact#[I,h0,h1,λi x ys M hx hI=>h2 i x ys M hx hI _ λ_ _ z=>z,h3]
theorem Mz {bs:List Bool}(h:M x=some (.lst (bs.map wb)))(k:q (wb (bs.all id)) M):Qs [wr x] M q:=#[x,bs,rfl,h,k]
end WL
namespace WQ
open PySem L2 WL WP
noncomputable def gQ (l:List Int):W:= .tup (l.map wi)
noncomputable def i9 (l:List Int):List Int:=(l.reverse.dropWhile (λx=>x==0)).reverse
def lI (l:List Int):i9 (l++ [0])=i9 l:=by simp[i9]
def lJ (h:x≠0):i9 (l++ [x])=l++ [x]:=by simp[i9,h]
theorem BO:i9 []= []:=rfl
noncomputable def D9 (p:Int)(l:List Int):List Int:=i9 (l.map (· % p))
noncomputable def gX (p:Int)(l:List Int):Prop:=(∀x∈l,0<=x /\ x<p) /\ ∀x,l.getLast? =some x ->x≠0
theorem BN (l:List Int): ∀x∈i9 l,x∈l:=λx hx=>by unfold i9 at hx;rw[List.mem_reverse] at hx;have:=(List.dropWhile_sublist (λx=>x==0) (l:=l.reverse)).subset hx;simpa using this
def BP (l:List Int):(i9 l).length<=l.length:=by unfold i9;rw[List.length_reverse];refine aZ (List.dropWhile_sublist _).length_le ?_;rw[List.length_reverse];exact ao _
def uB (l:List Int): ∀x,(i9 l).getLast? =some x ->x≠0:=by
 induction l using fH with
 | h0=>intro x h;simp[BO] at h
 | h1 l a ih=>
  by_cases h:a=0
  .subst h;rw[lI];exact ih
  .rw[lJ h];intro x hx;simp at hx;rw[<- hx];exact h
def Ik (hp:0<p)(l:List Int):gX p (D9 p l):=by refine#[λx hx=> ?_,uB _];let⟨y,_,rfl⟩:=ag.mp (BN _ x hx);exact#[cF _ (by lia),cf _ hp]
def z3 (p:Int)(l:List Int):(D9 p l).length<=l.length:=by refine aZ (BP _) ?_;rw[aa];exact ao _
noncomputable def oK (row:List Int)(k:Nat)(x:Int):List Int:=row.set k (row.getD k 0+x)
def rB (row:List Int)(k:Nat)(x:Int):(oK row k x).length=row.length:=by simp[oK]
noncomputable def putK (row:List Int)(o:Nat)(l:List Int)(n:Nat):List Int:=(List.range n).foldl (λr i=>oK r (o+i) (l.getD i 0)) row
def BY (row:List Int)(o:Nat)(l:List Int)(n:Nat):putK row o l (n+1)=oK (putK row o l n) (o+n) (l.getD n 0):=by unfold putK;rw[List.range_succ,List.foldl_append];rfl
theorem E8 (row:List Int)(o:Nat)(l:List Int): ∀n,(putK row o l n).length=row.length
 | 0=>rfl
 | n+1=>by rw[BY,rB,E8 row o l n]
def GP {l:List Int}(h:l.length<=i):l.getD i 0=0:=by rw[aC,cD h];rfl
noncomputable def oU (row:List Int)(k:Nat)(x:Int)(b:List Int):Nat ->List Int
 | 0=>row
 | j+1=>oK (oU row k x b j) (k+j) (x*b.getD j 0)
noncomputable def rW (a b:List Int):Nat ->List Int
 | 0=>List.replicate (a.length+b.length) 0
 | k+1=>oU (rW a b k) k (a.getD k 0) b b.length
noncomputable def mulL (a b:List Int):List Int:=rW a b a.length
theorem oq (row:List Int)(k:Nat)(x:Int)(b:List Int): ∀j,(oU row k x b j).length=row.length
 | 0=>rfl
 | j+1=>by rw[oU,rB,oq row k x b j]
theorem mW (a b:List Int): ∀k,(rW a b k).length=a.length+b.length
 | 0=>by rw[rW,cj]
 | k+1=>by rw[rW,oq,mW a b k]
noncomputable def pw (p s:Int):Nat ->Int
 | 0=>1
 | n+1=>pw p s n*s % p
noncomputable def Rj:jS:=λxs M q=>oM λ(p:Int) (a:Addr) (ns:List Int)=>BJ (xs= [wi p,wr a]) (M a=some (.lst (ns.map wi))) (0<p) (ns.length<=100000) (q (gQ (D9 p ns)) M)
noncomputable def Fv:jS:=λxs M q=>Di λ(p s:Int)=>BJ (xs= [wi p,wi s]) (p=2 \/ p=3 \/ p=5 \/ p=7) (0<s) (s<p) (∀r,0<r ->r<p ->r*s % p=1 ->q (wi r) M)
noncomputable def VH:jS:=λxs M q=>oM λ(p:Int) (a b:List Int)=>DE (xs= [wi p,gQ a,gQ b]) (0<p) (a.length<=10000) (b.length<=10000) (∀x∈a,0<=x /\ x<1000) (q (gQ (D9 p (mulL a b))) M)
def Nu: ∀ (p s:Int),(p=2 \/ p=3 \/ p=5 \/ p=7) ->0<s ->s<p ->0<pw p s (p - 2).toNat /\ pw p s (p - 2).toNat<p /\ pw p s (p - 2).toNat*s % p=1:=by
 intro p s hp h0 h1;have hs:s=1 \/ s=2 \/ s=3 \/ s=4 \/ s=5 \/ s=6:=by lia
 rcases hp with rfl | rfl | rfl | rfl<;>rcases hs with rfl | rfl | rfl | rfl | rfl | rfl<;>first | decide | lia
def JB {l:List Int}(h:i<l.length):(l.map wi)[i]? =some (wi (l.getD i 0)):=by rw[ay,ae h];simp[List.getD,h]
theorem gV {l:List Int}(h:i<l.length):iY (l.map wi) (i:Int)=some (wi (l.getD i 0)):=gz (JB h)
def JA (h:i<n):qR n (i:Int)=some i:=by unfold qR;rw[aj (by lia),aj (by lia)];rfl
def EI {l:List Int}:(l.map wi).set i (wi x)=(l.set i x).map wi:=by rw[List.map_set]
end WQ
namespace WL
open PySem L2 PySem.Spec PyProof.Rows
noncomputable abbrev WX:=Addr ->Mp ->Prop
section
variable {K:PySem.W.Frag}
noncomputable def up (e:WX):WX:=λC M'=> ∃M0,Sm M0 M' /\ e C M0
end
end WL
namespace WL
open PySem L2
noncomputable def NR:W ->Bool
 | .v x=>decide (x=V.dY)
 | .tup _=>false
noncomputable def Le:R2:=λx y H Q=>y= .dY /\ Q (.bl (!decide (x=V.dY))) H
noncomputable def Qk:vP:=λx y M q=>y=wn /\ q (wb (!NR x)) M
instance {K:PySem.W.Frag}:IR K Le Qk where
 imp:=by
  rintro x y v u M H q Q m r1 r2 ⟨rfl,h⟩ k;refine#[r2.eq,k _ M _ H h (br.refl H) m ?_];cases x with
  | v x=>rw[r1.eq];exact WR.v
  | tup l=>let⟨a,vs,rfl,_⟩:=r1.tup;exact WR.v
theorem Fz:qf X (compareOp .IsNot) Le:=Jf
theorem OU (hx:DR M x d)(hy:DR M y d)(hd:yo d<=50)(hs:pU d d=true)(h:q (wb true) M):Qp x y M q:=#[d,d,hx,hy,hs,hd,by rw[nE];exact h]
noncomputable def Y0 {α:Type}(f:α ->W)(g:α ->Dt):Prop:= ∀a,CY (f a)=some (g a)
theorem xU {α:Type}{f:α ->W}{g:α ->Dt}(h:Y0 f g): ∀l:List α,oH (l.map f)=some (l.map g)
 | []=>rfl
 | a::l=>by rw[aK,oH,h a,xU h l];rfl
theorem xJ {α:Type}{g:α ->Dt}{n:Nat}(h: ∀a,yo (g a) <=n): ∀l:List α,pN (l.map g) <=n
 | []=>by simp[pN]
 | a::l=>by rw[aK,pN];have:=h a;have:=xJ h l;lia
end WL
namespace L2
open PySem PySem.Spec PyProof.Rows
noncomputable def Keeps (S:Nat ->Prop)(g:TG):Prop:= ∀ (σ:St) (v:V) (H:Hp) (Q:St ->Hp ->Prop),g v σ H Q ->g v σ H λσ2 H2=>(σ2.length=σ.length /\ ∀i,¬S i ->σ2[i]? =σ[i]?) /\ Q σ2 H2
def xi (h:S n):Keeps S (nB n):=by intro σ v H Q q;refine#[#[by simp,λi hi=> ?_],q];rw[List.getElem?_set_ne];intro e;subst e;exact hi h
def BD (h:(jW own fr σ)[i]? =some (some v)):own<=i:=by
 unfold jW at h;rcases Nat.lt_or_ge i own with c | c
 .rw[a7 (by simpa using c),List.getElem?_replicate,aj c] at h;cases h
 .exact c
noncomputable def inW (DK:TI)(g2:TG)(vJ:TT)(te:TE)(σ2:St)(p:Addr)(H4:Hp)(N:List V ->Hp ->Prop):Prop:=DK σ2 H4 λJ2 H5=> ∃Z:Nat ->Nat ->List V ->Hp ->Prop,(∃m zs,Z 0 m zs H5) /\ ∀j k zs H6,Z j k zs H6 ->H6 p=some (.lst zs) /\((J2.stop j H6 /\ N zs H6) \/ (J2.go j H6 /\ zs.length<sizeLine /\ ∀y H7,J2.Ms j H6 y H7 ->g2 y σ2 H7 λσ3 H8=>vJ σ3 H8 λc H9=>if c=true then te σ3 H9 λz Qb=> ∃ws,Qb p=some (.lst ws) /\ ws.length<sizeLine /\ ∃k',k'<k /\ Z (j+1) k' (ws++ [z]) (upd Qb p (.lst (ws++ [z]))) else ∃ws k',k'<k /\ Z (j+1) k' ws H9))
noncomputable def Hb (J:It)(own:Nat)(fr:List Nat)(g:TG)(tc:TT)(DK:TI)(g2:TG)(vJ:TT)(te:TE)(σ:St)(p:Addr)(H1:Hp)(Q:VK):Prop:=∃ W :Nat ->Nat ->List V ->Hp ->Prop,(∃m,W 0 m [] (upd H1 p (.lst []))) /\ ∀i m ys H',W i m ys H' ->H' p=some (.lst ys) /\((J.stop i H' /\ Q (.ref p) H') \/ (J.go i H' /\ ∀x H2,J.Ms i H' x H2 ->g x (jW own fr σ) H2 λσ2 H3=>tc σ2 H3 λb H4=>if b=true then inW DK g2 vJ te σ2 p H4 λzs H5=> ∃m',m'<m /\ W (i+1) m' zs H5 else ∃zs m',m'<m /\ W (i+1) m' zs H4))
noncomputable def Et (wi:TI)(own:Nat)(fr:List Nat)(g:TG)(tc:TT)(DK:TI)(g2:TG)(vJ:TT)(te:TE):TE:=λσ H Q=>wi σ H λJ H1=> ∀p,H1 p=none ->Hb J own fr g tc DK g2 vJ te σ p H1 Q
section
variable {prog:Program}{w:World}{A:Around}{R:Result ->Shared ->Prop}{s:Shared}
noncomputable abbrev u6 (elt tg iter:Expr)(ifs:List Expr)(jZ dC:Expr)(fU:List Expr)(scope:Scope)(pos:Pos):Expr:= .ListComp elt [#[tg,iter,ifs,0],#[jZ,dC,fU,0]] scope pos
def Ii (elt tg iter:Expr)(ifs:List Expr)(jZ dC:Expr)(fU:List Expr)(scope:Scope)(pos:Pos)(it acc:Value)(env:Env): compTurn (u6 elt tg iter ifs jZ dC fU scope pos) 0 it acc env=(do
 standAt iter.pos
 let r <- pyNext it
 match r with
 | none=>pure (.done .next)
 | some v=>do
  letOwnedTupleGo tg it v
  assign tg env v
  let ok <- forIn ifs true λc r=>if r=true then do let ok <- isTrue c env (eval c env);pure (ForInStep.yield ok) else pure (ForInStep.yield r)
  if ok=true then do
   let x <- eval dC env
   standAt dC.pos
   let x <- foldedSetIterable dC env x
   let i2 <- holding [x] (pyIter x)
   let _ <- runOwn (.compStart (u6 elt tg iter ifs jZ dC fU scope pos) 1 i2 acc env) env
   again (.compLoop (u6 elt tg iter ifs jZ dC fU scope pos) 0 it acc env)
  else again (.compLoop (u6 elt tg iter ifs jZ dC fU scope pos) 0 it acc env)):=by rfl
def Ih (elt tg iter:Expr)(ifs:List Expr)(jZ dC:Expr)(fU:List Expr)(scope:Scope)(pos:Pos)(it acc:Value)(env:Env): compTurn (u6 elt tg iter ifs jZ dC fU scope pos) 1 it acc env=(do
 standAt dC.pos
 let r <- pyNext it
 match r with
 | none=>pure (.done .next)
 | some v=>do
  letOwnedTupleGo jZ it v
  assign jZ env v
  let ok <- forIn fU true λc r=>if r=true then do let ok <- isTrue c env (eval c env);pure (ForInStep.yield ok) else pure (ForInStep.yield r)
  if ok=true then do
   ((do let _ <- call (.builtin "list.append") [acc, <- eval elt env]):Sem Unit)
   again (.compLoop (u6 elt tg iter ifs jZ dC fU scope pos) 1 it acc env)
  else again (.compLoop (u6 elt tg iter ifs jZ dC fU scope pos) 1 it acc env)):=by rfl
def EA (h0:codeAny (model prog w) A (.compLoop (u6 elt tg iter ifs jZ dC fU scope pos) 1 it acc env) R s)(h:wpAny (model prog w) A (pyIter it) (λWe s'=>codeAny (model prog w) A (.compLoop (u6 elt tg iter ifs jZ dC fU scope pos) 1 We acc env) R s') (notedBy (model prog w) A env λx s'=>R (.error x) s') s): codeAny (model prog w) A (.compStart (u6 elt tg iter ifs jZ dC fU scope pos) 1 it acc env) R s:=by
 refine codeAny_of_tree ?_;show wpAny _ _ ((compStart (u6 elt tg iter ifs jZ dC fU scope pos) 1 it acc env).onRaise (λx=>do noteFrame x env;standAt theWindowsPlace)) _ _ s;refine wpAny_notedAt ?_;unfold compStart;show wpAny _ _ (ask >>=_) _ _ s;refine ak (wpAny_askSetting (wpAny_ite ?_));split
 .first
  | exact ak (aO (aO (And.intro rfl h0)))
  | exact aO (And.intro rfl h0)
 .first
  | exact ak (wpAny_rule (ak (wpAny_standAt (ak (bV h (λWe s' h'=>aO (And.intro rfl h')) λ_ _ x=>x)))))
  | (refine ak (wpAny_rule ?_);show wpAny _ _ (standAt dC.pos >>=_) _ _ s;exact ak (wpAny_standAt (ak (bV h (λWe s' h'=>aO (And.intro rfl h')) λ_ _ x=>x))))
theorem Jt (I:Nat ->Shared ->Prop)(turn : ∀n s,I n s ->wpAny (model prog w) A (pyNext it) (λr s₁=>match r with
   | none=>R (.ok .next) s₁
   | some v=>wpAny (model prog w) A (letOwnedTupleGo jZ it v) (λ_ s₀=>wpAny (model prog w) A (assign jZ env v) (λ_ s₂=>
    wpAny (model prog w) A (forIn fU true λc r=>if r=true then do let ok <- isTrue c env (eval c env);pure (ForInStep.yield ok) else pure (ForInStep.yield r)) (λok s₃=>if ok=true then wpAny (model prog w) A (eval elt env) (λx s₄=>wpAny (model prog w) A (call (.builtin "list.append") [acc,x]) (λ_ s₅=> ∃m,m<n /\ I m s₅) (λ_ _=>False) s₄) (λ_ _=>False) s₃ else ∃m,m<n /\ I m s₃) (λ_ _=>False) s₂)
    (λ_ _=>False) s₀) (λ_ _=>False) s₁) (λ_ _=>False) s)(n:Nat)(h:I n s):codeAny (model prog w) A (.compLoop (u6 elt tg iter ifs jZ dC fU scope pos) 1 it acc env) R s:=by
 refine codeAny_loop rfl I (λn s hI=> ?_) n h
 show wpAny _ A ((compTurn (u6 elt tg iter ifs jZ dC fU scope pos) 1 it acc env).onRaise (λx=>do noteFrame x env;theTreesLotGoes x)) _ _ s
 refine wpAny_noted ?_
 rw[Ih]
 refine ak (wpAny_standAt (ak (bV (turn n s hI) (λr s₁ h₁=> ?_) λ_ _ h'=>h'.elim)))
 cases r with
 | none=>exact aO h₁
 | some v=>
  refine ak (bV h₁ (λ_ s₀ R0=> ?_) λ_ _ h'=>h'.elim);refine ak (bV R0 (λ_ s₂ h₂=> ?_) λ_ _ h'=>h'.elim);refine ak (bV h₂ (λRu s₃ h₃=> ?_) λ_ _ h'=>h'.elim);cases Ru with
  | false=>exact aO #[rfl,h₃]
  | true=>exact ak (ak (bV h₃ (λx s₄ h₄=>ak (bV h₄ (λ_ s₅ h₅=>aO (aO #[rfl,h₅])) λ_ _ h'=>h'.elim)) λ_ _ h'=>h'.elim))
theorem Ju (I:Nat ->Shared ->Prop)(hs: ∀x,foldedSetIterable dC env x=pure x)(turn : ∀n s,I n s ->wpAny (model prog w) A (pyNext it) (λr s₁=>match r with
   | none=>R (.ok .next) s₁
   | some v=>wpAny (model prog w) A (letOwnedTupleGo tg it v) (λ_ s₀=>wpAny (model prog w) A (assign tg env v) (λ_ s₂=>
    wpAny (model prog w) A (forIn ifs true λc r=>if r=true then do let ok <- isTrue c env (eval c env);pure (ForInStep.yield ok) else pure (ForInStep.yield r)) (λok s₃=>if ok=true then wpAny (model prog w) A (eval dC env) (λx s₄=>wpAny (model prog w) A (pyIter x) (λi2 s₅=>codeAny (model prog w) (A.mark none) (.compStart (u6 elt tg iter ifs jZ dC fU scope pos) 1 i2 acc env) (λr s₆=>match r with | .ok _=> ∃m,m<n /\ I m s₆ | .error _=>False) s₅) (λ_ _=>False) s₄) (λ_ _=>False) s₃ else ∃m,m<n /\ I m s₃) (λ_ _=>False) s₂)
    (λ_ _=>False) s₀) (λ_ _=>False) s₁) (λ_ _=>False) s)(n:Nat)(h:I n s):codeAny (model prog w) A (.compLoop (u6 elt tg iter ifs jZ dC fU scope pos) 0 it acc env) R s:=by
 refine codeAny_loop rfl I (λn s hI=> ?_) n h
 show wpAny _ A ((compTurn (u6 elt tg iter ifs jZ dC fU scope pos) 0 it acc env).onRaise (λx=>do noteFrame x env;theTreesLotGoes x)) _ _ s
 refine wpAny_noted ?_
 rw[Ii]
 refine ak (wpAny_standAt (ak (bV (turn n s hI) (λr s₁ h₁=> ?_) λ_ _ h'=>h'.elim)))
 cases r with
 | none=>exact aO h₁
 | some v=>
  refine ak (bV h₁ (λ_ s₀ R0=> ?_) λ_ _ h'=>h'.elim);refine ak (bV R0 (λ_ s₂ h₂=> ?_) λ_ _ h'=>h'.elim);refine ak (bV h₂ (λRu s₃ h₃=> ?_) λ_ _ h'=>h'.elim);cases Ru with
  | false=>exact aO #[rfl,h₃]
  | true=>
   refine ak (bV h₃ (λx s₄ h₄=> ?_) λ_ _ h'=>h'.elim);refine ak (wpAny_standAt ?_);rw[hs];refine ak (aO (ak (wpAny_holding (bV h₄ (λi2 s₅ h₅=> ?_) λ_ _ h'=>h'.elim))));refine ak (wpAny_runOwn ?_);refine codeAny_mono h₅ λr s' z=> ?_;cases r with
   | ok f=>exact aO #[rfl,z]
   | error e=>exact z.elim
end
section
variable {X:Cx}{pins:List (Addr×Obj)}{σ:St}{H:Hp}{s s3:Shared}
def xY {RR:Value ->Addr ->Result ->Shared ->Prop}(jw:X.calm=true)(S:dG X own fr N' scope)(hg: ∀s3 H3,PG (b8 X N' scope cl fp s3 H3) tg g)(Su:n1<=own.length)(hw:Keeps (λi=>i<n1) g)(hc: ∀s3 H3,Kj (b8 X N' scope cl fp s3 H3) ifs tc)(Xi: ∀s3 H3,PI (b8 X N' scope cl fp s3 H3) jZ dC DK)(Xl: ∀s3 H3,PG (b8 X N' scope cl fp s3 H3) jZ g2)(Wn:Keeps (λi=>n1<=i /\ i<own.length) g2)(PX: ∀s3 H3,Kj (b8 X N' scope cl fp s3 H3) fU vJ)(he: ∀s3 H3,PE (b8 X N' scope cl fp s3 H3) elt te)(jU: ∀s3 H3 x,foldedSetIterable dC (b8 X N' scope cl fp s3 H3).env x=pure x)(oE: ∀x c,cl.lookup x=some c ->X.env.cells.lookup x=some c)(pK: ∀y∈scope.names,y.2= .free ->(cl.lookup y.1).isSome=true)(I:Inv X pins σ H s)(T:Turn X.prog X.w X.K tg J fp it tn)(st:tn 0 s.heap)(vj: ∀b∈fp,jA X pins H b)(h: ∀p,H p=none ->Hb J own.length fr g tc DK g2 vJ te σ p H Q)(fin: ∀ (s3:Shared) (H3:Hp),Inv X pins σ H3 s3 ->(∀b∈fp,jA X pins H3 b) -> ∀ (D:Addr) (σ':St) (H':Hp) (s':Shared) (t:Nat),D<s3.heap.objs.size ->Inv (b8 X N' scope cl fp s3 H3) [] σ' H' s' ->Q (.ref D) H' ->RR (.ref D) s3.heap.objs.size (.ok .next) s'): wpAny (model X.prog X.w) X.A (newList []) (λacc s₃=>wpAny (model X.prog X.w) X.A (newFunctionEnv scope X.env.globals cl [] X.env.qual none .none (some X.env)) (λHd s₄=>codeAny (model X.prog X.w) X.A (.compStart (u6 elt tg iter ifs jZ dC fU scope pos) 0 (.ref it) acc {Hd with scope:=relabel scope X.env}) (RR acc Hd.locals) s₄) E s₃) E s:=by
 refine wpAny_newObj_type ?_;have hf:H s.heap.objs.size=none:=I.dv.fresh (ao _);let⟨W,⟨m0,w0⟩,turn⟩:=h _ hf;generalize e3:({s with heap:=s.heap.push {cls:= .type "list",dict:=none,data:= .seq ([]:List Value).toArray}}:Shared)=s3;have MY:s3.heap.objs.size=s.heap.objs.size+1:=by rw[<- e3];exact Heap.size_push ..
 have Vn: ∀b o,s.heap.get? b=some o ->s3.heap.get? b=some o:=λb o e=>by rw[<- e3];exact aq _ e
 have I3:Inv X pins σ (upd H s.heap.objs.size (.lst [])) s3:=by rw[<- e3];exact I.laid (t':=s.toks) (λb u e=>aq _ e) (ao _) #[dj _,[],0, .nil,aS _ rfl]
 have ON: ∀b∈fp,b<s.heap.objs.size:=λb hb=>by let⟨o,e,_⟩:=T.obj 0 _ st b hb;exact aF e
 have zv: ∀b∈fp,jA X pins (upd H s.heap.objs.size (.lst [])) b:=λb hb=>#[by rw[bM (a5 (ON b hb))];exact(vj b hb).1,(vj b hb).2]
 refine wpAny_newFunctionEnv S.qH (by intro y hy;simp at hy) (λh₁ Om Oh=> ?_) S.kind;have old: ∀b o,s3.heap.get? b=some o ->h₁.get? b=some o:=λb o e=>Oh.extBut b o (a5 (aF e)) (aq _ e);have Ic:=xn (t:=s3.toks+([]:List (Str×Value)).length) S I3 oE pK zv (λb hb=>by rw[MY];exact Nat.lt_succ_of_lt (ON b hb)) Om old;have BV:tn 0 h₁:=T.keep 0 _ _ st λb hb o e=>old b o (Vn b o e);have qo: ∀ {H':Hp},(∀b∈fp,H' b=none) -> ∀b∈fp,jA (b8 X N' scope cl fp s3 (upd H s.heap.objs.size (.lst []))) [] H' b:=λhn b hb=>by
  refine#[hn b hb,?_,?_, .inl hb,λx c e=>(vj b hb).2.2.2.2.1 x c (oE x c e),λp hp=>absurd (show p∈([]:List (Addr×Obj)) from hp) (by simp)]
  .show b≠s3.heap.objs.size;rw[MY];exact a5 (Nat.lt_succ_of_lt (ON b hb))
  .exact Ic.ok.CO b hb
 have loop : codeAny (model X.prog X.w) X.A (.compLoop (u6 elt tg iter ifs jZ dC fU scope pos) 0 (.ref it) (.ref s.heap.objs.size) (compEnvC scope cl s3.heap.objs.size X.env)) (RR (.ref s.heap.objs.size) s3.heap.objs.size) {s3 with heap:=h₁,toks:=s3.toks+([]:List (Str×Value)).length}:=by
  refine Ju (λn s'=> ∃i ys H',Inv (b8 X N' scope cl fp s3 (upd H s.heap.objs.size (.lst []))) [] (jW own.length fr σ) H' s' /\ tn i s'.heap /\ (∀b∈fp,H' b=none) /\ W i n ys H') (jU s3 H) ?_ m0 #[0,[],_,Ic,BV,λb hb=>(zv b hb).1,w0];rintro n s4 ⟨i,ys,H4,I4,f6,OP,w4⟩;let⟨vm,alt⟩:=turn i n ys H4 w4;rcases alt with⟨stop,q⟩ | ⟨go,step⟩
  .refine dt (T.done (b8 X N' scope cl fp s3 (upd H s.heap.objs.size (.lst []))) rfl rfl rfl jw i [] s4 _ H4 (λ_ _=>False) I4 (qo OP) f6 stop) λr s5 ⟨hr,I5⟩=> ?_;subst hr;exact fin s3 _ I3 zv _ _ H4 s5 s5.toks (by rw[MY];exact Nat.lt_succ_self _) I5 q
  .refine dt (T.item (b8 X N' scope cl fp s3 (upd H s.heap.objs.size (.lst []))) rfl rfl rfl jw i [] s4 _ H4 (λ_ _=>False) I4 (qo OP) f6 go) λr s5 ⟨u,hr,h5⟩=> ?_;subst hr;refine dt h5 λ_ s6 ⟨x,H6,I6,r6,y6,Nb,YK⟩=> ?_;have Zp:=I6.pinned (qo YK) (T.obj _ _ Nb);have KZ:=hw _ x H6 _ (step x H6 y6);refine dt (hg s3 _ _ s6 _ H6 x u _ Zp r6 KZ) λ_ s7 ⟨σ7,H7,I7,wk,q7⟩=> ?_;have wk1: ∀ (j:Nat) v,(jW own.length fr σ)[j]? =some (some v) ->σ7[j]? =some (some v):=λj v e=>by rw[wk.2 j (by have:=BD e;lia)];exact e
   have wk2: ∀j,n1<=j ->j<own.length -> ∀v,σ7[j]? ≠some (some v):=λj h1 h2 v e=>by rw[wk.2 j (by lia)] at e;have:=BD e;lia
   have again: ∀ {σ9:St} {H9:Hp} {s9:Shared} {Mr:List V},σ9.length=σ7.length ->(∀ (j:Nat) v,σ7[j]? =some (some v) ->σ9[j]? =some (some v)) ->Inv (b8 X N' scope cl fp s3 (upd H s.heap.objs.size (.lst []))) ([]++iK fp s6.heap) σ9 H9 s9 ->(∃m',m'<n /\ W (i+1) m' Mr H9) ->∃m,m<n /\ ∃i ys H',Inv (b8 X N' scope cl fp s3 (upd H s.heap.objs.size (.lst []))) [] (jW own.length fr σ) H' s9 /\ tn i s9.heap /\ (∀b∈fp,H' b=none) /\ W i m ys H':=λ{σ9 H9 s9 Mr} hl9 hv9 I9 ⟨m',hm,w9⟩=>by
    refine#[m',hm,i+1,Mr,H9,(I9.jk).weak ?_ λj v e=>hv9 j v (wk1 j v e),T.keep _ _ _ Nb λb hb o e=>(I9.pin (b,o) (aV _ (aV _ (fD hb e)))).1,λb hb=> ?_,w9]
    .rw[hl9,wk.1]
    .let⟨o,e,d⟩:=T.obj _ _ Nb b hb;exact(I9.pin (b,o) (aV _ (aV _ (fD hb e)))).2.1
   refine dt (hc s3 _ _ s7 σ7 H7 _ I7 q7) λok s8 ⟨H8,I8,q8⟩=> ?_;cases ok with
   | false=>simp![az,bj] at q8 ⊢;let⟨zs,q8⟩:=q8;exact again rfl (λ_ _ e=>e) I8 q8
   | true =>
    simp![bW] at q8 ⊢;refine dt (Xi s3 _ _ s8 σ7 H8 _ I8 q8) λv2 s9 h9=>dt h9 λPr Vy UY=> ?_;let⟨xm,S',ZG,J2,Qb,YY,Zr,T2,QU,f10,Z,⟨mz,z0,vL⟩,Qx⟩:=UY;subst YY;have Ez: ∀ {H':Hp},(∀b∈S',H' b=none) -> ∀b∈S',jA (b8 X N' scope cl fp s3 (upd H s.heap.objs.size (.lst []))) ([]++iK fp s6.heap) H' b:=λhn b hb=>#[hn b hb,(f10 b hb).2]
    have Lp:codeAny (model X.prog X.w) X.A (.compLoop (u6 elt tg iter ifs jZ dC fU scope pos) 1 (.ref xm) (.ref s.heap.objs.size) (compEnvC scope cl s3.heap.objs.size X.env)) (λr s₆=>match r with
    | .ok _=> ∃m,m<n /\ ∃i ys H',Inv (b8 X N' scope cl fp s3 (upd H s.heap.objs.size (.lst []))) [] (jW own.length fr σ) H' s₆ /\ tn i s₆.heap /\ (∀b∈fp,H' b=none) /\ W i m ys H'
    | .error _=>False) Vy:=by
     refine Jt (λk s'=> ∃j zs H',Inv (b8 X N' scope cl fp s3 (upd H s.heap.objs.size (.lst []))) ([]++iK fp s6.heap) σ7 H' s' /\ ZG j s'.heap /\ (∀b∈S',H' b=none) /\ Z j k zs H') ?_ mz #[0,z0,Qb,Zr,QU,λb hb=>(f10 b hb).1,vL]
     rintro k ZS ⟨j,zs,Zt,I11,QT,S9,z11⟩
     let⟨aan,Zc⟩:=Qx j k zs Zt z11
     rcases Zc with⟨QP,qN⟩ | ⟨go2,hsz2,QS⟩
     .refine dt (T2.done (b8 X N' scope cl fp s3 (upd H s.heap.objs.size (.lst []))) rfl rfl rfl jw j _ ZS _ Zt (λ_ _=>False) I11 (Ez S9) QT QP) λr s12 ⟨hr,I12⟩=> ?_;subst hr;exact again rfl (λ_ _ e=>e) I12 qN
     .refine dt (T2.item (b8 X N' scope cl fp s3 (upd H s.heap.objs.size (.lst []))) rfl rfl rfl jw j _ ZS _ Zt (λ_ _=>False) I11 (Ez S9) QT go2) λr s12 ⟨u2,hr,h12⟩=> ?_;subst hr;refine dt h12 λ_ ZR ⟨x2,Zs,I13,r13,y13,Nc,YL⟩=> ?_;have Zq:=I13.pinned (Ez YL) (T2.obj _ _ Nc);have Vu:=Wn _ x2 Zs _ (QS x2 Zs y13);refine dt (Xl s3 _ _ ZR _ Zs x2 u2 _ Zq r13 Vu) λ_ s14 ⟨σ14,H14,I14,Qe,q14⟩=> ?_;have Mi: ∀ {H9:Hp} {s9:Shared} {ws:List V},Inv (b8 X N' scope cl fp s3 (upd H s.heap.objs.size (.lst []))) (([]++iK fp s6.heap)++iK S' ZR.heap) σ14 H9 s9 ->(∃k',k'<k /\ Z (j+1) k' ws H9) ->∃m,m<k /\ ∃j zs H',Inv (b8 X N' scope cl fp s3 (upd H s.heap.objs.size (.lst []))) ([]++iK fp s6.heap) σ7 H' s9 /\ ZG j s9.heap /\ (∀b∈S',H' b=none) /\ Z j m zs H':=λ{H9 s9 ws} I9 ⟨k',rL,z9⟩=>by
       refine#[k',rL,j+1,ws,H9,(I9.jk).weak Qe.1.symm λa v e=> ?_,T2.keep _ _ _ Nc λb hb o e=>(I9.pin (b,o) (aV _ (aV _ (fD hb e)))).1,λb hb=> ?_,z9]
       .rw[Qe.2 a λhS=>wk2 a hS.1 hS.2 v e];exact e
       .let⟨o,e,d⟩:=T2.obj _ _ Nc b hb;exact(I9.pin (b,o) (aV _ (aV _ (fD hb e)))).2.1
      refine dt (PX s3 _ _ s14 σ14 H14 _ I14 q14) λVQ s15 ⟨H15,I15,Pk⟩=> ?_;cases VQ with
      | false=>simp![az,bj] at Pk ⊢;let⟨ws,Pk⟩:=Pk;exact Mi I15 Pk
      | true=>simp![bW] at Pk ⊢;refine dt (he s3 _ _ s15 σ14 H15 _ I15 Pk) λy s16 ⟨yv,H16,I16,ry,ws,WC,Wj,q16⟩=> ?_;refine dt (kI _ s16 σ14 H16 (.ref s.heap.objs.size) [yv] (.ref s.heap.objs.size) [y] (λv H'=>H'=upd H16 s.heap.objs.size (.lst (ws++ [yv]))) I16 rfl (.cons ry .nil) #[_,ws,yv,rfl,rfl,WC,Wj,rfl]) λv s17 ⟨_,H17,I17,_,e17⟩=> ?_;subst e17;exact Mi I17 q16
    show codeAny _ X.A _ _ Vy;exact EA Lp (T2.self _ 0 _ _ _ QU Lp)
 exact codeAny_compStart_list loop (T.self _ 0 _ _ _ BV loop)
end
section
variable {X:Cx}
def Fo {pos:Pos}(jw:X.calm=true)(S:dG X own fr N' scope)(hi:PI X tg iter wi)(hg: ∀cl fp s3 H3,PG (b8 X N' scope cl fp s3 H3) tg g)(Su:n1<=own.length)(hw:Keeps (λi=>i<n1) g)(hc: ∀cl fp s3 H3,Kj (b8 X N' scope cl fp s3 H3) ifs tc)(Xi: ∀cl fp s3 H3,PI (b8 X N' scope cl fp s3 H3) jZ dC DK)(Xl: ∀cl fp s3 H3,PG (b8 X N' scope cl fp s3 H3) jZ g2)(Wn:Keeps (λi=>n1<=i /\ i<own.length) g2)(PX: ∀cl fp s3 H3,Kj (b8 X N' scope cl fp s3 H3) fU vJ)(he: ∀cl fp s3 H3,PE (b8 X N' scope cl fp s3 H3) elt te)(hs: ∀x,foldedSetIterable iter X.env x=pure x:=by intro _;rfl)(jU: ∀cl fp s3 H3 x,foldedSetIterable dC (b8 X N' scope cl fp s3 H3).env x=pure x:=by intro _ _ _ _ _;rfl):PE X (.ListComp elt [#[tg,iter,ifs,0],#[jZ,dC,fU,0]] scope pos) (Et wi own.length fr g tc DK g2 vJ te):=by intro pins s σ H Q I h;let⟨cl,xu,oE,pK⟩:=l4 (I.ok.cellsOf S);rw[eval_ListComp];refine wpAny_comprehension_free (use:=none) rfl hs xu S.kind S.loc (dt (hi pins s σ H _ I h) λv s1 h1=>dt h1 λPr s2 h2=> ?_);let⟨it,fp,tn,J,H2,e,I2,T,lK,f2,h2⟩:=h2;subst e;refine xY (RR:=λacc C=>compPost (model X.prog X.w) X.A X.xe none (EP X pins σ Q) acc C) jw S (hg cl fp) Su hw (hc cl fp) (Xi cl fp) (Xl cl fp) Wn (PX cl fp) (he cl fp) (jU cl fp) oE pK I2 T lK f2 h2 ?_;intro s3 H3 I3 f3 D σ' H' s' t hD Ic q;let⟨m,hn,_⟩:=Ic.loc;refine#[m,hn,λh' Oi=>#[.ref D,H',?_,rfl,q]];exact oI I3 rfl (comp_back I3 f3 Ic) Ic.free Oi
end
end L2
namespace WL
open PySem L2
section
variable {K:PySem.W.Frag}
noncomputable def Of (vI:List W)(gd:Mp ->Prop)(g2:WG)(c2:WT)(el:WE)(ρ2:dN)(p:Addr)(ys:List W)(M4:Mp)(N:List W ->Mp ->Prop):Prop:=∃ I2:Nat ->List W ->Mp ->Prop,I2 0 ys M4 /\ (∀j zs M,j<=vI.length ->I2 j zs M ->gd M /\ M p=some (.lst zs) /\ zs.length<sizeLine) /\(∀j y zs M,vI[j]? =some y ->I2 j zs M ->g2 y ρ2 M λρ3 M5=>c2 ρ3 M5 λb M6=>if b=true then el ρ3 M6 λz M7=>M7 p=some (.lst zs) /\ I2 (j+1) (zs++ [z]) (um M7 p (.lst (zs++ [z]))) else I2 (j+1) zs M6) /\∀zs M,I2 vI.length zs M ->N zs M
noncomputable def vw (xs:List W)(keep:Mp ->Prop)(own:Nat)(fr:List Nat)(g:WG)(c:WT)(xm:WI)(g2:WG)(c2:WT)(el:WE)(ρ:dN)(M1:Mp)(q:WK):Prop:= ∀p,M1 p=none -> ∃I:Nat ->List W ->Mp ->Prop,I 0 [] (um M1 p (.lst [])) /\(∀i ys M,i<=xs.length ->I i ys M ->keep M /\ M p=some (.lst ys)) /\(∀i x ys M,xs[i]? =some x ->I i ys M ->g x (capρ own fr ρ) M λρ2 M2=>c ρ2 M2 λb M3=>if b=true then xm ρ2 M3 λvI gd M4=>Of vI gd g2 c2 el ρ2 p ys M4 (I (i+1)) else I (i+1) ys M3) /\∀ys M,I xs.length ys M ->q (wr p) M
noncomputable def DZ (it:WI)(own:Nat)(fr:List Nat)(g:WG)(c:WT)(xm:WI)(g2:WG)(c2:WT)(el:WE):WE:=λρ M q=>it ρ M λxs keep M1=>vw xs keep own fr g c xm g2 c2 el ρ M1 q
theorem wComp2_e:DZ it own fr g c xm g2 c2 el ρ M q=it ρ M λxs keep M1=>vw xs keep own fr g c xm g2 c2 el ρ M1 q:=rfl
instance {ti:TI}{own:Nat}{fr:List Nat}{g:TG}{tc:TT}{ZH:TI}{g2:TG}{vJ:TT}{te:TE}{it:WI}{w:WG}{c:WT}{xm:WI}{w2:WG}{c2:WT}{el:WE} [ii:II K ti it] [ig:IG K g w] [ic:IT K tc c] [ii2:II K ZH xm] [ig2:IG K g2 w2] [ic2:IT K vJ c2] [ie:IE K te el]: IE K (Et ti own fr g tc ZH g2 vJ te) (DZ it own fr w c xm w2 c2 el) where
 imp := λρ M σ H q Q o h k=>ii.imp ρ M σ H _ _ o h λxs keep J M1 H1 h1 t1 m1 ok=>by
  intro p hp;let⟨I,h0,hk,hs,hd⟩:=h1 p (m1.fresh hp);have tp:=L2.fm.ts (cw (o:= .lst []) hp);refine#[λi m vs H'=>m=xs.length - i /\ i<=xs.length /\ Di λys M'=>BJ (I i ys M') (br H1 H') (gD K M' H') (cM K H' ys vs) (H' p=some (.lst vs)),#[_,rfl,dj _,[],_,h0,tp,m1.oo hp cM.nil,cM.nil,cn],?_];rintro i m vs H' ⟨rfl,hi,ys,M',hI,ts,m',rv,hv⟩;refine#[hv,?_];let⟨kp,hMp⟩:=hk i ys M' hi hI;let⟨k1,k2,k3⟩:=ok i M' H' ts m' kp;by_cases fM:i<xs.length
  .refine .inr #[k2 fM,λv H2 y=> ?_];let⟨ty,my,x,hx,r⟩:=k3 v H2 fM y;replace ts:=ts.trans ty;have oc:Ok K (capρ own fr ρ) M' (jW own fr σ) H2:=#[(o.env.ts (t1.trans ts)).Qa own fr,my]
   refine ig.imp x v _ M' _ H2 _ _ oc r (hs i x ys M' hx hI) λρ3 M3 σ3 H3 h3 t3 o3=>ic.imp ρ3 M3 σ3 H3 _ _ o3 h3 λb M4 H4 h4 t4 m4=> ?_;cases b with
   | true=>
    simp![bW] at h4 ⊢;refine ii2.imp ρ3 M4 σ3 H4 _ _ (o3.mv t4 m4) h4 λvI gd J2 M5 H5 h5 t5 m5 VQ=> ?_;let⟨I2,h20,Gx,jU,hd2⟩:=h5;have tt5:=ts.trans ((t3.trans t4).trans t5);have at5: ∀ {M6:Mp} {H6:Hp} {zs:List W},M6 p=some (.lst zs) ->gD K M6 H6 -> ∃vs,H6 p=some (.lst vs) /\ cM K H6 zs vs:=λh m=>by let⟨vs,hv,rr⟩:=m p _ h;exact#[vs,hv,rr]
    let⟨KD,Gh,IB⟩:=at5 (Gx 0 ys M5 (dj _) h20).2.1 m5;refine#[λj m vs H'=>m=vI.length - j /\ j<=vI.length /\ Di λzs M'=>BJ (I2 j zs M') (br H5 H') (gD K M' H') (cM K H' zs vs) (H' p=some (.lst vs)),#[_,KD,rfl,dj _,ys,M5,h20,br.refl _,m5,IB,Gh],?_];rintro j m2 vs6 H6 ⟨rfl,hj,zs,M6,XI,Qy,m6,ZT,hv6⟩;refine#[hv6,?_];let⟨Jx,aaA,hzl⟩:=Gx j zs M6 hj XI;let⟨a1,a2,a3⟩:=VQ j M6 H6 Qy m6 Jx;by_cases xq:j<vI.length
    .refine .inr #[a2 xq,by rw[ZT.length];exact hzl,λu7 H7 y7=> ?_];let⟨Vp,my7,x7,hx7,r7⟩:=a3 u7 H7 xq y7;have o7:Ok K ρ3 M6 σ3 H7:=#[o3.env.ts ((t4.trans t5).trans (Qy.trans Vp)),my7]
     refine ig2.imp x7 u7 ρ3 M6 σ3 H7 _ _ o7 r7 (jU j x7 zs M6 hx7 XI) λρ8 M8 σ8 H8 h8 t8 o8=>ic2.imp ρ8 M8 σ8 H8 _ _ o8 h8 λb9 M9 H9 h9 t9 m9=> ?_;cases b9 with
     | true=>simp![bW] at h9 ⊢;refine ie.imp ρ8 M9 σ8 H9 _ _ (o8.mv t9 m9) h9 λz M10 u Qb ⟨UY,h11⟩ t10 m10 ZW=> ?_;let⟨Ie,Gi,EX⟩:=m10 p _ UY;have ZM:=lH (u:= .lst (Ie++ [u])) Gi;refine#[Ie,Gi,by rw[EX.length];exact hzl,_,?_,rfl,xq,_,_,h11,((((Qy.trans Vp).trans t8).trans t9).trans t10).trans ZM,m10.putL Gi (EX.snoc ZW),(EX.snoc ZW).ts ZM,cn];lia
     | false=>simp![az,bj] at h9 ⊢;let⟨Ie,Gi,EX⟩:=at5 (Gx (j+1) zs M9 xq h9).2.1 m9;refine#[Ie,_,?_,rfl,xq,_,_,h9,((Qy.trans Vp).trans t8).trans t9,m9,EX,Gi];lia
    .have e':j=vI.length:=by lia
     subst e';refine .inl #[a1 rfl,_,?_,rfl,fM,zs,M6,hd2 zs M6 XI,tt5.trans Qy,m6,ZT,hv6];lia
   | false=>simp![az,bj] at h4 ⊢;let⟨KD,Gh,IB⟩:=m4 p _ (hk (i+1) ys M4 fM h4).2;refine#[KD,_,?_,rfl,fM,_,_,h4,ts.trans (t3.trans t4),m4,IB,Gh];lia
  .have e':i=xs.length:=by lia
   subst e';exact .inl #[k1 rfl,k _ M' _ H' (hd ys M' hI) (t1.trans ts) m' WR.v]
def lW {α:Type}{f:α ->W}{l:List α}{i:Nat}(h:(l.map f)[i]? =some x): ∃a,l[i]? =some a /\ x=f a:=by
 rw[ay] at h;cases e:l[i]? with
 | none=>rw[e] at h;cases h
 | some a=>rw[e] at h;cases h;exact#[a,rfl,rfl]
def P9 {α β:Type}{l:List α}{fW:α ->W}(inner:α ->List β)(gW:β ->W)(eW:α ->β ->W){M1:Mp}(hz:(l.map λa=>(inner a).length).sum<sizeLine)(jv: ∀M,Sm M1 M ->keep M)(hs: ∀a∈l, ∀M,Sm M1 M -> ∀ (B:dN ->List W ->(Mp ->Prop) ->Mp ->Prop) (N0:Mp ->Prop),(∀ρ2 gd,(∀M',Sm M1 M' ->gd M') ->(∀b∈inner a, ∀M',Sm M1 M' -> ∀N:Option W ->Mp ->Prop,N (some (eW a b)) M' ->g2 (gW b) ρ2 M' λρ3 M5=>c2 ρ3 M5 λb M6=>iM b (el ρ3 M6 λz M7=>N (some z) M7) (N none M6)) ->B ρ2 ((inner a).map gW) gd M) ->g (fW a) (capρ own fr ρ) M λρ2 M2=>c ρ2 M2 λb M3=>iM b (xm ρ2 M3 λvI gd M4=>B ρ2 vI gd M4) (N0 M3))(hq: ∀p,M1 p=none ->q (wr p) (um M1 p (.lst (l.map λa=>(inner a).map (eW a)).flatten))): vw (l.map fW) keep own fr g c xm g2 c2 el ρ M1 q:=by
 intro p hp;have hlen: ∀k:List α,(k.map λa=>(inner a).map (eW a)).flatten.length=(k.map λa=>(inner a).length).sum:=λk=>by rw[List.length_flatten,aE];congr 1;apply bD;intro a _;simp
 have Sd: ∀i:Nat,((l.take i).map λa=>(inner a).length).sum<=(l.map λa=>(inner a).length).sum:=λi=>by
  have e:(l.map λa=>(inner a).length)=((l.take i).map λa=>(inner a).length)++((l.drop i).map λa=>(inner a).length):=by rw[<- aM,bo]
  rw[e,List.sum_append];lia
 refine#[λi ys M=>M=um M1 p (.lst ys) /\ ys=((l.take i).map λa=>(inner a).map (eW a)).flatten,#[rfl,by simp],?_,?_,?_]
 .rintro i ys M hi ⟨rfl,rfl⟩;exact#[jv _ (cu hp),um_same]
 .rintro i x ys M hx ⟨rfl,rfl⟩;let⟨a,ha,rfl⟩:=lW hx;have e:l.take (i+1)=l.take i++ [a]:=by rw[bC,ha];rfl
  have eF:((l.take (i+1)).map λa=>(inner a).map (eW a)).flatten=((l.take i).map λa=>(inner a).map (eW a)).flatten++(inner a).map (eW a):=by rw[e,aM,List.flatten_append];simp
  have eS:((l.take (i+1)).map λa=>(inner a).length).sum=((l.take i).map λa=>(inner a).length).sum+(inner a).length:=by rw[e,aM,List.sum_append];simp
  refine hs a (au ha) _ (cu hp) (λρ2 vI gd M4=>Of vI gd g2 c2 el ρ2 p ((l.take i).map λa=>(inner a).map (eW a)).flatten M4 λys M=>M=um M1 p (.lst ys) /\ ys=((l.take (i+1)).map λa=>(inner a).map (eW a)).flatten) (λM=>M=um M1 p (.lst ((l.take i).map λa=>(inner a).map (eW a)).flatten) /\ ((l.take i).map λa=>(inner a).map (eW a)).flatten=((l.take (i+1)).map λa=>(inner a).map (eW a)).flatten) ?_;intro ρ2 gd Gx jU;refine#[λj zs M=>M=um M1 p (.lst zs) /\ zs=((l.take i).map λa=>(inner a).map (eW a)).flatten++((inner a).take j).map (eW a),#[rfl,by simp],?_,?_,?_]
  .rintro j zs M hj ⟨rfl,rfl⟩;refine#[Gx _ (cu hp),um_same,?_];rw[aH,hlen,aa,bu];have b3:=Sd (i+1);rw[eS] at b3;lia
  .rintro j y zs M hy ⟨rfl,rfl⟩;let⟨b,hb,rfl⟩:=lW hy;have e2:(inner a).take (j+1)=(inner a).take j++ [b]:=by rw[bC,hb];rfl
   refine jU b (au hb) _ (cu hp) (λo M4=>match o with
   | some z=>M4 p=some (.lst (((l.take i).map λa=>(inner a).map (eW a)).flatten++((inner a).take j).map (eW a))) /\ (um M4 p (.lst (((l.take i).map λa=>(inner a).map (eW a)).flatten++((inner a).take j).map (eW a)++ [z]))=um M1 p (.lst (((l.take i).map λa=>(inner a).map (eW a)).flatten++((inner a).take j).map (eW a)++ [z])) /\ ((l.take i).map λa=>(inner a).map (eW a)).flatten++((inner a).take j).map (eW a)++ [z]=((l.take i).map λa=>(inner a).map (eW a)).flatten++((inner a).take (j+1)).map (eW a))
   | none=>M4=um M1 p (.lst (((l.take i).map λa=>(inner a).map (eW a)).flatten++((inner a).take j).map (eW a))) /\ ((l.take i).map λa=>(inner a).map (eW a)).flatten++((inner a).take j).map (eW a)=((l.take i).map λa=>(inner a).map (eW a)).flatten++((inner a).take (j+1)).map (eW a)) ?_
   exact#[um_same,um_um,by rw[e2,aM];simp]
  .rintro zs M ⟨rfl,rfl⟩;exact#[rfl,by rw[eF,aa,cb]]
 .rintro ys M ⟨rfl,rfl⟩;rw[aa,cb];exact hq p hp
def comp_map {α:Type}{l:List α}{fW:α ->W}(pr:α ->Bool)(eW:α ->W){M1:Mp}(hz:l.length<=sizeLine)(jv: ∀M,Sm M1 M ->keep M)(hs: ∀a∈l, ∀ (M:Mp) (N:Option W ->Mp ->Prop),Sm M1 M ->N (if pr a=true then some (eW a) else none) M ->g (fW a) (capρ own fr ρ) M λρ2 M2=>c ρ2 M2 λb M3=>iM b (el ρ2 M3 λy M4=>N (some y) M4) (N none M3))(hq: ∀p,M1 p=none ->q (wr p) (um M1 p (.lst ((l.filter pr).map eW)))):ua (l.map fW) keep own fr g c el ρ M1 q:=by
 refine#[by rw[aa];exact hz,λp hp=>#[λi ys M=>M=um M1 p (.lst ys) /\ ys=((l.take i).filter pr).map eW,#[rfl,by simp],?_,?_,?_]]
 .rintro i ys M hi ⟨rfl,rfl⟩;refine#[jv _ (cu hp),um_same,?_];rw[aa];refine aZ (List.length_filter_le _ _) ?_;rw[bu];lia
 .rintro i x ys M hx ⟨rfl,rfl⟩;let⟨a,ha,rfl⟩:=lW hx;have e:l.take (i+1)=l.take i++ [a]:=by rw[bC,ha];rfl
  refine hs a (au ha) _ (λo M4=>match o with
  | some y=>M4 p=some (.lst (((l.take i).filter pr).map eW)) /\ (um M4 p (.lst (((l.take i).filter pr).map eW++ [y]))=um M1 p (.lst (((l.take i).filter pr).map eW++ [y])) /\ ((l.take i).filter pr).map eW++ [y]=((l.take (i+1)).filter pr).map eW)
  | none=>M4=um M1 p (.lst (((l.take i).filter pr).map eW)) /\ ((l.take i).filter pr).map eW=((l.take (i+1)).filter pr).map eW) (cu hp) ?_
  cases hf:pr a with
  | false=>rw[ah (by simp)];exact#[rfl,by rw[e,List.filter_append];simp[hf]]
  | true=>rw[aj rfl];exact#[um_same,um_um,by rw[e,List.filter_append];simp[hf]]
 .rintro ys M ⟨rfl,rfl⟩;rw[aa,cb];exact hq p hp
def iP {α:Type}{l:List α}{fW:α ->W}(eW:α ->W){M1:Mp}(hz:l.length<=sizeLine)(jv: ∀M,Sm M1 M ->keep M)(hs: ∀a∈l, ∀ (M:Mp) (N:Option W ->Mp ->Prop),Sm M1 M ->N (some (eW a)) M ->g (fW a) (capρ own fr ρ) M λρ2 M2=>c ρ2 M2 λb M3=>iM b (el ρ2 M3 λy M4=>N (some y) M4) (N none M3))(hq: ∀p,M1 p=none ->q (wr p) (um M1 p (.lst (l.map eW)))):ua (l.map fW) keep own fr g c el ρ M1 q:=by refine comp_map (λ_=>true) eW hz jv (λa ha M N s h=>hs a ha M N s (by simpa using h)) λp hp=> ?_;have e:l.filter (λ_=>true)=l:=List.filter_eq_self.mpr λ_ _=>rfl;rw[e];exact hq p hp
end
end WL
namespace L2
open PySem PySem.Spec PyProof.Rows
noncomputable def HD (a b c:Int):Nat:=(Builtin.Range.rangeSize a b c).toNat
def wx:HD a b (-1)=(a - b).toNat:=by
 unfold HD Builtin.Range.rangeSize;rw[ah (by decide)];split
 .rw[show -(-1:Int)=1 by decide,Int.ediv_one];lia
 .show(0:Int).toNat=_;lia
noncomputable def O8 (lo c:Int)(n:Nat):It:=#[λi _=>i<n,λi H x H'=>H'=H /\ x= .int (lo+i*c),λi _=>n<=i]
def vT {P:Program}{w:World}{K:PySem.W.Frag}{tg:Expr}(it:Addr)(lo c:Int)(n:Nat):Turn P w K tg (O8 lo c n) [it] it (λi h=>IsRangeIter h it (lo+(i:Nat)*c) ((n:Int) - (i:Nat)) c) where
 mem:=by simp
 obj :=λi h st b hb=>by
  have e:b=it:=by simpa using hb
  subst e;exact#[_,st,λv z=>by have z':Data.fields _=Data.cell v:=z;cases z']
 keep:=λi h h' st k=>k it (by simp) _ st
 item:=by intro X hP hw hK hc i pins s σ H E I hf st hg;subst hP hw hK;let⟨f0,f1,f2,f3,f4,f5⟩:=hf it (by simp);have W:=Walks.range (prog:=X.prog) (w:=X.w) (I.ok.hd hc) it lo c n;refine W.item i s _ _ hg st λv h' tk hv bG kk=> ?_;let⟨t,rfl⟩:=hv;have I1:Inv X pins σ H {s with heap:=h',toks:=tk}:=I.turned (λb o hb e=>kk b o (by simpa using hb) e) f0 f1 f3 f4 f5;exact#[_,rfl,A4 (s:= {s with heap:=h',toks:=tk}) (n:= "range_iterator") bG rfl rfl (by decide) #[.int (lo+i*c),H,I1,#[t,rfl],#[rfl,rfl],bG,λb hb=>(hf b hb).1]]
 done:=by intro X hP hw hK hc i pins s σ H E I hf st hg;subst hP hw hK;let⟨f0,f1,f2,f3,f4,f5⟩:=hf it (by simp);exact wpAny_pyNext_range_end (I.ok.hd hc) st (by have:n<=i:=hg;lia) λh' eb=>#[rfl,I.turned (t':=s.toks) (λb o hb e=>eb b o hb e) f0 f1 f3 f4 f5]
 self:=λ_ _ _ _ _ st h=>wpAny_pyIter_rangeiter st h
noncomputable def zL (a b c:Int):Prop:=c≠0 /\ c.natAbs<1000000 /\ a.natAbs<1000000000 /\ b.natAbs<1000000000
def og (h:c≠0):0<=Builtin.Range.rangeSize a b c:=by
 unfold Builtin.Range.rangeSize;split
 .split
  .have:=Int.ediv_nonneg (a:=b - a - 1) (b:=c) (by lia) (by lia);lia
  .exact aT _
 .split
  .have:=Int.ediv_nonneg (a:=a - b - 1) (b:= -c) (by lia) (by lia);lia
  .exact aT _
def v8 (h:zL a b c):Builtin.Range.small a b c=true:=by
 obtain⟨h0,h1,h2,h3⟩:=h;have hs:Builtin.Range.rangeSize a b c<=2000000001:=by
  unfold Builtin.Range.rangeSize;split
  .split
   .have:=Int.ediv_le_self (a:=b - a - 1) c (by lia);lia
   .lia
  .split
   .have:=Int.ediv_le_self (a:=a - b - 1) (-c) (by lia);lia
   .lia
 have vM:=og (a:=a) (b:=b) h0;unfold Builtin.Range.small;simp![Builtin.Range.rangeFitsLong,Bool.and_eq_true,Bool.or_eq_true,dh,beq_iff_eq];refine#[#[#[#[#[by lia,by lia],by lia,by lia],by lia,by lia],by lia,by lia], .inr ?_];split
 .rw[Bool.and_eq_true,dh,dh];lia
 .rw[Bool.and_eq_true,dh,dh];lia
section
variable {X:Cx}{tg:Expr}
noncomputable def Lx (ta:TA):TI:=λσ H R=>ta σ H λvs H1=>oM λ(i j c:Int)=>O6 (vs= [.int i, .int j, .int c]) (zL i j c) (R (O8 i c (HD i j c)) H1)
def B7 {p pos:Pos}(hg:Gl X "range")(hm:X.mg "range" =none)(ha:PA X [a,b,c] ta)(hs:starEach [a,b,c] X.env=(false,eval a X.env)::starEach [b,c] X.env:=by rfl)(jU:(backTo pos (starEach [b,c] X.env)).any (·.1)=false:=by rfl): PI X tg (.Call (.Name "range" p) [a,b,c] [] pos) (Lx ta):=by
 intro pins s σ H R I h;refine Call_ (gJ I hg hm boot_range (bP (dt (ha pos pins s σ H _ I h) λus s1 ⟨vs,H1,I1,r1,q1⟩=> ?_) hs jU));let⟨i,j,c,e,rg,q⟩:=q1;subst e;cases r1 with
 | cons r rr=>
  cases rr with
  | cons r' rr=>
   cases rr with
   | cons Rg rr=>
    cases rr;let⟨t,rfl⟩:=r;let⟨t',rfl⟩:=r';let⟨MX,rfl⟩:=Rg;refine call_range_3 rg.1 ?_ (.inl (PyProof.noPylong_small (by have:=rg.2.1;lia)));refine wpAny_pyIter_range (IsRange.new ..) (v8 rg) ?_;have I2:Inv X pins σ H1 {s1 with heap:=s1.heap.push {cls:= .type "range",data:= .fields (List.toArray [.int i t, .int j t', .int c MX])},toks:=s1.toks}:=I1.kept λb o e=>aq _ e;refine#[(s1.heap.push {cls:= .type "range",data:= .fields (List.toArray [.int i t, .int j t', .int c MX])}).objs.size,[(s1.heap.push {cls:= .type "range",data:= .fields (List.toArray [.int i t, .int j t', .int c MX])}).objs.size],_,_,H1,rfl,I2.kept (t':=s1.toks) λb o e=>aq _ e,vT _ i c (HD i j c),?_,λb hb=> ?_,q]
    .have e1:i+((0:Nat):Int)*c=i:=by simp
     have e2:((HD i j c:Nat):Int) - ((0:Nat):Int)=Builtin.Range.rangeSize i j c:=by unfold HD;have:=og (a:=i) (b:=j) rg.1;lia
     show IsRangeIter _ _ (i+((0:Nat):Int)*c) (((HD i j c:Nat):Int) - ((0:Nat):Int)) c;rw[e1,e2];exact aS _ rfl
    .have e:b=(s1.heap.push {cls:= .type "range",data:= .fields (List.toArray [.int i t, .int j t', .int c MX])}).objs.size:=by simpa using hb
     subst e;exact I2.xy (ao _) (I2.dv.fresh (ao _))
end
end L2
namespace WL
open PySem L2
noncomputable def oQ (lo c:Int)(n:Nat):List W:=(List.range n).map λ(k:Nat)=>wi (lo+(k:Int)*c)
def vY:(oQ lo c n).length=n:=by simp[oQ]
def step_at (h:(oQ lo c n)[i]? =some x):i<n /\ x=wi (lo+i*c):=by
 unfold oQ at h;rw[ay] at h;by_cases hi:i<n
 .rw[List.getElem?_range hi] at h;cases h;exact#[hi,rfl]
 .rw[cD (by simpa using hi)] at h;cases h
section
variable {K:PySem.W.Frag}
noncomputable def Lv (a:WA):WI:=λρ M q=>a ρ M λxs M1=>oM λ(i j c:Int)=>O6 (xs= [wi i,wi j,wi c]) (zL i j c) (q (oQ i c (HD i j c)) (λ_=>True) M1)
def Cu:Dk K H1 (O8 lo c n) (oQ lo c n) (λ_=>True):=by intro i M H ts m _;rw[vY];refine#[λh=>Nat.le_of_eq h,λh=>h,λv H' hi y=> ?_];let⟨rfl,y⟩:=y;refine#[br.refl _,m,wi (lo+i*c),?_,by rw[y];exact WR.v];simp[oQ,hi]
def cM.three (h:cM K H [x,y,z] vs):oM λv u t=>vD (vs= [v,u,t]) (WR K H x v) (WR K H y u) (WR K H z t):=by simp![cM] at h;let⟨v,t,rfl,h1,u,t',rfl,h2,s,MX,rfl,h3,rfl⟩:=h;exact#[v,u,s,rfl,h1,h2,h3]
instance {t:TA}{a:WA} [ia:IA K t a]:II K (Lx t) (Lv a) where
 imp:=λρ M σ H q R o h k=>ia.imp ρ M σ H _ _ o h λxs M1 v H1 ⟨i,j,c,e,h0,h2⟩ t1 m1 r1=>by subst e;let⟨v,u,s,rfl,r,r',Rg⟩:=r1.three;cases r.eq;cases r'.eq;cases Rg.eq;exact#[i,j,c,rfl,h0,k _ _ _ M1 H1 h2 t1 m1 Cu]
theorem jRng3_e:Lv a ρ M q=a ρ M λxs M1=>oM λ(i j c:Int)=>O6 (xs= [wi i,wi j,wi c]) (zL i j c) (q (oQ i c (HD i j c)) (λ_=>True) M1):=rfl
end
end WL
namespace L2
open PySem PySem.Spec PyProof.Rows
section
variable {X:Cx}{tg:Expr}
noncomputable def RZ (K:PySem.W.Frag)(tl:TE):TI:=λσ H R=>tl σ H λx H1=> ∃a,x= .ref a /\ (((∃xs,gB K H1 a xs) /\ R (Va K a) H1) \/ ((∃xs,jj K H1 a xs) /\ R (U' K a) H1))
def Ny (hl:PE X l tl):PI X tg l (RZ X.K tl):=by
 intro pins s σ H R I h;refine dt (hl pins s σ H _ I h) λv s1 ⟨x,H1,I1,r1,q1⟩=> ?_;let⟨a,e,q1⟩:=q1;subst e;cases r1;have fin: ∀b∈ [s1.heap.objs.size],jA X pins H1 b:=λb hb=>by
  have e:b=s1.heap.objs.size:=by simpa using hb
  subst e;exact I1.xy (ao _) (I1.dv.fresh (ao _))
 rcases q1 with⟨⟨xs,hq⟩,q⟩ | ⟨⟨xs,hq⟩,q⟩
 .let⟨its,rv,p,hz⟩:=I1.list hq;refine wpAny_pyIter_list p.isList ?_;exact#[s1.heap.objs.size,[s1.heap.objs.size],_,_,H1,rfl,I1.kept (t':=s1.toks) λb o e=>aq _ e,sq a _,#[_,aS _ rfl,rfl,rfl],fin,q]
 .let⟨its,rv,p,hz⟩:=I1.tuple hq;refine wpAny_pyIter_tuple (show s1.heap.IsTuple a its.toArray from p) ?_;exact#[s1.heap.objs.size,[s1.heap.objs.size],_,_,H1,rfl,I1.kept (t':=s1.toks) λb o e=>aq _ e,qk a _,#[_,aS _ rfl,rfl,rfl],fin,q]
end
end L2
namespace WL
open PySem L2
section
variable {K:PySem.W.Frag}
noncomputable def Nl (x:W)(M:Mp)(q:List W ->(Mp ->Prop) ->Mp ->Prop):Prop:=(∃p l,x=wr p /\ M p=some (.lst l) /\ q l (λM'=>M' p=some (.lst l)) M) \/ ∃l,x= .tup l /\ q l (λ_=>True) M
noncomputable def RT (a:WE):WI:=λρ M q=>a ρ M λx M1=>Nl x M1 q
instance {t:TE}{a:WE} [ia:IE K t a]:II K (RZ K t) (RT a) where
 imp :=λρ M σ H q R o h k=>ia.imp ρ M σ H _ _ o h λx M1 v H1 h1 t1 m1 r1=>by
  rcases h1 with⟨p,l,e,hp,h1⟩ | ⟨l,e,h1⟩
  .subst e;let⟨vs,hv,rr⟩:=m1 p _ hp;exact#[p,r1.eq, .inl #[#[vs,gB.of hv],k l _ _ M1 H1 h1 t1 m1 tE]]
  .subst e;let⟨p,vs,rfl,hv,rr⟩:=r1.tup;exact#[p,rfl, .inr #[#[vs,hv],k l _ _ M1 H1 h1 t1 m1 (xk hv rr)]]
theorem jSeq_e:RT a ρ M q=a ρ M λx M1=>Nl x M1 q:=rfl
def seqK_l:Nl (.v (.ref p)) M q=lstK (M p) λl=>q l (λM'=>M' p=some (.lst l)) M:=by
 apply propext;constructor
 .rintro(⟨_,l,h1,h2,k⟩ | ⟨_,h1,_⟩)
  .cases h1;exact#[l,h2,k]
  .cases h1
 .rintro⟨l,h2,k⟩;exact .inl #[_,l,rfl,h2,k]
end
end WL
namespace WQ
open PySem L2 WL WP
def xw {l r:List Int}(h:i<l.length):(l++r).getD i 0=l.getD i 0:=by rw[aC,aC,a7 h]
def xx {l r:List Int}(h:l.length<=i):(l++r).getD i 0=r.getD (i - l.length) 0:=by rw[aC,aC,aU h]
def BQ (l:List Int)(i:Nat):(i9 l).getD i 0=l.getD i 0:=by
 induction l using fH with
 | h0=>rfl
 | h1 l a ih=>
  by_cases h:a=0
  .subst h;rw[lI,ih];by_cases hi:i<l.length
   .rw[xw hi]
   .rw[xx (by lia),GP (by lia)];cases i - l.length with
    | zero=>rfl
    | succ n=>rfl
  .rw[lJ h]
def Js (f:Int ->Int)(h0:f 0=0)(l:List Int)(i:Nat):(l.map f).getD i 0=f (l.getD i 0):=by
 rw[aC,aC,ay];cases l[i]? with
 | none=>exact h0.symm
 | some x=>rfl
def Il (p:Int)(l:List Int)(i:Nat):(D9 p l).getD i 0=l.getD i 0 % p:=by rw[D9,BQ,Js _ (by simp)]
def xc {l:List Int}(h:l≠ []):l.getLast? =some (l.getD (l.length - 1) 0):=by have hl:0<l.length:=cU.mpr h;rw[List.getLast?_eq_getElem?,aC,ae (by lia)];rfl
theorem gX.last (h:gX p l)(hl:l≠ []):l.getD (l.length - 1) 0≠0:=h.2 _ (xc hl)
noncomputable def cv (a b:List Int):Nat ->Nat ->Int
 | 0,_=>0
 | k+1,n=>cv a b k n+if k<=n then a.getD k 0*b.getD (n - k) 0 else 0
structure IsPart (p:Int)(one other q r:List Int):Prop where
 qs:gX p q
 rs:gX p r
 len:r.length<other.length
 ql:q.length<=one.length
 eq: ∀n,one.getD n 0 % p=(cv q other q.length n+r.getD n 0) % p
def Hk {x:α}(h:l.getLast? =some x):iY l (-1)=some x:=by
 have hl:0<l.length:=by
  cases l with
  | nil=>simp at h
  | cons a r=>simp
 unfold iY qR;rw[ah (by lia),aj (by lia),Option.bind_some];rw[List.getLast?_eq_getElem?] at h;rw[show(-1+(l.length:Int)).toNat=l.length - 1 by lia];exact h
def oJ (h:l≠ []):iY (l.map wi) (-1)=some (wi (l.getD (l.length - 1) 0)):=by refine Hk ?_;rw[List.getLast?_map,xc h];rfl
end WQ
namespace L2
open PySem PySem.Spec PyProof.Rows
section
variable {X:Cx}{pins:List (Addr×Obj)}{σ:St}{H:Hp}{s:Shared}{a:Addr}{kvs:List (Key×V)}{k:Key}{d:V}{u r:Value}{A:Around}{E:Value ->Shared ->Prop}
def OW (I:Inv X pins σ H s)(e:H a=some (.dK kvs))(ry:RelV (kV k) u)(rd:RelV d r)(z1:kvs.length<sizeLine)(h1: ∀v w' s',gZ kvs k=some v ->Inv X pins σ H s' ->RelV v w' ->Q w' s')(h2: ∀s',gZ kvs k=none ->Inv X pins σ (upd H a (.dK (putK kvs k d))) s' ->Q r s'): wpAny (model X.prog X.w) A (call (.builtin "dict.setdefault") [.ref a,u,r]) Q E s:=by
 let⟨z,hd,vs,rel,dd⟩:=xM I.dv e;have hz:vs.length<=sizeLine:=by rw[<- rel.length];exact z
 have hl:(putK kvs k d).length<=sizeLine:=by have:=gS kvs k d;lia
 have rv:=rel.val k;refine call_meetsIn PySem.F.slot_dict_setdefault dd.typeIs PySem.F.entry_dict_setdefault (PySem.F.args_dict_setdefault_3 _ _ _) (kt_meets_setdefault (cH X.prog X.w) a (ni ry) hd r) #[vs,dd,hz,λv hv=> ?_,λhn h' CT hs=> ?_]
 .rw[hv] at rv;cases hk:gZ kvs k with
  | none=>rw[hk] at rv;exact absurd rv (by intro h;cases h)
  | some x=>rw[hk] at rv;exact h1 x v _ hk (I.tok _) (by first | exact rv | (cases rv;assumption))
 .rw[hn] at rv;cases hk:gZ kvs k with
  | some x=>rw[hk] at rv;exact absurd rv (by intro h;cases h)
  | none=>
   refine h2 _ hk ?_;have he: ∃q,h'.get? a=some q:=let ⟨q,_,_,hq,_⟩:=CT;#[q,hq]
   exact nJ I (by rw[e];exact True.intro) hs he (qY hl hd (rel.put k rd) CT)
end
noncomputable def Eo (td ty tx:TE):TE:=λσ H Q=>td σ H λx H1=> ∃a,x= .ref a /\ Zo H1 a /\ ty σ H1 λy H2=>tx σ H2 λz H3=> ∃kvs k,H3 a=some (.dK kvs) /\ y=kV k /\ kvs.length<sizeLine /\(∀v,gZ kvs k=some v ->Q v H3) /\ (gZ kvs k=none ->Q z (upd H3 a (.dK (putK kvs k z))))
section
variable {X:Cx}{o e f:Expr}{apos fY:Pos}{td ty tx:TE}
def Fn (ho:PE X o td)(he:PE X e ty)(hf:PE X f tx)(m:M2 X o "setdefault" apos e f fY):PE X (.Call (.Attribute o "setdefault" apos) [e,f] [] fY) (Eo td ty tx):=by intro pins s σ H Q I h;refine wpAny_Call_method m.base m.OR m.line PySem.F.plainAttrs_dict PySem.F.slot_dict_setdefault PySem.F.type_dict_setdefault (dt (ho pins s σ H _ I h) λu s1 ⟨x,H1,I1,rx,a,ex,d,q1⟩=> ?_);subst ex;obtain rfl:u=Value.ref a:=rx;let⟨t1,t2,_⟩:=vb I1 d;refine#[t1,t2,?_];rw[m.trees];refine Calls.callWith_builtin rfl (Calls.evalArgs_plain (dJ (dt (he pins s1 σ H1 _ I1 q1) λiv s2 ⟨y,H2,I2,ry,q2⟩=>dJ (dt (hf pins s2 σ H2 _ I2 q2) λfv s3 ⟨z,H3,I3,rz,kvs,k,ea,ey,z1,q3,q4⟩=>Calls.spliced_nil ?_))));subst ey;exact OW I3 ea ry rz z1 (λv w' s4 hv I4 uM=>#[_,H3,I4,uM,q3 v hv]) λs4 hn I4=>#[z,_,I4,rz,q4 hn]
end
end L2
namespace WL
open PySem L2
variable {K:PySem.W.Frag}
noncomputable def yu (a b c:WE):WE:=λρ M q=>a ρ M λx M1=> ∃p,x=wr p /\ (∃kvs,M1 p=some (.dK kvs)) /\ b ρ M1 λy M2=>c ρ M2 λz M3=> ∃kvs k,M3 p=some (.dK kvs) /\ y=fQ k /\ kvs.length<sizeLine /\ (∀x,fh kvs k=some x ->q x M3) /\ (fh kvs k=none ->q z (um M3 p (.dK (jq kvs k z))))
instance {t u s:TE}{a b c:WE} [ia:IE K t a] [ib:IE K u b] [ic:IE K s c]:IE K (Eo t u s) (yu a b c) where
 imp :=λρ M σ H q Q o h k=>ia.imp ρ M σ H _ _ o h λx M1 v H1 ⟨p,e,⟨kvs,hp⟩,h1⟩ t1 m1 r1=>by
  subst e;let⟨ks,hk,rr⟩:=m1 p _ hp;refine#[p,r1.eq, .inl #[ks, .inl hk],ib.imp ρ M1 σ H1 _ _ (o.mv t1 m1) h1 λy M2 u H2 h2 t2 m2 r2=>ic.imp ρ M2 σ H2 _ _ (o.mv (t1.trans t2) m2) h2 λz M3 u3 H3 ⟨kvs,ky,e2,e3,hl,h3,h4⟩ t3 m3 r3=> ?_];subst e3;let⟨ks,hk,rr⟩:=m3 p _ e2;have ts:=mj (u:= .dK (putK ks ky u3)) hk;refine#[ks,ky,hk,kL (r2.ts t3),by rw[rr.length];exact hl,λv hv=> ?_,λhn=> ?_]
  .rcases rr.val ky with⟨n1,n2⟩ | ⟨x',v',n1,n2,rx⟩
   .rw[n2] at hv;cases hv
   .rw[n2] at hv;cases hv;exact k _ M3 _ H3 (h3 _ n1) ((t1.trans t2).trans t3) m3 rx
  .rcases rr.val ky with⟨n1,n2⟩ | ⟨x',v',n1,n2,rx⟩
   .exact k _ _ _ _ (h4 n1) (((t1.trans t2).trans t3).trans ts) (m3.putD hk (KR.put r3 rr)) (r3.ts ts)
   .rw[n2] at hn;cases hn
noncomputable def sG (o:Option W)(q:W ->Prop)(n:Prop):Prop:=(∀x,o=some x ->q x) /\ (o=none ->n)
def wDSetD_e:yu a b c ρ M q=a ρ M λx M1=>gG x λp=>jJ (M1 p) λ_=>b ρ M1 λy M2=>c ρ M2 λz M3=>oz y λk=>jJ (M3 p) λkvs=>gL (kvs.length<sizeLine) (sG (fh kvs k) (λx=>q x M3) (q z (um M3 p (.dK (jq kvs k z))))):=by
 unfold yu gG oz jJ gL sG;congr 1;funext x M1;apply propext;constructor;all_goals
  have e: ∀p:Addr,(λy M2=>c ρ M2 λz M3=> ∃kvs k,M3 p=some (.dK kvs) /\ y=fQ k /\ kvs.length<sizeLine /\ (∀x,fh kvs k=some x ->q x M3) /\ (fh kvs k=none ->q z (um M3 p (.dK (jq kvs k z)))))=(λy M2=>c ρ M2 λz M3=> ∃k,y=fQ k /\ ∃kvs,M3 p=some (.dK kvs) /\ kvs.length<sizeLine /\ (∀x,fh kvs k=some x ->q x M3) /\ (fh kvs k=none ->q z (um M3 p (.dK (jq kvs k z))))):=λp=>by
   funext y M2;congr 1;funext z M3;apply propext;constructor
   .rintro⟨a,b,c,d,e⟩;exact#[b,d,a,c,e]
   .rintro⟨b,d,a,c,e⟩;exact#[a,b,c,d,e]
 .rintro⟨p,h1,⟨kvs,h2⟩,h⟩;exact#[p,h1,kvs,h2,e p▸h]
 .rintro⟨p,h1,kvs,h2,h⟩;exact#[p,h1,#[kvs,h2],(e p).symm▸h]
def setdK_s:sG (some x) q n=q x:=by apply propext;unfold sG;constructor;(· intro h;exact h.1 x rfl);(· intro h;exact#[λy e=>by cases e;exact h,λe=>nomatch e])
def setdK_n:sG none q n=n:=by apply propext;unfold sG;constructor;(· intro h;exact h.2 rfl);(· intro h;exact#[λy e=>(nomatch e),λ_=>h])
end WL
namespace WL
open PySem L2
def Ha {α:Type}{l:List α}{fW:α ->W}(eW:α ->W){M1:Mp}(hz:l.length<=sizeLine)(jv: ∀M,Sm M1 M ->keep M)(hs: ∀a∈l, ∀ (M:Mp) (N:Option W ->Mp ->Prop),Sm M1 M ->(∀M',Sm M M' ->N (some (eW a)) M') ->g (fW a) (capρ own fr ρ) M λρ2 M2=>c ρ2 M2 λb M3=>iM b (el ρ2 M3 λy M4=>N (some y) M4) (N none M3))(hq: ∀p M',M1 p=none ->Sm M1 M' ->M' p=some (.lst (l.map eW)) ->q (wr p) M'):ua (l.map fW) keep own fr g c el ρ M1 q:=by
 refine#[by rw[aa];exact hz,λp hp=>#[λi ys M=>M p=some (.lst ys) /\ Sm M1 M /\ ys=(l.take i).map eW,#[um_same,cu hp,by simp],?_,?_,?_]]
 .rintro i ys M hi ⟨h1,h2,rfl⟩;refine#[jv _ h2,h1,?_];rw[aa,bu];lia
 .rintro i x ys M hx ⟨h1,h2,rfl⟩;let⟨a,ha,rfl⟩:=lW hx;have e:l.take (i+1)=l.take i++ [a]:=by rw[bC,ha];rfl
  refine hs a (au ha) _ (λo M4=>match o with
  | some y=>M4 p=some (.lst ((l.take i).map eW)) /\ um M4 p (.lst ((l.take i).map eW++ [y])) p=some (.lst ((l.take i).map eW++ [y])) /\ Sm M1 (um M4 p (.lst ((l.take i).map eW++ [y]))) /\ (l.take i).map eW++ [y]=(l.take (i+1)).map eW
  | none=>M4 p=some (.lst ((l.take i).map eW)) /\ Sm M1 M4 /\ (l.take i).map eW=(l.take (i+1)).map eW) h2 λM' s'=>#[s' _ _ h1,um_same,λc o ec=>by rw[aN (dM ec hp)];exact s' _ _ (h2 _ _ ec),by rw[e,aM];rfl]
 .rintro ys M ⟨h1,h2,rfl⟩;rw[aa,cb] at h1;exact hq p M hp h2 h1
end WL
namespace WQ
open PySem L2 WL WP
noncomputable def cs (n r:Int)(l:Pt):Int:=((l.filter λz=>decide (z.1 % n=r)).map (·.2)).sum
end WQ
namespace L2
open PySem PySem.Spec PyProof.Rows
section
variable {X:Cx}{tg l:Expr}{tl:TE}{K:PySem.W.Frag}
def Fh (hK:X.K=K)(hl:PE X l tl):PI X tg l (Gd K tl):=by subst hK;exact eR hl
end
end L2
namespace WQ
open PySem L2 WL WP
noncomputable abbrev Cf:=Nat ->Int
noncomputable def act:Nat ->Cf ->Cf ->Int
 | 0,f,g=>f 0*g 0
 | n+1,f,g=>f 0*g (n+1)+act n (λi=>f (i+1)) g
noncomputable def co (l:List Int):Cf:=λi=>l.getD i 0
noncomputable def Mult (p:Int)(a g:Cf):Prop:= ∃ (E:Cf) (N:Nat),(∀i,N<=i ->E i % p=0) /\ ∀n,a n % p=act n E g % p
noncomputable def uo (p:Int)(a g h:Cf):Prop:= ∃ (A B:Cf) (N:Nat),(∀i,N<=i ->A i % p=0 /\ B i % p=0) /\ ∀n,a n % p=(act n A g+act n B h) % p
theorem kM (p:Int):gX p []:=#[λx hx=>(by simp at hx),λx hx=>(by simp at hx)]
noncomputable def FV (p:Int)(a:Rd)(v:Int):Prop:= ∃lo hi,iT (K0 a) lo /\ pA (K0 a) hi /\ v=fwv p a lo hi
open Classical in
noncomputable def fv (p:Int) (a:Rd):Int:=if h: ∃v,FV p a v then h.choose else 0
noncomputable def names:List Str:= ["on","back","up","down"]
noncomputable def KZ (p:Int)(s:Str):Rd:=if s= "on" then(1,[]) else if s= "back" then(-1,[]) else if s= "up" then(0,[(0,1)]) else(0,[(0,p - 1)])
noncomputable def lz (p:Int) (a:Rd) (s:Str):Bool:=decide (fv p (jn p a (KZ p s)) >fv p a)
noncomputable def Na (a b:Int):List Str:=List.replicate (a - b).natAbs (if a<=b then "on" else "back")
noncomputable def MJ (p s:Int):List Str:=if s<=p - s then List.replicate s.toNat "up" else List.replicate (p - s).toNat "down"
noncomputable def ID (p:Int):Int ->Pt ->List Str
 | _,[]=> []
 | here,z::r=>Na here z.1++MJ p z.2++ID p z.1 r
noncomputable def pairsOf (p:Int)(z:Int×Int):Pt:=if z.2<=p - z.2 then List.replicate z.2.toNat (z.1,1) else List.replicate (p - z.2).toNat (z.1, -1)
noncomputable def Vk:Int ->Pt ->Int
 | _,[]=>0
 | here,z::r=>Tr (here - z.1)+Vk z.1 r
end WQ
namespace L2
open PySem PySem.Spec PyProof.Rows
def Inv.freeze {σ:St}(I:Inv X pins σ H s)(e:H d=some (.dK kvs))(ho:s.heap.get? d=some o): Inv X pins σ (upd H d (.lZ o (.dK kvs))) s:=by
 have ne: ∀ {b u},H b=some u ->u≠ .dK kvs ->b≠d:=λ{b u} h n z=>by subst z;rw[e] at h;exact n (bA h).symm
 have Jp: ∀ {b},H b=none ->b≠d:=λ{b} h z=>by subst z;rw[e] at h;cases h
 refine#[I.ok,I.os,I.bare,#[I.base.keep,I.base.slot,λb u h1 h2 h3=> ?_,I.base.there,λb xs h=> ?_,λb o' u h=> ?_,λb ps h=> ?_],I.loc,I.cell,?_,λx c h=> ?_,λp hp=> ?_,λb u h=> ?_,I.len]
 .have z:=I.base.free b u h1 h2 h3;rw[bM (Jp z)];exact z
 .have z:=I.base.nX b xs h;rw[bM (ne z (λq=>nomatch q))];exact z
 .have z:=I.base.lY b o' u h;rw[bM (ne z (λq=>nomatch q))];exact z
 .let⟨more,z⟩:=I.base.nZ b ps h;exact#[more,by rw[bM (ne z (λq=>nomatch q))];exact z]
 .rw[bM (Jp I.free)];exact I.free
 .rw[bM (Jp (I.iN x c h))];exact I.iN x c h
 .let⟨a1,a2,a3⟩:=I.pin p hp;exact#[a1,by rw[bM (Jp a2)];exact a2,a3]
 .have ow: ∀c,H c=some (.own b) ->upd H d (.lZ o (.dK kvs)) c=some (.own b):=λc r=>by rw[bM (ne r (λq=>nomatch q))];exact r
  have tu: ∀c xs,H c=some (.tup xs) ->upd H d (.lZ o (.dK kvs)) c=some (.tup xs):=λc xs r=>by rw[bM (ne r (λq=>nomatch q))];exact r
  by_cases hb:b=d
  .subst hb;rw[cn] at h;cases h;exact#[ho,(I.dv b _ e).qm (λ_ _ _ h=>h) ow tu]
  .rw[bM hb] at h;exact(I.dv b u h).qm (λ_ _ _ h=>h) ow tu
def GQ {σ:St}(I:Inv X pins σ H s)(ho:o.data= .dict es ep)(e:H d=some (.lZ o (.dK kvs))): ∃vs,KV kvs vs /\ s.heap.DictAt (cH X.prog X.w) d vs ep:=by
 let⟨h0,_,_,vs,rel,o',U3,U4,h1,h2,h3,h4⟩:=(show d6 X.prog X.w H s.heap d (.lZ o (.dK kvs)) from I.dv d _ e)
 rw[h0] at h1;cases h1;rw[ho] at h3;cases h3;exact#[vs,rel,o,es,h0,h2,ho,h4]
end L2
namespace WL
open PySem L2
variable {K:PySem.W.Frag}
theorem qP {H:Hp}: ∀ {kvs:List (Key×W)} {vs:List (Key×V)},KR K H kvs vs ->kvs.length=vs.length
 | _,_, .nil=>rfl
 | _,_, .cons _ t=>by rw[aG,aG,qP t]
end WL
namespace WQ
open PySem L2 WL WP
noncomputable def Tf (n:Int):Pt ->Int ->Int
 | [],_=>0
 | z::r,k=>(if z.1 % n=k then z.2 else 0)+Tf n r k
noncomputable def fl (p:Int)(m:Nat)(f:Pt):List Int:=(List.range m).map λ(k:Nat)=>Tf m f k % p
end WQ
namespace L2
open PySem PySem.Spec PyProof.Rows
section
variable {X:Cx}
noncomputable def EZ (i:Int)(n:Nat):List V:=(List.range n).map λ(k:Nat)=> .int (i+(k:Int))
noncomputable def Em (ta:TA):TE:=λσ H Q=>ta σ H λvs H1=> ∃i j:Int,vs= [.int i, .int j] /\ (-(2 ^ 62) <=i /\ i<2 ^ 62 /\ -(2 ^ 62) <=j /\ j<2 ^ 62) /\ (j - i).toNat<=16000000 /\ ∀l,H1 l=none ->Q (.ref l) (upd H1 l (.lst (EZ i (j - i).toNat)))
def Ig (h:ItemsOf (λj v=> ∃t,v=Value.int (i+(j:Int)*1) t) acc n):Vals (EZ i n) acc.toList:=by
 let⟨hl,hv⟩:=h;have Ow:acc.toList.length=n:=by simpa using hl
 have key: ∀ (k:Nat) (l:List Value) (m:Nat),l.length=m ->(∀j v,l[j]? =some v -> ∃t,v=Value.int (i+((k+j:Nat):Int)) t) ->Vals ((List.range' k m).map λ(k:Nat)=>V.int (i+(k:Int))) l:=by
  intro k l;induction l generalizing k with
  | nil=>intro m hm _;subst hm;exact .nil
  | cons v r ih=>
   intro m hm hj;subst hm;rw[aG,List.range'_succ,aK];refine .cons ?_ (ih (k+1) r.length rfl λj v' e=> ?_)
   .let⟨t,e⟩:=hj 0 v rfl;exact#[t,by simpa using e]
   .let⟨t,e'⟩:=hj (j+1) v' (by rw[List.getElem?_cons_succ];exact e);exact#[t,by rw[e'];congr 2<;>lia]
 have:=key 0 acc.toList n Ow λj v e=>by let⟨t,e'⟩:=hv j v (by rw[<- Array.getElem?_toList];exact e);exact#[t,by rw[e'];congr 2<;>lia]
 unfold EZ;rw[List.range_eq_range'];exact this
def yU {p1 p2 Fg uU:Pos}(SJ:Gl X "list")(HH:X.mg "list" =none)(hg:Gl X "range")(hm:X.mg "range" =none)(hc:X.calm=true)(ha:PA X [a,b] ta)(hs:starEach [a,b] X.env= [(false,eval a X.env),(false,eval b X.env)]:=by rfl)(jU:starEach [b] X.env= [(false,eval b X.env)]:=by rfl)(ht:starEach [.Call (.Name "range" p2) [a,b] [] uU] X.env= [(false,eval (.Call (.Name "range" p2) [a,b] [] uU) X.env)]:=by rfl): PE X (.Call (.Name "list" p1) [.Call (.Name "range" p2) [a,b] [] uU] [] Fg) (Em ta):=by
 intro pins s σ H Q I h;refine Call_ (gJ I SJ HH boot_list (bP ?_ ht rfl));rw[ht];refine dJ (Call_ (gJ I hg hm boot_range (bP (dt (ha uU pins s σ H _ I h) λus s1 ⟨vs,H1,I1,r1,q1⟩=> ?_) (by rw[hs,jU]) (by rw[jU];rfl))));let⟨i,j,e,⟨q1,q2,q3,q4⟩,hn,q⟩:=q1;subst e;cases r1 with
 | cons r rr=>
  cases rr with
  | cons r' rr=>cases rr;let⟨t,rfl⟩:=r;let⟨t',rfl⟩:=r';refine call_range_2 (Calls.spliced_nil ?_);have I2:Inv X pins σ H1 {s1 with heap:=s1.heap.push {cls:= .type "range",data:= .fields (List.toArray [.int i t, .int j t', .int 1 s1.toks])},toks:=s1.toks+1}:=I1.kept λb o e=>aq _ e;refine call_list_range (n:=(j - i).toNat) (I1.ok.hd hc) (IsRange.new ..) (small_one q1 q2 q3 q4) (by rw[rangeSize_one];split<;>lia) (by lia) λh' tk O5 c' kp GA items=> ?_;have hv:=Ig items;refine#[.ref _,_,I2.laid (t':=tk) kp (ao _) (show d6 X.prog X.w _ h' _ (.lst (EZ i (j - i).toNat)) from#[?_,O5.toList,c',hv,by simpa using GA]),rfl,q _ (I2.dv.fresh (ao _))];unfold EZ;rw[aa,bI];exact aZ hn (by rw[cO];decide)
end
end L2
namespace WL
open PySem L2
variable {K:PySem.W.Frag}
noncomputable def DV (a:WA):WE:=λρ M q=>a ρ M λxs M1=> ∃i j:Int,xs= [wi i,wi j] /\ (-(2 ^ 62) <=i /\ i<2 ^ 62 /\ -(2 ^ 62) <=j /\ j<2 ^ 62) /\ (j - i).toNat<=16000000 /\ ∀l,M1 l=none ->q (wr l) (um M1 l (.lst (eM i (j - i).toNat)))
theorem EY {H:Hp}(i:Int): ∀ (l:List Nat),cM K H (l.map λ(k:Nat)=>wi (i+(k:Int))) (l.map λ(k:Nat)=>V.int (i+(k:Int)))
 | []=>by simp![List.map_nil,cM]
 | k::r=>by simp![aK,cM];exact#[_,_,rfl,WR.v,EY i r]
instance {t:TA}{a:WA} [ia:IA K t a]:IE K (Em t) (DV a) where
 imp:=λρ M σ H q Q o h k=>ia.imp ρ M σ H _ _ o h λxs M1 vs H1 ⟨i,j,ex,h1,h2,h3⟩ t1 m1 r1=>by subst ex;let⟨v,u,rfl,r,r'⟩:=r1.two;cases r.eq;cases r'.eq;exact#[i,j,rfl,h1,h2,λp hp=>k _ _ _ _ (h3 p (m1.fresh hp)) (t1.trans (L2.fm.ts (cw hp))) (m1.oo hp (EY i _)) WR.v]
theorem DU:DV a ρ M q=a ρ M λxs M1=> ∃i j:Int,xs= [wi i,wi j] /\ (-(2 ^ 62) <=i /\ i<2 ^ 62 /\ -(2 ^ 62) <=j /\ j<2 ^ 62) /\ (j - i).toNat<=16000000 /\ pD M1 λl=>q (wr l) (um M1 l (.lst (eM i (j - i).toNat))):=rfl
end WL
namespace L2
open PySem PySem.Spec PyProof.Rows
theorem wH (hk:PE X k tk)(hv:PE X v tv):PE X (.Dict [some k] [v] pos) (En [(tk,tv)]):=IZ (Ff hk hv IV) rfl rfl (by simp) (by simp)
end L2
namespace WL
open PySem L2
variable {K:PySem.W.Frag}
noncomputable def DX (a b:WE):WE:=λρ M q=> ∀p,M p=none ->a ρ (um M p (.dK [])) λx M1=>b ρ M1 λy M2=>M2 p=some (.dK []) /\ ∃k,x=fQ k /\ q (wr p) (um M2 p (.dK [(k,y)]))
instance {tk tv:TE}{a b:WE} [ia:IE K tk a] [ib:IE K tv b]:IE K (En [(tk,tv)]) (DX a b) where
 imp :=λρ M σ H q Q o h k=>λp hp=>by
  have t0:br H (upd H p (.dK [])):=L2.fm.ts (cw hp);have m0:gD K (um M p (.dK [])) (upd H p (.dK [])):=o.hp.put t0 #[[],cn, .nil];refine ia.imp ρ _ σ _ _ _ (o.mv t0 m0) (h p (o.hp.fresh hp)) λx M1 v H1 h1 t1 m1 r1=> ?_;refine ib.imp ρ M1 σ H1 _ _ (o.mv (t0.trans t1) m1) h1 λy M2 u H2 ⟨e1,ky,e2,h2⟩ t2 m2 r2=> ?_;subst e2;let⟨ks,hk,rr⟩:=m2 p _ e1;cases rr;have ev:v=kV ky:=by
   cases ky with
   | inl i=>exact r1.eq
   | inr z=>exact r1.eq
  refine#[hk,[(ky,u)],by rw[ev];rfl,by simp,?_];have t3:=mj (u:= .dK (kg [] [(ky,u)])) hk;refine k _ _ _ _ h2 (((t0.trans t1).trans t2).trans t3) (m2.put t3 #[_,cn,?_]) WR.v;show KR K _ [(ky,y)] (kg [] [(ky,u)]);have em:kg [] [(ky,u)]= [(ky,u)]:=rfl;rw[em];exact .cons #[rfl,r2.ts t3] .nil
theorem DW:DX a b ρ M q=pD M λp=>a ρ (um M p (.dK [])) λx M1=>b ρ M1 λy M2=>M2 p=some (.dK []) /\ ∃k,x=fQ k /\ q (wr p) (um M2 p (.dK [(k,y)])):=rfl
end WL
namespace L2
open PySem PySem.Spec PyProof.Rows
section
variable {prog:Program}{w:World}{A:Around}{R:Result ->Shared ->Prop}{I:Addr}{fp wr:List Addr}{n:Nat}{P:Nat ->Value ->Prop}{St:Nat ->Heap ->Prop}{kw:List (Str×Value)}
def FX (W:Walks prog w A.in1 I fp wr n P St)(bt:Nat ->Nat ->Bool)(GG:CmpOf prog w A.in1 .Lt P bt)(Z:Addr)(hZ:Z∉fp): ∀ (k j:Nat) (s:Shared) (x:Value) (c:Nat),n - (j+1)=k ->j+1<=n ->St (j+1) s.heap ->P (argBest bt j) x ->s.heap.get? Z=some {cls:= .type "list",dict:=none,data:= .seq (List.toArray [x,x]) c,slots:= #[]} ->(∀v h' tk,P (argBest bt (n - 1)) v ->(∀b o,b∉wr ->b≠Z ->s.heap.get? b=some o ->h'.get? b=some o) ->R (.ok (.ret v)) {s with heap:=h',toks:=tk}) ->codeAny (model prog w) A (.builtin "min.loop" #[[.ref I, .none, .ref Z],kw]) R s:=by
 have hw:Z∉wr:=λh=>hZ (W.sub _ h);have nm:(toString "min" ++toString ".loop" :String)= "min.loop" :=by decide
 intro k;induction k with
 | zero=>
  intro j s x c hk hj kP hP hS hR;have e0:j+1=n:=by lia
  refine codeAny_builtin F.entry_min_loop ?_;rw[Around.under_plainId F.plain_min_loop _];show wpAny _ A.in1 (seqItems? (.ref Z) >>=_) _ _ s;refine ak (wpAny_seqItems hS rfl ?_);show wpAny _ A.in1 (tryCatch (pyNext (.ref I)) _ >>=_) _ _ s;refine ak (wpAny_tryCatch (W.done s _ _ (e0▸kP) λh1 tk vN=> ?_));have LX:=vN Z _ hw hS;show wpAny _ A.in1 (updateSeq Z (λ_=> #[]) >>=_) _ _ _;refine ak ?_;refine wpAny_updateSeq LX rfl (ak (wpAny_letGo (aO ?_)));exact hR x _ tk (by rw[<- e0];exact hP) λb o n1 n2 e=>(dX _ _ (a9 n2)).trans (vN b o n1 e)
 | succ k ih=>
  intro j s x c hk hj kP hP hS hR;have fM:j+1<n:=by lia
  refine codeAny_builtin F.entry_min_loop ?_;rw[Around.under_plainId F.plain_min_loop _];show wpAny _ A.in1 (seqItems? (.ref Z) >>=_) _ _ s;refine ak (wpAny_seqItems hS rfl ?_);show wpAny _ A.in1 (tryCatch (pyNext (.ref I)) _ >>=_) _ _ s;refine ak (wpAny_tryCatch (W.item (j+1) s _ _ fM kP λv h1 tk HN JD vN=> ?_));have LX:=vN Z _ hw hS;show wpAny _ A.in1 (tryCatch (holding [v,v] (richCompare .Lt v x >>=_)) _ >>=_) _ _ _;refine ak (wpAny_tryCatch (wpAny_holding (ak (GG (j+1) (argBest bt j) v x _ _ _ HN hP ?_))));refine ak (wpAny_holding (dA ?_));refine ak (wpAny_letGo (aO ?_));cases hb:bt (j+1) (argBest bt j) with
  | true=>
   simp![bW];refine ak ?_;refine wpAny_updateSeq LX rfl (ak (wpAny_letGo ?_));rw[nm];refine aO #[plainId_quiet F.plain_min_loop _,ih (j+1) _ v _ (by lia) fM (W.frame _ _ _ JD λb Xz o e=> ?_) (by simp![argBest,hb,bW];exact HN) (Heap.get?_update_self _ LX rfl) λv2 h2 QC CL Gx=> ?_]
   .exact(dX _ _ (λh:Z=b=>hZ (by rw[h];exact Xz))).trans e
   .exact hR v2 h2 QC CL λb o n1 n2 e=>Gx b o n1 n2 ((dX _ _ (a9 n2)).trans (vN b o n1 e))
  | false=>simp![az,bj];refine ak (wpAny_letGo ?_);rw[nm];refine aO #[plainId_quiet F.plain_min_loop _,ih (j+1) _ x c (by lia) fM JD (by simp![argBest,hb,az,bj];exact hP) LX λv2 h2 QC CL Gx=> ?_];exact hR v2 h2 QC CL λb o n1 n2 e=>Gx b o n1 n2 (vN b o n1 e)
def xb (W:Walks prog w A.in1 I fp wr n P St)(bt:Nat ->Nat ->Bool)(GG:CmpOf prog w A.in1 .Lt P bt)(Z:Addr)(hZ:Z∉fp)(kP:St 0 s.heap)(hS:s.heap.get? Z=some {cls:= .type "list",dict:=none,data:= .seq #[] c,slots:= #[]})(h0:n=0 -> ∀h' tk,(∀b o,b∉wr ->b≠Z ->s.heap.get? b=some o ->h'.get? b=some o) ->R (.ok (.ret d)) {s with heap:=h',toks:=tk})(hR:0<n -> ∀v h' tk,P (argBest bt (n - 1)) v ->(∀b o,b∉wr ->b≠Z ->s.heap.get? b=some o ->h'.get? b=some o) ->R (.ok (.ret v)) {s with heap:=h',toks:=tk}):codeAny (model prog w) A (.builtin "min.loop" #[[.ref I, .none, .ref Z],[(nd,d)]]) R s:=by
 have hw:Z∉wr:=λh=>hZ (W.sub _ h);have nm:(toString "min" ++toString ".loop" :String)= "min.loop" :=by decide
 refine codeAny_builtin F.entry_min_loop ?_;rw[Around.under_plainId F.plain_min_loop _];show wpAny _ A.in1 (seqItems? (.ref Z) >>=_) _ _ s;refine ak (wpAny_seqItems hS rfl ?_);show wpAny _ A.in1 (tryCatch (pyNext (.ref I)) _ >>=_) _ _ s;rcases Nat.eq_zero_or_pos n with hn | hn
 .subst hn;refine ak (wpAny_tryCatch (W.done s _ _ kP λh1 tk vN=> ?_));refine ak (wpAny_rule ?_);exact aO (h0 rfl _ tk λb o n1 n2 e=>vN b o n1 e)
 .refine ak (wpAny_tryCatch (W.item 0 s _ _ hn kP λv h1 tk hP JD vN=> ?_));have LX:=vN Z _ hw hS;show wpAny _ A.in1 (updateSeq Z (λ_=> (List.toArray [v,v])) >>=_) _ _ _;refine ak ?_;refine wpAny_updateSeq LX rfl ?_;rw[nm];refine aO #[plainId_quiet F.plain_min_loop _,FX W bt GG Z hZ _ 0 _ v _ rfl hn (W.frame _ _ _ JD λb Xz o e=> ?_) hP (Heap.get?_update_self _ LX rfl) λv2 h2 QC CL Gx=> ?_]
  .exact(dX _ _ (λh:Z=b=>hZ (by rw[h];exact Xz))).trans e
  .exact hR hn v2 h2 QC CL λb o n1 n2 e=>Gx b o n1 n2 ((dX _ _ (a9 n2)).trans (vN b o n1 e))
def De (a d:Value):argsOk "min" #[[a],[("default",d)]]:=by unfold argsOk;kernel_rfl
variable {E:Value ->Shared ->Prop}{s:Shared}
def C4 (h:wpAny (model prog w) A.in1 (pyIter x) (λit t=>Ts λI fp wr n P St bt=>Ke (it= .ref I) (Walks prog w A.in1 I fp wr n P St) (St 0 t.heap) (∀b∈fp,b<t.heap.objs.size) (CmpOf prog w A.in1 .Lt P bt) (n=0 -> ∀h' tk,(∀b o,b∉wr ->t.heap.get? b=some o ->h'.get? b=some o) ->Q d {t with heap:=h',toks:=tk}) (0<n -> ∀v h' tk,P (argBest bt (n - 1)) v ->(∀b o,b∉wr ->t.heap.get? b=some o ->h'.get? b=some o) ->Q v {t with heap:=h',toks:=tk})) E s): wpAny (model prog w) A (call (.builtin "min") [x] [("default",d)]) Q E s:=by
 have nm:(toString "min" ++toString ".loop" :String)= "min.loop" :=by decide
 refine wpAny_call (codeAny_call_builtin F.plain_min F.entry_min ?_);simp![checkBuiltinCall,F.kind_min];have ha:=De x d;cases Sf:Manifest.signature? "min" with
 | none=>exact absurd (show(Manifest.signature? "min").isSome=true by kernel_rfl) (by rw[Sf];decide)
 | some sig=>
  have OG:Bind.checkArgs "min" sig #[[x],[("default",d)]]=pure ():=by simpa only[argsOk,Sf] using ha
  simp![OG];refine aO ?_;show wpAny _ A.in1 (Builtin.Builtins.bindParams "min" ["key","default"] 0 #[[],[("default",d)]] >>=_) _ _ s;refine ak (wpAny_of_eq (show Builtin.Builtins.bindParams "min" ["key","default"] 0 #[[],[("default",d)]]=pure [none,some d] from rfl) ?_);refine ak (aO ?_);refine ak (bV h (λit t h₂=> ?_) λ_ _ e=>e);let⟨I,fp,wr,n,P,St,bt,rfl,W,kP,vj,GG,hQ0,hQ⟩:=h₂;refine ak (wpAny_newObj_type ?_);have hZ:t.heap.objs.size∉fp:=λhm=>cz _ (vj _ hm);rw[nm];refine aO #[plainId_quiet F.plain_min_loop _,xb W bt GG t.heap.objs.size hZ (W.frame _ _ _ kP λb _ o e=>aq _ e) (aS _ rfl) (λhn h' tk hk=> ?_) λhn v h' tk hP hk=> ?_]
  .exact hQ0 hn h' tk λb o n1 e=>hk b o n1 (a5 (aF e)) (aq _ e)
  .exact hQ hn v h' tk hP λb o n1 e=>hk b o n1 (a5 (aF e)) (aq _ e)
end
end L2
namespace WL
open PySem PySem.Spec PyProof.Rows L2
section
variable {X:Cx}
noncomputable def KO (K:PySem.W.Frag)(te td:TE):TE:=λσ H Q=>te σ H λx H1=>td σ H1 λd H2=>Di λ(l:Addr) (ns:List Int)=>vD (x= .ref l) (gB K H2 l (ns.map V.int)) (ns= [] ->Q d H2) (∀m,iT ns m ->Q (.int m) H2)
def IX (hg:Gl X "min")(hm:X.mg "min" =none)(hc:X.calm=true)(ha:PE X e te)(hd:PE X ed td)(he:starEach [e] X.env= [(false,eval e X.env)]:=by rfl):PE X (.Call (.Name "min" p) [e] [#[some "default",ed,Wa]] pos) (KO X.K te td):=by
 intro pins s σ H Q I h;refine wpAny_Call_Name_kw (gJ I hg hm Boot.«min» ?_ (by decide) (by decide));refine PyProof.Rows.callWith_kw ?_ (by rw[he];rfl) (by rw[he];rfl) rfl rfl;rw[he];refine dJ (dt (ha pins s σ H _ I h) λu s1 ⟨x,H1,I1,r1,q1⟩=>Calls.spliced_nil ?_);refine kws_cons (dt (hd pins s1 σ H1 _ I1 q1) λu2 s2 ⟨d,H2,I2,r2,q2⟩=>kws_nil ?_);let⟨l,ns,rfl,hs,q0,q⟩:=q2;cases r1;show wpAny _ _ (call (.builtin "min") [.ref l] [("default",u2)]) _ _ s2;let⟨its,rv,ht,hz⟩:=I2.list hs;have hh:X.A.in1.handled=none:=I2.ok.hd hc;have hlen:its.toArray.size=ns.length:=by have:=rv.length;rw[aa] at this;simpa using this.symm
 have fM:l<s2.heap.objs.size:=by let⟨_,e,_⟩:=ht.isList;exact aF e
 refine C4 (wpAny_pyIter_list ht.isList ?_);have hk: ∀h':Heap,(∀b o,b∉ [s2.heap.objs.size] ->(s2.heap.push {cls:= .type "list_iterator",data:= .fields (List.toArray [.ref l, .int 0 s2.toks])}).get? b=some o ->h'.get? b=some o) -> ∀b o,s2.heap.get? b=some o ->h'.get? b=some o:=λh' hk b o e=>hk b o (λhI=>absurd (aF e) (by rw[af.mp hI];exact cz _)) (aq _ e);refine#[s2.heap.objs.size,_,_,its.toArray.size,_,_,λi j=>decide (ns.getD i 0<ns.getD j 0),rfl,Walks.list hh s2.heap.objs.size l (a5 fM) its.toArray,#[#[_,aS _ rfl,rfl,rfl],ht.isList.push _],λb hb=> ?_,PySem.CmpOf.ints_lt (λi=>ns.getD i 0) (λi v e=>let ⟨t,h,_⟩:=AY rv e;#[t,h]),λhn h' tk hm=> ?_,λhn v h' tk e hm=> ?_]
 .show b< (s2.heap.push _).objs.size;rw[Heap.size_push];rcases av.mp hb with rfl | hb
  .exact Nat.lt_succ_self _
  .rw[af.mp hb];exact Nat.lt_succ_of_lt fM
 .exact#[d,H2,I2.kept (t':=tk) λb o e=>hm b o (λhI=>absurd (aF e) (by rw[af.mp hI];exact cz _)) (aq _ e),r2,q0 (cZ.mp (by lia))]
 .let⟨t,rfl,_⟩:=AY rv e;rw[hlen];exact#[.int _,H2,I2.kept (t':=tk) λb o e=>hm b o (λhI=>absurd (aF e) (by rw[af.mp hI];exact cz _)) (aq _ e),#[t,rfl],q _ (Hh (cU.mp (by lia)))]
noncomputable def E3 (K:PySem.W.Frag):List V ->Hp ->VK ->Prop:=λxs H Q=> ∃ (a:Addr) (ks:List Int),xs= [.ref a] /\ gB K H a (ks.map V.int) /\ ∀ (p:Addr) (ns:List Int),H p=none ->ns.Perm ks ->ns.Pairwise (· <= ·) ->Q (.ref p) (upd H p (.lst (ns.map V.int)))
def zG:gg X (.builtin "sorted") (E3 X.K):=by
 intro pins s σ H xs us Q I r h;let⟨a,ks,rfl,hs,q⟩:=h;let⟨u,rfl,ru⟩:=vals1 r;cases ru;let⟨its,rv,ht,hz⟩:=I.list hs;have hI:IntsAre its ks:=nk rv;have hl:its.length=ks.length:=by have:=rv.length;rw[aa] at this;exact this.symm
 rw[aa] at hz;refine Calls.call_function_entry kind_sorted plain_sorted entry_sorted (args_sorted1 _) ?_;unfold Builtin.«sorted»;refine ak (m:=checkCount "sorted" 1 1 _) (aO ?_);let⟨o,ho,hc,n,hd⟩:=ht.isList;refine ak (wpAny_collect_seq a (.inl rfl) ho hc hd (λh' Gv=> ?_) (by simp![aR];lia));simp![List.toList_toArray];refine ak (wpAny_newList ?_ (by rw[hl];exact hz));have ho:(h'.push (seqObj "list" its.toArray 0)).get? h'.objs.size=some (seqObj "list" its.toArray 0):=aS _ rfl;refine ak (wpAny_holding (wpAny_call_entry slot_list_sort #[_,ho,rfl] entry_list_sort (TS.sE (s:= {s with heap:=h'.push (seqObj "list" its.toArray 0)}) ho hI (by rw[hl];exact hz) λout Jk a1 a2 a3=>#[_,rfl,?_]) (args_list_sort _)));let⟨ee,OF⟩:=sortedHeap_at (out:=out) ho;have I':Inv X pins σ H {s with heap:=h'}:=I.kept (t':=s.toks) Gv;refine aO #[_,rfl, .ref h'.objs.size,_,I'.laid (t':=s.toks) (o:= .lst (Jk.map V.int)) (λb o hb=> ?_) (ao _) ?_,rfl,q _ Jk (I'.dv.fresh (ao _)) a2 a3]
 .have fM:b<h'.objs.size:=aF hb;rw[sortedHeap_old (a5 fM) (by rw[Heap.size_push];exact Nat.lt_succ_of_lt fM)];exact aq _ hb
 .refine#[?_,out.toList,ee,kA a1,by simpa using OF];rw[aa,a2.length_eq];exact hz
end
variable {K:PySem.W.Frag}
noncomputable def DQ (a d:WE):WE:=λρ M q=>a ρ M λx M1=>d ρ M1 λy M2=>Di λ(l:Addr) (ns:List Int)=>vD (x=wr l) (M2 l=some (.lst (ns.map wi))) (ns= [] ->q y M2) (∀m,iT ns m ->q (wi m) M2)
instance {t td:TE}{a d:WE} [ia:IE K t a] [id:IE K td d]:IE K (KO K t td) (DQ a d) where
 imp:=λρ M σ H q Q o h k=>ia.imp ρ M σ H _ _ o h λx M1 v H1 h1 t1 m1 r1=>id.imp ρ M1 σ H1 _ _ (o.mv t1 m1) h1 λy M2 u H2 ⟨l,ns,e,hl,q0,q1⟩ t2 m2 r2=>by subst e;cases (r1.ts t2).eq;let⟨vs,hv,rr⟩:=m2 l _ hl;cases rr.ints;exact#[l,ns,rfl,gB.of hv,λe=>k _ _ _ _ (q0 e) (t1.trans t2) m2 r2,λm hm=>k _ _ _ _ (q1 m hm) (t1.trans t2) m2 WR.v]
theorem wMinD_e:DQ a d ρ M q=a ρ M λx M1=>d ρ M1 λy M2=>Di λ(l:Addr) (ns:List Int)=>vD (x=wr l) (M2 l=some (.lst (ns.map wi))) (ns= [] ->q y M2) (∀m,iT ns m ->q (wi m) M2):=rfl
noncomputable def DP:yp:=λxs M q=> ∃ (a:Addr) (ks:List Int),xs= [wr a] /\ M a=some (.lst (ks.map wi)) /\ ∀ (p:Addr) (ns:List Int),M p=none ->ns.Perm ks ->ns.Pairwise (· <= ·) ->q (wr p) (um M p (.lst (ns.map wi)))
instance:IC K (E3 K) DP where
 imp:=by rintro xs v M H q Q m r1 ⟨a,ks,rfl,hl,h⟩ k;let⟨v,rfl,r⟩:=r1.one;cases r.eq;let⟨vs,hv,rr⟩:=m a _ hl;cases rr.ints;exact#[a,ks,rfl,gB.of hv,λp ns hp h1 h2=>k _ _ _ _ (h p ns (m.fresh hp) h1 h2) (L2.fm.ts (cw hp)) (m.oo hp (cM.ofInts ns)) WR.v]
end WL
namespace WQ
open PySem L2 WL WP
noncomputable def bZ (s x:Int):Int:=if s=0 then x else x % s
noncomputable def hI (s x:Int):Int:=if s=0 then 0 else x / s
noncomputable def fE:List Int ->Int
 | []=>0
 | a::r=>r.foldl (λm x=>if x<m then x else m) a
noncomputable def sW:List Int ->Int
 | []=>0
 | a::r=>r.foldl (λm x=>if m<x then x else m) a
def foldl_min (r:List Int): ∀a,(r.foldl (λm x=>if x<m then x else m) a=a \/ r.foldl (λm x=>if x<m then x else m) a∈r) /\ r.foldl (λm x=>if x<m then x else m) a<=a /\ ∀x∈r,r.foldl (λm x=>if x<m then x else m) a<=x:=by
 induction r with
 | nil=>intro a;simp
 | cons b r ih=>
  intro a;let⟨h1,h2,h3⟩:=ih (if b<a then b else a);rw[List.foldl_cons];generalize List.foldl (λm x=>if x<m then x else m) (if b<a then b else a) r=z at h1 h2 h3;refine#[?_,by split at h2<;>lia,λx hx=> ?_]
  .rcases h1 with h1 | h1
   .split at h1
    .rw[h1];exact .inr aA
    .exact .inl h1
   .exact .inr (aw _ h1)
  .rcases av.mp hx with rfl | hx
   .split at h2<;>lia
   .exact h3 x hx
def foldl_max (r:List Int): ∀a,(r.foldl (λm x=>if m<x then x else m) a=a \/ r.foldl (λm x=>if m<x then x else m) a∈r) /\ a<=r.foldl (λm x=>if m<x then x else m) a /\ ∀x∈r,x<=r.foldl (λm x=>if m<x then x else m) a:=by
 induction r with
 | nil=>intro a;simp
 | cons b r ih=>
  intro a;let⟨h1,h2,h3⟩:=ih (if a<b then b else a);rw[List.foldl_cons];generalize List.foldl (λm x=>if m<x then x else m) (if a<b then b else a) r=z at h1 h2 h3;refine#[?_,by split at h2<;>lia,λx hx=> ?_]
  .rcases h1 with h1 | h1
   .split at h1
    .rw[h1];exact .inr aA
    .exact .inl h1
   .exact .inr (aw _ h1)
  .rcases av.mp hx with rfl | hx
   .split at h2<;>lia
   .exact h3 x hx
def fT (h:l≠ []):iT l (fE l):=by
 cases l with
 | nil=>exact absurd rfl h
 | cons a r=>
  let⟨h1,h2,h3⟩:=foldl_min r a;refine#[?_,λx hx=> ?_]
  .rcases h1 with h1 | h1
   .show List.foldl _ a r∈a::r;rw[h1];exact aA
   .exact aw _ h1
  .rcases av.mp hx with rfl | hx
   .exact h2
   .exact h3 x hx
def mX (h:l≠ []):pA l (sW l):=by
 cases l with
 | nil=>exact absurd rfl h
 | cons a r=>
  let⟨h1,h2,h3⟩:=foldl_max r a;refine#[?_,λx hx=> ?_]
  .rcases h1 with h1 | h1
   .show List.foldl _ a r∈a::r;rw[h1];exact aA
   .exact aw _ h1
  .rcases av.mp hx with rfl | hx
   .exact h2
   .exact h3 x hx
noncomputable def oX (s f:Int)(ns:List Int):List Int:=(ns.filter λx=>decide (bZ s x=f)).map (hI s)
noncomputable def eC (l:Pt):List Int:=l.map (·.1)
noncomputable def dF (s:Int)(st:Pt):Int:=fE ((eC st).map (bZ s))
noncomputable def fi (s:Int)(st:Pt):Int:=sW (oX s (dF s st) (eC st))
theorem Nh (ht:M t=none)(hp:um M t o1 p=none):Sm (um M p o2) (um (um M t o1) p o2):=λb o e=>by
 by_cases hb:b=p
 .subst hb;rw[um_same] at e ⊢;exact e
 .rw[aN hb] at e ⊢;have:b≠t:=dM e ht;rw[aN this];exact e
noncomputable def VM:jS:=λxs M q=>Di λ(x s:Int)=>vD (xs= [wi x,wi s]) (0<=s) (s<2 ^ 30) (q (wi (bZ s x)) M)
noncomputable def Fw:jS:=λxs M q=>oM λ(a:Addr) (ns:List Int) (s:Int)=>Ke (xs= [wr a,wi s]) (M a=some (.lst (ns.map wi))) (ns.length<=16000000) (0<=s) (s<2 ^ 30) (ns= [] ->q wn M) (ns≠ [] ->q (wi (fE (ns.map (bZ s)))) M)
noncomputable def VJ:jS:=λxs M q=>Mo λ(a:Addr) (ns:List Int) (s f:Int)=>DE (xs= [wr a,wi s,wi f]) (M a=some (.lst (ns.map wi))) (ns.length<=16000000) (0<=s) (s<2 ^ 30) (∀ (p:Addr) (ms:List Int),M p=none ->ms.Perm (oX s f ns) ->ms.Pairwise (· <= ·) ->q (wr p) (um M p (.lst (ms.map wi))))
def ui (h:ms≠ []):iY (ms.map wi) (-1)=some (wi (ms.getLastD 0)):=by
 have hl:0<ms.length:=cU.mpr h;have e:qR (ms.map wi).length (-1)=some (ms.length - 1):=by rw[aa];unfold qR;simp;lia
 unfold iY;rw[e];show(ms.map wi)[ms.length - 1]? =_;rw[ay];have:ms[ms.length - 1]? =some (ms.getLastD 0):=by
  rw[<- List.getLast?_eq_getElem?];cases ms with
  | nil=>exact absurd rfl h
  | cons a r=>simp[List.getLast?_cons]
 rw[this];rfl
def AR (h:l.Pairwise (· <= ·))(hn:l≠ []):pA l (l.getLastD 0):=by
 induction l using WP.fH with
 | h0=>exact absurd rfl hn
 | h1 l a _=>
  have e:(l++ [a]).getLastD 0=a:=by simp
  rw[e];refine#[by simp,λx hx=> ?_];rcases ax.mp hx with hx | hx
  .exact(cJ.mp h).2.2 x hx a (by simp)
  .rw[af.mp hx];exact aT _
def C2 (hs:0<s):x=bZ s x+s*hI s x:=by unfold bZ hI;rw[ah (by lia),ah (by lia)];have:=Int.emod_add_mul_ediv x s;lia
noncomputable def rC (d:Addr)(M M':Mp):Prop:= ∀b o,b≠d ->M b=some o ->M' b=some o
theorem rC.refl (d:Addr)(M:Mp):rC d M M:=λ_ _ _ h=>h
theorem rC.trans {M M1 M2:Mp}(a:rC d M M1)(b:rC d M1 M2):rC d M M2:=λc o n h=>b c o n (a c o n h)
theorem rC.sm (h:Sm M M'):rC d M M':=λb o _ e=>h b o e
noncomputable def jB (s c:Int):Prop:=s=0 \/ (0<=c /\ c<s)
def jB.own (h:jB s c):bZ s c=c:=by
 unfold bZ;rcases h with h | ⟨h1,h2⟩
 .rw[aj h]
 .rw[ah (by lia)];exact cX h1 h2
def jB.on (h:jB s c)(k:Int):bZ s (c+k*s)=c:=by
 have:=h.own;unfold bZ at this ⊢;split
 .rename_i e;subst e;simp
 .rename_i e;rw[ah e] at this;rw[Int.add_mul_emod_self_right];exact this
end WQ
namespace WL
theorem Jw {α:Type}{l:List α}(h:l.length=1): ∃a,l= [a]:=List.length_eq_one_iff.mp h
def V8 {α:Type}{l:List α}(h:l.length=n+1): ∃a r,l=a::r /\ r.length=n:=by
 cases l with
 | nil=>cases h
 | cons a r=>exact#[a,r,rfl,by simpa using h]
def RM {α:Type}{l:List α}(h:l.length=2): ∃a b,l= [a,b]:=by let⟨a,r,rfl,g⟩:=V8 h;let⟨b,rfl⟩:=Jw g;exact#[a,b,rfl]
end WL
namespace L2
open PySem
structure TU (K:PySem.W.Frag)(mg:Str ->Option Value)(x qual:Str)(ps:List Str)(st:Stmt)(C f:Addr)(fd:FuncData):Prop where
 at_:mg x=some (.ref C)
 mkr:Mk K C f
 cl:zP K C
 fn:DF K "__init__" qual st f fd
 bd:Binds K fd ps []
section
variable {X:Cx}{k:Nat}{f C:Addr}{fd:FuncData}{ps:List Str}{sp:Sp}{x qual:Str}{st:Stmt}{p pos:Pos}{e:Expr}{es:List Expr}{t:TA}
theorem mQ (M:TU X.K X.mg x qual ps st C f fd)(F:d3 X.prog X.w X.K X.mg X.base i0 k f fd ps sp)(hr:gi (k+1) X.A)(hg:Gl X x) (ha:PA X (e::es) t) (GC:(x==("__debug__" :Str))=false:=by decide) (he:starEach (e::es) X.env=(false,eval e X.env)::starEach es X.env:=by rfl) (rX:(backTo pos (starEach es X.env)).any (·.1)=false:=by rfl): PE X (.Call (.Name x p) (e::es) [] pos) (Ek C sp [] E0 t):=IY M.mkr F hr hg M.at_ M.bd .nil Lj ha GC he rX
end
end L2
namespace WL
open PySem L2
section
variable {K:PySem.W.Frag}
theorem xg {H:Hp}{f:Str}{x:W}: ∀ {fs:List (Str×W)} {ks:List (Str×V)},KR K H fs ks ->fs.lookup f=Option.some x -> ∃v,ks.lookup f=Option.some v /\ WR K H x v
 | _,_, .nil,h=>by cases h
 | (g,y)::fs,(g',v)::ks, .cons ⟨e,r⟩ t,h=>by
  cases (show g=g' from e);rw[List.lookup_cons] at h ⊢;cases hb:f==g with
  | true=>rw[hb] at h;cases h;exact#[v,rfl,r]
  | false=>rw[hb] at h;exact xg t h
noncomputable def jQ (f:Str)(v:W):List (Str×W) ->List (Str×W)
 | []=> [(f,v)]
 | (g,x)::r=>if g=f then(g,v)::r else(g,x)::jQ f v r
theorem AU {H:Hp}{f:Str}{x:W}{v:V}(rx:WR K H x v): ∀ {fs:List (Str×W)} {ks:List (Str×V)},KR K H fs ks ->KR K H (jQ f x fs) (L2.jr f v ks)
 | _,_, .nil=> .cons #[rfl,rx] .nil
 | (g,y)::fs,(g',u)::ks, .cons ⟨e,r⟩ t=>by
  cases (show g=g' from e);unfold jQ L2.jr;split
  .exact .cons #[rfl,rx] t
  .exact .cons #[rfl,r] (AU rx t)
theorem AV {H:Hp}: ∀ {kvs:List (Str×W)} {vs:List (Str×V)},KR K H kvs vs ->kvs.length=vs.length
 | _,_, .nil=>rfl
 | _,_, .cons _ t=>by rw[aG,aG,AV t]
noncomputable def Mx (K:PySem.W.Frag)(a:WE)(f:Str):WE:=λρ M q=>a ρ M λx M1=> ∃p C dx fs v,x=wr p /\ M1 p=some (.ins C dx fs) /\ zP K C /\ dZ K C f /\ fs.lookup f=some v /\ q v M1
instance {t:TE}{a:WE}{f:Str} [ia:IE K t a]:IE K (MW K t f) (Mx K a f) where
 imp:=λρ M σ H q Q o h k=>ia.imp ρ M σ H _ _ o h λx M1 v H1 ⟨p,C,dx,fs,y,ex,hp,hc,hn,hl,h1⟩ t1 m1 r1=>by subst ex;let⟨ks,e,r⟩:=m1 p _ hp;let⟨u,hu,ru⟩:=xg r hl;exact#[p,C,dx,ks,u,r1.eq,e,hc,hn,hu,k _ _ _ _ h1 t1 m1 ru]
noncomputable def EV (K:PySem.W.Frag)(a b:WE)(f:Str):WS:=λD ρ M=>b ρ M λy M1=>a ρ M1 λx M2=> ∃p C dx fs,x=wr p /\ M2 p=some (.ins C dx fs) /\ zP K C /\ dZ K C f /\ fs.length<1000 /\ D.nx ρ (um M2 p (.ins C dx (jQ f y fs)))
instance {t u:TE}{a b:WE}{f:Str} [ia:IE K t a] [ib:IE K u b]:IS K (Q1 K t u f) (EV K a b f) where
 imp:=λρ M σ H D' D o h e=>ib.imp ρ M σ H _ _ o h λy M1 v1 H1 h1 t1 m1 r1=>ia.imp ρ M1 σ H1 _ _ (o.mv t1 m1) h1 λx M2 v2 H2 ⟨p,C,dx,fs,ex,hp,hc,hn,hl,h2⟩ t2 m2 r2=>by subst ex;let⟨ks,ek,r⟩:=m2 p _ hp;have ts:=MM (u:= .ins C dx (jr f v1 ks)) ek;refine#[p,C,dx,ks,r2.eq,ek,hc,hn,by rw[<- AV r];exact hl,e.nx ρ _ σ _ h2 ((t1.trans t2).trans ts) (o.mv ((t1.trans t2).trans ts) (m2.put ts #[_,cn,KR.ts ts (AU (r1.ts t2) r)]))]
noncomputable def Kv (C:Addr)(p:jS)(a:WA):WE:=λρ M q=>a ρ M λxs M1=> ∀x dx,M1 x=none ->M1 dx=none ->dx≠x ->p (wr x::xs) (um M1 x (.ins C dx [])) λv M2=>v=wn /\ q (wr x) M2
instance {C:Addr}{p:jS}{E:XK}{t:TA}{a:WA} [ia:IA K t a]:IE K (Ek C (kX K p) [] E t) (Kv C p a) where
 imp:=λρ M σ H q Q o h k=>ia.imp ρ M σ H _ _ o h λxs M1 vs H1 h1 t1 m1 r1=>λx dx hx PN dw=>by
  have PB:upd H1 dx (.own x) x=none:=by rw[bM (a9 dw)];exact hx
  have ZF:br H1 (upd H1 dx (.own x)):=L2.fm.ts (cw PN);have Qz:br (upd H1 dx (.own x)) (upd (upd H1 dx (.own x)) x (.ins C dx [])):=L2.fm.ts (cw PB);refine#[wr x::xs,um M1 x (.ins C dx []),λv M2=>v=wn /\ q (wr x) M2,cM.cons WR.v (by rw[List.append_nil];exact r1.ts (ZF.trans Qz)),(m1.new PN).put Qz #[[],cn, .nil],h1 x dx (m1.fresh hx) (m1.fresh PN) dw,?_];rintro y M' u H' ⟨rfl,hq⟩ ts m' r';exact#[r'.eq,k _ _ _ _ hq (t1.trans ((ZF.trans Qz).trans ts)) m' WR.v]
noncomputable def Gb (o:Option MO)(k:Addr ->Addr ->List (Str×W) ->Prop):Prop:= ∃C dx fs,o=some (.ins C dx fs) /\ k C dx fs
def insK_e:Gb (some (.ins C dx fs)) k=k C dx fs:=by
 apply propext;constructor
 .rintro⟨_,_,_,e,h⟩;cases e;exact h
 .intro h;exact#[_,_,_,rfl,h]
def wFld_e:Mx K a f ρ M q=a ρ M λx M1=>gG x λp=>Gb (M1 p) λC dx fs=>gL (zP K C) (gL (dZ K C f) (rT (fs.lookup f) λv=>q v M1)):=by
 unfold Mx gG Gb gL rT;congr 1;funext x M1;apply propext;constructor
 .rintro⟨p,C,dx,fs,v,e1,e2,e3,e4,e5,h⟩;exact#[p,e1,C,dx,fs,e2,e3,e4,v,e5,h]
 .rintro⟨p,e1,C,dx,fs,e2,e3,e4,v,e5,h⟩;exact#[p,C,dx,fs,v,e1,e2,e3,e4,e5,h]
def sFldW_e:EV K a b f D ρ M=b ρ M λy M1=>a ρ M1 λx M2=>gG x λp=>Gb (M2 p) λC dx fs=>gL (zP K C) (gL (dZ K C f) (gL (fs.length<1000) (D.nx ρ (um M2 p (.ins C dx (jQ f y fs)))))):=by
 unfold EV gG Gb gL;congr 1;funext y M1;congr 1;funext x M2;apply propext;constructor
 .rintro⟨p,C,dx,fs,e1,e2,e3,e4,e5,h⟩;exact#[p,e1,C,dx,fs,e2,e3,e4,e5,h]
 .rintro⟨p,e1,C,dx,fs,e2,e3,e4,e5,h⟩;exact#[p,C,dx,fs,e1,e2,e3,e4,e5,h]
theorem uv:Kv C p a ρ M q=a ρ M λxs M1=> ∀x dx,M1 x=none ->M1 dx=none ->dx≠x ->Hg p (wr x::xs) (um M1 x (.ins C dx [])) λv M2=>v=wn /\ q (wr x) M2:=rfl
end
end WL
namespace L2
open PySem
noncomputable def Lw (s:Stmt)(j:Nat):Stmt:=match s with
 | .ClassDef _ _ _ b _ _ _ _ _ _ _=>b.getD j (.Pass #[0,0,0,0])
 | _=> .Pass #[0,0,0,0]
end L2
namespace L2
open PySem PySem.Spec PyProof.Rows
noncomputable def Vb (d:Addr)(o:Obj)(kvs:List (Key×V)):It:=#[λi H=>i<kvs.length /\ H d=some (.lZ o (.dK kvs)),λi H x H'=> ∃p kv,H p=none /\ kvs[i]? =some kv /\ H'=upd H p (.tup [kV kv.1,kv.2]) /\ x= .ref p,λi H=>kvs.length<=i /\ H d=some (.lZ o (.dK kvs))]
theorem zg: ∀ {kvs:List (Key×V)} {vs:List (Key×Value)} {i:Nat} {q:Key×Value},KV kvs vs ->vs[i]? =some q -> ∃p,kvs[i]? =some p /\ p.1=q.1 /\ RelV p.2 q.2
 | _,_,0,_, .cons ⟨e0,r⟩ _,e=>by cases e;exact#[_,rfl,e0,r]
 | _,_,i+1,q, .cons _ t,e=>by have e':_=some q:=e;rw[List.getElem?_cons_succ] at e' ⊢;exact zg t e'
def va (h:nh k u=true):RelV (kV k) u:=by
 rcases dR h with⟨i,t,rfl,rfl⟩ | ⟨x,t,rfl,rfl⟩
 .exact#[t,rfl]
 .exact#[t,rfl]
def yB {P:Program}{w:World}{K:PySem.W.Frag}{elts:List Expr}{x1}{pos:Pos}{d it:Addr}{o:Obj}{kvs:List (Key×V)}{es:Array DictEntry}{ep:Nat}(ho:o.data= .dict es ep)(dw:d≠it): Turn P w K (.Tuple elts x1 pos) (Vb d o kvs) [it] it (λi h=> ∃ok ov,IsItemIter h it d i kvs.length ep ok ov) where
 mem:=by simp
 obj:=λi h st b hb=>by
  have e:b=it:=by simpa using hb
  subst e;let⟨ok,ov,e⟩:=st;exact#[_,e,λv z=>nomatch z]
 keep:=λi h h' ⟨ok,ov,e⟩ k=>#[ok,ov,k it (by simp) _ e]
 item:=by
  intro X hP hw hK hc i pins s σ H E I hf st hg;subst hP hw hK;let⟨hi,hH⟩:=hg;let⟨vs,rel,hd⟩:=GQ I ho hH;have hl:=rel.length;let⟨ok,ov,st⟩:=st;rw[hl] at st hi;have fp:=hf it (by simp);let⟨⟨k,x⟩,hx⟩: ∃q,vs[i]? =some q:=#[vs[i],by simp[hi]]
  let⟨p,hp,YS,rp⟩:=zg rel hx;refine wpAny_pyNext_items_item st hd hx λkey h' qT WD ht hsz hk=> ?_;refine#[_,rfl,wpAny_letOwnedTupleGo_items WD λh2 HL jU=> ?_];have LV:s.heap.objs.size≠it:=Nat.ne_of_gt (aF st);have rk:RelV (kV p.1) key:=by rw[YS];exact va qT
  refine#[.ref s.heap.objs.size,upd H s.heap.objs.size (.tup [kV p.1,p.2]),EN.vc (t':=s.toks) I (λb o hb _ q=>(jU.2 b hb).trans (hk b o hb q)) fp fp #[by rw[cO];show 2<=16777216;decide,[key,x], .cons rk (.cons rp .nil),?_],rfl,#[_,p,I.dv.fresh (ao _),hp,rfl,rfl],#[key,x,by rw[hl];exact HL],λb hb=> ?_]
  .exact#[_,(jU.2 _ LV).trans ht,rfl,_,rfl,rfl]
  .have e:b=it:=by simpa using hb
   subst e;rw[bM (a9 LV)];exact fp.1
 done:=by intro X hP hw hK hc i pins s σ H E I hf st hg;subst hP hw hK;let⟨hi,hH⟩:=hg;let⟨vs,rel,hd⟩:=GQ I ho hH;have hl:=rel.length;let⟨ok,ov,st⟩:=st;rw[hl] at st hi;let⟨f0,f1,f2,f3,f4,f5⟩:=hf it (by simp);exact wpAny_pyNext_items_end (I.ok.hd hc) st hd (by simp;lia) λh' eb=>#[rfl,I.turned (t':=s.toks) (λb o hb e=>eb b o hb e) f0 f1 f3 f4 f5]
 self:=λ_ _ _ _ _ st h=>let ⟨_,_,e⟩:=st;PySem.W.kcp_self e h
section
variable {X:Cx}{elts:List Expr}{x1:_}{BR:Pos}{o:Expr}{td:TE}{apos fY:Pos}
noncomputable def Ge (td:TE):TI:=λσ H R=>td σ H λx H1=> ∃d kvs,x= .ref d /\ H1 d=some (.dK kvs) /\ ∀o,R (Vb d o kvs) (upd H1 d (.lZ o (.dK kvs)))
def wG (et:tg= .Tuple elts x1 BR)(ho:PE X o td)(xv:attributeBase o "items" X.env (eval o X.env)=eval o X.env:=by rfl)(xr:(apos.endLine==fY.line)=true:=by rfl):PI X tg (.Call (.Attribute o "items" apos) [] [] fY) (Ge td):=by
 subst et;intro pins s σ H R I h;refine wpAny_Call_method0_late xv xr (dt (ho pins s σ H _ I h) λv s1 ⟨x,H1,I1,r1,d,kvs,ex,hd,q1⟩=> ?_);subst ex;obtain rfl:v=Value.ref d:=r1;let⟨t1,t2,sys⟩:=vb I1 (.inl #[kvs, .inl hd]);refine#["dict","dict.items",PySem.F.plainAttrs_dict,PySem.F.slot_dict_items,PySem.F.type_dict_items,t1,t2,Calls.callWith_builtin rfl (PySem.evalArgs_none ?_)];let⟨z,Gk,vs,rel,dd⟩:=nH I1.dv (.inl hd);refine call_meetsIn PySem.F.slot_dict_items dd.typeIs PySem.F.entry_dict_items (PySem.F.args_dict_items_1 _) (meets_dict_items (cH X.prog X.w) d Gk) #[#[vs,dd],?_];let⟨ob,es,ep,g1,g2,g3,g4⟩:=dd;have da:s1.heap.DictAt (cH X.prog X.w) d vs ep:=#[ob,es,g1,g2,g3,g4]
 have hdl:d<s1.heap.objs.size:=aF g1;refine wpAny_pyIter_items (d:=d) (kvs:=vs) (ep:=ep) (knd:=cH X.prog X.w) #[_,aS _ rfl,rfl,rfl] (da.push _) ?_;have I2:=I1.freeze hd g1;refine#[_,[_],_,Vb d ob kvs,_,rfl,I2.kept (t':=s1.toks) λb o e=>aq _ (aq _ e),yB g3 ?_,?_,λb hb=> ?_,q1 ob]
 .show d≠(s1.heap.push _).objs.size;rw[Heap.size_push];lia
 .rw[rel.length];exact#[_,_,aS _ rfl]
 .have I3:Inv X pins σ (upd H1 d (.lZ ob (.dK kvs))) {s1 with heap:=s1.heap.push {cls:= .type "dict_items",data:= .fields #[.ref d]}}:=I2.kept (t':=s1.toks) λb o e=>aq _ e;have e:=af.mp hb;subst e;exact I3.xy (ao _) (I3.dv.fresh (ao _))
end
def Inv.Vr {σ:St}(I:Inv X pins σ H s)(e:H d=some (.lZ o (.dK kvs)))(h0: ∀o u,X.H₀ d≠some (.lZ o u)): Inv X pins σ (upd H d (.dK kvs)) s:=by
 have ne: ∀ {b u},H b=some u ->u≠ .lZ o (.dK kvs) ->b≠d:=λ{b u} h n z=>by subst z;rw[e] at h;exact n (bA h).symm
 have Jp: ∀ {b},H b=none ->b≠d:=λ{b} h z=>by subst z;rw[e] at h;cases h
 refine#[I.ok,I.os,I.bare,#[I.base.keep,I.base.slot,λb u h1 h2 h3=> ?_,I.base.there,λb xs h=> ?_,λb o' u h=> ?_,λb ps h=> ?_],I.loc,I.cell,?_,λx c h=> ?_,λp hp=> ?_,λb u h=> ?_,I.len]
 .have z:=I.base.free b u h1 h2 h3;rw[bM (Jp z)];exact z
 .have z:=I.base.nX b xs h;rw[bM (ne z (λq=>nomatch q))];exact z
 .have z:=I.base.lY b o' u h;have nb:b≠d:=λz=>h0 o' u (z▸h);rw[bM nb];exact z
 .let⟨more,z⟩:=I.base.nZ b ps h;exact#[more,by rw[bM (ne z (λq=>nomatch q))];exact z]
 .rw[bM (Jp I.free)];exact I.free
 .rw[bM (Jp (I.iN x c h))];exact I.iN x c h
 .let⟨a1,a2,a3⟩:=I.pin p hp;exact#[a1,by rw[bM (Jp a2)];exact a2,a3]
 .have ow: ∀c,H c=some (.own b) ->upd H d (.dK kvs) c=some (.own b):=λc r=>by rw[bM (ne r (λq=>nomatch q))];exact r
  have tu: ∀c xs,H c=some (.tup xs) ->upd H d (.dK kvs) c=some (.tup xs):=λc xs r=>by rw[bM (ne r (λq=>nomatch q))];exact r
  by_cases hb:b=d
  .subst hb;rw[cn] at h;cases h;have z:=(I.dv b _ e).qm (H':=upd H b (.dK kvs)) (h':=s.heap) (λ_ _ _ h=>h) ow tu;exact z.2
  .rw[bM hb] at h;exact(I.dv b u h).qm (λ_ _ _ h=>h) ow tu
noncomputable def K4 (t:TS):TS:=λD σ H=> ∃d kvs,H d=some (.dK kvs) /\ t {D with nx:=λσ' H'=> ∃o us,H' d=some (.lZ o (.dK us)) /\ D.nx σ' (upd H' d (.dK us))} σ H
def Ay {st:Stmt}(h:PS X st t):PS X st (K4 t):=by
 rintro pins s σ H D I ⟨d,kvs,hd,ht⟩;have h0: ∀o u,X.H₀ d≠some (.lZ o u):=λo u e=>by have:=I.base.lY d o u e;rw[hd] at this;cases this
 refine dt (h pins s σ H _ I ht) λfl s' hs=> ?_;cases fl with
 | next=>let⟨σ',H',I',o,us,e,q⟩:=hs;exact#[σ',_,I'.Vr e h0,q]
 | ret v=>exact hs
 | brk=>exact hs
 | cont=>exact hs
end L2
namespace WL
open PySem L2
variable {K:PySem.W.Frag}
noncomputable def zi (a:WE):WI:=λρ M q=>a ρ M λx M1=> ∃d kvs,x=wr d /\ M1 d=some (.dK kvs) /\ ∀o ks,q (kvs.map λkv=> .tup [fQ kv.1,kv.2]) (λM'=>M' d=some (.fz o ks kvs)) (um M1 d (.fz o ks kvs))
theorem zh: ∀ {H:Hp} {kvs:List (Key×W)} {vs:List (Key×V)} {i:Nat} {q:Key×V},KR K H kvs vs ->vs[i]? =some q -> ∃p,kvs[i]? =some p /\ p.1=q.1 /\ WR K H p.2 q.2
 | _,_,_,0,_, .cons ⟨e0,r⟩ _,e=>by cases e;exact#[_,rfl,e0,r]
 | _,_,_,i+1,q, .cons _ t,e=>by have e':_=some q:=e;rw[List.getElem?_cons_succ] at e' ⊢;exact zh t e'
def zl:Dk K H1 (Vb d o ks) (kvs.map λkv=> .tup [fQ kv.1,kv.2]) (λM'=>M' d=some (.fz o ks kvs)):=by intro i M H t m hM;let⟨e1,r1⟩:=m d _ hM;have hl:=qP r1;rw[aa];refine#[λh=>#[by lia,e1],λh=>#[by lia,e1],λv H' hi ⟨p,kv,hp,hk,e2,e3⟩=> ?_];subst e2 e3;let⟨p2,WB,e4,rp⟩:=zh r1 hk;have ts:br H (upd H p (.tup [kV kv.1,kv.2])):=L2.fm.ts (cw hp);refine#[ts,m.new hp, .tup [fQ p2.1,p2.2],by rw[ay,WB];rfl,WR.Pn (jj.of cn) (cM.cons ?_ (cM.cons (rp.ts ts) cM.nil))];rw[e4];cases kv.1<;>exact WR.v
instance {t:TE}{a:WE} [ia:IE K t a]:II K (Ge t) (zi a) where
 imp:=λρ M σ H q R o h k=>ia.imp ρ M σ H _ _ o h λx M1 v H1 ⟨d,kvs,ex,hd,h1⟩ t1 m1 r1=>by subst ex;let⟨ks,e,r⟩:=m1 d _ hd;refine#[d,ks,r1.eq,e,λob=>k _ _ _ _ _ (h1 ob ks) (t1.trans (mj e)) (m1.put (mj e) #[cn,KR.ts (mj e) r]) zl]
def jItems_e:zi a ρ M q=a ρ M λx M1=>gG x λd=>jJ (M1 d) λkvs=> ∀o ks,q (kvs.map λkv=> .tup [fQ kv.1,kv.2]) (λM'=>M' d=some (.fz o ks kvs)) (um M1 d (.fz o ks kvs)):=by
 unfold zi gG jJ;congr 1;funext x M1;apply propext;constructor
 .rintro⟨d,kvs,e1,e2,h⟩;exact#[d,e1,kvs,e2,h]
 .rintro⟨d,e1,kvs,e2,h⟩;exact#[d,kvs,e1,e2,h]
noncomputable def Nn (t:WS):WS:=λD ρ M=> ∃d kvs,M d=some (.dK kvs) /\ t {D with nx:=λρ' M'=> ∃o ks us,M' d=some (.fz o ks us) /\ D.nx ρ' (um M' d (.dK us))} ρ M
theorem MN (h:H a=some (.lZ o (.dK xs))):br H (upd H a u):=zZ h (λ_ z=>nomatch z) λ_ _ z=>nomatch z
instance {t:TS}{a:WS} [ia:IS K t a]:IS K (K4 t) (Nn a) where
 imp:=λρ M σ H D' D o ⟨d,kvs,hd,h⟩ e=>by let⟨ks,ek,r⟩:=o.hp d _ hd;refine#[d,ks,ek,ia.imp ρ M σ H _ _ o h #[?_,e.rt,e.bk,e.ct]];rintro ρ' M' σ' H' ⟨ob,us,ws,hM,hq⟩ ts ok;let⟨e1,r1⟩:=ok.hp d _ hM;have t2:=MN (u:= .dK us) e1;exact#[ob,us,e1,e.nx ρ' _ σ' _ hq (ts.trans t2) (ok.mv t2 (ok.hp.put t2 #[us,cn,KR.ts t2 r1]))]
end WL
set_option maxHeartbeats 4000000
namespace DC
open PySem PySem.Spec PyProof.Rows
def Jv:typeLookup (.type "tuple") "keys" =pure none:=by rw[typeLookup_type,builtinLookup_eq_fast];kernel_rfl
theorem qW:entryFor table "dict.update.loop" =some Builtin.«dict.update.loop» :=entryFor_of_tree (by kernel_rfl)
def jD:plainId "dict.update.loop" =true:=by decide+kernel
section
variable {prog:Program}{w:World}{A:Around}{E:Value ->Shared ->Prop}{s:Shared}
def Jo (hx:s.heap.get? a=some #[.type "tuple",none, .seq xs k,sl])(hA:A.handled=none)(h: ∀h' tk,(∀b o,s.heap.get? b=some o ->h'.get? b=some o) ->Q none {s with heap:=h',toks:=tk}):wpAny (model prog w) A (getAttr? (.ref a) "keys") Q E s:=by
 let⟨hp,g,d,tk,os⟩:=s;have hT: ∀Pe,(#[hp,g,d,Pe,os]:Shared).TypeIs (.ref a) "tuple" :=λ_=>#[_,hx,rfl]
 have f1:=sub_AttributeError;have f3:=F.slot_tuple_getattribute.lookup;have f4:=F.slot_tuple_getattribute.bind (.ref a);have f5:=am_tuple_getattr_none;unfold getAttr? getAttrBy? getAttrBy;repeat (any_goals (first | assumption | exact hT _ | ((with_reducible show wpAny _ _ (call (Value.builtin "tuple.__getattribute__") _ _) _ _ _);refine call_meets F.slot_tuple_getattribute (hT _) am_entry_tuple_getattribute (F.args_tuple_getattribute_2 _ _) (meets_getattribute_miss_tuple a xs k sl "keys" _ Jv (by decide+kernel) (by size_fits)) #[hx,hA,λh' Pe e gY=> ?_]) | wp_step))
 let⟨t',u',he⟩:=gY.there;show wpAny _ _ (getattributeRaised _ _ _ _ _ _ _) _ _ _;unfold getattributeRaised;repeat (any_goals (first | assumption | wp_step))
 exact h h' _ gY.keeps
end
section
variable {prog:Program}{w:World}{κ:Type} [DecidableEq κ]{knd:PySem.KeyKind prog w κ}{A:Around}{E:Value ->Shared ->Prop}
structure Mq (knd:PySem.KeyKind prog w κ)(h:Heap)(its:Array Value)(ps:List (κ×Value)):Prop where
 len:its.size=ps.length
 at_: ∀ (i:Nat) (p:κ×Value),ps[i]? =some p -> ∃a key,its[i]? =some (.ref a) /\ knd.is p.1 key=true /\ h.IsTuple a (List.toArray [key,p.2])
theorem Mq.keeps (P:Mq knd h its ps)(hk: ∀b o,b≠x ->h.get? b=some o ->h'.get? b=some o)(hx: ∀o its n,h.get? x=some o ->o.data≠ .seq its n):Mq knd h' its ps:=#[P.len,λi p e=>by let⟨a,key,h1,h2,o,ho,hc,n,r⟩:=P.at_ i p e;exact#[a,key,h1,h2,o,hk a o (λz=>hx o _ n (z▸ho) r) ho,hc,n,r]]
noncomputable def putAll (kvs:List (κ×Value))(ps:List (κ×Value)):List (κ×Value):=ps.foldl (λm p=>stored m p.1 p.2) kvs
def yI (kvs:List (κ×Value))(k:κ)(v:Value):(stored kvs k v).length<=kvs.length+1:=by
 unfold stored;split
 .simp
 .simp
def loop (hA:A.in1.handled=none)(hn:ps.length<=1000000): ∀ (k i:Nat) {s:Shared} (it d:Addr) (tk:Tok) (kvs:List (κ×Value)),ps.length - i=k ->i<=ps.length ->kvs.length<=i ->s.heap.IsTupleIter it t i ->s.heap.IsTuple t its ->Mq knd s.heap its ps ->s.heap.DictOf knd d kvs ->d≠it ->d≠t ->t≠it ->(∀h' Pe,h'.DictOf knd d (putAll kvs (ps.drop i)) ->(∀b o,b≠d ->b≠it ->s.heap.get? b=some o ->h'.get? b=some o) ->R (.ok (.ret .none)) {s with heap:=h',toks:=Pe}) ->codeAny (model prog w) A (.builtin "dict.update.loop" #[[.ref d, .ref it, .int i tk, .none],[]]) R s:=by
 intro k;induction k with
 | zero=>
  intro i s it d tk kvs hk hi hl hit ht hP hd n1 n2 n3 hR;have e:i=ps.length:=by omega
  refine codeAny_builtin qW ?_;rw[Around.under_plainId jD _];show wpAny _ A.in1 (pyNext (.ref it) >>=_) _ _ s;refine ak (wpAny_pyNext_tuple_end hA hit ht (by rw[Array.getElem?_eq_none];rw[hP.len];omega) λh' hx=> ?_);show wpAny _ A.in1 (Builtin.Dict.addKeywords d [] >>=_) _ _ _;refine ak (aO (aO ?_));have e2:ps.drop i= []:=List.drop_eq_nil_of_le (by omega);refine hR h' s.toks ?_ λb o _ n4 eb=>hx b o n4 eb;rw[e2];exact hd.extBut hx n1
 | succ k ih=>
  intro i s it d tk kvs hk hi hl hit ht hP hd n1 n2 n3 hR;have fM:i<ps.length:=by omega
  let⟨p,hp⟩: ∃p,ps[i]? =some p:=#[ps[i],ae fM]
  let⟨a,key,h1,h2,h3⟩:=hP.at_ i p hp;refine codeAny_builtin qW ?_;rw[Around.under_plainId jD _];show wpAny _ A.in1 (pyNext (.ref it) >>=_) _ _ s;refine ak (wpAny_pyNext_tuple_item hit ht h1 λh' Xe gA=> ?_);have nc: ∀o its n,s.heap.get? it=some o ->o.data≠ .seq its n:=λo its n eo z=>by let⟨o2,e2,_,c2⟩:=hit;rw[eo] at e2;cases e2;rw[z] at c2;cases c2
  have hP':Mq knd h' its ps:=hP.keeps (λb o n4 e4=>gA.extBut b o n4 e4) nc;have k9:h'.DictOf knd d kvs:=hd.extBut gA.extBut n1;have nW:h'.IsTuple t its:=by let⟨o,ho,r⟩:=ht;exact#[o,gA.extBut t o n3 ho,r]
  let⟨a',RQ,OJ,HP,h3'⟩:=hP'.at_ i p hp;let⟨oa,hoa,hca,na,hda⟩:=h3';have ea:a'=a:=by rw[h1] at OJ;cases OJ;rfl
  subst ea;have hT:(#[h',s.gens,s.drawn,s.toks,s.os]:Shared).TypeIs (.ref a') "tuple" :=#[oa,hoa,hca]
  show wpAny _ A.in1 (holding [.ref a'] _ >>=_) _ _ _;refine ak (wpAny_holding (ak (wpAny_tryCatch ?_)));unfold Builtin.Dict.pairItems;refine ak (wpAny_typeOf hT ?_);rw[aj (by simp)];refine ak (wpAny_seqItems hoa hda ?_);refine aO ?_;show wpAny _ A.in1 (holding [RQ,p.2] (dictSet d RQ p.2)) _ _ _;refine wpAny_holding (wpAny_dictSet_pairs HP k9 (λh2 hd2 jU=> ?_) (by rw[cO];omega));refine aO #[plainId_quiet jD _,?_];have ei:(rawInt ((i:Int)+1))=Value.int ((i+1:Nat):Int) 0:=by simp[rawInt]
  rw[ei];have CL:Mq knd h2 its ps:=hP'.keeps (x:=d) (λb o n4 e4=>jU.extBut b o n4 e4) (λo its n eo z=>by let⟨o2,_,_,e2,_,c2,_⟩:=k9;rw[eo] at e2;cases e2;rw[z] at c2;cases c2);refine ih (i+1) it d 0 (stored kvs p.1 p.2) (by omega) fM (by have:=yI kvs p.1 p.2;omega) ?_ ?_ CL hd2 n1 n2 n3 λh3 tk3 OB hk3=> ?_
  .let⟨o,ho,r⟩:=Xe;exact#[o,jU.extBut it o (a9 n1) ho,r]
  .let⟨o,ho,r⟩:=nW;exact#[o,jU.extBut t o (a9 n2) ho,r]
  .refine hR h3 tk3 ?_ λb o n4 n5 eb=>hk3 b o n4 n5 (jU.extBut b o n4 (gA.extBut b o n5 eb));have:ps.drop i=p::ps.drop (i+1):=by have:=dS fM;rw[this];rw[ae fM] at hp;cases hp;rfl
   rw[this];exact OB
def l5 (hA:A.in1.handled=none)(hn:ps.length<=1000000)(hx:s.heap.get? t=some #[.type "tuple",none, .seq its n,sl])(hP:Mq knd s.heap its ps)(h: ∀h' tk,h'.DictOf knd s.heap.objs.size (putAll [] ps) ->(∀b o,s.heap.get? b=some o ->h'.get? b=some o) ->Q (.ref s.heap.objs.size) {s with heap:=h',toks:=tk}): wpAny (model prog w) A (call (.type "dict") [.ref t]) Q E s:=by
 refine callType_codes (Q₁:=λobj s₁=>obj= .ref s.heap.objs.size /\ s₁= {s with heap:=s.heap.push {cls:= .type "dict",data:= .dict #[]}}) PySem.F.kt_called_dict (PySem.F.kt_typeCall_dict_1 _) PySem.F.entry_dict_init (PySem.kt_code_dict_new _ #[rfl,rfl]) ?_;rintro obj s₁ ⟨rfl,rfl⟩;have CB:(s.heap.push {cls:= .type "dict",data:= .dict #[]}).DictOf knd s.heap.objs.size []:=Heap.DictOf.new s.heap;have Uz:(s.heap.push {cls:= .type "dict",data:= .dict #[]}).get? t=some #[.type "tuple",none, .seq its n,sl]:=aq _ hx;have fM:t<s.heap.objs.size:=aF hx;refine#[CB.typeIs,PySem.F.args_dict_init_2 _ _,?_];unfold Builtin.«dict.__init__»;refine ak ?_;unfold Builtin.Dict.selfAndRest;refine ak (wpAny_notOrdered_dict CB.typeIs ?_);show wpAny _ _ (pure (s.heap.objs.size,[Value.ref t])) _ _ _;refine aO ?_;show wpAny _ _ (Builtin.Dict.updateFrom "dict.__init__" s.heap.objs.size (.ref t) [] .none) _ _ _;unfold Builtin.Dict.updateFrom;refine ak (wpAny_typeOf (T:= "tuple") #[_,Uz,rfl] ?_);rw[aj (by decide)];refine ak (Jo Uz hA λh1 TZ vN=> ?_);rw[aj (show(none:Option Value).isNone=true from rfl)];refine ak (wpAny_rule (ak ?_));have ht3:h1.IsTuple t its:=#[_,vN t _ Uz,rfl,n,rfl]
 refine wpAny_pyIter_tuple ht3 ?_;refine aO #[plainId_quiet jD _,?_];have UN:h1.DictOf knd s.heap.objs.size []:=by let⟨o,es,ep,ho,r⟩:=CB;exact#[o,es,ep,vN _ _ ho,r]
 have UB:s.heap.objs.size<h1.objs.size:=by let⟨o,es,ep,ho,r⟩:=UN;exact aF ho
 have HN:Mq knd (h1.push {cls:= .type "tuple_iterator",data:= .fields (List.toArray [.ref t, .int 0 0])}) its ps:=#[hP.len,λi p e=>by let⟨a,key,e1,e2,o,ho,r⟩:=hP.at_ i p e;exact#[a,key,e1,e2,o,aq _ (vN a o (aq _ ho)),r]]
 have ei:(rawInt 0)=Value.int ((0:Nat):Int) 0:=rfl;rw[ei];have Dy:t≠h1.objs.size:=a5 (aF (vN t _ Uz));have ht4:(h1.push {cls:= .type "tuple_iterator",data:= .fields (List.toArray [.ref t, .int 0 0])}).IsTuple t its:=let ⟨o,ho,r⟩:=ht3;#[o,aq _ ho,r]
 have hit:(h1.push {cls:= .type "tuple_iterator",data:= .fields (List.toArray [.ref t, .int 0 0])}).IsTupleIter h1.objs.size t 0:=#[_,aS _ rfl,rfl,rfl]
 have hd2:=UN.push {cls:= .type "tuple_iterator",data:= .fields (List.toArray [.ref t, .int 0 0])};refine loop (A:=A.in1) (knd:=knd) (ps:=ps) (its:=its) (t:=t) (s:= {s with heap:=h1.push {cls:= .type "tuple_iterator",data:= .fields (List.toArray [.ref t, .int 0 0])},toks:=TZ}) hA hn ps.length 0 h1.objs.size s.heap.objs.size 0 [] (by omega) (dj _) (ao _) hit ht4 HN hd2 (a5 UB) (Nat.ne_of_gt fM) Dy λh' Pe k9 rL=> ?_;refine#[rfl,h h' Pe ?_ λb o eb=>rL b o (a5 (aF eb)) (a5 (aF (vN b o (aq _ eb)))) (aq _ (vN b o (aq _ eb)))];simpa using k9
end
end DC
namespace L2
open PySem PySem.Spec PyProof.Rows
section
variable {X:Cx}{pins:List (Addr×Obj)}{σ:St}{H H':Hp}{s:Shared}{h':Heap}
def Inv.more (I:Inv X pins σ H s)(k: ∀b o,s.heap.get? b=some o ->h'.get? b=some o)(hx: ∀b o,H b=some o ->H' b=some o)(hn: ∀b,b<s.heap.objs.size ->H b=none ->H' b=none)(dv:lE X.prog X.w H' h'): Inv X pins σ H' {s with heap:=h',toks:=t'}:=by refine I.call (ch:= []) (g':=s.gens) (d':=s.drawn) #[λb o q n _ _=>k b o q,λb o q n _ _=>#[o.slots,k b o q],λb o q n _=>hn b (aF q) n,λb o q _=>#[o,k b o q],λb ys q=>hx b _ q,λb o u q=>hx b _ q,λb ps q=>#[#[],by rw[hx b _ q];simp]] dv I.bare λb hb=>nomatch hb
noncomputable def E6 (K:PySem.W.Frag):List V ->Hp ->VK ->Prop:=λxs H Q=> ∃ (a:Addr) (vs:List V) (ps:List (Key×V)),xs= [.ref a] /\ jj K H a vs /\ ps.length<=1000000 /\ vs.length=ps.length /\ (∀ (i:Nat) p,ps[i]? =some p -> ∃b,vs[i]? =some (.ref b) /\ jj K H b [kV p.1,p.2]) /\ ∀q,H q=none ->Q (.ref q) (upd H q (.dK (ps.foldl (λm p=>putK m p.1 p.2) [])))
theorem Fe {K:PySem.W.Frag}{h:Heap}(tup: ∀ {b:Addr} {xs:List V},jj K H b xs -> ∃its:List Value,Vals xs its /\ h.IsTuple b its.toArray): ∀ {ps:List (Key×V)} {vs:List V} {its:List Value},vs.length=ps.length ->(∀ (i:Nat) p,ps[i]? =some p -> ∃b,vs[i]? =some (.ref b) /\ jj K H b [kV p.1,p.2]) ->Vals vs its ->∃qs:List (Key×Value),KV ps qs /\ ∀ (i:Nat) q,qs[i]? =some q -> ∃a key,its[i]? =some (.ref a) /\ (cH X.prog X.w).is q.1 key=true /\ h.IsTuple a (List.toArray [key,q.2])
 | [],vs,its,hl,_,r=>by refine#[[], .nil,λi q e=> ?_];simp at e
 | p::ps,[],its,hl,_,r=>by simp at hl
 | p :: ps,v::vs,its,hl,ha,r=>by
  cases r with
  | @cons _ u _ us r1 r2=>
   let⟨qs,hq,Wx⟩:=Fe tup (ps:=ps) (vs:=vs) (its:=us) (by simpa using hl) (λi p e=>by simpa using ha (i+1) p (by simpa using e)) r2;let⟨b,hb,hs⟩:=ha 0 p rfl;have tI:v= .ref b:=by simpa using hb
   subst tI;have eu:u=Value.ref b:=r1;subst eu;let⟨js,rj,tj⟩:=tup hs;cases rj with
   | cons k1 k2=>
    cases k2 with
    | cons k3 k4=>
     cases k4;rename_i key val;refine#[(p.1,val)::qs, .cons #[rfl,k3] hq,λi q e=> ?_];cases i with
     | zero=>simp at e;subst e;exact#[b,key,rfl,ni k1,tj]
     | succ i=>simpa using Wx i q (by simpa using e)
theorem tw: ∀ {ps:List (Key×V)} {qs:List (Key×Value)} {m:List (Key×V)} {n:List (Key×Value)},KV ps qs ->KV m n ->KV (ps.foldl (λm p=>putK m p.1 p.2) m) (DC.putAll n qs)
 | _,_,_,_, .nil,r=>r
 | _,_,_,_, .cons ⟨e,rv⟩ t,r=>by rw[List.foldl_cons];refine tw (n:=stored _ _ _) t ?_;rw[e];exact r.put _ rv
theorem tf: ∀ (ps:List (Key×V)) (m:List (Key×V)),(ps.foldl (λm p=>putK m p.1 p.2) m).length<=m.length+ps.length
 | [],m=>by simp
 | p::ps,m=>by rw[List.foldl_cons,aG];have:=tf ps (putK m p.1 p.2);have:=gS m p.1 p.2;omega
def l5 (hc:X.calm=true):gg X (.type "dict") (E6 X.K):=by intro pins s σ H xs us Q I r h;let⟨a,vs,ps,rfl,hq,hn,hl,Dz,q⟩:=h;let⟨u,rfl,ru⟩:=vals1 r;cases ru;let⟨its,rv,⟨o,ho,hco,n,hd,hdd⟩,hz⟩:=I.ML hq;let⟨qs,hk,Wx⟩:=Fe (X:=X) (h:=s.heap) (λ{b xs} hs=>by let⟨js,rj,tj,_⟩:=I.tuple hs;exact#[js,rj,tj]) hl Dz rv;have hlen:qs.length=ps.length:=hk.length.symm;let⟨c,dct,dat,sl⟩:=o;simp only at hco hd hdd;subst hco hd hdd;refine DC.l5 (knd:=cH X.prog X.w) (ps:=qs) (show X.A.in1.handled=none from I.ok.hd hc) (by rw[hlen];exact hn) ho #[by have:=rv.length;simp;omega,λi p e=>by simpa using Wx i p e] λh' tk k9 Gv=> ?_;refine#[.ref s.heap.objs.size,_,I.laid (t':=tk) Gv (ao _) (qY ?_ (beq_eq_false_iff_ne.mpr (a9 (a5 I.big))) (tw hk .nil) k9),rfl,q _ (I.dv.fresh (ao _))];have:=tf ps [];rw[cO];simp at this;omega
noncomputable def E4:List V ->Hp ->VK ->Prop:=λxs H Q=> ∃d kvs,xs= [.ref d] /\ Rd H d (.dK kvs) /\ ∀l,H l=none ->Q (.ref l) (upd H l (.lst (kvs.map λkv=>kV kv.1)))
theorem sk: ∀ {kvs:List (Key×V)} {vs:List (Key×Value)} {acc:List Value},KV kvs vs ->acc.length=vs.length ->(∀ (j:Nat) v,acc[j]? =some v -> ∃k x,vs[j]? =some (k,x) /\ nh k v=true) ->Vals (kvs.map λkv=>kV kv.1) acc
 | _,_,[], .nil,_,_=> .nil
 | _,_,_::_, .nil,h,_=>by simp at h
 | _,_,[], .cons _ _,h,_=>by simp at h
 | _,_,u::us, .cons (a:=p) (b:=q) ⟨e,_⟩ t,h,hk=>by refine .cons ?_ (sk t (by simpa using h) λj v ev=>by simpa using hk (j+1) v (by simpa using ev));let⟨k,x,e1,e2⟩:=hk 0 u rfl;simp at e1;show RelV (kV p.1) u;rw[e,e1];exact va e2
def iQ (hc:X.calm=true):gg X (.type "list") E4:=by intro pins s σ H xs us Q I r h;let⟨d,kvs,rfl,hd,q⟩:=h;let⟨u,rfl,ru⟩:=vals1 r;cases ru;let⟨z,Gk,vs,rel,dd⟩:=nH I.dv hd;let⟨ep,tJ⟩:=dd.dictAt;refine PySem.W.kdl_call (PySem.W.kdl_dict (knd:=cH X.prog X.w) (kvs:=vs) (ep:=ep) Gk) (I.ok.hd hc) tJ (by rw[<- rel.length];exact z) λh' tk acc c Gv hg items=> ?_;have hv:Vals (kvs.map λkv=>kV kv.1) acc.toList:=sk rel (by rw[dg];exact items.1) λj v e=>items.2 j v (by rw[<- Array.getElem?_toList];exact e);refine#[.ref _,_,I.laid (t':=tk) Gv (ao _) (show d6 X.prog X.w _ h' _ (.lst _) from#[by rw[aa];exact z,acc.toList,c,hv,by simpa using hg]),rfl,q _ (I.dv.fresh (ao _))]
end
section
variable {X:Cx}{o:Expr}{td:TE}{apos fY p1 Fg:Pos}
theorem sj: ∀as:List Addr,Vals (as.map V.ref) (as.map Value.ref)
 | []=> .nil
 | a::r=> .cons rfl (sj r)
noncomputable def Ad (td:TE):TE:=λσ H Q=>td σ H λx H1=> ∃d kvs,x= .ref d /\ Rd H1 d (.dK kvs) /\ ∀ (l:Addr) (vs:List V) (H2:Hp),H1 l=none ->fm H1 H2 ->H2 l=some (.lst vs) ->vs.length=kvs.length ->(∀ (i:Nat) kv,kvs[i]? =some kv -> ∃a,vs[i]? =some (.ref a) /\ H2 a=some (.tup [kV kv.1,kv.2])) ->(∀b u,H2 b=some u ->H1 b=some u \/ H1 b=none /\ (b=l \/ ∃xs,u= .tup xs)) ->Q (.ref l) H2
def B8 (SJ:Gl X "list")(HH:X.mg "list" =none)(hc:X.calm=true)(ho:PE X o td)(xv:attributeBase o "items" X.env (eval o X.env)=eval o X.env:=by rfl)(xr:(apos.endLine==fY.line)=true:=by rfl) (ht:starEach [.Call (.Attribute o "items" apos) [] [] fY] X.env= [(false,eval (.Call (.Attribute o "items" apos) [] [] fY) X.env)]:=by rfl): PE X (.Call (.Name "list" p1) [.Call (.Attribute o "items" apos) [] [] fY] [] Fg) (Ad td):=by
 intro pins s σ H Q I h;refine Call_ (gJ I SJ HH boot_list (bP ?_ ht rfl));rw[ht];refine dJ (wpAny_Call_method0_late xv xr (dt (ho pins s σ H _ I h) λv s1 ⟨x,H1,I1,r1,d,kvs,ex,hd,q1⟩=> ?_));subst ex;obtain rfl:v=Value.ref d:=r1;let⟨t1,t2,sys⟩:=vb I1 (.inl #[kvs,hd]);refine#["dict","dict.items",PySem.F.plainAttrs_dict,PySem.F.slot_dict_items,PySem.F.type_dict_items,t1,t2,Calls.callWith_builtin rfl (PySem.evalArgs_none ?_)];let⟨z,Gk,vs,rel,dd⟩:=nH I1.dv hd;refine call_meetsIn PySem.F.slot_dict_items dd.typeIs PySem.F.entry_dict_items (PySem.F.args_dict_items_1 _) (meets_dict_items (cH X.prog X.w) d Gk) #[#[vs,dd],?_];refine Calls.spliced_nil ?_;let⟨ep,tJ⟩:=dd.dictAt;refine PySem.W.kdx_call (knd:=cH X.prog X.w) (kvs:=vs) (ep:=ep) (I1.ok.hd hc) #[_,aS _ rfl,rfl,rfl] (tJ.push _) (by rw[<- rel.length];exact z) λh' tk acc c as hk hg hl hG vm=> ?_;have hsz:(s1.heap.push {cls:= .type "dict_items",data:= .fields #[.ref d]}).objs.size=s1.heap.objs.size+1:=Heap.size_push ..;generalize hL:(s1.heap.push {cls:= .type "dict_items",data:= .fields #[.ref d]}).objs.size=L at hg hG ⊢;have UW:s1.heap.objs.size<L:=by omega
 have PJ:as.length=kvs.length:=by rw[hl,rel.length]
 have hnd:as.Nodup:=hG.rise.imp λh=>a5 h;let H2:Hp:=λb=>if b=L then some (.lst (as.map V.ref)) else match kvs[as.idxOf b]? with | some kv=>some (.tup [kV kv.1,kv.2]) | none=>H1 b
 have eL:H2 L=some (.lst (as.map V.ref)):=aj rfl;have eA: ∀ (j:Nat) a,as[j]? =some a -> ∃kv,kvs[j]? =some kv /\ H2 a=some (.tup [kV kv.1,kv.2]):=λj a e=>by
  have hj:j<as.length:=(ai.mp e).1;let⟨kv,CG⟩: ∃kv,kvs[j]? =some kv:=#[kvs[j],ae (by omega)]
  have ej:as.idxOf a=j:=by have:=(ai.mp e).2;rw[<- this];exact hnd.idxOf_getElem j hj
  refine#[kv,CG,?_];have na:a≠L:=Nat.ne_of_gt (hG.above a (au e));show(if a=L then _ else _)=_;rw[ah na,ej,CG]
 have eO: ∀b,b≠L ->b∉as ->H2 b=H1 b:=λb n1 n2=>by show(if b=L then _ else _)=_;rw[ah n1,List.idxOf_eq_length n2,cD (by omega)]
 have out: ∀b,b<s1.heap.objs.size ->b≠L /\ b∉as:=λb hb=>#[by omega,λz=>absurd (Nat.lt_trans hb (Nat.lt_trans UW (hG.above b z))) (cz _)]
 have same:fm H1 H2:=λb u e=>by let⟨n1,n2⟩:=out b (I1.dv.lt e);rw[eO b n1 n2];exact e
 have keep: ∀b ob,s1.heap.get? b=some ob ->h'.get? b=some ob:=λb ob e=>hk b ob (aq _ e);have dv:lE X.prog X.w H2 h':=λb u e=>by
  by_cases n1:b=L
  .subst n1;rw[eL] at e;cases e;exact#[by rw[aa,PJ];exact z,as.map Value.ref,c,sj as,by rw[<- vm];simpa using hg]
  .by_cases n2:b∈as
   .let⟨j,hj⟩:=cg.mp n2;let⟨kv,CG,e2⟩:=eA j b hj;rw[e2] at e;cases e;let⟨key,k,x,hx,qT,ht⟩:=hG.pairs j b hj;let⟨p,hp,YS,rp⟩:=zg rel hx;rw[CG] at hp;cases hp;refine#[by rw[cO];show 2<=16777216;decide,[key,x], .cons (by rw[YS];exact va qT) (.cons rp .nil),_,ht,rfl,_,rfl,rfl]
   .rw[eO b n1 n2] at e;exact(I1.dv b u e).qm (λc v _ r=>keep c v r) (λc r=>same c _ r) λc ys r=>same c _ r
 refine#[.ref L,H2,I1.more (t':=tk) keep (λb u e=>same b u e) (λb hb e=>by let⟨n1,n2⟩:=out b hb;rw[eO b n1 n2];exact e) dv,rfl,q1 L (as.map V.ref) H2 (I1.dv.fresh (Nat.le_of_lt UW)) same eL (by rw[aa,PJ]) (λi kv e=> ?_) λb u e=> ?_]
 .let⟨a,ha⟩: ∃a,as[i]? =some a:=#[as[i]'(by have:=(ai.mp e).1;omega),ae _]
  let⟨kv',h1,h2⟩:=eA i a ha;rw[e] at h1;cases h1;exact#[a,by rw[ay,ha];rfl,h2]
 .by_cases n1:b=L
  .exact .inr #[by rw[n1];exact I1.dv.fresh (Nat.le_of_lt UW), .inl n1]
  .by_cases n2:b∈as
   .let⟨j,hj⟩:=cg.mp n2;let⟨kv,CG,e2⟩:=eA j b hj;rw[e2] at e;cases e;exact .inr #[I1.dv.fresh (Nat.le_of_lt (Nat.lt_trans UW (hG.above b n2))), .inr #[_,rfl]]
   .rw[eO b n1 n2] at e;exact .inl e
noncomputable def xK (i:Int)(n:Nat):List V:=(List.range n).map λ(k:Nat)=> .int (i - (k:Int))
noncomputable def El (ta:TA):TE:=λσ H Q=>ta σ H λvs H1=> ∃i j:Int,vs= [.int i, .int j, .int (-1)] /\ zL i j (-1) /\ (i - j).toNat<=16000000 /\ ∀l,H1 l=none ->Q (.ref l) (upd H1 l (.lst (xK i (i - j).toNat)))
def BM (h:ItemsOf (λj v=> ∃t,v=Value.int (i+(j:Int)*(-1)) t) acc n):Vals (xK i n) acc.toList:=by
 let⟨hl,hv⟩:=h;have Ow:acc.toList.length=n:=by simpa using hl
 have key: ∀ (k:Nat) (l:List Value) (m:Nat),l.length=m ->(∀j v,l[j]? =some v -> ∃t,v=Value.int (i - ((k+j:Nat):Int)) t) ->Vals ((List.range' k m).map λ(k:Nat)=>V.int (i - (k:Int))) l:=by
  intro k l;induction l generalizing k with
  | nil=>intro m hm _;subst hm;exact .nil
  | cons v r ih=>
   intro m hm hj;subst hm;rw[aG,List.range'_succ,aK];refine .cons ?_ (ih (k+1) r.length rfl λj v' e=> ?_)
   .let⟨t,e⟩:=hj 0 v rfl;exact#[t,by simpa using e]
   .let⟨t,e'⟩:=hj (j+1) v' (by rw[List.getElem?_cons_succ];exact e);exact#[t,by rw[e'];congr 2<;>omega]
 have:=key 0 acc.toList n Ow λj v e=>by let⟨t,e'⟩:=hv j v (by rw[<- Array.getElem?_toList];exact e);exact#[t,by rw[e'];congr 2<;>omega]
 unfold xK;rw[List.range_eq_range'];exact this
def yT {q1 q2 Fg uU:Pos}(SJ:Gl X "list")(HH:X.mg "list" =none)(hg:Gl X "range")(hm:X.mg "range" =none)(hc:X.calm=true)(ha:PA X [a,b,c] ta)(hs:starEach [a,b,c] X.env= [(false,eval a X.env),(false,eval b X.env),(false,eval c X.env)]:=by rfl)(jU:starEach [b,c] X.env= [(false,eval b X.env),(false,eval c X.env)]:=by rfl)(ht:starEach [.Call (.Name "range" q2) [a,b,c] [] uU] X.env= [(false,eval (.Call (.Name "range" q2) [a,b,c] [] uU) X.env)]:=by rfl): PE X (.Call (.Name "list" q1) [.Call (.Name "range" q2) [a,b,c] [] uU] [] Fg) (El ta):=by
 intro pins s σ H Q I h;refine Call_ (gJ I SJ HH boot_list (bP ?_ ht rfl));rw[ht];refine dJ (Call_ (gJ I hg hm boot_range (bP (dt (ha uU pins s σ H _ I h) λus s1 ⟨vs,H1,I1,r1,q1⟩=> ?_) (by rw[hs,jU]) (by rw[jU];rfl))));let⟨i,j,e,ok,hn,q⟩:=q1;subst e;cases r1 with
 | cons r rr=>
  cases rr with
  | cons r' rr=>
   cases rr with
   | cons Rg rr=>
    cases rr;let⟨t,rfl⟩:=r;let⟨t',rfl⟩:=r';let⟨MX,rfl⟩:=Rg;refine call_range_3 (by decide) (Calls.spliced_nil ?_);have I2:Inv X pins σ H1 {s1 with heap:=s1.heap.push {cls:= .type "range",data:= .fields (List.toArray [.int i t, .int j t', .int (-1) MX])},toks:=s1.toks}:=I1.kept λb o e=>aq _ e;have hsz:Builtin.Range.rangeSize i j (-1)=((i - j).toNat:Int):=by have:=wx (a:=i) (b:=j);have h0:=og (a:=i) (b:=j) (c:= -1) (by decide);unfold HD at this;omega
    refine call_list_range (n:=(i - j).toNat) (I1.ok.hd hc) (IsRange.new ..) (v8 ok) hsz (by omega) λh' tk O5 c' kp GA items=> ?_;have hv:=BM items;refine#[.ref _,_,I2.laid (t':=tk) kp (ao _) (show d6 X.prog X.w _ h' _ (.lst (xK i (i - j).toNat)) from#[?_,O5.toList,c',hv,by simpa using GA]),rfl,q _ (I2.dv.fresh (ao _))];unfold xK;rw[aa,bI];exact aZ hn (by rw[cO];decide)
end
end L2
namespace WL
open PySem L2
variable {K:PySem.W.Frag}
noncomputable def My:yp:=λxs M q=> ∃l:List (Key×W),xs= [.tup (l.map λp=> .tup [fQ p.1,p.2])] /\ l.length<=1000000 /\ ∀p,M p=none ->q (wr p) (um M p (.dK (l.foldl (λm p=>jq m p.1 p.2) [])))
def WR.key {v:V}(h:WR K H (fQ k) v):v=kV k:=by cases k<;>exact h.eq
theorem wK {H:Hp}: ∀ {l:List (Key×W)} {vs:List V},cM K H (l.map λp=> .tup [fQ p.1,p.2]) vs -> ∃ps:List (Key×V),KR K H l ps /\ vs.length=ps.length /\ ∀ (i:Nat) p,ps[i]? =some p -> ∃b,vs[i]? =some (.ref b) /\ jj K H b [kV p.1,p.2]
 | [],vs,h=>by simp![List.map_nil,cM] at h;subst h;exact#[[], .nil,rfl,λi p e=>by simp at e]
 | (k,x)::l,vs,h=>by
  simp![aK,cM] at h;let⟨v,t,rfl,h1,h2⟩:=h;let⟨ps,r,hl,hp⟩:=wK h2;let⟨b,us,rfl,hs,hr⟩:=h1.tup;let⟨u1,u2,rfl,g1,g2⟩:=hr.two;cases g1.key;refine#[(k,u2)::ps, .cons #[rfl,g2] r,by simp[hl],λi p e=> ?_];cases i with
  | zero=>simp at e;subst e;exact#[b,rfl,hs]
  | succ i=>simpa using hp i p (by simpa using e)
theorem AW {H:Hp}: ∀ {l:List (Key×W)} {ps:List (Key×V)} {m:List (Key×W)} {n:List (Key×V)},KR K H l ps ->KR K H m n ->KR K H (l.foldl (λm p=>jq m p.1 p.2) m) (ps.foldl (λm p=>putK m p.1 p.2) n)
 | _,_,_,_, .nil,r=>r
 | _,_,_,_, .cons (a:=a) (b:=b) ⟨e,rv⟩ t,r=>by rw[List.foldl_cons,List.foldl_cons];refine AW t ?_;rw[e];exact KR.put rv r
instance:IC K (E6 K) My where
 imp:=by rintro xs v M H q Q m r1 ⟨l,rfl,hl,h⟩ k;let⟨v,rfl,r⟩:=r1.one;let⟨a,vs,rfl,hv,rr⟩:=r.tup;let⟨ps,hr,hlen,hp⟩:=wK rr;refine#[a,vs,ps,rfl,hv,by rw[<- qP hr];exact hl,hlen,hp,λp hp=> ?_];have ts:=L2.fm.ts (cw (o:= .dK (ps.foldl (λm p=>putK m p.1 p.2) [])) hp);exact k _ _ _ _ (h p (m.fresh hp)) ts (m.put ts #[_,cn,KR.ts ts (AW hr .nil)]) WR.v
noncomputable def Mv:yp:=λxs M q=> ∃d kvs,xs= [wr d] /\ M d=some (.dK kvs) /\ ∀p,M p=none ->q (wr p) (um M p (.lst (kvs.map λkv=>fQ kv.1)))
theorem xh {H:Hp}: ∀ {l:List (Key×W)} {vs:List (Key×V)},KR K H l vs ->cM K H (l.map λkv=>fQ kv.1) (vs.map λkv=>kV kv.1)
 | _,_, .nil=>cM.nil
 | _,_, .cons (a:=a) (b:=b) ⟨e,_⟩ t=>by refine cM.cons ?_ (xh t);show WR K H (fQ a.1) (kV b.1);rw[e];cases b.1<;>exact WR.v
instance:IC K E4 Mv where
 imp:=by rintro xs v M H q Q m r1 ⟨d,kvs,rfl,hd,h⟩ k;let⟨v,rfl,r⟩:=r1.one;cases r.eq;let⟨ks,ek,rr⟩:=m d _ hd;exact#[d,ks,rfl, .inl ek,λp hp=>k _ _ _ _ (h p (m.fresh hp)) (L2.fm.ts (cw hp)) (m.oo hp (xh rr)) WR.v]
noncomputable def ux (a:WE):WE:=λρ M q=>a ρ M λx M1=> ∃d kvs,x=wr d /\ M1 d=some (.dK kvs) /\ ∀p,M1 p=none ->q (wr p) (um M1 p (.lst (kvs.map λkv=> .tup [fQ kv.1,kv.2])))
def wLItems_e:ux a ρ M q=a ρ M λx M1=>gG x λd=>jJ (M1 d) λkvs=>pD M1 λp=>q (wr p) (um M1 p (.lst (kvs.map λkv=> .tup [fQ kv.1,kv.2]))):=by
 unfold ux gG jJ pD;congr 1;funext x M1;apply propext;constructor
 .rintro⟨d,kvs,e1,e2,h⟩;exact#[d,e1,kvs,e2,h]
 .rintro⟨d,e1,kvs,e2,h⟩;exact#[d,kvs,e1,e2,h]
instance {t:TE}{a:WE} [ia:IE K t a]:IE K (Ad t) (ux a) where
 imp :=λρ M σ H q Q o h k=>ia.imp ρ M σ H _ _ o h λx M1 v H1 ⟨d,kvs,ex,hd,h1⟩ t1 m1 r1=>by
  subst ex;let⟨ks,ek,rr⟩:=m1 d _ hd;refine#[d,ks,r1.eq, .inl ek,λl vs H2 hl sm el hlen tJ CB=> ?_];have ts:br H1 H2:=L2.fm.ts sm;refine k _ _ _ _ (h1 l (m1.fresh hl)) (t1.trans ts) (λb x e=> ?_) WR.v;by_cases hb:b=l
  .subst hb;rw[um_same] at e;cases e;refine#[vs,el,cM.mk (by rw[hlen,aa,qP rr]) λj d' v' e1 e2=> ?_];rw[ay] at e1;cases e3:kvs[j]? with
   | none=>rw[e3] at e1;cases e1
   | some kv=>
    rw[e3] at e1;cases e1;let⟨Uw,e4⟩: ∃Uw,ks[j]? =some Uw:=#[ks[j]'(by rw[<- qP rr];exact(ai.mp e3).1),ae _]
    let⟨p2,e5,e6,rp⟩:=zh rr e4;rw[e3] at e5;cases e5;let⟨a2,e7,e8⟩:=tJ j Uw e4;rw[e2] at e7;cases e7;refine WR.Pn (jj.of e8) (cM.cons ?_ (cM.cons (rp.ts ts) cM.nil));rw[e6];cases Uw.1<;>exact WR.v
  .rw[aN hb] at e;have hm:=m1 b x e;let⟨u,hu⟩:=hm.some;exact hm.mv ts (by rw[hu];exact sm b u hu)
noncomputable def Bg (i:Int)(n:Nat):List W:=(List.range n).map λ(k:Nat)=>wi (i - (k:Int))
noncomputable def DT (a:WA):WE:=λρ M q=>a ρ M λxs M1=> ∃i j:Int,xs= [wi i,wi j,wi (-1)] /\ zL i j (-1) /\ (i - j).toNat<=16000000 /\ ∀l,M1 l=none ->q (wr l) (um M1 l (.lst (Bg i (i - j).toNat)))
theorem Be {H:Hp}(i:Int): ∀ (l:List Nat),cM K H (l.map λ(k:Nat)=>wi (i - (k:Int))) (l.map λ(k:Nat)=>V.int (i - (k:Int)))
 | []=>by simp![List.map_nil,cM]
 | k::r=>by simp![aK,cM];exact#[_,_,rfl,WR.v,Be i r]
instance {t:TA}{a:WA} [ia:IA K t a]:IE K (El t) (DT a) where
 imp:=λρ M σ H q Q o h k=>ia.imp ρ M σ H _ _ o h λxs M1 vs H1 ⟨i,j,ex,h1,h2,h3⟩ t1 m1 r1=>by subst ex;simp![cM] at r1;let⟨v1,t2,rfl,g1,v2,t3,rfl,g2,v3,t4,rfl,g3,rfl⟩:=r1;cases g1.eq;cases g2.eq;cases g3.eq;exact#[i,j,rfl,h1,h2,λp hp=>k _ _ _ _ (h3 p (m1.fresh hp)) (t1.trans (L2.fm.ts (cw hp))) (m1.oo hp (Be i _)) WR.v]
end WL
namespace WQ
open PySem L2 WL WP
noncomputable def GD (p:Int)(m:Pt):Prop:=(m.map (·.1)).Nodup /\ ∀z∈m,0<z.2 /\ z.2<p
noncomputable def gx (m:Pt)(x:Int):Pt:=m.filter λq=>decide (q.1≠x)
def G2 (m:Pt)(x:Int):tS (fP m) (.inl x)=fP (gx m x):=by unfold tS fP gx;rw[List.filter_map];congr 1;apply List.filter_congr;intro q _;simp
theorem fZ: ∀ {m:Pt},(m.map (·.1)).Nodup -> ∀x,dH m x=look m x
 | [],_,x=>rfl
 | q ::r,h,x=>by
  rw[aK,bF] at h;have ih:=fZ h.2 x;rw[dH,look,ih];by_cases e:q.1=x
  .rw[aj e,aj e];have:look r x=0:=eU λz hz ez=>h.1 (ag.mpr #[z,hz,by rw[ez,e]]);rw[this];lia
  .rw[ah e,ah e];lia
def iL (h:(m.map (·.1)).Nodup)(hz:z∈m):look m z.1=z.2:=by
 induction m with
 | nil=>cases hz
 | cons q r ih=>
  rw[aK,bF] at h;rw[look];rcases av.mp hz with rfl | jT
  .rw[aj rfl]
  .rw[ah (λe=>h.1 (ag.mpr #[z,jT,e.symm]))];exact ih h.2 jT
def zc (m:Pt)(x y:Int):look (gx m x) y=if y=x then 0 else look m y:=by
 induction m with
 | nil=>simp[gx,look]
 | cons q r ih=>
  unfold gx at ih ⊢;rw[List.filter_cons];by_cases e:q.1=x
  .simp![e,ne_eq,not_true_eq_false,decide_false,az,bj];rw[ih,look];by_cases ey:y=x
   .rw[aj ey,aj ey]
   .rw[ah ey,ah ey,ah (by rw[e];exact a9 ey)]
  .simp![ne_eq,e,not_false_eq_true,decide_true,bW];rw[look,look,ih];by_cases ey:q.1=y
   .rw[aj ey,aj ey,ah (by rw[<- ey];exact e)]
   .rw[ah ey,ah ey]
def GD.range (hp:0<p)(h:GD p m)(x:Int):0<=look m x /\ look m x<p:=by
 by_cases hx: ∃z∈m,z.1=x
 .let⟨z,hz,rfl⟩:=hx;rw[iL h.1 hz];have:=h.2 z hz;lia
 .rw[eU λz hz e=>hx #[z,hz,e]];lia
def GD.drop (h:GD p m)(x:Int):GD p (gx m x):=by refine#[h.1.sublist (List.Sublist.map _ List.filter_sublist),λz hz=>h.2 z (aQ.mp hz).1]
def Jr (h:z∈kZ m x v):z=(x,v) \/ z∈m:=by
 unfold kZ at h;split at h
 .let⟨q,hq,e⟩:=ag.mp h;split at e
  .rename_i e2;left;rw[<- e,e2]
  .right;rw[<- e];exact hq
 .rcases ax.mp h with h | h
  .exact .inr h
  .exact .inl (af.mp h)
theorem GD.put (h:GD p m)(h0:0<v)(h1:v<p):GD p (kZ m x v):=#[u4 h.1,λz hz=>by
 rcases Jr hz with rfl | hz
 .exact#[h0,h1]
 .exact h.2 z hz]
def JR (h:look m x≠0):(fh (fP m) (.inl x)).isSome=true:=by
 rw[uA];rcases kR (m:=m) (x:=x) with⟨_,e,_⟩ | ⟨q,e,_⟩
 .exact absurd e h
 .rw[e];rfl
noncomputable def NZ (p n:Int):Prop:= ∀y,0<y ->y<p ->y*n % p≠0
noncomputable def K3 (nN:Int)(b:Pt):Pt:=b.map λz=>(z.1+nN,z.2)
theorem z6 (nN:Int): ∀ (b:Pt) (x:Int),dH (K3 nN b) x=dH b (x - nN)
 | [],x=>rfl
 | z::r,x=>by
  show dH ((z.1+nN,z.2)::K3 nN r) x=_;rw[dH,dH,z6 nN r x];by_cases e:z.1+nN=x
  .rw[aj e,aj (by lia)]
  .rw[ah e,ah (by lia)]
noncomputable def Rm:jS:=λxs M q=>Ts λ(h o:Addr) (p nN n:Int) (a b:Pt)=>uk (xs= [wi p,wr h,wr o,wi nN,wi n]) (h≠o) (M h=some (.dK (fP a))) (M o=some (.dK (fP b))) (0<p) (p<1000) (GD p a) (vD (GD p b) (NZ p n) (a.length+b.length<=16000000) (∀c,GD p c ->c.length<=a.length+b.length ->(∀x,look c x=(look a x+look b (x - nN)*n) % p) ->q wn (um M h (.dK (fP c)))))
theorem Cq (m:Pt)(x:Int):(gx m x).length<=m.length:=List.length_filter_le _ _
noncomputable def NF (C:Addr):jS:=λxs M q=>Mo λ(s dx:Addr) (l r:W)=>O6 (xs= [wr s,l,r]) (M s=some (.ins C dx [])) (q wn (um M s (.ins C dx [("lamps",l),("parts",r)])))
noncomputable def Fu (R C:Addr):jS:=λxs M q=>HU λ(s dx r dr:Addr) (l u f g:W)=> ∃ (e:W),BJ (xs= [wr s,wr r,f,g,e]) (s≠r) (M s=some (.ins C dx [])) (M r=some (.ins R dr [("lamps",l),("parts",u)])) (q wn (um M s (.ins C dx [("lamps",l),("parts",u),("first",f),("length",g),("foot",e)])))
end WQ
namespace WL
open PySem L2
def sDDelW_e:yO a b D ρ M=a ρ M λx M1=>b ρ M1 λy M2=>gG x λp=>oz y λk=>jJ (M2 p) λkvs=>gL ((fh kvs k).isSome=true) (D.nx ρ (um M2 p (.dK (tS kvs k)))):=by
 unfold yO gG oz jJ gL;congr 1;funext x M1;congr 1;funext y M2;apply propext;constructor
 .rintro⟨p,kvs,k,e1,e2,e3,e4,h⟩;exact#[p,e1,k,e3,kvs,e2,e4,h]
 .rintro⟨p,e1,k,e3,kvs,e2,e4,h⟩;exact#[p,kvs,k,e1,e2,e3,e4,h]
end WL
namespace WQ
open PySem L2 WL WP
noncomputable abbrev Pq:=List (Int×Addr×Pt)
noncomputable def mf (P:Pq):List (Key×W):=P.map λt=>((Sum.inl t.1:Key),wr t.2.1)
noncomputable def pf (P:Pq)(w:Int):Pt:=match P.find? (λt=>decide (t.1=w)) with
 | some t=>t.2.2
 | none=> []
noncomputable def bY (rl rp:Addr)(P:Pq):List Addr:=rl::rp::P.map λt=>t.2.1
structure c6 (p:Int)(M:Mp)(rl rp:Addr)(a:Pt)(P:Pq):Prop where
 lam:M rl=some (.dK (fP a))
 par:M rp=some (.dK (mf P))
 A0: ∀t∈P,M t.2.1=some (.dK (fP t.2.2))
 ga:GD p a
 gp: ∀t∈P,GD p t.2.2
 nV:(P.map (·.1)).Nodup
 Ln:(bY rl rp P).Nodup
noncomputable def fo (M M':Mp)(L:List Addr):Prop:= ∀d o,M d=some o ->d∉L ->M' d=some o
theorem fo.trans {M M1 M2:Mp}(h:fo M M1 L)(h':fo M1 M2 L')(hs: ∀x∈L',x∈L \/ M x=none):fo M M2 L:=λd o e n=>h' d o (h d o e n) λhd=>(hs d hd).elim n λz=>by rw[e] at z;cases z
theorem fo.sm (h:Sm M M')(L:List Addr):fo M M' L:=λd o e _=>h d o e
theorem gI {α β:Type}{f:α ->β}: ∀ {l:List α},(l.map f).Nodup -> ∀ {x y:α},x∈l ->y∈l ->f x=f y ->x=y
 | [],_,x,_,hx,_,_=>by cases hx
 | z ::r,h,x,y,hx,hy,e=>by
  rw[aK,bF] at h;rcases av.mp hx with ex | hx
  .rcases av.mp hy with ey | hy
   .rw[ex,ey]
   .exact absurd (ag.mpr #[y,hy,by rw[<- e,ex]]) h.1
  .rcases av.mp hy with ey | hy
   .exact absurd (ag.mpr #[x,hx,by rw[e,ey]]) h.1
   .exact gI h.2 hx hy e
theorem find_some {P:Pq}(h:P.find? (λt=>decide (t.1=w))=some t):t∈P /\ t.1=w:=#[List.mem_of_find?_eq_some h,by simpa using List.find?_some h]
theorem find_none {P:Pq}(h:P.find? (λt=>decide (t.1=w))=none):w∉P.map (·.1):=λhm=>by let⟨t,ht,e⟩:=ag.mp hm;have:=List.find?_eq_none.mp h t ht;simp[e] at this
def uz (P:Pq)(w:Int):fh (mf P) (.inl w)=(P.find? λt=>decide (t.1=w)).map λt=>wr t.2.1:=by
 induction P with
 | nil=>rfl
 | cons t r ih=>
  unfold fh mf at ih ⊢;rw[aK,c8,c8];have e:decide ((Sum.inl t.1:Key)=Sum.inl w)=decide (t.1=w):=vf _ _;simp![e];cases decide (t.1=w) with
  | true=>rfl
  | false=>exact ih
def E7 (h:w∉P.map (·.1)):jq (mf P) (.inl w) (wr e)=mf (P++ [(w,e,c)]):=by
 unfold jq;have:((mf P).any λkv=>decide (kv.1=Sum.inl w))=false:=by rw[List.any_eq_false];intro kv CG;let⟨t,ht,rfl⟩:=ag.mp CG;simp![dh,Sum.inl.injEq];exact λew=>h (ag.mpr #[t,ht,ew])
 rw[this];unfold mf;rw[aM];rfl
noncomputable def lN (P:Pq)(w:Int)(c:Pt):Pq:=P.map λu=>if u.1=w then(u.1,u.2.1,c) else u
def Ja (P:Pq)(w:Int)(c:Pt):mf (lN P w c)=mf P:=by unfold mf lN;rw[aE];apply bD;intro t _;simp![Function.comp];split<;>rfl
def yf (P:Pq)(w:Int)(c:Pt):(lN P w c).map (λt=>t.2.1)=P.map λt=>t.2.1:=by unfold lN;rw[aE];apply bD;intro t _;simp![Function.comp];split<;>rfl
def xj (P:Pq)(w:Int)(c:Pt):(lN P w c).map (·.1)=P.map (·.1):=by unfold lN;rw[aE];apply bD;intro t _;simp![Function.comp];split<;>rfl
def jc (t:Int×Addr×Pt)(P:Pq)(w:Int):pf (t::P) w=if t.1=w then t.2.2 else pf P w:=by
 unfold pf;rw[c8];by_cases e:t.1=w
 .simp[e]
 .simp[e]
def AD (v:Int)(h:w∈P.map (·.1)):pf (lN P w c) v=if v=w then c else pf P v:=by
 induction P with
 | nil=>cases h
 | cons t r ih=>
  show pf ((if t.1=w then(t.1,t.2.1,c) else t)::lN r w c) v=_;by_cases e:t.1=w
  .rw [aj e,jc,jc];by_cases ev:v=w
   .rw[aj (show t.1=v by rw[ev,e]),aj ev]
   .rw [ah (show ¬t.1=v from λz=>ev (z.symm.trans e)),ah ev,ah (show ¬t.1=v from λz=>ev (z.symm.trans e))];by_cases hr:w∈r.map (·.1)
    .rw[ih hr,ah ev]
    .have:lN r w c=r:=by unfold lN;refine(bD (g:=id) λu hu=> ?_).trans (List.map_id r);exact ah λeu=>hr (ag.mpr #[u,hu,eu])
     rw[this]
  .rw[ah e,jc,jc];have hr:w∈r.map (·.1):=by
    rcases av.mp (show w∈t.1::r.map (·.1) from h) with z | z
    .exact absurd z.symm e
    .exact z
   by_cases ev:t.1=v
   .rw[aj ev,aj ev,ah (λz=>e (ev.trans z))]
   .rw[ah ev,ah ev,ih hr]
def yS (v:Int)(h:w∉P.map (·.1)):pf (P++ [(w,e,c)]) v=if v=w then c else pf P v:=by
 induction P with
 | nil=>
  rw[List.nil_append,jc];by_cases ev:v=w
  .rw[aj ev.symm,aj ev]
  .rw[ah (a9 ev),ah ev]
 | cons t r ih=>
  rw[List.cons_append,jc,jc];have hr:w∉r.map (·.1):=λz=>h (aw _ z);by_cases ev:t.1=v
  .rw[aj ev,aj ev,ah (λz=>h (by rw[<- z, <- ev];exact aA))]
  .rw[ah ev,ah ev,ih hr]
def p6 (h:w∉P.map (·.1)):pf P w= []:=by
 unfold pf;cases e:P.find? (λt=>decide (t.1=w)) with
 | none=>rfl
 | some t=>let⟨h1,h2⟩:=find_some e;exact absurd (ag.mpr #[t,h1,h2]) h
def qB (h:(P.map (·.1)).Nodup)(ht:t∈P):pf P t.1=t.2.2:=by
 induction P with
 | nil=>cases ht
 | cons u r ih=>
  rw[aK,bF] at h;rw[jc];rcases av.mp ht with rfl | nW
  .rw[aj rfl]
  .rw[ah (λe=>h.1 (ag.mpr #[t,nW,e.symm]))];exact ih h.2 nW
section
variable {p:Int}{M M':Mp}{rl rp:Addr}{a:Pt}{P:Pq}
theorem c6.same (h:c6 p M rl rp a P)(hk: ∀d∈bY rl rp P,M' d=M d):c6 p M' rl rp a P:=#[(hk rl (by simp[bY])).trans h.lam,(hk rp (by simp[bY])).trans h.par,λt ht=>(hk _ (by simp![bY,av,ag];exact .inr (.inr #[t,ht,rfl]))).trans (h.A0 t ht),h.ga,h.gp,h.nV,h.Ln]
def c6.mem (h:c6 p M rl rp a P)(hd:d∈bY rl rp P): ∃kvs,M d=some (.dK kvs):=by
 simp![bY,av,ag] at hd;rcases hd with rfl | rfl | ⟨t,ht,rfl⟩
 .exact#[_,h.lam]
 .exact#[_,h.par]
 .exact#[_,h.A0 t ht]
theorem c6.keep (h:c6 p M rl rp a P)(hk:fo M M' L)(hd: ∀d∈bY rl rp P,d∉L):c6 p M' rl rp a P:=h.same λd k9=>by let⟨kvs,e⟩:=h.mem k9;rw[e];exact hk d _ e (hd d k9)
def c6.V' (h:c6 p M rl rp a P)(gc:GD p c):c6 p (um M rl (.dK (fP c))) rl rp c P:=by
 have nd:=bF.mp h.Ln;refine#[um_same,?_,λt ht=> ?_,gc,h.gp,h.nV,h.Ln]
 .rw[aN (λe=>nd.1 (by rw[<- e];exact aA))];exact h.par
 .rw[aN (λe=>nd.1 (by rw[<- e];exact aw _ (ag.mpr #[t,ht,rfl])))];exact h.A0 t ht
def c6.set (h:c6 p M rl rp a P)(ht:t∈P)(gc:GD p c):c6 p (um M t.2.1 (.dK (fP c))) rl rp a (lN P t.1 c):=by
 have nd:=bF.mp h.Ln;have Ul:=bF.mp nd.2;have ea:bY rl rp (lN P t.1 c)=bY rl rp P:=by unfold bY;rw[yf]
 refine#[?_,?_,λu hu=> ?_,h.ga,λu hu=> ?_,by rw[xj];exact h.nV,by rw[ea];exact h.Ln]
 .rw[aN (λe=>nd.1 (by rw[e];exact aw _ (ag.mpr #[t,ht,rfl])))];exact h.lam
 .rw[aN (λe=>Ul.1 (by rw[e];exact ag.mpr #[t,ht,rfl])),Ja];exact h.par
 .obtain⟨v,hv,rfl⟩:=ag.mp hu;by_cases e:v.1=t.1
  .rw[aj e];have:v=t:=gI h.nV hv ht e;rw[this];exact um_same
  .rw[ah e,aN (λea=> ?_)]
   .exact h.A0 v hv
   .exact e (by rw[gI Ul.2 hv ht ea])
 .let⟨v,hv,rfl⟩:=ag.mp hu;split
  .exact gc
  .exact h.gp v hv
def c6.new (h:c6 p M rl rp a P)(he:M e=none)(hw:w∉P.map (·.1))(gc:GD p c):c6 p (um (um M e (.dK (fP c))) rp (.dK (mf (P++ [(w,e,c)])))) rl rp a (P++ [(w,e,c)]):=by
 have nd:=bF.mp h.Ln;have Ul:=bF.mp nd.2;have ne: ∀d∈bY rl rp P,d≠e:=λd hd z=>by let⟨kvs,q⟩:=h.mem hd;rw[z,he] at q;cases q
 have erl:=ne rl (by simp[bY]);have erp:=ne rp (by simp[bY]);have ein: ∀t∈P,t.2.1≠e:=λt ht=>ne _ (by simp![bY,av,ag];exact .inr (.inr #[t,ht,rfl]));refine#[?_,um_same,λu hu=> ?_,h.ga,λu hu=> ?_,?_,?_]
 .rw[aN (λz=>nd.1 (by rw[z];exact aA)),aN erl];exact h.lam
 .rcases ax.mp hu with hu | hu
  .rw[aN (λz=>Ul.1 (by rw[<- z];exact ag.mpr #[u,hu,rfl])),aN (ein u hu)];exact h.A0 u hu
  .rw[af.mp hu,aN (a9 erp),um_same]
 .rcases ax.mp hu with hu | hu
  .exact h.gp u hu
  .rw[af.mp hu];exact gc
 .rw[aM];refine List.nodup_append.mpr #[h.nV,by simp,λx hx y hy=> ?_];simp at hy;subst hy;exact λz=>hw (z▸hx)
 .have:bY rl rp (P++ [(w,e,c)])=bY rl rp P++ [e]:=by unfold bY;rw[aM];rfl
  rw[this];refine List.nodup_append.mpr #[h.Ln,by simp,λx hx y hy=> ?_];simp at hy;subst hy;exact ne x hx
end
noncomputable def rG (R S:Addr)(M:Mp)(o ol op:Addr):Prop:=(∃d,M o=some (.ins R d [("lamps",wr ol),("parts",wr op)])) \/ ∃d f g e,M o=some (.ins S d [("lamps",wr ol),("parts",wr op),("first",f),("length",g),("foot",e)])
theorem rG.keep (h:rG R S M o ol op)(k:fo M M' L)(n:o∉L):rG R S M' o ol op:=h.imp (λ⟨d,e⟩=>#[d,k _ _ e n]) λ⟨d,f,g,e',e⟩=>#[d,f,g,e',k _ _ e n]
noncomputable def Ll (R S:Addr):jS:=λxs M q=>HU λ(r rl rp o ol op:Addr) (p s:Int)=>HU λ(sh n:Int) (a b:Pt) (P Q:Pq) (B C:Nat)=>uk (xs= [wi p,wi s,wr r,wr o,wi sh,wi n]) (rG R S M r rl rp) (rG R S M o ol op) (0<p) (p<1000) (0<=s) (s<2 ^ 30) (uk (NZ p n) (c6 p M rl rp a P) (c6 p M ol op b Q) (∀x∈bY rl rp P,x∉bY ol op Q) (a.length+b.length<=16000000) (P.length+Q.length<=16000000) (∀t∈P,t.2.2.length<=B) (O6 (∀t∈Q,t.2.2.length<=C) (B+C<=16000000) (∀M' c P',c6 p M' rl rp c P' ->(∀x,look c x=(look a x+look b (x - s*sh)*n) % p) ->(∀w x,look (pf P' w) x=(look (pf P w) x+look (pf Q w) (x - sh)*n) % p) ->fo M M' (bY rl rp P) ->(∀x∈bY rl rp P',x∈bY rl rp P \/ M x=none) ->(∀x∈bY rl rp P,x∈bY rl rp P') ->c.length<=a.length+b.length ->P'.length<=P.length+Q.length ->(∀t∈P',t.2.2.length<=B+C) ->(∀w∈P'.map (·.1),w∈P.map (·.1) \/ w∈Q.map (·.1)) ->q wn M')))
def AB {Q:Pq}(hn:(Q.map (·.1)).Nodup)(h:Q[i]? =some t)(w:Int):pf (Q.take (i+1)) w=if w=t.1 then t.2.2 else pf (Q.take i) w:=by
 have WV:t.1∉(Q.take i).map (·.1):=λhm=>by rw[List.map_take] at hm;let⟨j,hj,e⟩:=List.mem_iff_getElem.mp hm;rw[bu,aa] at hj;rw[List.getElem_take] at e;let⟨hi,e2⟩:=ai.mp h;have:=bw.mp hn j i (by simp;lia) (by simpa using hi) (by lia);apply this;rw[e];simp[e2]
 rw[bC,h];let⟨t1,t2,t3⟩:=t;exact yS w WV
theorem Eg {Q:Pq}(hn:(Q.map (·.1)).Nodup)(h:Q[i]? =some t):t.1∉(Q.take i).map (·.1):=λhm=>by rw[List.map_take] at hm;let⟨j,hj,e⟩:=List.mem_iff_getElem.mp hm;rw[bu,aa] at hj;rw[List.getElem_take] at e;let⟨hi,e2⟩:=ai.mp h;have:=bw.mp hn j i (by simp;lia) (by simpa using hi) (by lia);apply this;rw[e];simp[e2]
theorem GD.nil:GD p []:=#[List.nodup_nil,λz hz=>by cases hz]
theorem fF (p0:0<p)(h:GD p m)(x:Int):look m x % p=look m x:=cX (h.range p0 x).1 (h.range p0 x).2
def c6.Fj (h:c6 p M rl rp a P)(w:Int):GD p (pf P w):=by
 unfold pf;cases e:P.find? (λt=>decide (t.1=w)) with
 | none=>exact GD.nil
 | some t=>exact h.gp t (find_some e).1
noncomputable def nG (a:Int)(n:Nat):List Int:=(List.range n).map λ(k:Nat)=>a - (k:Int)
noncomputable def yz (a:Int)(n:Nat):List Int:=(List.range n).map λ(k:Nat)=>a+(k:Int)
noncomputable def rO (ns:List Int)(len:Int):List Int:=if len=0 \/ ns= [] then ns else nG (ns.getLastD 0) (ns.getLastD 0 - (len - 1)).toNat++yz (ns.headD 0) (0 - ns.headD 0).toNat
noncomputable def VF:jS:=λxs M q=>oM λ(f:Addr) (ns:List Int) (len:Int)=>Ke (xs= [wr f,wi len]) (M f=some (.lst (ns.map wi))) (0<=len) (len<4000000) (ns.length<=16000000) (∀x∈ns, -4000000<x /\ x<4000000) (∀p M',Sm M M' ->M' p=some (.lst ((rO ns len).map wi)) ->q (wr p) M')
end WQ
namespace WL
open PySem L2
def D8 (h:M x=some (.lst l)):MQ M (.v (.ref x)) k=k (!l.isEmpty):=by
 apply propext;constructor
 .rintro⟨b,⟨l',h1,h2⟩ | ⟨l',h1,_⟩,z⟩
  .rw[h] at h1;cases h1;rw[h2] at z;exact z
  .rw[h] at h1;cases h1
 .intro z;exact#[_, .inl #[l,h,rfl],z]
theorem DS:DT a ρ M q=a ρ M λxs M1=> ∃i j:Int,xs= [wi i,wi j,wi (-1)] /\ zL i j (-1) /\ (i - j).toNat<=16000000 /\ pD M1 λl=>q (wr l) (um M1 l (.lst (Bg i (i - j).toNat))):=rfl
end WL
namespace WQ
open PySem L2 WL WP
def kK {l:List Int}(h:l≠ []):l.getLastD 0∈l:=by
 induction l using WP.fH with
 | h0=>exact absurd rfl h
 | h1 l a _=>simp
noncomputable def ji (len h:Int):Int:=if h<0 then h else h - len
structure Hs (hs:List Int)(len:Int):Prop where
 out: ∀h∈hs,h<0 \/ len<=h
 ord: ∀ (i j:Nat) h g,j<i ->hs[i]? =some h ->hs[j]? =some g ->¬(0<=g - ji len h /\ g - ji len h<=len)
 clo: ∀h∈hs, ∀y,ji len h<=y ->y<=ji len h+len ->y∈hs \/ (0<=y /\ y<len)
def kJ:x∈nG a n↔a - n<x /\ x<=a:=by
 unfold nG;rw[ag];constructor
 .rintro⟨k,hk,rfl⟩;have:=cc.mp hk;lia
 .rintro⟨h1,h2⟩;exact#[(a - x).toNat,cc.mpr (by lia),by lia]
def mY:x∈yz a n↔a<=x /\ x<a+n:=by
 unfold yz;rw[ag];constructor
 .rintro⟨k,hk,rfl⟩;have:=cc.mp hk;lia
 .rintro⟨h1,h2⟩;exact#[(x - a).toNat,cc.mpr (by lia),by lia]
def ye (h:(nG a n)[i]? =some x):i<n /\ x=a - i:=by
 unfold nG at h;rw[ay] at h;by_cases hi:i<n
 .rw[List.getElem?_range hi] at h;cases h;exact#[hi,rfl]
 .rw[cD (by simp;lia)] at h;cases h
def Hj (h:(yz a n)[i]? =some x):i<n /\ x=a+i:=by
 unfold yz at h;rw[ay] at h;by_cases hi:i<n
 .rw[List.getElem?_range hi] at h;cases h;exact#[hi,rfl]
 .rw[cD (by simp;lia)] at h;cases h
def A3 {l:List Int}(h:l.Pairwise (· <= ·)): ∀x∈l,l.headD 0<=x:=by
 cases l with
 | nil=>intro x hx;cases hx
 | cons a r=>
  intro x hx;rcases av.mp hx with rfl | hx
  .exact aT _
  .exact(a4.mp h).1 x hx
def Ee (l0:0<=len)(hs:ns.Pairwise (· <= ·))(hn:ns.Nodup):Hs (rO ns len) len /\ ∀y∈ns,y∈rO ns len \/ (0<=y /\ y<len):=by
 unfold rO;by_cases hc:len=0 \/ ns= []
 .rw [aj hc];rcases hc with hz | hz
  .subst hz;refine#[#[λh _=>by lia,λi j h g SF hi hj=> ?_,λh hh y h1 h2=> .inl ?_],λy hy=> .inl hy]
   .have dw:g≠h:=λe=>by let⟨a1,a2⟩:=ai.mp hi;let⟨b1,b2⟩:=ai.mp hj;exact bw.mp hn j i b1 a1 SF (by rw[a2,b2,e])
    unfold ji;split<;>lia
   .have:y=h:=by unfold ji at h1 h2;split at h1<;>lia
    rw[this];exact hh
  .subst hz;exact#[#[(λh hh=>nomatch hh),(λi j h g _ hi _=>by simp at hi),(λh hh=>nomatch hh)],(λy hy=>nomatch hy)]
 .rw [ah hc];have hl:0<len:=by have:=λe=>hc (.inl e);lia
  have dw:ns≠ []:=λe=>hc (.inr e);have LP:=AR hs dw;have LR:=A3 hs;generalize ns.getLastD 0=b at LP;generalize ns.headD 0=a at LR;have mem: ∀x,x∈nG b (b - (len - 1)).toNat++yz a (0 - a).toNat↔(len<=x /\ x<=b) \/ (a<=x /\ x<0):=λx=>by rw[ax,kJ,mY];constructor<;>(intro h;lia)
  refine#[#[λh hh=> ?_,λi j h g SF hi hj=> ?_,λh hh y h1 h2=> ?_],λy hy=> ?_]
  .rw[mem] at hh;lia
  .rw [List.getElem?_append] at hi hj;unfold ji;split at hi
   .let⟨_,e1⟩:=ye hi;split at hj
    .let⟨_,e2⟩:=ye hj;have:=(kJ (a:=b) (x:=h) (n:=(b - (len - 1)).toNat)).mp (au hi);split<;>lia
    .rename_i q1 q2;lia
   .let⟨r1,e1⟩:=Hj hi;split at hj
    .have:=(kJ (a:=b) (x:=g) (n:=(b - (len - 1)).toNat)).mp (au hj);split<;>lia
    .let⟨_,e2⟩:=Hj hj;split<;>lia
  .rw[mem] at hh ⊢;unfold ji at h1 h2;split at h1<;>lia
  .rw[mem];have:=LP.2 y hy;have:=LR y hy;lia
structure zK (s p:Int)(b:Pt)(f len foot:Int):Prop where
 ok:jB s f
 l0:0<=len
 s0:s=0 ->len=0
 ge: ∀x,look b x≠0 ->f<=bZ s x
 pI: ∀x,look b x≠0 ->bZ s x=f ->0<=hI s x /\ hI s x<=len
 top:look b (f+len*s)=1
 bot:look b f*foot % p=1
 ft:0<foot /\ foot<p
def xZ (x k:Int):bZ s (x+k*s)=bZ s x:=by
 unfold bZ;split
 .rename_i e;subst e;simp
 .rw[Int.add_mul_emod_self_right]
def p9 (h:s≠0)(x k:Int):hI s (x+k*s)=hI s x+k:=by unfold hI;rw[ah h,ah h,Int.add_mul_ediv_right _ _ h]
def nA (ok:jB s f)(h:s≠0)(k:Int):hI s (f+k*s)=k:=by
 rw[p9 h];have:hI s f=0:=by
  unfold hI;rw[ah h];rcases ok with z | ⟨z1,z2⟩
  .exact absurd z h
  .exact Int.ediv_eq_zero_of_lt z1 z2
 rw[this,bB]
def l7 (s0:0<=s)(e:bZ s x=f):x=f+hI s x*s:=by
 rcases Int.lt_or_eq_of_le s0 with h | h
 .have:=C2 (x:=x) h;rw[e] at this;rw[bN];exact this
 .subst h;have:x=f:=e;rw[this];simp
noncomputable def dU (g:Int ->Int)(js:List (Int×Int)):Int:=js.foldr (λj r=>g j.1*j.2+r) 0
theorem cB (g:Int ->Int)(j:Int×Int)(js:List (Int×Int)):dU g (j::js)=g j.1*j.2+dU g js:=rfl
def sT (hp:p=2 \/ p=3 \/ p=5 \/ p=7)(hn:n % p≠0):NZ p n:=by
 intro y y0 y1 e;have e2:y*(n % p) % p=0:=by rw[bT,Int.emod_emod_of_dvd _ (Int.dvd_refl p), <- bT];exact e
 have r0:=cF n (show p≠0 by lia);have r1:=cf n (show 0<p by lia);generalize n % p=r at hn e2 r0 r1;have key: ∀p∈([2,3,5,7]:List Nat), ∀y∈List.range p, ∀r∈List.range p,y≠0 ->r≠0 ->y*r % p≠0:=by decide
 let⟨p',rfl⟩:=Int.eq_ofNat_of_zero_le (show 0<=p by lia);let⟨y',rfl⟩:=Int.eq_ofNat_of_zero_le (show 0<=y by lia);let⟨r',rfl⟩:=Int.eq_ofNat_of_zero_le r0;refine key p' (by simp;lia) y' (cc.mpr (by lia)) r' (cc.mpr (by lia)) (by lia) (by lia) ?_;have:((y'*r' % p':Nat):Int)=0:=by push_cast;exact e2
 lia
structure nS (s p f len:Int)(b a:Pt)(hs:List Int)(i:Nat)(c:Pt)(js:List (Int×Int)):Prop where
 rel: ∀x,look c x=(look a x+dU (λsh=>look b (x - s*sh)) js) % p
 Y3: ∀ (j:Nat) g,j<i ->hs[j]? =some g ->look c (f+g*s)=0
 sup: ∀x,bZ s x=f ->look c x≠0 ->hI s x∈hs \/ (0<=hI s x /\ hI s x<len)
 N5: ∀x,bZ s x<f ->look c x=look a x
section
variable {s p f len foot:Int}{b a c:Pt}{hs:List Int}{i:Nat}{js:List (Int×Int)}{h:Int}
theorem nS.skip (st:nS s p f len b a hs i c js)(hh:hs[i]? =some h)(hz:look c (f+h*s)=0):nS s p f len b a hs (i+1) c js:=#[st.rel,λj g hj hg=>by
 rcases Nat.lt_or_ge j i with z | z
 .exact st.Y3 j g z hg
 .have:j=i:=by lia
  subst this;rw[hh] at hg;cases hg;exact hz,st.sup,st.N5]
def gP (s x sh:Int):bZ s (x - s*sh)=bZ s x:=by have:=xZ (s:=s) x (-sh);rw[show x+ -sh*s=x - s*sh by rw[Int.neg_mul,bN s sh];lia] at this;exact this
def kj (hs:s≠0)(x sh:Int):hI s (x - s*sh)=hI s x - sh:=by have:=p9 hs x (-sh);rw[show x+ -sh*s=x - s*sh by rw[Int.neg_mul,bN s sh];lia] at this;rw[this];lia
def nS.step (F:zK s p b f len foot)(H:Hs hs len)(s0:0<=s)(p0:0<p)(vL:s=0 -> ∀h∈hs,h=0)(gc:GD p c)(UZ:GD p c')(st:nS s p f len b a hs i c js)(hh:hs[i]? =some h)(hn:n=if h<0 then -(look c (f+h*s))*foot else -(look c (f+h*s)))(e: ∀x,look c' x=(look c x+look b (x - s*ji len h)*n) % p):nS s p f len b a hs (i+1) c' ((ji len h,n)::js):=by
 have hm:=au hh;have quiet: ∀x,look b (x - s*ji len h)=0 ->look c' x=look c x:=λx hx=>by rw[e,hx,bg,bE,fF p0 gc]
 have here:look c' (f+h*s)=0:=by
  rw[e,hn];by_cases jV:h<0
  .rw[aj jV];have e1:f+h*s - s*ji len h=f:=by unfold ji;rw[aj jV,bN s h];lia
   rw[e1];generalize look c (f+h*s)=v;have e2:v+look b f*(-v*foot)=v - v*(look b f*foot):=by rw[Int.neg_mul,Int.mul_neg, <- dz,bN (look b f) v,dz];lia
   rw[e2,Int.sub_emod,bT,F.bot];rw[dm,Int.emod_emod_of_dvd _ (Int.dvd_refl p),Int.sub_self];rfl
  .rw[ah jV];have e1:f+h*s - s*ji len h=f+len*s:=by unfold ji;rw[ah jV,bN s (h - len),Int.sub_mul];lia
   rw[e1,F.top,Int.one_mul];rw[show look c (f+h*s)+ -look c (f+h*s)=0 by lia];rfl
 refine#[λx=> ?_,λj g hj hg=> ?_,λx hx dw=> ?_,λx hx=> ?_]
 .rw[e,st.rel,Int.emod_add_emod,cB,Int.add_assoc,Int.add_comm (dU _ js)]
 .rcases Nat.lt_or_ge j i with z | z
  .rw [quiet]
   .exact st.Y3 j g z hg
   .by_cases dw:look b (f+g*s - s*ji len h)=0
    .exact dw
    .exfalso;have rY:bZ s (f+g*s - s*ji len h)=f:=by rw[gP,F.ok.on]
     have hr:=F.pI _ dw rY;by_cases vM:s=0
     .have g0:=vL vM g (au hg);have h0:=vL vM h hm;have:=H.ord i j h g z hh hg;have l0:=F.s0 vM;subst l0;rw[g0,h0] at this;exact this (by unfold ji;simp)
     .rw[kj vM,nA F.ok vM] at hr;exact H.ord i j h g z hh hg hr
  .have:j=i:=by lia
   subst this;rw[hh] at hg;cases hg;exact here
 .by_cases hb:look b (x - s*ji len h)=0
  .rw[quiet x hb] at dw;exact st.sup x hx dw
  .have rY:bZ s (x - s*ji len h)=f:=by rw[gP];exact hx
   have hr:=F.pI _ hb rY;by_cases vM:s=0
   .have h0:=vL vM h hm;have:hI s x=0:=by unfold hI;rw[aj vM]
    left;rw[this, <- h0];exact hm
   .rw[kj vM] at hr;exact H.clo h hm _ (by lia) (by lia)
 .rw [quiet x]
  .exact st.N5 x hx
  .by_cases hb:look b (x - s*ji len h)=0
   .exact hb
   .have:=F.ge _ hb;rw[gP] at this;lia
theorem nS.low (st:nS s p f len b a hs hs.length c js)(s0:0<=s): ∀x,bZ s x=f ->look c x≠0 ->0<=hI s x /\ hI s x<len:=λx hx dw=>by
 rcases st.sup x hx dw with z | z
 .exfalso;let⟨j,hj⟩:=cg.mp z;have:=st.Y3 j _ (ai.mp hj).1 hj;rw[<- l7 s0 hx] at this;exact dw this
 .exact z
end
noncomputable def Wt (Z:Int)(m:Pt):Prop:= ∀x,look m x≠0 -> -Z<=x /\ x<=Z
def Wt.len (g:GD p m)(h:Wt Z m)(z0:0<=Z):m.length<=(2*Z+1).toNat:=by
 have:=iA (l:=yz (-Z) (2*Z+1).toNat) g.1 λk hk=>by
  let⟨z,hz,rfl⟩:=ag.mp hk;have dw:look m z.1≠0:=by rw[iL g.1 hz];have:=g.2 z hz;lia
  have:=h z.1 dw;exact mY.mpr (by lia)
 rw[aa] at this;unfold yz at this;rw[aa,bI] at this;exact this
def kO (hn:ns.Nodup)(s0:0<=s):(oX s f ns).Nodup:=by
 unfold oX;have h2:(ns.filter λx=>decide (bZ s x=f)).Nodup:=hn.sublist List.filter_sublist;refine List.Pairwise.map _ (R:=λx y=>x≠y /\ bZ s x=f /\ bZ s y=f) (λx y h e=> ?_) ?_
 .exact h.1 (by rw[l7 s0 h.2.1,l7 s0 h.2.2,e])
 .refine List.Pairwise.imp_of_mem (λ{x y} hx hy h=>#[h,?_,?_]) h2
  .simpa using(aQ.mp hx).2
  .simpa using(aQ.mp hy).2
noncomputable def Ey (s p f len foot:Int)(b:Pt)(g:Int ->Int)(h:Int):Int ->Int:=if g (f+h*s)=0 then g else λx=>(g x+look b (x - s*ji len h)*(if h<0 then -(g (f+h*s))*foot else -(g (f+h*s)))) % p
noncomputable def G' (s p f len foot:Int)(b:Pt)(hs:List Int)(g:Int ->Int):Int ->Int:=hs.foldl (Ey s p f len foot b) g
def tZ {hs:List Int}(e:hs[i]? =some h):G' s p f len foot b (hs.take (i+1)) g=Ey s p f len foot b (G' s p f len foot b (hs.take i) g) h:=by unfold G';rw[bC,e,List.foldl_append];rfl
def Kq (h: ∀t∈P,Wt B t.2.2)(w:Int):Wt B (pf P w):=by
 unfold pf;cases e:P.find? (λu=>decide (u.1=w)) with
 | none=>intro x hx;exact absurd rfl hx
 | some u=>exact h u (find_some e).1
theorem Wt.up (h:Wt Z m)(l:Z<=Z'):Wt Z' m:=λx hx=>by have:=h x hx;lia
noncomputable def VL (R S:Addr):jS:=λxs M q=>HU λ(r rl rp o ds ol op:Addr) (p:Int)=>HU λ(s f len foot:Int) (a b:Pt) (P Q:Pq)=>Mo λ(B C Z D:Int)=>uk (xs= [wi p,wi s,wr r,wr o]) (rG R S M r rl rp) (M o=some (.ins S ds [("lamps",wr ol),("parts",wr op),("first",wi f),("length",wi len),("foot",wi foot)])) (p=2 \/ p=3 \/ p=5 \/ p=7) (0<=s) (s<=8) (len<3000000) (uk (zK s p b f len foot) (c6 p M rl rp a P) (c6 p M ol op b Q) (∀x∈bY rl rp P,x∉bY ol op Q) (Wt Z a) (Wt D b) (0<=Z) (uk (Z<=1000000) (0<=D) (D<=1000000) (∀t∈P,Wt B t.2.2) (∀t∈Q,Wt C t.2.2) (0<=B) (B<=1000000) (vD (0<=C) (C<=1000000) (P.length+Q.length<=1000) (∀M' c P' js,c6 p M' rl rp c P' ->(∀x,look c x=(look a x+dU (λsh=>look b (x - s*sh)) js) % p) ->(∀w x,look (pf P' w) x=(look (pf P w) x+dU (λsh=>look (pf Q w) (x - sh)) js) % p) ->(s=0 -> ∀j∈js,j.1=0) ->(∀x,bZ s x=f ->look c x≠0 ->0<=hI s x /\ hI s x<len) ->(∀x,bZ s x<f ->look c x=look a x) ->Wt (Z+D+s) c ->fo M M' (bY rl rp P) ->(∀x∈bY rl rp P',x∈bY rl rp P \/ M x=none) ->(∀x∈bY rl rp P,x∈bY rl rp P') ->(∀t∈P',Wt (max B (C+Z+1)) t.2.2) ->(∀w∈P'.map (·.1),w∈P.map (·.1) \/ w∈Q.map (·.1)) ->(∃ms:List Int,ms.Perm (oX s f (eC a)) /\ ms.Pairwise (· <= ·) /\ look c=G' s p f len foot b (rO ms len) (look a) /\ ∀j∈js, ∃h∈rO ms len,j.1=ji len h) ->(∀j∈js, -Z - 1<=j.1 /\ j.1<=Z) ->q wn M'))))
def F6 {P P' Q:Pq}(hn:(P'.map (·.1)).Nodup)(h: ∀w∈P'.map (·.1),w∈P.map (·.1) \/ w∈Q.map (·.1)):P'.length<=P.length+Q.length:=by have:=iA (l:=P.map (·.1)++Q.map (·.1)) hn λk hk=>ax.mpr (h k hk);rw[aa,aH,aa,aa] at this;exact this
def m8 (a:Pt):(fP a).map (λkv=>fQ kv.1)=(eC a).map wi:=by unfold fP eC;rw[aE,aE];rfl
def S1 {s f x Z:Int}(s0:0<=s)(s8:s<=8)(h: -Z<=x /\ x<=Z)(z0:0<=Z): -Z - 1<=hI s x /\ hI s x<=Z:=by
 unfold hI;split
 .lia
 .rename_i hs;have UB:1<=s:=by lia
  have h1:=Int.emod_add_mul_ediv x s;have h2:=cF x hs;have h3:=cf x (show 0<s by lia);generalize x / s=y at h1;generalize x % s=m at h1 h2 h3;constructor
  .rcases Int.lt_or_le y (-Z - 1) with q | q
   .have:s*y<=s*(-Z - 2):=a6 (by lia) (by lia);have e:s*(-Z - 2)= -(s*Z) - 2*s:=by rw[Int.mul_sub,Int.mul_neg];lia
    have:Z<=s*Z:=by have:=bf UB z0;lia
    lia
   .exact q
  .rcases Int.lt_or_le Z y with q | q
   .have:s*(Z+1) <=s*y:=a6 (by lia) (by lia);have e:s*(Z+1)=s*Z+s:=by rw[Int.mul_add];lia
    have:Z<=s*Z:=by have:=bf UB z0;lia
    lia
   .exact q
def Ef (l0:0<=len)(hh:h∈rO ns len):(h<0 -> ∃m∈ns,m<=h) /\ (0<=h -> ∃m∈ns,h<=m):=by
 unfold rO at hh;by_cases hc:len=0 \/ ns= []
 .rw[aj hc] at hh;exact#[λ_=>#[h,hh,aT _],λ_=>#[h,hh,aT _]]
 .rw[ah hc,ax,kJ,mY] at hh;have dw:ns≠ []:=λe=>hc (.inr e);have hl:0<len:=by have:=λe=>hc (.inl e);lia
  have h1:ns.getLastD 0∈ns:=kK dw;have h2:ns.headD 0∈ns:=by cases ns with | nil=>exact absurd rfl dw | cons x r=>exact aA
  exact#[λz=>#[_,h2,by lia],λz=>#[_,h1,by lia]]
def Io (l0:0<=len)(z0:0<=Z)(hb: ∀x∈ns, -Z - 1<=x /\ x<=Z)(hn:ns.length<=n):(rO ns len).length<=max n (2*Z+2).toNat:=by
 unfold rO;by_cases hc:len=0 \/ ns= []
 .rw[aj hc];lia
 .rw[ah hc,aH];have dw:ns≠ []:=λe=>hc (.inr e);have hl:0<len:=by have:=λe=>hc (.inl e);lia
  have h1:ns.getLastD 0∈ns:=kK dw;have h2:ns.headD 0∈ns:=by cases ns with | nil=>exact absurd rfl dw | cons x r=>exact aA
  have b1:=hb _ h1;have b2:=hb _ h2;unfold nG yz;rw[aa,aa,bI,bI];lia
def zx (s0:0<s):x - s<s*hI s x /\ s*hI s x<=x:=by unfold hI;rw[ah (by lia)];have h1:=Int.emod_add_mul_ediv x s;have h2:=cF x (show s≠0 by lia);have h3:=cf x s0;exact#[by lia,by lia]
def cI (h:look m x≠0):x∈eC m:=by
 rcases kR (m:=m) (x:=x) with⟨h1,h2,_⟩ | ⟨q,h1,h2⟩
 .exact absurd h2 h
 .have h3:=List.find?_some h1;have h4:=List.mem_of_find?_eq_some h1;refine ag.mpr #[q,h4,?_];first | exact of_decide_eq_true h3 | exact beq_iff_eq.mp h3 | simpa using h3
def eG (ga:GD p a)(h:x∈eC a):0<look a x /\ look a x<p:=by let⟨z,hz,rfl⟩:=ag.mp h;rw[iL ga.1 hz];exact ga.2 z hz
def vB (s0:0<=s)(hh:h∈oX s f (eC a)):f+h*s∈eC a /\ bZ s (f+h*s)=f:=by
 let⟨x,hx,e⟩:=ag.mp hh;have h1:=(aQ.mp hx).1;have h2:bZ s x=f:=by simpa using(aQ.mp hx).2
 have h3:=l7 s0 h2;rw[e] at h3;rw[<- h3];exact#[h1,h2]
theorem ki (h:x∈eC a)(e:bZ s x=f):hI s x∈oX s f (eC a):=ag.mpr #[x,aQ.mpr #[h,by simpa using e],rfl]
def rn (s0:0<=s):jB s (bZ s x):=by
 unfold jB bZ;by_cases h:s=0
 .exact .inl h
 .rw[ah h];exact .inr #[cF _ h,cf _ (by lia)]
structure Mn (s f m t:Int)(a:Pt):Prop where
 mn:iT ((eC a).map (bZ s)) f
 lo:m∈oX s f (eC a)
 hi:t∈oX s f (eC a)
 bd: ∀h∈oX s f (eC a),m<=h /\ h<=t
def Mn.ok (h:Mn s f m t a)(s0:0<=s):jB s f:=by let⟨x,_,e⟩:=ag.mp h.mn.1;rw[<- e];exact rn s0
def vW {f t m s:Int}:f+(t - m)*s+s*m=f+t*s:=by rw[Int.sub_mul,bN s m];lia
def BU (p1:1<p)(s0:0<=s)(ga:GD p a)(N:Mn s f m t a)(Dy:tn*look a (f+t*s) % p=1)(e: ∀x,look b x=look a (x+s*m)*tn % p)(SM:foot*look b f % p=1)(f0:0<foot)(f1:foot<p):zK s p b f (t - m) foot:=by
 have lit: ∀x,look b x≠0 ->x+s*m∈eC a:=λx hx=>cI λz=>hx (by rw[e,z,bg];rfl);have col: ∀x,bZ s (x+s*m)=bZ s x:=λx=>by rw[bN];exact xZ x m
 refine#[N.ok s0,by have:=N.bd _ N.lo;lia,λz=> ?_,λx hx=> ?_,λx hx hc=> ?_,?_,by rw[bN];exact SM,f0,f1]
 .let⟨x,_,e1⟩:=ag.mp N.lo;let⟨y,_,e2⟩:=ag.mp N.hi;rw[<- e1, <- e2];unfold hI;rw[aj z,aj z];rfl
 .rw[<- col x];exact N.mn.2 _ (ag.mpr #[_,lit x hx,rfl])
 .have h1:=N.bd _ (ki (lit x hx) ((col x).trans hc));by_cases z:s=0
  .have h2:=N.bd _ N.lo;unfold hI;rw[aj z];lia
  .rw[bN,p9 z] at h1;lia
 .rw[e,vW,bN];exact Dy
def yJ (s0:0<=s)(p0:0<p)(ga:GD p a)(N:Mn s f m t a)(nz:NZ p tn)(e: ∀x,look b x=look a (x+s*m)*tn % p):0<look b f /\ look b f<p:=by have h1:=eG ga (vB s0 N.lo).1;have h2:=nz _ h1.1 h1.2;rw[e,bN s m];have h3:=cF (look a (f+m*s)*tn) (show p≠0 by lia);have h4:=cf (look a (f+m*s)*tn) p0;lia
def RJ {a:Pt}(dw:a≠ [])(du:ms.Perm (oX s (fE ((eC a).map (bZ s))) (eC a)))(ik:ms.Pairwise (· <= ·)): ms≠ [] /\ Mn s (fE ((eC a).map (bZ s))) (ms.headD 0) (ms.getLastD 0) a:=by
 have rX:eC a≠ []:=λe=>dw (List.map_eq_nil_iff.mp e);have mn:=fT (l:=(eC a).map (bZ s)) (λe=>rX (List.map_eq_nil_iff.mp e));let⟨x,hx,e⟩:=ag.mp mn.1;have lx:ms≠ []:=λz=>by have:=du.mem_iff.mpr (ki hx e);rw[z] at this;cases this
 have hl:=AR ik lx;refine#[lx,mn,du.mem_iff.mp ?_,du.mem_iff.mp (kK lx),λh hh=>#[A3 ik h (du.mem_iff.mpr hh),hl.2 h (du.mem_iff.mpr hh)]];cases ms with | nil=>exact absurd rfl lx | cons x r=>exact aA
noncomputable def NC (R S:Addr):jS:=λxs M q=>HU λ(r dr rl rp:Addr) (p s:Int) (a:Pt) (P:Pq)=>Di λ(B:Nat) (D:Int)=>uk (xs= [wi p,wi s,wr r]) (M r=some (.ins R dr [("lamps",wr rl),("parts",wr rp)])) (p=2 \/ p=3 \/ p=5 \/ p=7) (0<=s) (s<=8) (c6 p M rl rp a P) (a≠ []) (Ke (Wt D a) (0<=D) (D<=2000000) (∀t∈P,t.2.2.length<=B) (B<=8000000) (P.length<=1000) (∀M' o ds ol op b Q f m t foot tn,M' o=some (.ins S ds [("lamps",wr ol),("parts",wr op),("first",wi f),("length",wi (t - m)),("foot",wi foot)]) ->c6 p M' ol op b Q ->zK s p b f (t - m) foot ->Mn s f m t a ->0<tn ->tn<p ->tn*look a (f+t*s) % p=1 ->(∀x,look b x=look a (x+s*m)*tn % p) ->(∀w x,look (pf Q w) x=look (pf P w) (x+m)*tn % p) ->Sm M M' ->(∀x∈o::bY ol op Q,M x=none) ->(∀t∈Q,t.2.2.length<=B) ->(∀w∈Q.map (·.1),w∈P.map (·.1)) ->q (wr o) M'))
end WQ
namespace WL
open PySem L2
theorem K2 (h:WQ.rC p M M'):WQ.rC p M (um M' p o):=λb u n e=>by rw[aN n];exact h b u n e
def zF {α β:Type}{l:List α}{fW:α ->W}(gW:β ->W)(R:α ->List W ->Prop)(n:Nat){M1:Mp}(hz:l.length*n<sizeLine)(jv: ∀p M,M1 p=none ->WQ.rC p M1 M ->keep M)(hs: ∀a∈l, ∀p M ys,M1 p=none ->WQ.rC p M1 M ->M p=some (.lst ys) -> ∀ (B:dN ->List W ->(Mp ->Prop) ->Mp ->Prop) (N0:Mp ->Prop),(∀ρ2 gd (bs:List β) (eW:β ->W) M4,WQ.rC p M M4 ->M4 p=some (.lst ys) ->R a (bs.map eW) ->bs.length<=n ->(∀M',WQ.rC p M4 M' ->gd M') ->(∀b∈bs, ∀M',WQ.rC p M4 M' -> ∀N:Option W ->Mp ->Prop,N (some (eW b)) M' ->g2 (gW b) ρ2 M' λρ3 M5=>c2 ρ3 M5 λb M6=>iM b (el ρ3 M6 λz M7=>N (some z) M7) (N none M6)) ->B ρ2 (bs.map gW) gd M4) ->g (fW a) (capρ own fr ρ) M λρ2 M2=>c ρ2 M2 λb M3=>iM b (xm ρ2 M3 λvI gd M4=>B ρ2 vI gd M4) (N0 M3))(hq: ∀p M (yss:List (List W)),M1 p=none ->WQ.rC p M1 M ->M p=some (.lst yss.flatten) ->yss.length=l.length ->(∀ (i:Nat) a zs,l[i]? =some a ->yss[i]? =some zs ->R a zs) ->q (wr p) M): vw (l.map fW) keep own fr g c xm g2 c2 el ρ M1 q:=by
 intro p hp;refine#[λi ys M=>WQ.rC p M1 M /\ M p=some (.lst ys) /\ ∃yss:List (List W),yss.length=i /\ ys=yss.flatten /\ ys.length<=i*n /\ ∀ (j:Nat) a zs,l[j]? =some a ->yss[j]? =some zs ->R a zs,#[K2 (WQ.rC.refl p M1),um_same,[],rfl,rfl,dj _,λj a zs _ h=>by simp at h],?_,?_,?_]
 .rintro i ys M hi ⟨h1,h2,_⟩;exact#[jv p M hp h1,h2]
 .rintro i x ys M hx ⟨h1,h2,yss,h3,h4,h5,h6⟩;let⟨a,ha,rfl⟩:=lW hx;have Gy:=(ai.mp ha).1;have iV:(i+1)*n<=l.length*n:=Nat.mul_le_mul_right _ Gy;have SI:(i+1)*n=i*n+n:=by rw[Nat.add_mul,Nat.one_mul]
  refine hs a (au ha) p M ys hp h1 h2 (λρ2 vI gd M4=>Of vI gd g2 c2 el ρ2 p ys M4 _) (λM3=>_) ?_;intro ρ2 gd bs eW M4 k1 k2 k3 k4 k5 k6;refine#[λj zs M'=>WQ.rC p M4 M' /\ M' p=some (.lst zs) /\ zs=ys++(bs.take j).map eW,#[WQ.rC.refl p M4,k2,by simp],?_,?_,?_]
  .rintro j zs M' hj ⟨z1,z2,rfl⟩;refine#[k5 M' z1,z2,?_];rw[aH,aa,bu];lia
  .rintro j y zs M' hy ⟨z1,z2,rfl⟩;let⟨b,hb,rfl⟩:=lW hy;have e2:bs.take (j+1)=bs.take j++ [b]:=by rw[bC,hb];rfl
   refine k6 b (au hb) M' z1 (λo M5=>match o with
   | some z=>M5 p=some (.lst (ys++(bs.take j).map eW)) /\ (WQ.rC p M4 (um M5 p (.lst (ys++(bs.take j).map eW++ [z]))) /\ um M5 p (.lst (ys++(bs.take j).map eW++ [z])) p=some (.lst (ys++(bs.take j).map eW++ [z])) /\ ys++(bs.take j).map eW++ [z]=ys++(bs.take (j+1)).map eW)
   | none=>WQ.rC p M4 M5 /\ M5 p=some (.lst (ys++(bs.take j).map eW)) /\ ys++(bs.take j).map eW=ys++(bs.take (j+1)).map eW) ?_
   exact#[z2,K2 z1,um_same,by rw[e2,aM];simp]
  .rintro zs M' ⟨z1,z2,rfl⟩;rw[aa,cb] at*;refine#[h1.trans (k1.trans z1),z2,yss++ [bs.map eW],by simp[h3],by rw[h4];simp,?_,λj a' zs' OG Pu=> ?_]
   .rw[aH,aa];lia
   .rw [List.getElem?_append] at Pu;split at Pu
    .exact h6 j a' zs' OG Pu
    .rename_i hj;have iX:j=i:=by let⟨q1,_⟩:=ai.mp Pu;simp at q1;lia
     subst iX;rw[ha] at OG;cases OG;rw[h3,Nat.sub_self] at Pu;cases Pu;exact k3
 .rintro ys M ⟨h1,h2,yss,h3,h4,h5,h6⟩;rw[aa] at h3;exact hq p M yss hp h1 (h4▸h2) h3 h6
end WL
namespace WQ
open PySem L2 WL WP
noncomputable abbrev Part:=Int×Int×Int
noncomputable def mS (t:Part):W:= .tup [wi t.1,wi t.2.1,wi t.2.2]
noncomputable def vU (p n:Int)(P:Pq):List Part:=P.flatMap λt=>t.2.2.map λz=>(t.1,z.1,z.2*n % p)
noncomputable def Rk:jS:=λxs M q=>Ts λ(rl rp:Addr) (p n:Int) (a:Pt) (P:Pq) (B:Nat)=>uk (xs= [wi p,wr rp,wi n]) (0<p) (p<1000) (-1000<n) (n<1000) (c6 p M rl rp a P) (P.length<=1000) (vD (∀t∈P,t.2.2.length<=B) (B<=16000000) (P.length*B<=16000000) (∀t M' (tl:List Part),Sm M M' ->M t=none ->M' t=some (.lst (tl.map mS)) ->tl.Perm (vU p n P) ->q (wr t) M'))
def Ed (g:(m.map (·.1)).Nodup){yl:List Int}(h:yl.Perm (eC m)):(yl.map λsh=>((w,sh,look m sh*n % p):Part)).Perm (m.map λz=>(w,z.1,z.2*n % p)):=by
 have h1:=h.map λsh=>((w,sh,look m sh*n % p):Part)
 have e:(eC m).map (λsh=>((w,sh,look m sh*n % p):Part))=m.map λz=>(w,z.1,z.2*n % p):=by unfold eC;rw[aE];apply bD;intro z hz;simp![Function.comp];rw[iL g hz]
 rw[e] at h1;exact h1
theorem sx {p n:Int}{P:Pq}(hg: ∀w,((pf P w).map (·.1)).Nodup): ∀ {ws:List Int} {yss:List (List W)},yss.length=ws.length ->(∀ (i:Nat) a zs,ws[i]? =some a ->yss[i]? =some zs -> ∃yl:List Int,yl.Perm (eC (pf P a)) /\ zs=yl.map λsh=>mS (a,sh,look (pf P a) sh*n % p)) ->∃tl:List Part,yss.flatten=tl.map mS /\ tl.Perm (ws.flatMap λw=>(pf P w).map λz=>(w,z.1,z.2*n % p))
 | [],[],_,_=>#[[],rfl, .nil]
 | [],_::_,h,_=>by cases h
 | _::_,[],h,_=>by cases h
 | w::ws,zs::yss,h,hR=>by
  let⟨yl,h1,e1⟩:=hR 0 w zs rfl rfl;let⟨tl,e2,h2⟩:=sx hg (ws:=ws) (yss:=yss) (by simpa using h) λi a z ha hz=>hR (i+1) a z (by simpa using ha) (by simpa using hz);refine#[(yl.map λsh=>((w,sh,look (pf P w) sh*n % p):Part))++tl,?_,?_]
  .rw[List.flatten_cons,e2,e1,aM,aE];rfl
  .rw[List.flatMap_cons];exact(Ed (hg w) h1).append h2
def BS (nd:(P.map (·.1)).Nodup)(hg: ∀w,((pf P w).map (·.1)).Nodup){ws:List Int}(du:ws.Perm (P.map (·.1))){yss:List (List W)}(hlen:yss.length=ws.length)(hR: ∀ (i:Nat) a zs,ws[i]? =some a ->yss[i]? =some zs -> ∃yl:List Int,yl.Perm (eC (pf P a)) /\ zs=yl.map λsh=>mS (a,sh,look (pf P a) sh*n % p)): ∃tl:List Part,yss.flatten=tl.map mS /\ tl.Perm (vU p n P):=by
 let⟨tl,e,h⟩:=sx hg hlen hR;refine#[tl,e,h.trans ?_];have h2:=du.flatMap_right λw=>(pf P w).map λz=>((w,z.1,z.2*n % p):Part)
 refine h2.trans (List.Perm.of_eq ?_);unfold vU;rw[List.flatMap_def,List.flatMap_def,aE];congr 1;apply bD;intro t ht;simp![Function.comp];rw[qB nd ht]
theorem nL (G:Int ->Int)(x:Int): ∀d:Pt,dU G d=G x*dH d x+dU G (gx d x)
 | []=>by simp[dU,dH,gx]
 | z ::r=>by
  have ih:=nL G x r;rw[cB,ih];unfold gx;rw[List.filter_cons];by_cases e:z.1=x
  .rw[ah (by simpa using e)];have:dH (z::r) x=z.2+dH r x:=by show(if z.1=x then z.2 else 0)+dH r x=_;rw[aj e]
   rw[this,e,Int.mul_add];exact(Int.add_assoc _ _ _).symm
  .rw[aj (by simpa using e),cB];have:dH (z::r) x=dH r x:=by show(if z.1=x then z.2 else 0)+dH r x=_;rw[ah e,bB]
   rw[this];exact Int.add_left_comm _ _ _
theorem kE (x y:Int): ∀d:Pt,dH (gx d x) y=if y=x then 0 else dH d y
 | []=>by simp[gx,dH]
 | z ::r=>by
  have ih:=kE x y r;have e1:dH (z::r) y=(if z.1=y then z.2 else 0)+dH r y:=rfl;unfold gx at ih ⊢;rw[List.filter_cons];by_cases e:z.1=x
  .rw[ah (by simpa using e),ih,e1];by_cases ey:y=x
   .rw[aj ey,aj ey]
   .rw[ah ey,ah ey,ah (λq=>ey (by rw[<- q,e])),bB]
  .rw[aj (by simpa using e)];show(if z.1=y then z.2 else 0)+_=_;rw[ih,e1];by_cases ey:y=x
   .rw[aj ey,aj ey,ah (λq=>e (by rw[q,ey]))];rfl
   .rw[ah ey,ah ey]
theorem kx {p:Int}(G:Int ->Int): ∀ (n:Nat) (d:Pt),d.length<=n ->(∀x,dH d x % p=0) ->dU G d % p=0
 | n,[],_,_=>c9 _
 | 0,_::_,h,_=>by simp at h
 | n +1,z::r,h,ht=>by
  rw[nL G z.1];have hl:(gx (z::r) z.1).length<=n:=by unfold gx;rw[List.filter_cons,ah (by simp)];have:=List.length_filter_le (λq:Int×Int=>decide (q.1≠z.1)) r;simp![aG] at h;lia
  have ih:=kx G n _ hl λx=>by
   rw[kE];split
   .rfl
   .exact ht x
  rw[bJ,ih,bT,ht,cW];simp
theorem nM (G:Int ->Int)(b:Pt): ∀a:Pt,dU G (a++b)=dU G a+dU G b
 | []=>by show dU G b=0+_;rw[bB]
 | z::r=>by rw[List.cons_append,cB,cB,nM G b r,Int.add_assoc]
theorem rb (G:Int ->Int)(k:Int): ∀a:Pt,dU G (tm k a)=dU G a*k
 | []=>by show(0:Int)=0*k;simp
 | z::r=>by have:tm k (z::r)=(z.1,z.2*k)::tm k r:=rfl;rw[this,cB,cB,rb G k r,Int.add_mul,dz]
def By (G:Int ->Int)(h: ∀x,dH a x % p=dH b x % p):dU G a % p=dU G b % p:=by
 have h1:=kx (p:=p) G _ (a++tm (-1) b) (ao _) λx=>by rw[fA,uC,Int.mul_neg,dm, <- Int.sub_eq_add_neg];exact cA.mp (h x)
 rw[nM,rb,Int.mul_neg,dm, <- Int.sub_eq_add_neg] at h1;exact cA.mpr h1
theorem Bz (x:Int): ∀js:Pt,dU (λsh=>if x - sh=0 then 1 else 0) js=dH js x
 | []=>rfl
 | z::r=>by
  rw[cB,Bz x r];show _=(if z.1=x then z.2 else 0)+dH r x;by_cases e:z.1=x
  .rw[aj e,aj (by lia),Int.one_mul]
  .rw[ah e,ah (by lia),bg]
def Bu (js:Pt):dU (λ_=>0) js=0:=by
 induction js with
 | nil=>rfl
 | cons z r ih=>rw[cB,ih,bg];rfl
noncomputable def nU (s:Int)(sts:List Pt)(P:Pq)(x:Int):Nat ->Int
 | 0=>0
 | n+1=>nU s sts P x n+dU (λsh=>look (sts.getD n []) (x - s*sh)) (pf P n)
theorem AK: ∀ {a b:List Int},a.Pairwise (· <= ·) ->b.Pairwise (· <= ·) ->a.Perm b ->a=b:=λ{a b} ha hb h=>List.Perm.eq_of_pairwise (le:=(· <= ·)) (λx y _ _ h1 h2=>by lia) ha hb h
structure Sr (s p:Int)(st:Pt)(c len D:Int):Prop where
 pat:d7 p st
 ok:jB s c
 l0:0<=len
 s0:s=0 ->len=0
 ge: ∀x∈eC st,c<=bZ s x
 pI: ∀x∈eC st,bZ s x=c ->0<=hI s x /\ hI s x<=len
 bot:c∈eC st
 top:look st (c+len*s)=1
 wt:Wt D st
def GN (ok:jB s c):hI s c=0:=by
 unfold hI;rcases ok with h | h
 .rw[aj h]
 .rw[ah (by lia)];exact Int.ediv_eq_zero_of_lt h.1 h.2
theorem Sr.MS (h:Sr s p st c len D):c+len*s∈eC st:=cI (by rw[h.top];decide)
def Sr.Eb (h:Sr s p st c len D):hI s (c+len*s)=len:=by
 by_cases z:s=0
 .rw[h.s0 z];unfold hI;rw[aj z]
 .exact nA h.ok z len
def Sr.uniq (h:Sr s p st c len D)(h':Sr s p st c' ze D'):c=c' /\ len=ze:=by
 have e:c=c':=by have h1:=h.ge c' h'.bot;have h2:=h'.ge c h.bot;rw[h'.ok.own] at h1;rw[h.ok.own] at h2;lia
 subst e;have h1:=h'.pI _ h.MS (h.ok.on len);have h2:=h.pI _ h'.MS (h.ok.on ze);rw[h.Eb] at h1;rw[h'.Eb] at h2;exact#[rfl,by lia]
structure qe (s p:Int)(sts:List Pt)(D:Int):Prop where
 each: ∀ (i:Nat) st,sts[i]? =some st -> ∃c len,Sr s p st c len D /\ len<3000000
 Ar: ∀ (i j:Nat) st bG c len c' ze,i<j ->sts[i]? =some st ->sts[j]? =some bG ->Sr s p st c len D ->Sr s p bG c' ze D ->c<c'
def E9 (h:x∉m.map (·.1)):kZ m x v=m++ [(x,v)]:=by unfold kZ;rw[ah (λe=>h (nO.mp e))]
noncomputable def Nw (m:Pt):List (Key×W):=m.map λz=>((Sum.inl z.1:Key),wi z.2)
def J5 (m:Pt)(nd:(m.map (·.1)).Nodup):(Nw m).foldl (λm p=>jq m p.1 p.2) []=fP m:=by
 have key: ∀ (b a:Pt),((a++b).map (·.1)).Nodup ->(Nw b).foldl (λm p=>jq m p.1 p.2) (fP a)=fP (a++b):=by
  intro b;induction b with
  | nil=>intro a _;rw[List.append_nil];rfl
  | cons z r ih=>
   intro a h;have hx:z.1∉a.map (·.1):=λhm=>by rw[aM,aK] at h;exact(List.nodup_append.mp h).2.2 _ hm _ aA rfl
   show(Nw r).foldl _ (jq (fP a) (.inl z.1) (wi z.2))=_;rw[pX,E9 hx,ih (a++ [z]) (by rw[bQ];exact h),bQ];rfl
 exact key m [] nd
def Jb (m:Pt):fG m= .tup ((Nw m).map λp=> .tup [fQ p.1,p.2]):=by unfold fG Nw;rw[aE];rfl
theorem qD (h:d7 p m):GD p m:=#[(cx.mpr h.2).imp λh e=>by rw[e] at h;exact absurd h (Int.lt_irrefl _),h.1]
theorem fI {g:Int ->Int}: ∀ {js:Pt},(∀j∈js,g j.1=0) ->dU g js=0
 | [],_=>rfl
 | z::r,h=>by rw[cB,h z aA,bg,fI (js:=r) λj hj=>h j (aw _ hj)];rfl
noncomputable def putL (s:Int)(sts:List Pt)(tl:List Part):Pt:=tl.flatMap λt=>(sts.getD t.1.toNat []).map λz=>(z.1+t.2.1*s,z.2*t.2.2)
def Sr.kS (h:Sr s p st c len D):dF s st=c:=by
 have dw:(eC st).map (bZ s)≠ []:=by intro e;have:=List.mem_map_of_mem (f:=bZ s) h.bot;rw[e] at this;cases this
 exact iT.uniq (fT dw) #[ag.mpr #[c,h.bot,h.ok.own],λx hx=>by let⟨y,hy,rfl⟩:=ag.mp hx;exact h.ge y hy]
def Sr.ja (h:Sr s p st c len D):fi s st=len:=by
 unfold fi;rw[h.kS];have hm:len∈oX s c (eC st):=by have:=ki h.MS (h.ok.on len);rw[h.Eb] at this;exact this
 have dw:oX s c (eC st)≠ []:=λe=>by rw[e] at hm;cases hm
 refine pA.uniq (mX dw) #[hm,λy hy=> ?_];let⟨x,hx,e⟩:=ag.mp hy;have:=h.pI x (aQ.mp hx).1 (by simpa using(aQ.mp hx).2);rw[e] at this;exact this.2
noncomputable def jr (s x:Int)(sts:List Pt)(t:Part):Int:=dH (sts.getD t.1.toNat []) (x - t.2.1*s)*t.2.2
end WQ
namespace L2
open PySem
noncomputable def Ds:Nat ->(List Value ->Prop) ->Prop
 | 0,p=>p []
 | n+1,p=> ∀v,Ds n λus=>p (v::us)
theorem Ds.to: ∀ {n:Nat} {p:List Value ->Prop},Ds n p -> ∀us,us.length=n ->p us
 | 0,_,h,[],_=>h
 | _+1,_,h,v::us,e=>Ds.to (h v) us (Nat.succ.inj e)
section
variable {K:PySem.W.Frag}{h:Heap}{mg:Str ->Option Value}{x:Str}{ps:List Str}{st:Stmt}{f C:Addr}{oc:Value}{od an:Option Addr}{Dv:Array (Option Value)}{kV doc pm eI ct:Value}
theorem dD (X:K.In h)(G:h.Ns mainGlobals mg)(a:PySem.W.nsIn K mainGlobals x=some (some (.ref f))) (l:K.lookup f=some #[oc,od, .func (PySem.W.fnOf x x (gy st) (ff st) (aP st) .none kV doc pm an eI ct),Dv]) (c:PySem.W.codeIn K eI x=true) (k:PySem.W.keepIn K (.ref f)=true) (b: ∀ (kV doc pm:Value) (an:Option Addr) (eI ct:Value),Ds ps.length λus=>bindArgs (PySem.W.fnOf x x (gy st) (ff st) (aP st) .none kV doc pm an eI ct) #[us,[]]=pure (ps.zip us)): lF K mg x ps st f (PySem.W.fnOf x x (gy st) (ff st) (aP st) .none kV doc pm an eI ct):=#[PySem.W.mg_of X G a,vn l c k,(vn (st:=st) l c k).binds λkV doc pm an eI ct us e=>(b kV doc pm an eI ct).to us e]
theorem Hc (X:K.In h)(G:h.Ns mainGlobals mg)(a:PySem.W.nsIn K mainGlobals x=some (some (.ref C)))(g:PySem.W.findIn K (.ref C) "__init__" =some (some (.ref f)))(l:K.lookup f=some #[oc,od, .func (PySem.W.fnOf "__init__" q (gy st) (ff st) (aP st) .none kV doc pm an eI ct),Dv])(c:PySem.W.codeIn K eI q=true)(k:PySem.W.keepIn K (.ref f)=true)(h1:PySem.W.makesIn K C=true)(h2:PySem.W.isFn K (.ref f)=true)(h3:PySem.W.keepIn K (.ref C)=true)(h4:PySem.W.plainGet K C Str.empty=true)(h5:PySem.W.hasDictIn K C=true)(h6:PySem.W.plainOver K C=true)(h7:PySem.W.findIn K (.ref C) "__setattr__" =some (some (.builtin "object.__setattr__")))(b: ∀ (kV doc pm:Value) (an:Option Addr) (eI ct:Value),Ds ps.length λus=>bindArgs (PySem.W.fnOf "__init__" q (gy st) (ff st) (aP st) .none kV doc pm an eI ct) #[us,[]]=pure (ps.zip us)): TU K mg x q ps st C f (PySem.W.fnOf "__init__" q (gy st) (ff st) (aP st) .none kV doc pm an eI ct):=#[PySem.W.mg_of X G a,#[h1,g,h2,h3],#[h4,h5,h6,h7],vn l c k,(vn (st:=st) l c k).binds λkV doc pm an eI ct us e=>(b kV doc pm an eI ct).to us e]
theorem qI (_:TU K mg x q ps st C f fd)(a:Str)(e:PySem.W.findIn K (.ref C) a=some none):dZ K C a:=e
def N7 {l:PySem.W.OpenLaw}(T:lF K mg "law" [p] st f fd)(hfa:mg "law" =some (.ref fa))(hb: ∀ (kV doc pm:Value) (an:Option Addr) (eI ct v:Value),bindArgs (PySem.W.fnOf "law" "law" (gy st) (ff st) (aP st) .none kV doc pm an eI ct) #[[v],[]]=pure [(p,v)])(ok: ∀base,d3 l.prog w K mg base i0 kd f fd [p] (WQ.vZ K)): ∃fd:FuncData,(∀ (s:Shared) (v:Value),BindsTo s fd #[[v],[]] [(p,v)]) /\ ∀base:Heap,K.In base ->base.Ns mainGlobals mg ->d3 l.prog w K mg base i0 kd fa fd [p] (WQ.vZ K):=by have e:=hfa.symm.trans T.at_;cases e;let⟨oc,od,kV,doc,pm,an,eI,ct,Dv,rfl,lk,CJ⟩:=T.fn.ex;exact#[_,λs v=> .of_eq (hb kV doc pm an eI ct v),λbase _ _=>ok base]
end
end L2
namespace WQ
open PySem L2 WL WP
theorem rf {p:Int}(G:Int ->Int): ∀ (n:Nat) (d:Pt),d.length<=n ->(∀x,G x*dH d x % p=0) ->dU G d % p=0
 | n,[],_,_=>c9 _
 | 0,_::_,h,_=>by simp at h
 | n +1,z::r,h,ht=>by
  rw[nL G z.1];have hl:(gx (z::r) z.1).length<=n:=by unfold gx;rw[List.filter_cons,ah (by simp)];have:=List.length_filter_le (λq:Int×Int=>decide (q.1≠z.1)) r;simp![aG] at h;lia
  have ih:=rf G n _ hl λx=>by
   rw[kE];split
   .rw[cW];rfl
   .exact ht x
  rw[bJ,ih,ht];rfl
theorem t7 (v:Int): ∀js:Pt,dU (λ_=>v) js=v*dU (λ_=>1) js
 | []=>by show(0:Int)=v*0;simp
 | z::r=>by rw[cB,cB,t7 v r,Int.mul_add,Int.one_mul]
def kD (h:dH d x≠0):x∈d.map (·.1):=by refine ar λhn=>h (z7 λq hq e=>hn (ag.mpr #[q,hq,e]))
def rh (G:Int ->Int)(d:Pt)(m:Int)(h: ∀y,y≠m ->G y*dH d y % p=0):dU G d % p=G m*dH d m % p:=by
 rw[nL G m,bJ,rf (p:=p) G _ (gx d m) (ao _) λx=>by
  rw[kE];split
  .rw[cW];rfl
  .rename_i e;exact h x e]
 rw[bE,cq]
def Sr.out (h:Sr s p st c len D)(hs:s≠0)(hk:¬(0<=k /\ k<=len)):look st (c+k*s)=0:=by refine ar λhn=>hk ?_;have:=h.pI _ (cI hn) (h.ok.on k);rwa [nA h.ok hs] at this
def Bw {st js:Pt}(hp:p=2 \/ p=3 \/ p=5 \/ p=7)(s0:0<=s)(sr:Sr s p st c len D)(low: ∀x,bZ s x=c ->dU (λsh=>look st (x - s*sh)) js % p≠0 ->0<=hI s x /\ hI s x<len)(x:Int):dU (λsh=>look st (x - s*sh)) js % p=0:=by
 have p0:0<p:=by lia
 by_cases z:s=0
 .have e: ∀x,dU (λsh=>look st (x - s*sh)) js=look st x*dU (λ_=>1) js:=λx=>by rw[<- t7];congr 1;funext sh;rw[z,bg,Int.sub_zero]
  have ht:=sr.top;rw[z,cW,bE] at ht;have h0:dU (λ_=>1) js % p=0:=by refine ar λhn=> ?_;have:=low c sr.ok.own (by rw[e,ht,Int.one_mul];exact hn);have:=sr.s0 z;lia
  rw[e,bT,h0,cW];rfl
 .have Nf:0<s:=by lia
  have hmul: ∀a b:Int,c+a*s - s*b=c+(a - b)*s:=λa b=>by rw[Int.sub_mul,bN s b];lia
  suffices zw: ∀y,dH js y % p=0 by exact kx _ _ _ (ao _) zw
  intro y;refine ar λhy=> ?_;have dw:(js.map (·.1)).filter (λy=>decide (dH js y % p≠0))≠ []:=λe=>by have:y∈(js.map (·.1)).filter (λy=>decide (dH js y % p≠0)):=aQ.mpr #[kD λe0=>hy (by rw[e0];rfl),c5 hy];rw[e] at this;cases this
  let⟨ma,mb⟩:=mX dw;let⟨la,lb⟩:=fT dw;generalize sW _=m at ma mb;generalize fE _=k at la lb;have hm:dH js m % p≠0:=by simpa using(aQ.mp ma).2
  have hk:dH js k % p≠0:=by simpa using(aQ.mp la).2
  have A0: ∀y,dH js y % p≠0 ->k<=y /\ y<=m:=λy h=>by have:y∈(js.map (·.1)).filter (λy=>decide (dH js y % p≠0)):=aQ.mpr #[kD λe0=>h (by rw[e0];rfl),c5 h];exact#[lb y this,mb y this]
  have out: ∀y,¬(k<=y /\ y<=m) ->dH js y % p=0:=λy h=>ar λh2=>h (A0 y h2);have h1:=low (c+(len+m)*s) (sr.ok.on _) (by
   rw[rh _ js m λy ne=> ?_,hmul,show len+m - m=len by lia,sr.top,Int.one_mul]
   .exact hm
   .rw[hmul];rcases Int.lt_or_le m y with h | h
    .rw[bT,out y (by lia),cW];rfl
    .rw[sr.out z (by lia),bg];rfl)
  rw[nA sr.ok z] at h1;have hc:=eG (qD sr.pat) sr.bot;have h2:=low (c+k*s) (sr.ok.on _) (by
   rw[rh _ js k λy ne=> ?_,hmul,Int.sub_self,bg,bE]
   .exact sT hp hk _ hc.1 hc.2
   .rw[hmul];rcases Int.lt_or_le y k with h | h
    .rw[bT,out y (by lia),cW];rfl
    .rw[sr.out z (by lia),bg];rfl)
  rw[nA sr.ok z] at h2;have:=(A0 k hk).2;lia
noncomputable def f7 (s:Int)(sts:List Pt)(J:Nat ->Pt)(x:Int):Nat ->Int
 | 0=>0
 | n+1=>f7 s sts J x n+dU (λsh=>look (sts.getD n []) (x - s*sh)) (J n)
theorem Im (s:Int)(sts:List Pt)(P:Pq)(x:Int): ∀n,nU s sts P x n=f7 s sts (λi=>pf P i) x n
 | 0=>rfl
 | n+1=>by rw[nU,f7,Im s sts P x n]
theorem Ak (s:Int)(sts:List Pt)(J J':Nat ->Pt)(x:Int): ∀n,f7 s sts (λi=>J i++J' i) x n=f7 s sts J x n+f7 s sts J' x n
 | 0=>rfl
 | n+1=>by rw[f7,f7,f7,Ak s sts J J' x n,nM];lia
theorem EB (s:Int)(sts:List Pt)(J:Nat ->Pt)(k x:Int): ∀n,f7 s sts (λi=>tm k (J i)) x n=f7 s sts J x n*k
 | 0=>by show(0:Int)=0*k;simp
 | n+1=>by rw[f7,f7,EB s sts J k x n,rb,Int.add_mul]
theorem Ai (s:Int)(sts:List Pt)(x:Int): ∀n,f7 s sts (λ_=> []) x n=0
 | 0=>rfl
 | n+1=>by rw[f7,Ai s sts x n];rfl
theorem uE {s p:Int}{sts:List Pt}{J:Nat ->Pt}{x:Int}{i:Nat}: ∀n,i<n ->(∀j,j<n ->j≠i ->dU (λsh=>look (sts.getD j []) (x - s*sh)) (J j) % p=0) ->f7 s sts J x n % p=dU (λsh=>look (sts.getD i []) (x - s*sh)) (J i) % p
 | 0,h,_=>absurd h (Nat.not_lt_zero _)
 | n + 1,h,hj=>by
  rw[f7];by_cases e:i=n
  .subst e;have: ∀m,m<=i ->f7 s sts J x m % p=0:=λm=>by
    induction m with
    | zero=>intro _;exact c9 _
    | succ m ih=>intro hm;rw[f7,bJ,ih (by lia),hj m (by lia) (by lia)];rfl
   rw[bJ,this i (ao _),bB,cq]
  .rw[bJ,uE n (by lia) (λj h1 h2=>hj j (by lia) h2),hj n (by lia) (λq=>e q.symm),bE,cq]
noncomputable def TJ (s p:Int)(sts:List Pt)(D:Int)(g:Int ->Int):Prop:= ∀ (i:Nat) st c len,sts[i]? =some st ->Sr s p st c len D -> ∀x,bZ s x=c ->g x % p≠0 ->0<=hI s x /\ hI s x<len
def Aj (hp:p=2 \/ p=3 \/ p=5 \/ p=7)(s0:0<=s)(gF:qe s p sts D)(e: ∀x,g x % p=f7 s sts J x sts.length % p)(low:TJ s p sts D g)(x:Int):f7 s sts J x sts.length % p=0:=by
 have get: ∀i st,sts[i]? =some st ->sts.getD i []=st:=λi st h=>by rw[aC,h];rfl
 have key : ∀ (i:Nat),i<sts.length -> ∀x,dU (λsh=>look (sts.getD i []) (x - s*sh)) (J i) % p=0:=λi=>by
  induction i using Nat.strongRecOn with
  | ind i ih=>
   intro hi x;let⟨c,len,sr,_⟩:=gF.each i _ (ae hi);rw[get i _ (ae hi)];refine Bw hp s0 sr (λx hx dw=> ?_) x;refine low i _ c len (ae hi) sr x hx ?_;rw[e,uE (i:=i) _ hi λj hj SF=> ?_,get i _ (ae hi)]
   .exact dw
   .rcases Nat.lt_or_ge j i with h | h
    .exact ih j h hj x
    .let⟨c2,RM,ZN,_⟩:=gF.each j _ (ae hj);have fM:=gF.Ar i j _ _ c len c2 RM (by lia) (ae hi) (ae hj) sr ZN;rw[get j _ (ae hj)];rw[fI λk _=> ?_]
     .rfl
     .refine ar λhn=> ?_;have:=ZN.ge _ (cI hn);rw[gP,hx] at this;lia
 have: ∀m,m<=sts.length ->f7 s sts J x m % p=0:=λm=>by
  induction m with
  | zero=>intro _;exact c9 _
  | succ m ih=>intro hm;rw[f7,bJ,ih (by lia),key m (by lia)];rfl
 exact this _ (ao _)
def FT (p0:0<p)(ha:d7 p a)(hb:d7 p b)(y n x:Int):look (iU p (a++wW y n b)) x=(look a x+look b (x - y)*n) % p:=by rw[kh p0,fA,NV,uC,yD,mq ha.2,mq hb.2]
noncomputable def dq (s p:Int)(sts:List Pt)(f:Int ->Int):Prop:= ∃J:Nat ->Pt, ∀x,f x % p=f7 s sts J x sts.length % p
section
variable {s p:Int}{sts:List Pt}{f g:Int ->Int}
theorem dq.ext (h:dq s p sts f)(e: ∀x,g x % p=f x % p):dq s p sts g:=h.elim λJ hJ=>#[J,λx=>(e x).trans (hJ x)]
theorem dq.zero:dq s p sts λ_=>0:=#[λ_=> [],λx=>by rw[Ai]]
def dq.add (h:dq s p sts f)(h':dq s p sts g):dq s p sts λx=>f x+g x:=by let⟨J,hJ⟩:=h;let⟨J',UX⟩:=h';exact#[λi=>J i++J' i,λx=>by rw[Ak,bJ,hJ,UX, <- bJ]]
def dq.mul (h:dq s p sts f)(k:Int):dq s p sts λx=>f x*k:=by let⟨J,hJ⟩:=h;exact#[λi=>tm k (J i),λx=>by rw[EB,bT,hJ, <- bT]]
theorem vv (G:Int ->Int)(k:Int): ∀js:Pt,dU (λsh=>G (sh+k)) js=dU G (mv k js)
 | []=>rfl
 | z::r=>by have:mv k (z::r)=(z.1+k,z.2)::mv k r:=rfl;rw[this,cB,cB,vv G k r]
theorem EC (s:Int)(sts:List Pt)(J:Nat ->Pt)(k x:Int): ∀n,f7 s sts (λi=>mv k (J i)) x n=f7 s sts J (x - s*k) n
 | 0=>rfl
 | n+1=>by rw[f7,f7,EC s sts J k x n, <- vv];congr 2;funext sh;rw[Int.mul_add];congr 1;lia
def dq.shift (h:dq s p sts f)(k:Int):dq s p sts λx=>f (x - s*k):=by let⟨J,hJ⟩:=h;exact#[λi=>mv k (J i),λx=>by rw[EC,hJ]]
theorem dq.dU (h:dq s p sts f): ∀js:Pt,dq s p sts λx=>dU (λsh=>f (x - s*sh)) js
 | []=>dq.zero
 | z::r=>((h.shift z.1).mul z.2).add (dq.dU h r)
theorem qq (s:Int)(sts:List Pt)(k:Nat)(v:Pt)(x:Int): ∀n,f7 s sts (λi=>if i=k then v else []) x n=if k<n then dU (λsh=>look (sts.getD k []) (x - s*sh)) v else 0
 | 0=>rfl
 | n +1=>by
  rw[f7,qq s sts k v x n];by_cases e:n=k
  .subst e;rw[aj rfl,ah (cz _),aj (Nat.lt_succ_self _),bB]
  .rw[ah e];by_cases h:k<n
   .rw[aj h,aj (by lia)];show _+0=_;rw[bE]
   .rw[ah h,ah (by lia)];rfl
def dq.of (h:st∈sts):dq s p sts (look st):=by let⟨i,hi⟩:=cg.mp h;have hl:=(ai.mp hi).1;refine#[λj=>if j=i then [(0,1)] else [],λx=> ?_];rw[qq,aj hl,aC,hi];show _=(look st (x - s*0)*1+0) % p;rw[cW,Int.sub_zero,dm,bE]
theorem dq.f7 {sts':List Pt}(h: ∀st∈sts,dq s p sts' (look st))(J:Nat ->Pt): ∀n,n<=sts.length ->dq s p sts' λx=>f7 s sts J x n
 | 0,_=>dq.zero
 | n+1,hn=>by
  have hm:sts.getD n []∈sts:=by rw[aC,ae (by lia)];exact bK _
  exact(dq.f7 h J n (by lia)).add ((h _ hm).dU (J n))
def dq.trans (hf:dq s p sts f)(h: ∀st∈sts,dq s p sts' (look st)):dq s p sts' f:=by let⟨J,hJ⟩:=hf;exact(dq.f7 h J _ (ao _)).ext hJ
end
theorem mB (s:Int)(A B:List Pt)(J:Nat ->Pt)(x:Int): ∀n,f7 s (A++B) J x (A.length+n)=f7 s A J x A.length+f7 s B (λi=>J (A.length+i)) x n
 | 0 =>by
  have: ∀n,n<=A.length ->f7 s (A++B) J x n=f7 s A J x n:=λn=>by
   induction n with
   | zero=>intro _;rfl
   | succ n ih=>
    intro h;rw[f7,f7,ih (by lia)];have e:(A++B).getD n []=A.getD n []:=by rw[aC,aC,a7 (by lia)]
    rw[e]
  rw[Nat.add_zero,this _ (ao _)];show _=_+0;rw[bE]
 | n +1=>by
  have e:(A++B).getD (A.length+n) []=B.getD n []:=by rw[aC,aC,aU (by lia),Nat.add_sub_cancel_left]
  rw[<- Nat.add_assoc,f7,mB s A B J x n,f7,e,Int.add_assoc]
noncomputable def zJ (p:Nat):Nat ->List (List Int)
 | 0=> [[]]
 | n+1=>(List.range p).flatMap λa:Nat=>(zJ p n).map λv=>(a:Int)::v
theorem kz {p:Nat}: ∀ {n:Nat} {v:List Int},v∈zJ p n↔v.length=n /\ ∀a∈v,0<=a /\ a<p
 | 0,v=>by
  show v∈ [[]]↔_;rw[af];constructor
  .rintro rfl;exact#[rfl,λa h=>by cases h]
  .rintro⟨h,_⟩;exact cZ.mp h
 | n + 1,v=>by
  show v∈(List.range p).flatMap _↔_;rw[List.mem_flatMap];constructor
  .rintro⟨a,ha,hv⟩;let⟨u,hu,rfl⟩:=ag.mp hv;let⟨h1,h2⟩:=kz.mp hu;have:=cc.mp ha;refine#[by rw[aG,h1],λb hb=> ?_];rcases av.mp hb with rfl | hb
   .exact#[by lia,by lia]
   .exact h2 b hb
  .rintro⟨h1,h2⟩;cases v with
   | nil=>cases h1
   | cons a u=>have ha:=h2 a aA;refine#[a.toNat,cc.mpr (by lia),ag.mpr #[u,kz.mpr #[Nat.succ.inj h1,λb hb=>h2 b (aw _ hb)],?_]];rw[show((a.toNat:Nat):Int)=a by lia]
theorem rA (p:Nat): ∀n,(zJ p n).length=p ^ n
 | 0=>rfl
 | n +1=>by
  show((List.range p).flatMap _).length=_;rw[List.length_flatMap];have:((List.range p).map λa:Nat=>((zJ p n).map λv=>(a:Int)::v).length)=List.replicate p (p ^ n):=by refine List.eq_replicate_iff.mpr #[by simp,λb hb=> ?_];let⟨a,_,rfl⟩:=ag.mp hb;rw[aa,rA p n]
  rw[this,List.sum_replicate_nat,Nat.pow_succ,Nat.mul_comm]
theorem BI (p:Nat): ∀n,(zJ p n).Nodup
 | 0=>by show([[]]:List (List Int)).Nodup;simp
 | n +1=>by
  show((List.range p).flatMap _).Nodup;rw[List.Nodup,List.pairwise_flatMap];refine#[λa _=> ?_,?_]
  .rw[cx];exact(BI p n).imp λh e=>h (List.cons.inj e).2
  .refine List.Pairwise.imp_of_mem (R:=(· ≠ ·)) (λ{a b} _ _ h=> ?_) List.nodup_range;intro v h1 v' h2 ev;let⟨u1,_,e1⟩:=ag.mp h1;let⟨u2,_,e2⟩:=ag.mp h2;rw[<- ev, <- e1] at e2;exact h (by have:=(List.cons.inj e2).1;lia)
def FL {α:Type} [DecidableEq α]{ks:List α}: ∀ {l:List α},ks.Nodup ->(∀k∈ks,k∈l) ->ks.length<=l.length:=by
 induction ks with
 | nil=>intro l _ _;simp
 | cons k r ih=>
  intro l hn hs;rw[bF] at hn;have hk:k∈l:=hs k (by simp);have:=ih (l:=l.erase k) hn.2 λz hz=>by have Wi:z≠k:=λe=>hn.1 (e▸hz);exact(List.mem_erase_of_ne Wi).mpr (hs z (by simp[hz]))
  rw[List.length_erase_of_mem hk] at this;have:0<l.length:=List.length_pos_of_mem hk;rw[aG];lia
noncomputable def lc:List Int ->List (Int ->Int) ->Int ->Int
 | v::vs,g::gs,x=>v*g x+lc vs gs x
 | _,_,_=>0
def N6 (x:Int): ∀ (gs:List (Int ->Int)) (v u:List Int),v.length=gs.length ->u.length=gs.length ->lc (List.zipWith (· - ·) v u) gs x=lc v gs x - lc u gs x:=by
 intro gs;induction gs with
 | nil=>intro v u h1 h2;cases cZ.mp h1;cases cZ.mp h2;rfl
 | cons g gs ih=>
  intro v u h1 h2;cases v with
  | nil=>cases h1
  | cons a v=>
   cases u with
   | nil=>cases h2
   | cons b u=>show(a - b)*g x+lc (List.zipWith (· - ·) v u) gs x=a*g x+lc v gs x - (b*g x+lc u gs x);rw[ih v u (Nat.succ.inj h1) (Nat.succ.inj h2),Int.sub_mul];lia
def DG: ∀ {v u:List Int},v.length=u.length ->(∀a∈List.zipWith (· - ·) v u,a % p=0) ->(∀a∈v,0<=a /\ a<p) ->(∀a∈u,0<=a /\ a<p) ->v=u:=by
 intro v;induction v with
 | nil=>intro u h _ _ _;exact(cZ.mp h.symm).symm
 | cons a v ih=>
  intro u h hz hv hu;cases u with
  | nil=>cases h
  | cons b u=>
   have h1:=hz (a - b) aA;have h2:=ih (Nat.succ.inj h) (λc hc=>hz c (aw _ hc)) (λc hc=>hv c (aw _ hc)) (λc hc=>hu c (aw _ hc));have ha:=hv a aA;have hb:=hu b aA;have e:a=b:=by have:=cA.mpr h1;rwa [cX ha.1 ha.2,cX hb.1 hb.2] at this
   rw[e,h2]
def OV {p:Nat}(p2:2<=p){X:List Int}(h: ∀v:List Int,v.length=gs.length ->(∀x∈X,lc v gs x % (p:Int)=0) -> ∀a∈v,a % (p:Int)=0):gs.length<=X.length:=by
 have p0:(0:Int) <p:=by lia
 have key:((zJ p gs.length).map λv=>X.map λx=>lc v gs x % (p:Int)).Nodup:=by rw[List.Nodup,cx];refine List.Pairwise.imp_of_mem (λ{v u} hv hu dw e=>dw ?_) (BI p gs.length);let⟨v1,v2⟩:=kz.mp hv;let⟨u1,u2⟩:=kz.mp hu;refine DG (p:=p) (v1.trans u1.symm) (h _ (by rw[List.length_zipWith,v1,u1,Nat.min_self]) λx hx=> ?_) v2 u2;rw[N6 x gs v u v1 u1];exact cA.mp (List.map_inj_left.mp e x hx)
 have:=FL (l:=zJ p X.length) key λk hk=>by let⟨v,_,rfl⟩:=ag.mp hk;refine kz.mpr #[by rw[aa],λa ha=> ?_];let⟨x,_,rfl⟩:=ag.mp ha;exact#[cF _ (by lia),cf _ p0]
 rw[aa,rA,rA] at this;exact(Nat.pow_le_pow_iff_right (by lia)).mp this
noncomputable def L7 (s:Int)(b:Pt):Int ->Nat ->List (Int ->Int)
 | _,0=> []
 | lo,n+1=>(λx=>look b (x - s*lo))::L7 s b (lo+1) n
noncomputable def B0:Int ->List Int ->Pt
 | _,[]=> []
 | lo,a::v=>(lo,a)::B0 (lo+1) v
theorem qb (s:Int)(b:Pt): ∀ (n:Nat) (lo:Int),(L7 s b lo n).length=n
 | 0,_=>rfl
 | n+1,lo=>by show(L7 s b (lo+1) n).length+1=_;rw[qb s b n]
theorem FY (s:Int)(b:Pt)(x:Int): ∀ (v:List Int) (n:Nat) (lo:Int),v.length=n ->lc v (L7 s b lo n) x=dU (λsh=>look b (x - s*sh)) (B0 lo v)
 | [],_,lo,rfl=>rfl
 | a::v,_,lo,rfl=>by show a*look b (x - s*lo)+lc v (L7 s b (lo+1) v.length) x=_;rw[FY s b x v _ (lo+1) rfl];have e:B0 lo (a::v)=(lo,a)::B0 (lo+1) v:=rfl;rw[e,cB,bN]
theorem uT: ∀ (v:List Int) (lo:Int), ∀z∈B0 lo v,lo<=z.1 /\ z.1<lo+v.length
 | [],_,z,h=>by cases h
 | a::v,lo,z,h=>by
  rw[aG];rcases av.mp h with rfl | h
  .exact#[aT _,by show lo<lo+_;push_cast;lia]
  .have:=uT v (lo+1) z h;push_cast;lia
theorem wF {p:Int}: ∀ (v:List Int) (lo:Int),(∀y,dH (B0 lo v) y % p=0) -> ∀a∈v,a % p=0
 | [],_,_,a,h=>by cases h
 | b ::v,lo,ht,a,h=>by
  have e: ∀y,dH (B0 lo (b::v)) y=(if lo=y then b else 0)+dH (B0 (lo+1) v) y:=λy=>rfl;have h0:dH (B0 (lo+1) v) lo=0:=z7 λq hq e=>by have:=uT v (lo+1) q hq;lia
  rcases av.mp h with rfl | h
  .have:=ht lo;rwa [e,aj rfl,h0,bE] at this
  .refine wF v (lo+1) (λy=> ?_) a h;by_cases z:lo=y
   .rw[<- z,h0];rfl
   .have:=ht y;rwa [e,ah z,bB] at this
theorem F1 (x:Int): ∀ (v1:List Int) (g1:List (Int ->Int)) (v2:List Int) (g2:List (Int ->Int)),v1.length=g1.length ->lc (v1++v2) (g1++g2) x=lc v1 g1 x+lc v2 g2 x
 | [],[],v2,g2,_=>by show lc v2 g2 x=0+_;rw[bB]
 | a::v1,g::g1,v2,g2,h=>by show a*g x+lc (v1++v2) (g1++g2) x=a*g x+lc v1 g1 x+_;rw[F1 x v1 g1 v2 g2 (Nat.succ.inj h),Int.add_assoc]
noncomputable def cps (s:Int)(G:List (Pt×Int×Nat)):List (Int ->Int):=G.flatMap λg=>L7 s g.1 g.2.1 g.2.2
theorem Bs (s:Int): ∀G:List (Pt×Int×Nat),(cps s G).length=(G.map λg=>g.2.2).sum
 | []=>rfl
 | g::G=>by show(L7 s g.1 g.2.1 g.2.2++cps s G).length=_;rw[aH,qb,Bs s G];rfl
theorem FZ {p:Int}(s:Int): ∀ (G:List (Pt×Int×Nat)) (v:List Int),v.length=(cps s G).length -> ∃J:Nat ->Pt,(∀x,lc v (cps s G) x=f7 s (G.map (·.1)) J x G.length) /\ (∀i g,G[i]? =some g -> ∀z∈J i,g.2.1<=z.1 /\ z.1<g.2.1+g.2.2) /\ ((∀i,i<G.length -> ∀y,dH (J i) y % p=0) -> ∀a∈v,a % p=0)
 | [],v,h=>by cases cZ.mp h;exact#[λ_=> [],λx=>rfl,λi g h=>by simp at h,λ_ a h=>by cases h]
 | g ::G,v,h=>by
  have e:cps s (g::G)=L7 s g.1 g.2.1 g.2.2++cps s G:=rfl;rw[e,aH,qb] at h;let⟨J,h1,h2,h3⟩:=FZ (p:=p) s G (v.drop g.2.2) (by rw[List.length_drop,h];lia);have l1:(v.take g.2.2).length=g.2.2:=by rw[bu,h];lia
  refine#[λi=>match i with | 0=>B0 g.2.1 (v.take g.2.2) | i+1=>J i,λx=> ?_,λi u hu z hz=> ?_,λhz a ha=> ?_]
  .have hc:=mB s [g.1] (G.map (·.1)) (λi=>match i with | 0=>B0 g.2.1 (v.take g.2.2) | i+1=>J i) x G.length;have e3:(λi=>(λi:Nat=>match i with | 0=>B0 g.2.1 (v.take g.2.2) | i+1=>J i) ([g.1].length+i))=J:=by funext i;show(match 1+i with | 0=>_ | i+1=>J i)=_;rw[Nat.add_comm]
   rw[e3] at hc;rw[e, <- bo g.2.2 v,F1 x _ _ _ _ (by rw[l1,qb]),bo,FY s g.1 x _ _ _ l1,h1 x,aG,Nat.add_comm];show _=f7 s ([g.1]++G.map (·.1)) _ x ([g.1].length+G.length);rw[hc];show _=0+dU (λsh=>look ([g.1].getD 0 []) (x - s*sh)) (B0 g.2.1 (v.take g.2.2))+_;rw[bB];rfl
  .cases i with
   | zero=>cases (show g=u from by simpa using hu);have:=uT _ _ z hz;rw[l1] at this;exact this
   | succ i=>exact h2 i u (by simpa using hu) z hz
  .rw[<- bo g.2.2 v] at ha;rcases ax.mp ha with ha | ha
   .exact wF _ _ (hz 0 (Nat.succ_pos _)) a ha
   .exact h3 (λi hi=>hz (i+1) (by rw[aG];lia)) a ha
noncomputable def Indep (s p:Int)(bs:List Pt):Prop:= ∀J:Nat ->Pt,(∀x,f7 s bs J x bs.length % p=0) -> ∀i,i<bs.length -> ∀y,dH (J i) y % p=0
noncomputable def Trim (s p:Int)(sts:List Pt)(D:Int):Prop:= ∀ (i j:Nat) st bG c len,i<j ->sts[i]? =some st ->sts[j]? =some bG ->Sr s p bG c len D -> ∀x,bZ s x=c ->look st x≠0 ->0<=hI s x /\ hI s x<len
section
variable {s p D:Int}{sts bs:List Pt}
def kQ (h:sts[i]? =some st):sts.getD i []=st:=by rw[aC,h];rfl
theorem Al {s:Int}{bs:List Pt}{J:Nat ->Pt}{x:Int}: ∀n,(∀i,i<n -> ∀z∈J i,look (bs.getD i []) (x - s*z.1)=0) ->f7 s bs J x n=0
 | 0,_=>rfl
 | n+1,h=>by rw[f7,Al n λi hi=>h i (by lia),fI λz hz=>h n (by lia) z hz];rfl
def count_le {w h an:Nat}(hp:p=2 \/ p=3 \/ p=5 \/ p=7)(s0:0<s)(gF:qe s p sts D)(trim:an=0 \/ Trim s p sts D)(GI:bs.length=sts.length)(ind:Indep s p bs)(iV: ∀b∈bs,dq s p sts (look b))(hw: ∀b∈bs, ∀x,look b x≠0 -> -(w:Int) <=hI s x /\ hI s x<=w)(ht:t∈sts)(hh:2*w<=h)(XG: ∀st∈sts,fi s st<=Lm)(hLh:Lm<=h)(a0:0<=alo)(a1:alo+an+Lm<=h)(out: ∀js:Pt,(∀z∈js,alo<=z.1 /\ z.1<alo+an) ->(∀x,¬(0<=hI s x /\ hI s x<h) ->dU (λsh=>look t (x - s*sh)) js % p=0) -> ∀y,dH js y % p=0): sts.length*(h - 2*w)+an+(sts.map λst=>(fi s st).toNat).sum<=sts.length*h:=by
 have p0:0<p:=by lia
 have sn:s≠0:=by lia
 have lL: ∀ (i:Nat) st,sts[i]? =some st ->Sr s p st (dF s st) (fi s st) D:=λi st hi=>by let⟨c,len,sr,_⟩:=gF.each i st hi;rw[sr.kS,sr.ja];exact sr
 let G:List (Pt×Int×Nat):=bs.map (λb=>(b,(w:Int),h - 2*w))++((t,alo,an)::sts.map λst=>([(dF s st,1)],0,(fi s st).toNat))
 let X:List Int:=sts.flatMap λst=>(List.range h).map λη:Nat=>dF s st+(η:Int)*s
 have hX:X.length=sts.length*h:=by show(sts.flatMap _).length=_;rw[List.length_flatMap];have:(sts.map λst=>((List.range h).map λη:Nat=>dF s st+(η:Int)*s).length)=List.replicate sts.length h:=List.eq_replicate_iff.mpr #[by simp,λb hb=>by let⟨a,_,rfl⟩:=ag.mp hb;simp];rw[this,List.sum_replicate_nat]
 have hG:(cps s G).length=sts.length*(h - 2*w)+an+(sts.map λst=>(fi s st).toNat).sum:=by rw[Bs];show((bs.map (λb=>(b,(w:Int),h - 2*w))++((t,alo,an)::sts.map λst=>([(dF s st,1)],0,(fi s st).toNat))).map λg:Pt×Int×Nat=>g.2.2).sum=_;rw[aM,List.sum_append,aK,List.sum_cons,aE,aE];have:(bs.map ((λg:Pt×Int×Nat=>g.2.2) ∘ λb=>(b,(w:Int),h - 2*w)))=List.replicate bs.length (h - 2*w):=List.eq_replicate_iff.mpr #[by simp,λb hb=>by let⟨a,_,rfl⟩:=ag.mp hb;rfl];rw[this,List.sum_replicate_nat,GI,Nat.add_assoc];rfl
 rw[<- hG, <- hX];let⟨P,hP⟩: ∃P:Nat,(P:Int)=p:=#[p.toNat,by lia]
 refine OV (p:=P) (by lia) λv hv hz=> ?_;rw[hP] at hz ⊢;let⟨J,e1,e2,e3⟩:=FZ (p:=p) s G v hv;have GB:G.map (·.1)=bs++(t::sts.map λst=> [(dF s st,1)]):=by show(bs.map (λb=>(b,(w:Int),h - 2*w))++((t,alo,an)::sts.map λst=>([(dF s st,1)],0,(fi s st).toNat))).map (·.1)=_;rw[aM,aK,aE,aE];congr 1;exact List.map_id _
 have GL:G.length=bs.length+(1+sts.length):=by show(bs.map (λb=>(b,(w:Int),h - 2*w))++((t,alo,an)::sts.map λst=>([(dF s st,1)],0,(fi s st).toNat))).length=_;rw[aH,aa,aG,aa];lia
 let C:Int ->Int:=λx=>f7 s (sts.map λst=> [(dF s st,1)]) (λi=>J (bs.length+(1+i))) x sts.length
 let B:Int ->Int:=λx=>dU (λsh=>look t (x - s*sh)) (J bs.length)
 let U:Int ->Int:=λx=>f7 s bs J x bs.length
 have eJ: ∀x,lc v (cps s G) x=U x+(B x+C x):=λx=>by rw[e1,GB,GL,mB];have:=mB s [t] (sts.map λst=> [(dF s st,1)]) (λi=>J (bs.length+i)) x sts.length;show U x+f7 s ([t]++sts.map λst=> [(dF s st,1)]) (λi=>J (bs.length+i)) x ([t].length+sts.length)=_;rw[this];show U x+(0+dU (λsh=>look t (x - s*sh)) (J (bs.length+0))+C x)=_;rw[bB,Nat.add_zero]
 have kU: ∀i,i<bs.length -> ∀z∈J i,(w:Int) <=z.1 /\ z.1< (w:Int)+((h - 2*w:Nat):Int):=λi hi z jT=>by have:=e2 i (bs[i],(w:Int),h - 2*w) (by show(bs.map _++_)[i]? =_;rw[a7 (by simpa using hi),ay,ae hi];rfl) z jT;exact this
 have kB: ∀z∈J bs.length,alo<=z.1 /\ z.1<alo+an:=λz jT=>by have:=e2 bs.length (t,alo,an) (by show(bs.map _++_)[bs.length]? =_;rw[aU (by simp)];simp) z jT;exact this
 have kC: ∀i st,sts[i]? =some st -> ∀z∈J (bs.length+(1+i)),0<=z.1 /\ z.1<fi s st:=λi st hi z jT=>by have:=e2 (bs.length+(1+i)) ([(dF s st,1)],0,(fi s st).toNat) (by show(bs.map _++_)[_]? =_;rw[aU (by simp),aa,Nat.add_sub_cancel_left,Nat.add_comm,List.getElem?_cons_succ,ay,hi];rfl) z jT;have h2:=(lL i st hi).l0;refine#[this.1,?_];have h3:=this.2;simp![bB] at h3;lia
 have zU: ∀x,¬(0<=hI s x /\ hI s x<h) ->U x=0:=λx hx=>Al _ λi hi z jT=>ar λdw=>hx (by
  have hb:bs.getD i []∈bs:=by rw[kQ (ae hi)];exact bK _
  have h1:=hw _ hb _ dw;rw[kj sn] at h1;have h2:=kU i hi z jT;lia)
 have single: ∀ (c x:Int),look [(c,1)] x≠0 ->x=c:=λc x dw=>ar λhn=>dw (eU λq hq e=>hn (by rw[af.mp hq] at e;exact e.symm));have atC: ∀x i st,sts[i]? =some st ->bZ s x=dF s st ->C x % p=dU (λsh=>look [(dF s st,1)] (x - s*sh)) (J (bs.length+(1+i))) % p:=λx i st hi hx=>by
  have hl:=(ai.mp hi).1;have h1:=uE (s:=s) (p:=p) (sts:=sts.map λst=> [(dF s st,1)]) (J:=λi=>J (bs.length+(1+i))) (x:=x) (i:=i) sts.length hl λj hj SF=>by
   have iX:sts[j]? =some sts[j]:=ae hj;rw[kQ (st:= [(dF s sts[j],1)]) (by rw[ay,iX];rfl)];rw[fI λz jT=>ar λdw=> ?_]
   .rfl
   .have h2:=single _ _ dw;have h3:bZ s (x - s*z.1)=dF s sts[j]:=by rw[h2];exact(lL j _ iX).ok.own
    rw[gP,hx] at h3;rcases Nat.lt_or_ge i j with q | q
    .have:=gF.Ar i j st _ _ _ _ _ q hi iX (lL i st hi) (lL j _ iX);lia
    .have:=gF.Ar j i _ st _ _ _ _ (by lia) iX hi (lL j _ iX) (lL i st hi);lia
  have e4:(sts.map λst=> [(dF s st,(1:Int))]).getD i []= [(dF s st,1)]:=kQ (by rw[ay,hi];rfl);rw[e4] at h1;exact h1
 have dlt: ∀ (c x:Int) (js:Pt),dU (λsh=>look [(c,1)] (x - s*sh)) js=dU (λsh=>if x - s*sh=c then 1 else 0) js:=λc x js=>by
  congr 1;funext sh;by_cases e:x - s*sh=c
  .rw[aj e,e];exact aj rfl
  .rw[ah e];exact eU λq hq e'=>e (by rw[af.mp hq] at e';exact e'.symm)
 have Tq : ∀i st,sts[i]? =some st -> ∀x,bZ s x=dF s st ->(U x+B x+C x) % p=0:=λi st hi x hx=>by
  by_cases hr:0<=hI s x /\ hI s x<h
  .have:x∈X:=List.mem_flatMap.mpr #[st,au hi,ag.mpr #[(hI s x).toNat,cc.mpr (by lia),by rw[show(((hI s x).toNat:Nat):Int)=hI s x by lia];exact(l7 (by lia) hx).symm]];have:=hz x this;rwa [eJ, <- Int.add_assoc] at this
  .have hb:B x=0:=fI λz jT=>ar λdw=>hr (by
    have h2:=kB z jT;let⟨k,hk⟩:=cg.mp ht;have hc:bZ s (x - s*z.1)=dF s st:=by rw[gP];exact hx
    have h3:0<=hI s (x - s*z.1) /\ hI s (x - s*z.1) <=Lm:=by
     rcases trim with an0 | trim
     .exfalso;lia
     rcases Nat.lt_trichotomy k i with q | q | q
     .have:=trim k i t st _ _ q hk hi (lL i st hi) _ hc dw;have:=XG st (au hi);lia
     .subst q;rw[hk] at hi;cases hi;have:=(lL k t hk).pI _ (cI dw) hc;have:=XG t ht;lia
     .have h5:=gF.Ar i k st t _ _ _ _ q hi hk (lL i st hi) (lL k t hk);have:=(lL k t hk).ge _ (cI dw);lia
    rw[kj sn] at h3;lia)
   have hc:C x % p=0:=by
    rw[atC x i st hi hx,fI λz jT=>ar λdw=>hr ?_]
    .rfl
    .have h2:=single _ _ dw;have h3:hI s (x - s*z.1)=0:=by rw[h2];exact GN (lL i st hi).ok
     rw[kj sn] at h3;have:=kC i st hi z jT;have:=XG st (au hi);lia
   rw[zU x hr,hb,bJ,hc];rfl
 have hUB:dq s p sts λx=>U x+B x:=(dq.f7 iV J _ (ao _)).add ((dq.of ht).dU _);have hzero: ∀x,(U x+B x) % p=0:=by
  let⟨J',UX⟩:=hUB;intro x;rw[UX];refine Aj hp (by lia) gF UX (λi st c len hi sr x hx dw=> ?_) x;have e5:=sr.uniq (lL i st hi);rw[e5.1] at hx;have h0:=Tq i st hi x hx;have PV:C x % p≠0:=λe=>dw (by rw[bJ,e,bE,cq] at h0;exact h0);rw[atC x i st hi hx,dlt] at PV;have: ∃z∈J (bs.length+(1+i)),x - s*z.1=dF s st:=ar λhn=>PV (by rw[fI λz jT=>ah λe=>hn #[z,jT,e]];rfl);let⟨z,Px,Pw⟩:=this;have h3:hI s (x - s*z.1)=0:=by rw[Pw];exact GN (lL i st hi).ok
  rw[kj sn] at h3;have:=kC i st hi z Px;rw[e5.2];exact#[by lia,by lia]
 have hB0: ∀y,dH (J bs.length) y % p=0:=out _ kB λx hx=>by have h1:=hzero x;rw[zU x hx,bB] at h1;exact h1
 have hBx: ∀x,B x % p=0:=λx=>kx _ _ _ (ao _) hB0;have hU0:=ind J λx=>by have h1:=hzero x;rw[bJ,hBx,bE,cq] at h1;exact h1
 refine e3 λi hi y=> ?_;rw[GL] at hi;rcases Nat.lt_trichotomy i bs.length with q | q | q
 .exact hU0 i q y
 .rw[q];exact hB0 y
 .obtain⟨k,rfl⟩: ∃k,i=bs.length+(1+k):=#[i - bs.length - 1,by lia]
  have hk:sts[k]? =some sts[k]:=ae (by lia);have hx:bZ s (dF s sts[k]+y*s)=dF s sts[k]:=(lL k _ hk).ok.on y;have h0:=Tq k _ hk _ hx;rw[bJ,hzero,bB,cq,atC _ k _ hk hx,dlt] at h0;have e6:(λsh=>if dF s sts[k]+y*s - s*sh=dF s sts[k] then(1:Int) else 0)=λsh=>if y - sh=0 then 1 else 0:=by
   funext sh;have e7:dF s sts[k]+y*s - s*sh=dF s sts[k]+(y - sh)*s:=by rw[Int.sub_mul,bN s sh];lia
   by_cases z:y - sh=0
   .rw[aj z,e7,z,aj (by lia)]
   .rw[ah z,e7,ah];intro e8;have:(y - sh)*s=0:=by lia
    rcases Int.mul_eq_zero.mp this with h9 | h9
    .exact z h9
    .exact sn h9
  rw[e6,Bz] at h0;exact h0
end
section
variable {s p D:Int}{sts bs:List Pt}
def qe.of (gF:qe s p sts D)(h:st∈sts):Sr s p st (dF s st) (fi s st) D:=by let⟨i,hi⟩:=cg.mp h;let⟨c,len,sr,_⟩:=gF.each i st hi;rw[sr.kS,sr.ja];exact sr
theorem yH {α:Type}{f:α ->Nat}: ∀ {l:List α} {a:α},a∈l ->f a<=(l.map f).sum
 | b::l,a,h=>by
  rw[aK,List.sum_cons];rcases av.mp h with rfl | h
  .lia
  .have:=yH (f:=f) h;lia
def qJ (hh:2*w<=h)(e:m*(h - 2*w)+a<=m*h):a<=2*m*w:=by
 have:m*(h - 2*w)+m*(2*w)=m*h:=by rw[<- Nat.mul_add];congr 1;lia
 have e2:m*(2*w)=2*m*w:=by rw[Nat.mul_left_comm,Nat.mul_assoc]
 lia
def AO {w:Nat}(hp:p=2 \/ p=3 \/ p=5 \/ p=7)(s0:0<s)(gF:qe s p sts D)(GI:bs.length=sts.length)(ind:Indep s p bs)(iV: ∀b∈bs,dq s p sts (look b))(hw: ∀b∈bs, ∀x,look b x≠0 -> -(w:Int) <=hI s x /\ hI s x<=w): (sts.map λst=>(fi s st).toNat).sum<=2*sts.length*w:=by
 cases hs:sts with
 | nil=>exact dj _
 | cons t r=>
  rw[<- hs];have ht:t∈sts:=by rw[hs];exact aA
  have hL: ∀st∈sts,fi s st<=(((sts.map λst=>(fi s st).toNat).sum:Nat):Int):=λst h=>by have:=yH (f:=λst=>(fi s st).toNat) h;have:=(gF.of h).l0;lia
  have:=count_le (t:=t) (w:=w) (h:=2*w+(sts.map λst=>(fi s st).toNat).sum) (an:=0) (alo:=0) (Lm:=(((sts.map λst=>(fi s st).toNat).sum:Nat):Int)) hp s0 gF (.inl rfl) GI ind iV hw ht (by lia) hL (by push_cast;lia) (aT _) (by push_cast;lia) λjs hk _ y=>by
   have:js= []:=by
    cases js with
    | nil=>rfl
    | cons z r=>have:=hk z aA;simp at this;lia
   rw[this];rfl
  rw[Nat.add_zero] at this;exact qJ (by lia) this
def E2 {w:Nat}(hp:p=2 \/ p=3 \/ p=5 \/ p=7)(s0:0<s)(gF:qe s p sts D)(trim:Trim s p sts D)(GI:bs.length=sts.length)(ind:Indep s p bs)(iV: ∀b∈bs,dq s p sts (look b))(hw: ∀b∈bs, ∀x,look b x≠0 -> -(w:Int) <=hI s x /\ hI s x<=w)(ht:t∈sts)(hx:look t x≠0): -((2*sts.length*w:Nat):Int) <=hI s x /\ hI s x<=((2*sts.length*w:Nat):Int):=by
 have sn:s≠0:=by lia
 have p0:0<p:=by lia
 have hL: ∀st∈sts,fi s st<=(((sts.map λst=>(fi s st).toNat).sum:Nat):Int):=λst h=>by have:=yH (f:=λst=>(fi s st).toNat) h;have:=(gF.of h).l0;lia
 have gt:=qD (gF.of ht).pat;have dw:oX s (bZ s x) (eC t)≠ []:=λe=>by have:=ki (cI hx) (rfl:bZ s x=bZ s x);rw[e] at this;cases this
 let⟨ma,mb⟩:=mX dw;let⟨la,lb⟩:=fT dw;generalize sW _=H at ma mb;generalize fE _=B at la lb;have hxH:=mb _ (ki (cI hx) rfl);have hxB:=lb _ (ki (cI hx) rfl);let⟨mh,mc⟩:=vB (by lia) ma;let⟨lh,lc'⟩:=vB (by lia) la;have Jh:jB s (bZ s x):=rn (by lia);have Je: ∀k,H<k ->look t (bZ s x+k*s)=0:=λk hk=>ar λhn=>by have:=mb _ (ki (cI hn) (Jh.on k));rw[nA Jh sn] at this;lia
 have VN: ∀k,k<B ->look t (bZ s x+k*s)=0:=λk hk=>ar λhn=>by have:=lb _ (ki (cI hn) (Jh.on k));rw[nA Jh sn] at this;lia
 have hmul: ∀a b:Int,bZ s x+a*s - s*b=bZ s x+(a - b)*s:=λa b=>by rw[Int.sub_mul,bN s b];lia
 have S:=AO hp s0 gF GI ind iV hw;have v7: ∀js:Pt,(∃y,dH js y % p≠0) ->(js.map (·.1)).filter (λy=>decide (dH js y % p≠0))≠ []:=λjs ⟨y,hy⟩ e=>by have:y∈(js.map (·.1)).filter (λy=>decide (dH js y % p≠0)):=aQ.mpr #[kD λe0=>hy (by rw[e0];rfl),c5 hy];rw[e] at this;cases this
 have F7: ∀ (js:Pt) y,dH js y % p≠0 ->y∈(js.map (·.1)).filter (λy=>decide (dH js y % p≠0)):=λjs y hy=>aQ.mpr #[kD λe0=>hy (by rw[e0];rfl),c5 hy];generalize hΛ:(sts.map λst=>(fi s st).toNat).sum=Λ at hL S;constructor
 .rcases Int.lt_or_le B 0 with hb | hb
  .have :=count_le (t:=t) (w:=w) (h:=(-B).toNat+Λ+2*w) (an:=(-B).toNat) (alo:=0) (Lm:=(Λ:Int)) hp s0 gF (.inr trim) GI ind iV hw ht (by lia) hL (by push_cast;lia) (aT _) (by push_cast;lia) λjs hk hz y=>by
    refine ar λhy=> ?_;let⟨k1,k2⟩:=fT (v7 js #[y,hy]);generalize fE _=k at k1 k2;have Xc:dH js k % p≠0:=by simpa using(aQ.mp k1).2
    let⟨z,Px,Pw⟩:=ag.mp (aQ.mp k1).1;have Xa:=hk z Px;rw[Pw] at Xa;have h1:=hz (bZ s x+(B+k)*s) (by rw[nA Jh sn];lia);rw[rh _ js k λy' ne=> ?_,hmul,show B+k - k=B by lia] at h1
    .have hv:=eG gt lh;exact sT hp Xc _ hv.1 hv.2 h1
    .rw[hmul];rcases Int.lt_or_le y' k with h | h
     .have:dH js y' % p=0:=ar λh2=>by have:=k2 _ (F7 js y' h2);lia
      rw[bT,this,cW];rfl
     .rw[VN _ (by lia),bg];rfl
   rw[hΛ,Nat.add_assoc] at this;have:=qJ (by lia) this;lia
  .lia
 .rcases Int.lt_or_le (Λ:Int) H with hb | hb
  .have :=count_le (t:=t) (w:=w) (h:=H.toNat+2*w) (an:=(H - Λ).toNat) (alo:=2*w) (Lm:=(Λ:Int)) hp s0 gF (.inr trim) GI ind iV hw ht (by lia) hL (by push_cast;lia) (by lia) (by push_cast;lia) λjs hk hz y=>by
    refine ar λhy=> ?_;let⟨k1,k2⟩:=mX (v7 js #[y,hy]);generalize sW _=k at k1 k2;have Xc:dH js k % p≠0:=by simpa using(aQ.mp k1).2
    let⟨z,Px,Pw⟩:=ag.mp (aQ.mp k1).1;have Xa:=hk z Px;rw[Pw] at Xa;have h1:=hz (bZ s x+(H+k)*s) (by rw[nA Jh sn];push_cast;lia);rw[rh _ js k λy' ne=> ?_,hmul,show H+k - k=H by lia] at h1
    .have hv:=eG gt mh;exact sT hp Xc _ hv.1 hv.2 h1
    .rw[hmul];rcases Int.lt_or_le k y' with h | h
     .have:dH js y' % p=0:=ar λh2=>by have:=k2 _ (F7 js y' h2);lia
      rw[bT,this,cW];rfl
     .rw[Je _ (by lia),bg];rfl
   rw[hΛ,Nat.add_assoc] at this;have:=qJ (by lia) this;lia
  .lia
def xB (hp:p=2 \/ p=3 \/ p=5 \/ p=7)(s0:0<=s)(gF:qe s p sts D)(h:dq s p sts A)(hz: ∀x,bZ s x<c ->A x % p=0)(hx: ∃x,bZ s x=c /\ A x % p≠0):c∈sts.map (dF s):=by
 let⟨J,hJ⟩:=h;let⟨x0,Wm,dw⟩:=hx;refine ar λhc=>dw ?_;have get: ∀i st,sts[i]? =some st ->sts.getD i []=st:=λi st h=>kQ h;have sr: ∀i (hi:i<sts.length),Sr s p sts[i] (dF s sts[i]) (fi s sts[i]) D:=λi hi=>gF.of (bK _);have later: ∀i j (hi:i<sts.length) (hj:j<sts.length),i<j -> ∀x,bZ s x<=dF s sts[i] ->dU (λsh=>look sts[j] (x - s*sh)) (J j)=0:=λi j hi hj gK x hx=>fI λz _=>ar λhn=>by have h1:=(sr j hj).ge _ (cI hn);rw[gP] at h1;have:=gF.Ar i j _ _ _ _ _ _ gK (ae hi) (ae hj) (sr i hi) (sr j hj);lia
 have key: ∀ (i:Nat) (hi:i<sts.length),dF s sts[i] <c -> ∀x,dU (λsh=>look sts[i] (x - s*sh)) (J i) % p=0:=λi=>by
  induction i using Nat.strongRecOn with
  | ind i ih=>
   intro hi fM x;refine Bw hp s0 (sr i hi) (λx hx hn=> ?_) x;exfalso;refine hn ?_;have h1:=hz x (by lia);rw[hJ,uE (i:=i) _ hi λj hj SF=> ?_,get i _ (ae hi)] at h1
   .exact h1
   .rw[get j _ (ae hj)];rcases Nat.lt_or_ge j i with q | q
    .have:=gF.Ar j i _ _ _ _ _ _ q (ae hj) (ae hi) (sr j hj) (sr i hi);exact ih j q hj (by lia) x
    .rw[later i j hi hj (by lia) x (by lia)];rfl
 rw[hJ];have : ∀ m,m<=sts.length ->f7 s sts J x0 m % p=0:=λm=>by
  induction m with
  | zero=>intro _;exact c9 _
  | succ m ih=>
   intro hm;have UJ:m<sts.length:=by lia
   rw[f7,bJ,ih (by lia),get m _ (ae UJ)];have h2:dU (λsh=>look sts[m] (x0 - s*sh)) (J m) % p=0:=by
    rcases Int.lt_trichotomy (dF s sts[m]) c with q | q | q
    .exact key m UJ q x0
    .exact absurd (ag.mpr #[_,bK UJ,q]) hc
    .rw[fI λz _=>ar λhn=>by have h1:=(sr m UJ).ge _ (cI hn);rw[gP] at h1;lia];rfl
   rw[h2];rfl
 exact this _ (ao _)
theorem qd (F G:Int ->Int): ∀js:Pt,dU (λt=>F t+G t) js=dU F js+dU G js
 | []=>rfl
 | z::r=>by rw[cB,cB,cB,qd F G r,Int.add_mul];lia
theorem Bt (F:Int ->Int)(k:Int): ∀js:Pt,dU (λt=>F t*k) js=dU F js*k
 | []=>by show(0:Int)=0*k;simp
 | z::r=>by rw[cB,cB,Bt F k r,Int.add_mul];congr 1;rw[dz,dz,bN k]
theorem xX (f:Int ->Int)(s x:Int)(q:Pt): ∀a:Pt,dU (λsh=>dU (λt=>f (x - s*sh - s*t)) q) a=dU (λt=>dU (λsh=>f (x - s*t - s*sh)) a) q
 | []=>by rw[show(λt:Int=>dU (λsh=>f (x - s*t - s*sh)) [])=λ_=>0 from rfl,Bu];rfl
 | z::r=>by have e:(λt=>dU (λsh=>f (x - s*t - s*sh)) (z::r))=λt=>f (x - s*t - s*z.1)*z.2+dU (λsh=>f (x - s*t - s*sh)) r:=rfl;rw[cB,xX f s x q r,e,qd,Bt];congr 2;congr 1;funext t;congr 1;lia
theorem Bv {F G:Int ->Int}(h: ∀t,F t % p=G t % p): ∀js:Pt,dU F js % p=dU G js % p
 | []=>rfl
 | z::r=>by rw[cB,cB,bJ,Bv h r,bT,h, <- bT, <- bJ]
def zr (hp:p=2 \/ p=3 \/ p=5 \/ p=7)(s0:0<s)(gF:qe s p sts D)(iF:qe s p sts' D')(ind:Indep s p bs)(iV: ∀b∈bs,dq s p sts (look b))(hlen:sts.length<sts'.length)(hq: ∀st∈sts', ∃q:Pt,dq s p sts λx=>look st x - dU (λsh=>look P (x - s*sh)) q):Indep s p (bs++ [P]):=by
 have sn:s≠0:=by lia
 intro J hJ;have xo: ∀x,(f7 s bs J x bs.length+dU (λsh=>look P (x - s*sh)) (J bs.length)) % p=0:=λx=>by
  have h1:=hJ x;rw[aH,cC,mB s bs [P] J x 1] at h1;have e:f7 s [P] (λi=>J (bs.length+i)) x 1=dU (λsh=>look P (x - s*sh)) (J bs.length):=by show 0+dU (λsh=>look ([P].getD 0 []) (x - s*sh)) (J (bs.length+0))=_;rw[bB];rfl
  rw[e] at h1;exact h1
 have a0 : ∀ y,dH (J bs.length) y % p=0:=by
  intro y;refine ar λhy=> ?_;have hP:dq s p sts λx=>dU (λsh=>look P (x - s*sh)) (J bs.length):=by refine((dq.f7 iV J _ (ao _)).mul (-1)).ext λx=> ?_;have h1:=xo x;refine cA.mpr ?_;rw[<- h1];congr 1;lia
  have hA: ∀st∈sts',dq s p sts λx=>dU (λsh=>look st (x - s*sh)) (J bs.length):=λst kP=>by let⟨q,hq⟩:=hq st kP;refine((hq.dU (J bs.length)).add (hP.dU q)).ext λx=> ?_;rw[<- xX (look P) s x q (J bs.length), <- qd];congr 2;funext sh;lia
  have dw:((J bs.length).map (·.1)).filter (λy=>decide (dH (J bs.length) y % p≠0))≠ []:=λe=>by have:y∈((J bs.length).map (·.1)).filter (λy=>decide (dH (J bs.length) y % p≠0)):=aQ.mpr #[kD λe0=>hy (by rw[e0];rfl),c5 hy];rw[e] at this;cases this
  let⟨k1,k2⟩:=mX dw;generalize sW _=m at k1 k2;have hm:dH (J bs.length) m % p≠0:=by simpa using(aQ.mp k1).2
  have SU: ∀c∈sts'.map (dF s),c∈sts.map (dF s):=λc hc=>by
   let⟨st,kP,rfl⟩:=ag.mp hc;have sr:=iF.of kP;have hmul: ∀a b:Int,dF s st+a*s - s*b=dF s st+(a - b)*s:=λa b=>by rw[Int.sub_mul,bN s b];lia
   refine xB hp (by lia) gF (hA st kP) (λx hx=> ?_) #[dF s st+(fi s st+m)*s,sr.ok.on _,?_]
   .rw[fI λz _=>ar λhn=>by have h1:=sr.ge _ (cI hn);rw[gP] at h1;lia];rfl
   .rw [rh _ (J bs.length) m λy' ne=> ?_,hmul,show fi s st+m - m=fi s st by lia,sr.top,Int.one_mul]
    .exact hm
    .rw [hmul];rcases Int.lt_or_le m y' with h | h
     .have:dH (J bs.length) y' % p=0:=ar λh2=>by have:=k2 y' (aQ.mpr #[kD λe0=>h2 (by rw[e0];rfl),c5 h2]);lia
      rw[bT,this,cW];rfl
     .rw[sr.out sn (by lia),bg];rfl
  have nd:(sts'.map (dF s)).Nodup:=by rw[List.Nodup,cx,bw];intro i j hi hj gK e;have:=iF.Ar i j _ _ _ _ _ _ gK (ae hi) (ae hj) (iF.of (bK _)) (iF.of (bK _));lia
  have:=iA nd SU;rw[aa,aa] at this;lia
 intro i hi y;rw[aH,cC] at hi;rcases Nat.lt_or_ge i bs.length with q | q
 .refine ind J (λx=> ?_) i q y;have h1:=xo x;rw[bJ,kx _ _ _ (ao _) a0,bE,cq] at h1;exact h1
 .rw[show i=bs.length by lia];exact a0 y
end
noncomputable def nT (s Z l h:Int)(a:Pt):Prop:=(∀x,look a x≠0 -> -l<=hI s x /\ hI s x<=h) /\ (s=0 ->Wt Z a)
noncomputable def oP (s l h:Int)(P:Pq):Prop:= ∀w x,look (pf P w) x≠0 -> -l<=x /\ x<=h
section
variable {s p Z l h l' h':Int}{a b c:Pt}{P Q:Pq}
theorem nT.up (x:nT s Z l h a)(hl:l<=l')(hh:h<=h'):nT s Z l' h' a:=#[λy hy=>by have:=x.1 y hy;lia,x.2]
theorem oP.up (x:oP s l h P)(hl:l<=l')(hh:h<=h'):oP s l' h' P:=λw y hy=>by have:=x w y hy;lia
theorem ny (x:Int):hI 0 x=0:=aj rfl
theorem nT.wt (x:nT s Z l h a)(s0:0<=s)(s8:s<=8)(z0:0<=Z)(hl:l<=E)(hh:h<=E)(e0:0<=E):Wt (Z+8*(E+1)) a:=λy hy=>by
 by_cases z:s=0
 .have:=x.2 z y hy;lia
 .have h1:=x.1 y hy;have h2:=zx (s:=s) (x:=y) (by lia);have h3:=a6 (show hI s y<=E by lia) s0;have h4:=a6 (show -E<=hI s y by lia) s0;have h5:=bf s8 e0;rw[Int.mul_neg] at h4;lia
theorem oP.wt (x:oP s l h P)(nd:(P.map (·.1)).Nodup)(hl:l<=E)(hh:h<=E): ∀t∈P,Wt E t.2.2:=λt ht y hy=>by rw[<- qB nd ht] at hy;have:=x t.1 y hy;lia
def nT.cut {js:Pt}(ha:nT s Z l h a)(PZ:nT s Z lb hb b)(ec: ∀x,look c x=(look a x+dU (λsh=>look b (x - s*sh)) js) % p)(hj: ∀j∈js, -jl<=j.1 /\ j.1<=jh)(HK:s=0 -> ∀j∈js,j.1=0)(hl:l<=l')(Ow:lb+jl<=l')(hh:h<=h')(hh2:hb+jh<=h'):nT s Z l' h' c:=by
 have one: ∀x,look c x≠0 ->look a x≠0 \/ ∃j∈js,look b (x - s*j.1)≠0:=λx hx=>by
  by_cases z:look a x=0
  .refine .inr (ar λhn=>hx ?_);rw[ec,z,fI λj iX=>ar λhq=>hn #[j,iX,hq]];rfl
  .exact .inl z
 refine#[λx hx=> ?_,λz x hx=> ?_]
 .rcases one x hx with q | ⟨j,iX,q⟩
  .have:=ha.1 x q;lia
  .have h1:=PZ.1 _ q;have h2:=hj j iX;by_cases z:s=0
   .have h3:=HK z j iX;rw[z,ny] at h1 ⊢;lia
   .rw[kj z] at h1;lia
 .rcases one x hx with q | ⟨j,iX,q⟩
  .exact ha.2 z x q
  .have:=PZ.2 z _ q;rw[z,bg,Int.sub_zero] at this;exact this
theorem oP.cut {js:Pt}(ha:oP s l h P)(PZ:oP s lb hb Q)(ec: ∀w x,look (pf P' w) x=(look (pf P w) x+dU (λsh=>look (pf Q w) (x - sh)) js) % p)(hj: ∀j∈js, -jl<=j.1 /\ j.1<=jh)(hl:l<=l')(Ow:lb+jl<=l')(hh:h<=h')(hh2:hb+jh<=h'):oP s l' h' P':=λw x hx=>by
 by_cases z:look (pf P w) x=0
 .have: ∃j∈js,look (pf Q w) (x - j.1)≠0:=ar λhn=>hx (by rw[ec,z,fI λj iX=>ar λhq=>hn #[j,iX,hq]];rfl);let⟨j,iX,q⟩:=this;have h1:=PZ w _ q;have h2:=hj j iX;lia
 .have:=ha w x z;lia
def nT.stood (ha:nT s Z l h a)(eb: ∀x,look b x=look a (x+s*m)*tn % p)(hm:s=0 ->m=0):nT s Z (l+m) (h - m) b:=by
 have one: ∀x,look b x≠0 ->look a (x+s*m)≠0:=λx hx e=>hx (by rw[eb,e,bg];rfl);refine#[λx hx=> ?_,λz x hx=> ?_]
 .have h1:=ha.1 _ (one x hx);by_cases z:s=0
  .have h2:=hm z;rw[z,ny] at h1 ⊢;lia
  .rw[bN,p9 z] at h1;lia
 .have:=ha.2 z _ (one x hx);rw[z,bg,bE] at this;exact this
theorem oP.stood (ha:oP s l h P)(eb: ∀w x,look (pf Q w) x=look (pf P w) (x+m)*tn % p):oP s (l+m) (h - m) Q:=λw x hx=>by have:=ha w (x+m) (λe=>hx (by rw[eb,e,bg];rfl));lia
theorem yF {f len bl bh:Int}{js:Pt}(l0:0<=len)(hs:ms.Pairwise (· <= ·))(hn:ms.Nodup)(hm: ∀m∈ms,bl<=m /\ m<=bh)(hj: ∀j∈js, ∃h∈rO ms len,j.1=ji len h): ∀j∈js,(bl<=j.1 /\ j.1<0) \/ (0<=j.1 /\ j.1<=bh - len):=λj iX=>by
 let⟨h,hh,e⟩:=hj j iX;have H:=(Ee l0 hs hn).1.out h hh;have B:=Ef l0 hh;rw[e];unfold ji;split
 .rename_i z;let⟨m,h1,h2⟩:=B.1 z;have:=hm m h1;exact .inl #[by lia,z]
 .rename_i z;let⟨m,h1,h2⟩:=B.2 (by lia);have:=hm m h1;exact .inr #[by lia,by lia]
end
structure oO (s p:Int)(pats:List Pt)(b:Pt)(Q:Pq):Prop where
 is: ∀x,look b x % p=nU s pats Q x pats.length % p
 key: ∀w∈Q.map (·.1),0<=w /\ w< (pats.length:Int)
noncomputable def A6 (q js:Pt):Pt:=js.flatMap λj=>tm j.2 (mv j.1 q)
theorem z8 (q:Pt)(y:Int): ∀js:Pt,dH (A6 q js) y=dU (λsh=>dH q (y - sh)) js
 | []=>rfl
 | j::r=>by show dH (tm j.2 (mv j.1 q)++A6 q r) y=_;rw[fA,z8 q y r,cB,uC,yD]
theorem Bx (G:Int ->Int)(q:Pt): ∀js:Pt,dU G (A6 q js)=dU (λj=>dU (λsh=>G (sh+j)) q) js
 | []=>rfl
 | j::r=>by show dU G (tm j.2 (mv j.1 q)++A6 q r)=_;rw[nM,Bx G q r,cB,rb, <- vv]
theorem Aa {s p:Int}{pats:List Pt}{P P' Q:Pq}{js:Pt}(nP: ∀w,((pf P w).map (·.1)).Nodup)(Uo: ∀w,((pf P' w).map (·.1)).Nodup)(nQ: ∀w,((pf Q w).map (·.1)).Nodup) (ep: ∀w x,look (pf P' w) x=(look (pf P w) x+dU (λsh=>look (pf Q w) (x - sh)) js) % p) (x:Int): ∀n,nU s pats P' x n % p=(nU s pats P x n+dU (λsh=>nU s pats Q (x - s*sh) n) js) % p
 | 0=>by show(0:Int) % p=(0+dU (λ_=>0) js) % p;rw[Bu];rfl
 | n +1=>by
  have h1:=By (p:=p) (λsh=>look (pats.getD n []) (x - s*sh)) (a:=pf P' n) (b:=pf P n++A6 (pf Q n) js) λy=>by rw[fA,z8,fZ (Uo n),fZ (nP n),ep,cq];congr 2;congr 1;funext sh;rw[fZ (nQ n)]
  rw[nM,Bx] at h1;have e:(λsh=>nU s pats Q (x - s*sh) (n+1))=λsh=>nU s pats Q (x - s*sh) n+dU (λt=>look (pats.getD n []) (x - s*sh - s*t)) (pf Q n):=rfl;have e2:(λj=>dU (λsh=>look (pats.getD n []) (x - s*(sh+j))) (pf Q n))=λsh=>dU (λt=>look (pats.getD n []) (x - s*sh - s*t)) (pf Q n):=by funext j;congr 1;funext sh;congr 1;rw[Int.mul_add];lia
  rw[e2] at h1;rw[nU,nU,e,qd,bJ,Aa nP Uo nQ ep x n,h1, <- bJ];congr 1;lia
theorem sA {s p m tn:Int}{pats:List Pt}{P Q:Pq}(nP: ∀w,((pf P w).map (·.1)).Nodup)(nQ: ∀w,((pf Q w).map (·.1)).Nodup)(ep: ∀w x,look (pf Q w) x=look (pf P w) (x+m)*tn % p)(x:Int): ∀n,nU s pats Q x n % p=nU s pats P (x+s*m) n*tn % p
 | 0=>by show(0:Int) % p=0*tn % p;rw[bg]
 | n +1=>by
  have h1:=By (p:=p) (λsh=>look (pats.getD n []) (x - s*sh)) (a:=pf Q n) (b:=tm tn (mv (-m) (pf P n))) λy=>by rw[uC,yD,fZ (nQ n),fZ (nP n),ep,cq,Int.sub_neg]
  rw[rb, <- vv] at h1;have e2:(λsh=>look (pats.getD n []) (x - s*(sh+ -m)))=λsh=>look (pats.getD n []) (x+s*m - s*sh):=by funext sh;congr 1;rw[Int.mul_add,Int.mul_neg];lia
  rw[e2] at h1;rw[nU,nU,Int.add_mul,bJ,sA nP nQ ep x n,h1, <- bJ]
section
variable {s p:Int}{pats:List Pt}{a b c:Pt}{P P' Q:Pq}{js:Pt}
theorem oO.cut (ha:oO s p pats a P)(hb:oO s p pats b Q)(nP: ∀w,((pf P w).map (·.1)).Nodup)(Uo: ∀w,((pf P' w).map (·.1)).Nodup)(nQ: ∀w,((pf Q w).map (·.1)).Nodup) (ec: ∀x,look c x=(look a x+dU (λsh=>look b (x - s*sh)) js) % p) (ep: ∀w x,look (pf P' w) x=(look (pf P w) x+dU (λsh=>look (pf Q w) (x - sh)) js) % p) (hk: ∀w∈P'.map (·.1),w∈P.map (·.1) \/ w∈Q.map (·.1)):oO s p pats c P':=#[λx=>by rw[ec,cq,Aa nP Uo nQ ep,bJ,ha.is,Bv (λsh=>hb.is (x - s*sh)) js, <- bJ],λw hw=>(hk w hw).elim (ha.key w) (hb.key w)]
theorem oO.stood (ha:oO s p pats a P)(nP: ∀w,((pf P w).map (·.1)).Nodup)(nQ: ∀w,((pf Q w).map (·.1)).Nodup)(eb: ∀x,look b x=look a (x+s*m)*tn % p)(ep: ∀w x,look (pf Q w) x=look (pf P w) (x+m)*tn % p)(hk: ∀w∈Q.map (·.1),w∈P.map (·.1)):oO s p pats b Q:=#[λx=>by rw[eb,cq,sA nP nQ ep,bT,ha.is, <- bT],λw hw=>ha.key w (hk w hw)]
def dq.back (hc:dq s p G (look c))(hb:dq s p G (look b))(ec: ∀x,look c x=(look a x+WQ.dU (λsh=>look b (x - s*sh)) js) % p):dq s p G (look a):=by refine(hc.add ((hb.dU js).mul (-1))).ext λx=> ?_;rw[ec,Int.emod_add_emod];congr 1;lia
def dq.zX (hp:p=2 \/ p=3 \/ p=5 \/ p=7)(t0:0<tn)(t1:tn<p)(hb:dq s p G (look b))(eb: ∀x,look b x=look a (x+s*m)*tn % p):dq s p G (look a):=by
 obtain ⟨u, hu⟩ : ∃u:Int,tn*u % p=1:=by
  rcases hp with rfl | rfl | rfl | rfl
  .exact ⟨1, by have:tn=1:=by lia
                rw[this];rfl⟩
  .have:tn=1 \/ tn=2:=by lia
   rcases this with rfl | rfl
   .exact#[1,rfl]
   .exact#[2,rfl]
  .have:tn=1 \/ tn=2 \/ tn=3 \/ tn=4:=by lia
   rcases this with rfl | rfl | rfl | rfl
   .exact#[1,rfl]
   .exact#[3,rfl]
   .exact#[2,rfl]
   .exact#[4,rfl]
  .have:tn=1 \/ tn=2 \/ tn=3 \/ tn=4 \/ tn=5 \/ tn=6:=by lia
   rcases this with rfl | rfl | rfl | rfl | rfl | rfl
   .exact#[1,rfl]
   .exact#[4,rfl]
   .exact#[5,rfl]
   .exact#[2,rfl]
   .exact#[3,rfl]
   .exact#[6,rfl]
 refine((hb.shift m).mul u).ext λx=> ?_;rw[eb,bT,cq, <- bT,show x - s*m+s*m=x by lia,dz,bT,hu,dm,cq]
end
structure eV where
 c:Int
 o:Addr
 ds:Addr
 ol:Addr
 op:Addr
 len:Int
 foot:Int
 b:Pt
 Q:Pq
noncomputable def eV.adr (t:eV):List Addr:=bY t.ol t.op t.Q
noncomputable def k8 (L:List eV):List (Key×W):=L.map λt=>((Sum.inl t.c:Key),wr t.o)
structure uq (S:Addr)(s p:Int)(M:Mp)(t:eV):Prop where
 ins:M t.o=some (.ins S t.ds [("lamps",wr t.ol),("parts",wr t.op),("first",wi t.c),("length",wi t.len),("foot",wi t.foot)])
 row:c6 p M t.ol t.op t.b t.Q
 mw:zK s p t.b t.c t.len t.foot
structure me (S:Addr)(s p:Int)(M:Mp)(hd:Addr)(L:List eV):Prop where
 tT:M hd=some (.dK (k8 L))
 each: ∀t∈L,uq S s p M t
 nd:(L.map (·.c)).Nodup
 pe:L.Pairwise λt u=> ∀x∈t.adr,x∉u.adr
 tH: ∀t∈L,hd∉t.adr
noncomputable def gR (L:List eV)(t:eV):List eV:=L.map λu=>if u.c=t.c then t else u
section
variable {S:Addr}{s p:Int}{M M':Mp}{hd:Addr}{L:List eV}
def yy (L:List eV)(c:Int):fh (k8 L) (.inl c)=(L.find? λt=>decide (t.c=c)).map λt=>wr t.o:=by
 have:k8 L=mf (L.map λt=>(t.c,t.o,[])):=by unfold k8 mf;rw[aE];rfl
 rw[this,uz,List.find?_map];cases e:L.find? (λt=>decide (t.c=c)) with
 | none=>rw[show((λt:Int×Addr×Pt=>decide (t.1=c)) ∘ λt:eV=>(t.c,t.o,[]))=λt=>decide (t.c=c) from rfl,e];rfl
 | some t=>rw[show((λt:Int×Addr×Pt=>decide (t.1=c)) ∘ λt:eV=>(t.c,t.o,[]))=λt=>decide (t.c=c) from rfl,e];rfl
theorem lM (h:L.find? (λt=>decide (t.c=c))=some t):t∈L /\ t.c=c:=#[List.mem_of_find?_eq_some h,by simpa using List.find?_some h]
theorem qt (h:L.find? (λt=>decide (t.c=c))=none):c∉L.map (·.c):=λhm=>by let⟨t,ht,e⟩:=ag.mp hm;have:=List.find?_eq_none.mp h t ht;simp[e] at this
def sF (nd:(L.map (·.c)).Nodup)(h:t∈L):L.find? (λu=>decide (u.c=t.c))=some t:=by
 cases e:L.find? (λu=>decide (u.c=t.c)) with
 | none=>exact absurd (ag.mpr #[t,h,rfl]) (qt e)
 | some u=>let⟨h1,h2⟩:=lM e;rw[gI nd h1 h h2]
def IL (hc:t.c=c)(h:c∉L.map (·.c)):jq (k8 L) (.inl c) (wr t.o)=k8 (L++ [t]):=by
 have e1:k8 L=mf (L.map λt=>(t.c,t.o,[])):=by unfold k8 mf;rw[aE];rfl
 rw[e1,E7 (c:= []) (by rw[aE];exact h)];unfold k8 mf;rw[aM,aM,aE, <- hc];rfl
def IK (h:t.c∈L.map (·.c)):jq (k8 L) (.inl t.c) (wr t.o)=k8 (gR L t):=by
 unfold jq k8 gR;have e:((L.map λt=>((Sum.inl t.c:Key),wr t.o)).any λq=>decide (q.1= .inl t.c))=true:=by rw[List.any_eq_true];let⟨u,hu,e⟩:=ag.mp h;exact#[_,ag.mpr #[u,hu,rfl],by simp[e]]
 rw[aj e,aE,aE];refine bD λu _=> ?_;show(if(Sum.inl u.c:Key)= .inl t.c then((Sum.inl u.c:Key),wr t.o) else((Sum.inl u.c:Key),wr u.o))=((Sum.inl (if u.c=t.c then t else u).c:Key),wr (if u.c=t.c then t else u).o)
 by_cases z:u.c=t.c
 .rw[aj (by rw[z]),aj z,z]
 .rw[ah (λq=>z (Sum.inl.inj q)),ah z]
def ng (L:List eV)(t:eV):(gR L t).map (·.c)=L.map (·.c):=by
 unfold gR;rw[aE];refine bD λu _=> ?_;show(if u.c=t.c then t else u).c=u.c;by_cases z:u.c=t.c
 .rw[aj z,z]
 .rw[ah z]
def eT (h:u∈gR L t):u=t \/ (u∈L /\ u.c≠t.c):=by
 let⟨v,hv,e⟩:=ag.mp h;by_cases z:v.c=t.c
 .rw[aj z] at e;exact .inl e.symm
 .rw[ah z] at e;subst e;exact .inr #[hv,z]
theorem uq.keep (h:uq S s p M t)(k:fo M M' F)(ho:t.o∉F)(ha: ∀x∈t.adr,x∉F):uq S s p M' t:=#[k _ _ h.ins ho,h.row.keep k ha,h.mw]
theorem uq.nd (h:uq S s p M t)(w:Int):((pf t.Q w).map (·.1)).Nodup:=(h.row.Fj w).1
theorem c6.Nx (h:c6 p M rl rp a P)(w:Int):((pf P w).map (·.1)).Nodup:=(h.Fj w).1
def vq (h:me S s p M hd L)(ht:t∈L)(hu:u∈L)(ne:t.c≠u.c): ∀x∈t.adr,x∉u.adr:=by
 have sym: ∀ {L:List eV},L.Pairwise (λt u=> ∀x∈t.adr,x∉u.adr) ->t∈L ->u∈L ->t≠u -> ∀x∈t.adr,x∉u.adr:=λ{L}=>by
  induction L with
  | nil=>intro _ h;cases h
  | cons v r ih=>
   intro hp h1 h2 h3;let⟨q1,q2⟩:=a4.mp hp;rcases av.mp h1 with e1 | k1
   .rcases av.mp h2 with e2 | k2
    .exact absurd (e1.trans e2.symm) h3
    .rw[e1];exact q1 u k2
   .rcases av.mp h2 with e2 | k2
    .rw[e2];exact λx hx gY=>q1 t k1 x gY hx
    .exact ih q2 k1 k2 h3
 exact sym h.pe ht hu λe=>ne (by rw[e])
end
noncomputable def Mm (s c:Int):Int:=if s=0 then 0 else c
noncomputable def rS (s Z c:Int):Nat:=if s=0 then(Z - c+1).toNat else(s - c).toNat
noncomputable def xA (hd:Addr)(L:List eV)(rl rp:Addr)(P:Pq):List Addr:=hd::(L.flatMap (·.adr)++bY rl rp P)
structure Zk (R S:Addr)(s p:Int)(M:Mp)(hd r dr rl rp:Addr)(pats:List Pt)(a:Pt)(P:Pq)(L:List eV):Prop where
 ins:M r=some (.ins R dr [("lamps",wr rl),("parts",wr rp)])
 held:me S s p M hd L
 row:c6 p M rl rp a P
 pe: ∀t∈L, ∀x∈bY rl rp P,x∉t.adr
 tH:hd∉bY rl rp P
 md:oO s p pats a P
 sX: ∀t∈L,oO s p pats t.b t.Q
def oO.len (h:oO s p pats b Q)(nd:(Q.map (·.1)).Nodup):Q.length<=pats.length:=by have:=iA (l:=yz 0 pats.length) nd λk hk=>mY.mpr (by have:=h.key k hk;lia);rw[aa] at this;unfold yz at this;rw[aa,bI] at this;exact this
structure pQ (s Z E EP:Int)(t:eV):Prop where
 bx:nT s Z E E t.b
 len:t.len<=E
 bp:oP s EP EP t.Q
noncomputable def Jc (R S:Addr):jS:=λxs M q=>HU λ(hd r dr rl rp:Addr) (p s Z:Int)=>Ts λ(K w KP:Int) (pats:List Pt) (a:Pt) (P:Pq) (L:List eV)=>uk (xs= [wi p,wi s,wr hd,wr r]) (p=2 \/ p=3 \/ p=5 \/ p=7) (0<=s) (s<=8) (Zk R S s p M hd r dr rl rp pats a P L) (0<=Z) (0<=K) (uk (0<=w) (0<=KP) (s=0 ->K=0 /\ w=0) (Z+8*(2*(w+16*K)+2*K+2) <=400000) (KP+10*(w+18*K) <=900000) (pats.length<=100) (L.length<=1000) (vD (nT s Z w w a) (oP s KP KP P) (∀t∈L,pQ s Z K KP t) (∀M' L',me S s p M' hd L' ->fo M M' (xA hd L rl rp P) ->(∀t∈L', ∀x∈t.adr,x∈xA hd L rl rp P \/ M x=none) ->(∀f,dq s p (L.map (·.b)++ [a]) f ->dq s p (L'.map (·.b)) f) ->(∀t∈L',oO s p pats t.b t.Q) ->(∀t∈L',pQ s Z (2*(w+2*K*s)) (KP+(s+1)*(w+2*K*s+2*K)) t) ->L'.length<=L.length+1 ->(∀c∈L.map (·.c),c∈L'.map (·.c)) ->q wn M')))
section
variable {s Z K w KP c c2 dr:Int}{a c1:Pt}{P P1:Pq}{L:List eV}{t:eV}
noncomputable def eA (s K w c:Int):Int:=w+2*K*Mm s c
noncomputable def eP (s K w KP c:Int):Int:=KP+Mm s c*(w+2*K*s+2*K)
structure rD (s Z K w KP:Int):Prop where
 s0:0<=s
 k0:0<=K
 w0:0<=w
 RP:0<=KP
 vM:s=0 ->K=0 /\ w=0
theorem rD.E0 (h:rD s Z K w KP):0<=2*K*s:=dy (by have:=h.k0;lia) h.s0
def rD.step (h:rD s Z K w KP)(hc:c<c2):eA s K w c+2*K<=eA s K w c2:=by
 unfold eA Mm;by_cases z:s=0
 .have:=h.vM z;rw[aj z,aj z];lia
 .rw[ah z,ah z];have:=a6 (show c+1<=c2 by lia) (show 0<=2*K by have:=h.k0;lia);rw[Int.mul_add,dm] at this;lia
def rD.top (h:rD s Z K w KP)(hc:s≠0 ->c+1<=s):eA s K w c+2*K<=w+2*K*s:=by
 unfold eA Mm;by_cases z:s=0
 .have:=h.vM z;rw[aj z,z];lia
 .rw[ah z];have:=a6 (hc z) (show 0<=2*K by have:=h.k0;lia);rw[Int.mul_add,dm] at this;lia
def rD.low (h:rD s Z K w KP)(hc:s≠0 ->0<=c):w<=eA s K w c:=by
 unfold eA Mm;by_cases z:s=0
 .rw[aj z];lia
 .rw[ah z];have:=dy (show 0<=2*K by have:=h.k0;lia) (hc z);lia
def rD.QR (h:rD s Z K w KP)(hc:c<c2):eP s K w KP c+(w+2*K*s)+2*K<=eP s K w KP c2:=by
 unfold eP Mm;by_cases z:s=0
 .have:=h.vM z;rw[aj z,aj z,z];lia
 .rw[ah z,ah z];have h0:=h.E0;have:=bf (show c+1<=c2 by lia) (show 0<=w+2*K*s+2*K by have:=h.k0;have:=h.w0;lia);rw[Int.add_mul,Int.one_mul] at this;lia
def rD.Vq (h:rD s Z K w KP)(hc:s≠0 ->c+1<=s):eP s K w KP c+(w+2*K*s)+2*K<=KP+s*(w+2*K*s+2*K):=by
 unfold eP Mm;by_cases z:s=0
 .have:=h.vM z;rw[aj z,z];lia
 .rw[ah z];have h0:=h.E0;have:=bf (hc z) (show 0<=w+2*K*s+2*K by have:=h.k0;have:=h.w0;lia);rw[Int.add_mul,Int.one_mul] at this;lia
def rD.lowP (h:rD s Z K w KP)(hc:s≠0 ->0<=c):KP<=eP s K w KP c:=by
 unfold eP Mm;by_cases z:s=0
 .rw[aj z];lia
 .rw[ah z];have h0:=h.E0;have:=dy (hc z) (show 0<=w+2*K*s+2*K by have:=h.k0;have:=h.w0;lia);lia
def rD.KY (h:rD s Z K w KP):K<=w+2*K*s:=by
 by_cases z:s=0
 .have:=h.vM z;rw[z];lia
 .have:=a6 (show 1<=s by have:=h.s0;lia) (show 0<=2*K by have:=h.k0;lia);have:=h.w0;have:=h.k0;lia
def rD.TK (h:rD s Z K w KP):KP<=KP+s*(w+2*K*s+2*K):=by have h0:=h.E0;have:=dy h.s0 (show 0<=w+2*K*s+2*K by have:=h.k0;have:=h.w0;lia);lia
theorem pQ.up {E EP E' EP':Int}(h:pQ s Z E EP t)(h1:E<=E')(h2:EP<=EP'):pQ s Z E' EP' t:=#[h.bx.up h1 h1,by have:=h.len;lia,h.bp.up h2 h2]
structure Tw (s Z K w KP c:Int)(a:Pt)(P:Pq)(L:List eV):Prop where
 bx:nT s Z (eA s K w c) (eA s K w c) a
 bp:oP s (eP s K w KP c) (eP s K w KP c) P
 ge: ∀u∈L,c<=u.c ->pQ s Z K KP u
 lt: ∀u∈L,u.c<c ->pQ s Z (w+2*K*s) (KP+s*(w+2*K*s+2*K)) u
structure Ki (s Z K w KP c dr:Int)(a:Pt)(P:Pq)(L:List eV)(t:eV):Prop where
 mem:t∈L
 at_:t.c=c
 shr:t.len<dr
 dk:dr<=K
 col: ∀x,bZ s x=c ->look a x≠0 ->0<=hI s x /\ hI s x<=dr
 bx:nT s Z (eA s K w c+2*K - dr) (eA s K w c+2*K - dr) a
 bt:nT s Z (eA s K w c+2*K - t.len) (eA s K w c+2*K - dr) t.b
 bp:oP s (eP s K w KP c+(w+2*K*s)+2*K - dr) (eP s K w KP c+(w+2*K*s)+2*K - dr) P
 bq:oP s (eP s K w KP c+(w+2*K*s)+2*K - t.len) (eP s K w KP c+(w+2*K*s)+2*K - dr) t.Q
 gt: ∀u∈L,c<u.c ->pQ s Z K KP u
 lt: ∀u∈L,u.c<c ->pQ s Z (w+2*K*s) (KP+s*(w+2*K*s+2*K)) u
structure zO (s Z K w KP c:Int)(c1:Pt)(P1:Pq)(t:eV)(la lp:Int):Prop where
 bx:nT s Z la la c1
 bp:oP s lp lp P1
 low: ∀x,bZ s x=c ->look c1 x≠0 ->0<=hI s x /\ hI s x<t.len
variable {p:Int}{js:Pt}{ms:List Int}
def Tw.cut (h:rD s Z K w KP)(ph:Tw s Z K w KP c a P L)(vk:s≠0 ->0<=c)(GH:s≠0 ->c+1<=s)(ht:t∈L)(e:t.c=c)(l0:0<=t.len)(ga:GD p a) (lx:ms.Perm (oX s c (eC a))) (LG:ms.Pairwise (· <= ·)) (LQ: ∀j∈js, ∃h∈rO ms t.len,j.1=ji t.len h) (ej:s=0 -> ∀j∈js,j.1=0) (ec: ∀x,look c1 x=(look a x+dU (λsh=>look t.b (x - s*sh)) js) % p) (ep: ∀w x,look (pf P1 w) x=(look (pf P w) x+dU (λsh=>look (pf t.Q w) (x - sh)) js) % p) (low: ∀x,bZ s x=c ->look c1 x≠0 ->0<=hI s x /\ hI s x<t.len): zO s Z K w KP c c1 P1 t (eA s K w c+K) (eP s K w KP c+eA s K w c):=by
 have f:=ph.ge t ht (by lia);have hw:=h.low vk;have hk:=h.lowP vk;have w0:=h.w0;have k0:=h.k0;have hj:=yF (f:=c) (bl:= -(eA s K w c)) (bh:=eA s K w c) l0 LG (lx.nodup_iff.mpr (kO ga.1 h.s0)) (λm hm=>by let⟨x,hx,e1⟩:=ag.mp (lx.mem_iff.mp hm);have:=ph.bx.1 x (by have:=eG ga (aQ.mp hx).1;lia);lia) LQ;have HJ: ∀j∈js, -(eA s K w c) <=j.1 /\ j.1<=eA s K w c:=λj iX=>by have:=hj j iX;lia
 exact#[ph.bx.cut f.bx ec HJ ej (by lia) (by lia) (by lia) (by lia),ph.bp.cut f.bp ep HJ (by lia) (by lia) (by lia) (by lia),low]
def Ki.cut (h:rD s Z K w KP)(ph:Ki s Z K w KP c dr a P L t)(l0:0<=t.len)(ga:GD p a) (lx:ms.Perm (oX s c (eC a))) (LG:ms.Pairwise (· <= ·)) (LQ: ∀j∈js, ∃h∈rO ms t.len,j.1=ji t.len h) (ej:s=0 -> ∀j∈js,j.1=0) (ec: ∀x,look c1 x=(look a x+dU (λsh=>look t.b (x - s*sh)) js) % p) (ep: ∀w x,look (pf P1 w) x=(look (pf P w) x+dU (λsh=>look (pf t.Q w) (x - sh)) js) % p) (low: ∀x,bZ s x=c ->look c1 x≠0 ->0<=hI s x /\ hI s x<t.len): zO s Z K w KP c c1 P1 t (eA s K w c+2*K - t.len) (eP s K w KP c+(w+2*K*s)+2*K - t.len):=by
 have q:=ph.shr;have hj:=yF (f:=c) (bl:=0) (bh:=dr) l0 LG (lx.nodup_iff.mpr (kO ga.1 h.s0)) (λm hm=>by let⟨x,hx,e1⟩:=ag.mp (lx.mem_iff.mp hm);have:=ph.col x (by simpa using(aQ.mp hx).2) (by have:=eG ga (aQ.mp hx).1;lia);lia) LQ;have HJ: ∀j∈js, -0<=j.1 /\ j.1<=dr - t.len:=λj iX=>by have:=hj j iX;lia
 exact#[ph.bx.cut ph.bt ec HJ ej (by lia) (by lia) (by lia) (by lia),ph.bp.cut ph.bq ep HJ (by lia) (by lia) (by lia) (by lia),low]
def zO.on (h:rD s Z K w KP)(d:zO s Z K w KP c c1 P1 t la lp)(Gs:la<=eA s K w c+2*K)(W3:lp<=eP s K w KP c+(w+2*K*s)+2*K)(hc:c<c2)(DA: ∀u∈L,c<u.c ->pQ s Z K KP u)(fM: ∀u∈L,u.c<c ->pQ s Z (w+2*K*s) (KP+s*(w+2*K*s+2*K)) u)(tJ: ∀u∈L,u.c=c ->pQ s Z (w+2*K*s) (KP+s*(w+2*K*s+2*K)) u):Tw s Z K w KP c2 c1 P1 L:=by
 have h1:=h.step hc;have h2:=h.QR hc;refine#[d.bx.up (by lia) (by lia),d.bp.up (by lia) (by lia),λu hu hle=>DA u hu (by lia),λu hu hle=> ?_];rcases Int.lt_trichotomy u.c c with q | q | q
 .exact fM u hu q
 .exact tJ u hu q
 .exact(DA u hu q).up h.KY h.TK
def zO.turn (d:zO s Z K w KP c c1 P1 t la lp)(Gs:la<=eA s K w c+2*K - t.len)(W3:lp<=eP s K w KP c+(w+2*K*s)+2*K - t.len)(tk:t.len<=K)(N:Mn s c m tt c1)(ga:GD p c1)(hlen:t'.len=tt - m)(PY:t'.c=c)(mw:zK s p t.b c t.len t.foot)(W2:s=0 ->m=0)(hbt:nT s Z (eA s K w c+2*K - t.len) (eA s K w c+2*K - t.len) t.b)(hbq:oP s (eP s K w KP c+(w+2*K*s)+2*K - t.len) (eP s K w KP c+(w+2*K*s)+2*K - t.len) t.Q)(eb: ∀x,look t'.b x=look c1 (x+s*m)*tn % p)(eq: ∀w x,look (pf t'.Q w) x=look (pf P1 w) (x+m)*tn % p)(DA: ∀u∈L,c<u.c ->pQ s Z K KP u)(fM: ∀u∈L,u.c<c ->pQ s Z (w+2*K*s) (KP+s*(w+2*K*s+2*K)) u)(CF:t'∈gR L t'):Ki s Z K w KP c t.len t.b t.Q (gR L t') t':=by
 have hb: ∀h∈oX s c (eC c1),0<=h /\ h<t.len:=λh hh=>by let⟨x,hx,e1⟩:=ag.mp hh;have:=d.low x (by simpa using(aQ.mp hx).2) (by have:=eG ga (aQ.mp hx).1;lia);lia
 have h1:=hb _ N.lo;have h2:=hb _ N.hi;have h3:=N.bd _ N.lo;have b1:=d.bx.stood eb W2;have b2:=d.bp.stood (s:=s) eq;refine#[CF,PY,by lia,tk,λx hx dw=>mw.pI x dw hx,hbt,b1.up (by lia) (by lia),hbq,b2.up (by lia) (by lia),λu hu pI=> ?_,λu hu hl=> ?_]
 .rcases eT hu with e | ⟨e,_⟩
  .rw[e,PY] at pI;lia
  .exact DA u e pI
 .rcases eT hu with e | ⟨e,_⟩
  .rw[e,PY] at hl;lia
  .exact fM u e hl
end
structure TC (R S:Addr)(s p:Int)(pats:List Pt)(M0:Mp)(F0:List Addr)(G0:List Pt)(L0:List eV)(hd:Addr)(M:Mp)(r dr rl rp:Addr)(a:Pt)(P:Pq)(L:List eV):Prop where
 jY:Zk R S s p M hd r dr rl rp pats a P L
 kp:fo M0 M F0
 fr: ∀t∈L, ∀x∈t.adr,x∈F0 \/ M0 x=none
 S4: ∀x∈bY rl rp P,x∈F0 \/ M0 x=none
 sp: ∀f,dq s p G0 f ->dq s p (L.map (·.b)++ [a]) f
 len:L.length=L0.length
 key:L.map (·.c)=L0.map (·.c)
section
variable {R S:Addr}{s p:Int}{pats:List Pt}{M0 M M2 M3 M4 M5:Mp}{F0:List Addr}{G0:List Pt}{L0 L:List eV}{hd r dr rl rp:Addr}{a c1:Pt}{P P1:Pq}{js:Pt}{t:eV}
def fo.free (k:fo M0 M F)(h:M x=none):x∈F \/ M0 x=none:=by
 cases e:M0 x with
 | none=>exact .inr rfl
 | some u=>refine .inl (ar λhn=> ?_);rw[k x u e hn] at h;cases h
theorem vt (row:c6 p M rl rp a P)(h:M x=some (.ins C d fs)):x∉bY rl rp P:=λhx=>by let⟨kvs,e⟩:=row.mem hx;rw[h] at e;cases e
def TC.cut (tc:TC R S s p pats M0 F0 G0 L0 hd M r dr rl rp a P L)(ht:t∈L)(kY:c6 p M2 rl rp c1 P1)(ec: ∀x,look c1 x=(look a x+dU (λsh=>look t.b (x - s*sh)) js) % p) (ep: ∀w x,look (pf P1 w) x=(look (pf P w) x+dU (λsh=>look (pf t.Q w) (x - sh)) js) % p) (kp:fo M M2 (bY rl rp P)) (fr: ∀x∈bY rl rp P1,x∈bY rl rp P \/ M x=none) (hk: ∀w∈P1.map (·.1),w∈P.map (·.1) \/ w∈t.Q.map (·.1)): TC R S s p pats M0 F0 G0 L0 hd M2 r dr rl rp c1 P1 L:=by
 let⟨ins,fS,row,pe,tH,md,sX⟩:=tc.jY;have st:=fS.each t ht;refine#[#[kp _ _ ins (vt row ins),#[kp _ _ fS.tT tH,λu hu=>(fS.each u hu).keep kp (vt row (fS.each u hu).ins) (λx hx gY=>pe u hu x gY hx),fS.nd,fS.pe,fS.tH],kY,λu hu x hx gY=> ?_,λhx=> ?_,md.cut (sX t ht) row.Nx kY.Nx st.nd ec ep hk,sX],tc.kp.trans kp tc.S4,tc.fr,λx hx=> ?_,λf hf=> ?_,tc.len,tc.key]
 .rcases fr x hx with z | z
  .exact pe u hu x z gY
  .let⟨kvs,e⟩:=(fS.each u hu).row.mem gY;rw[z] at e;cases e
 .rcases fr hd hx with z | z
  .exact tH z
  .rw[fS.tT] at z;cases z
 .rcases fr x hx with z | z
  .exact tc.S4 x z
  .exact tc.kp.free z
 .refine(tc.sp f hf).trans λb hb=> ?_;rcases ax.mp hb with hb | hb
  .exact dq.of (ax.mpr (.inl hb))
  .rw[af.mp hb];exact dq.back (dq.of (ax.mpr (.inr (af.mpr rfl)))) (dq.of (ax.mpr (.inl (ag.mpr #[t,ht,rfl])))) ec
def TC.sm (tc:TC R S s p pats M0 F0 G0 L0 hd M r dr rl rp a P L)(sm:Sm M M2):TC R S s p pats M0 F0 G0 L0 hd M2 r dr rl rp a P L:=by let⟨i1,i2,i3,i4,i5,i6,i7⟩:=tc.jY;exact#[#[sm _ _ i1,#[sm _ _ i2.tT,λt ht=>(i2.each t ht).keep (fo.sm sm []) (λh=>by cases h) (λ_ _ h=>by cases h),i2.nd,i2.pe,i2.tH],i3.keep (fo.sm sm []) (λ_ _ h=>by cases h),i4,i5,i6,i7],tc.kp.trans (fo.sm sm []) (λ_ h=>by cases h),tc.fr,tc.S4,tc.sp,tc.len,tc.key]
def mD (h:t'.c∈L.map (·.c)):t'∈gR L t':=by let⟨u,hu,e⟩:=ag.mp h;exact ag.mpr #[u,hu,aj e]
theorem kF (h:u∈L)(ne:u.c≠t'.c):u∈gR L t':=ag.mpr #[u,h,ah ne]
def EJ (nd:(L.map (·.c)).Nodup)(h:L.Pairwise λt u=> ∀x∈t.adr,x∉u.adr)(hf: ∀u∈L, ∀x∈t'.adr,x∉u.adr):(gR L t').Pairwise λt u=> ∀x∈t.adr,x∉u.adr:=by
 unfold gR;rw[cx];have RB:L.Pairwise λa b=>a.c≠b.c:=cx.mp nd;refine(List.pairwise_and_iff.mpr #[h,RB] |>.imp_of_mem λ{u v} hu hv q=> ?_);by_cases z:u.c=t'.c
 .rw[aj z];by_cases y:v.c=t'.c
  .exact absurd (z.trans y.symm) q.2
  .rw[ah y];exact hf v hv
 .rw[ah z];by_cases y:v.c=t'.c
  .rw[aj y];exact λx hx gY=>hf u hu x gY hx
  .rw[ah y];exact q.1
def TC.turn (hp:p=2 \/ p=3 \/ p=5 \/ p=7)(tc:TC R S s p pats M0 F0 G0 L0 hd M r dr rl rp a P L)(PU:hd∈F0)(ht:t∈L)(hc:t'.c=t.c)(sm:Sm M M3)(ins:M3 t'.o=some (.ins S t'.ds [("lamps",wr t'.ol),("parts",wr t'.op),("first",wi t'.c),("length",wi t'.len),("foot",wi t'.foot)]))(BX:c6 p M3 t'.ol t'.op t'.b t'.Q)(mw:zK s p t'.b t'.c t'.len t'.foot)(t0:0<tn)(t1:tn<p)(eb: ∀x,look t'.b x=look a (x+s*m)*tn % p)(eq: ∀w x,look (pf t'.Q w) x=look (pf P w) (x+m)*tn % p)(fr: ∀x∈t'.o::t'.adr,M x=none)(hk: ∀w∈t'.Q.map (·.1),w∈P.map (·.1))(hD:D=k8 (gR L t'))(oB:um M3 hd (.dK D) r'=none): TC R S s p pats M0 F0 G0 L0 hd (um (um M3 hd (.dK D)) r' (.ins R dx [("lamps",wr t.ol),("parts",wr t.op)])) r' dx t.ol t.op t.b t.Q (gR L t'):=by
 subst hD;let⟨_,fS,row,pe,tH,md,sX⟩:=tc.jY;have Xs:hd≠r':=dM um_same oB;have UC:M3 r'=none:=by rw[aN (a9 Xs)] at oB;exact oB
 have OB:=sm _ _ fS.tT;have Po:fo M (um (um M3 hd (.dK (k8 (gR L t')))) r' (.ins R dx [("lamps",wr t.ol),("parts",wr t.op)])) [hd]:=λd o e nd=>by have e3:=sm _ _ e;rw[aN (dM e3 UC),aN (λz=>nd (af.mpr z))];exact e3
 have Pp: ∀ {d o},M3 d=some o ->d≠hd ->um (um M3 hd (.dK (k8 (gR L t')))) r' (.ins R dx [("lamps",wr t.ol),("parts",wr t.op)]) d=some o:=λe ne=>by rw[aN (dM e UC),aN ne];exact e
 have OQ: ∀x∈t'.o::t'.adr,x≠hd:=λx hx e=>by have:=fr x hx;rw[e,fS.tT] at this;cases this
 have st:=fS.each t ht;have NT: ∀ {x C d fs},M x=some (.ins C d fs) ->x∉ [hd]:=λe hx=>by rw[af.mp hx,fS.tT] at e;cases e
 have iV:t'.c∈L.map (·.c):=by rw[hc];exact ag.mpr #[t,ht,rfl]
 have YR: ∀u∈L,u.c=t'.c ->u=t:=λu hu e=>gI fS.nd hu ht (e.trans hc);have U0: ∀u∈L, ∀x∈t'.adr,x∉u.adr:=λu hu x hx gY=>by let⟨kvs,e⟩:=(fS.each u hu).row.mem gY;rw[fr x (aw _ hx)] at e;cases e
 refine#[#[um_same,#[by rw[aN Xs];exact um_same,λu hu=> ?_,by rw[ng];exact fS.nd,EJ fS.nd fS.pe U0,λu hu hx=> ?_],st.row.keep Po λx hx gY=>fS.tH t ht (by rw[af.mp gY] at hx;exact hx),λu hu x hx gY=> ?_,fS.tH t ht,sX t ht,λu hu=> ?_],tc.kp.trans Po λx hx=> .inl (by rw[af.mp hx];exact PU),λu hu x hx=> ?_,tc.fr t ht,λf hf=> ?_,by unfold gR;rw[aa];exact tc.len,by rw[ng];exact tc.key]
 .rcases eT hu with e | ⟨e,_⟩
  .rw[e];refine#[Pp ins (OQ _ aA),BX.same λd k9=> ?_,mw];let⟨kvs,e2⟩:=BX.mem k9;rw[Pp e2 (OQ d (aw _ k9)),e2]
  .exact(fS.each u e).keep Po (NT (fS.each u e).ins) λx hx gY=>fS.tH u e (by rw[af.mp gY] at hx;exact hx)
 .rcases eT hu with e | ⟨e,_⟩
  .rw[e] at hx;exact OQ hd (aw _ hx) rfl
  .exact fS.tH u e hx
 .rcases eT hu with e | ⟨e,ne⟩
  .rw[e] at gY;exact U0 t ht x gY hx
  .exact vq fS ht e (λz=>ne (by rw[hc,z])) x hx gY
 .rcases eT hu with e | ⟨e,_⟩
  .rw[e];exact md.stood row.Nx BX.Nx eb eq hk
  .exact sX u e
 .rcases eT hu with e | ⟨e,_⟩
  .rw[e] at hx;exact tc.kp.free (fr x (aw _ hx))
  .exact tc.fr u e x hx
 .refine(tc.sp f hf).trans λb hb=> ?_;have tI:dq s p ((gR L t').map (·.b)++ [t.b]) (look t'.b):=dq.of (ax.mpr (.inl (ag.mpr #[t',mD iV,rfl])));rcases ax.mp hb with hb | hb
  .let⟨u,hu,rfl⟩:=ag.mp hb;by_cases z:u.c=t'.c
   .rw[YR u hu z];exact dq.of (ax.mpr (.inr (af.mpr rfl)))
   .exact dq.of (ax.mpr (.inl (ag.mpr #[u,kF hu z,rfl])))
  .rw[af.mp hb];exact dq.zX hp t0 t1 tI eb
def TC.new (hp:p=2 \/ p=3 \/ p=5 \/ p=7)(tc:TC R S s p pats M0 F0 G0 L0 hd M r dr rl rp a P L)(PU:hd∈F0)(hc:t'.c∉L.map (·.c))(sm:Sm M M3)(ins:M3 t'.o=some (.ins S t'.ds [("lamps",wr t'.ol),("parts",wr t'.op),("first",wi t'.c),("length",wi t'.len),("foot",wi t'.foot)]))(BX:c6 p M3 t'.ol t'.op t'.b t'.Q)(mw:zK s p t'.b t'.c t'.len t'.foot)(t0:0<tn)(t1:tn<p)(eb: ∀x,look t'.b x=look a (x+s*m)*tn % p)(eq: ∀w x,look (pf t'.Q w) x=look (pf P w) (x+m)*tn % p)(fr: ∀x∈t'.o::t'.adr,M x=none)(hk: ∀w∈t'.Q.map (·.1),w∈P.map (·.1))(hD:D=k8 (L++ [t'])): me S s p (um M3 hd (.dK D)) hd (L++ [t']) /\ fo M0 (um M3 hd (.dK D)) F0 /\ (∀u∈L++ [t'], ∀x∈u.adr,x∈F0 \/ M0 x=none) /\ (∀f,dq s p G0 f ->dq s p ((L++ [t']).map (·.b)) f) /\ (∀u∈L++ [t'],oO s p pats u.b u.Q):=by
 subst hD;let⟨_,fS,row,pe,tH,md,sX⟩:=tc.jY;have Po:fo M (um M3 hd (.dK (k8 (L++ [t'])))) [hd]:=λd o e nd=>by rw[aN (λz=>nd (af.mpr z))];exact sm _ _ e
 have OQ: ∀x∈t'.o::t'.adr,x≠hd:=λx hx e=>by have:=fr x hx;rw[e,fS.tT] at this;cases this
 have NT: ∀ {x C d fs},M x=some (.ins C d fs) ->x∉ [hd]:=λe hx=>by rw[af.mp hx,fS.tT] at e;cases e
 have U0: ∀u∈L, ∀x∈t'.adr,x∉u.adr:=λu hu x hx gY=>by let⟨kvs,e⟩:=(fS.each u hu).row.mem gY;rw[fr x (aw _ hx)] at e;cases e
 have one: ∀u∈L++ [t'],u∈L \/ u=t':=λu hu=>(ax.mp hu).imp id af.mp;refine#[#[um_same,λu hu=> ?_,?_,?_,λu hu hx=> ?_],tc.kp.trans Po λx hx=> .inl (by rw[af.mp hx];exact PU),λu hu x hx=> ?_,λf hf=> ?_,λu hu=> ?_]
 .rcases one u hu with e | e
  .exact(fS.each u e).keep Po (NT (fS.each u e).ins) λx hx gY=>fS.tH u e (by rw[af.mp gY] at hx;exact hx)
  .rw[e];refine#[by rw[aN (OQ _ aA)];exact ins,BX.same λd k9=> ?_,mw];rw[aN (OQ d (aw _ k9))]
 .rw[aM];exact List.nodup_append.mpr #[fS.nd,by simp,λx hx y hy e=>hc (by rw[List.map_singleton] at hy;rw[<- af.mp hy, <- e];exact hx)]
 .refine cJ.mpr #[fS.pe,List.pairwise_singleton _ _,λu hu v hv x hx gY=> ?_];rw[af.mp hv] at gY;exact U0 u hu x gY hx
 .rcases one u hu with e | e
  .exact fS.tH u e hx
  .rw[e] at hx;exact OQ hd (aw _ hx) rfl
 .rcases one u hu with e | e
  .exact tc.fr u e x hx
  .rw[e] at hx;exact tc.kp.free (fr x (aw _ hx))
 .refine(tc.sp f hf).trans λb hb=> ?_;rw[aM];rcases ax.mp hb with hb | hb
  .exact dq.of (ax.mpr (.inl hb))
  .rw[af.mp hb];exact dq.zX hp t0 t1 (dq.of (ax.mpr (.inr (af.mpr rfl)))) eb
 .rcases one u hu with e | e
  .exact sX u e
  .rw[e];exact md.stood row.Nx BX.Nx eb eq hk
end
noncomputable def fW (s:Int)(a:Pt):W:=if eC a= [] then wn else wi (fE ((eC a).map (bZ s)))
noncomputable def mz (s Z K c:Int)(q:Nat):Nat:=rS s Z c*(K.toNat+2)+q
noncomputable def Ph (s Z K w KP:Int)(m:Nat)(a:Pt)(P:Pq)(L:List eV):Prop:=(eC a= [] -> ∀u∈L,pQ s Z (w+2*K*s) (KP+s*(w+2*K*s+2*K)) u) /\ (eC a≠ [] -> ∃c,c=fE ((eC a).map (bZ s)) /\ ((Tw s Z K w KP c a P L /\ m=mz s Z K c (K.toNat+1)) \/ ∃t dr,Ki s Z K w KP c dr a P L t /\ m=mz s Z K c t.len.toNat))
def IH (h:c<c2)(h1:s≠0 ->c+1<=s)(h2:s=0 ->c<=Z):rS s Z c2<rS s Z c:=by
 unfold rS;by_cases z:s=0
 .have:=h2 z;rw[aj z,aj z];lia
 .have:=h1 z;rw[ah z,ah z];lia
def RG (h:rS s Z c2<rS s Z c)(hq:q2<=K.toNat+1):mz s Z K c2 q2<mz s Z K c q:=by unfold mz;have:=Nat.mul_le_mul_right (K.toNat+2) (show rS s Z c2+1<=rS s Z c from h);rw[Nat.add_mul,Nat.one_mul] at this;lia
theorem Kc {L:List eV}(h:rD s Z K w KP)(DA: ∀u∈L,c<u.c ->pQ s Z K KP u)(fM: ∀u∈L,u.c<c ->pQ s Z (w+2*K*s) (KP+s*(w+2*K*s+2*K)) u)(tJ: ∀u∈L,u.c=c ->pQ s Z (w+2*K*s) (KP+s*(w+2*K*s+2*K)) u): ∀u∈L,pQ s Z (w+2*K*s) (KP+s*(w+2*K*s+2*K)) u:=λu hu=>by
 rcases Int.lt_trichotomy u.c c with q | q | q
 .exact fM u hu q
 .exact tJ u hu q
 .exact(DA u hu q).up h.KY h.TK
theorem IW (h:eC a= []):a= []:=List.map_eq_nil_iff.mp h
theorem zK.lit (h:zK s p b f len foot)(hp:1<p):look b f≠0:=λe=>by have:=h.bot;rw[e,bg,c9] at this;cases this
def OT (h:zK s p b f len foot)(hp:1<p)(g:GD p b):fW s b=wi f /\ eC b≠ [] /\ f=fE ((eC b).map (bZ s)):=by
 have hm:=cI (h.lit hp);have dw:eC b≠ []:=λe=>by rw[e] at hm;cases hm
 have e:f=fE ((eC b).map (bZ s)):=iT.uniq #[ag.mpr #[f,hm,h.ok.own],λx hx=>by let⟨y,hy,rfl⟩:=ag.mp hx;exact h.ge y (by have:=eG g hy;lia)] (fT (by simpa using dw));exact#[by rw[e];exact ah dw,dw,e]
def Gj (bx:nT s Z l h a)(g:GD p a)(hm:m∈oX s f (eC a)): -l<=m /\ m<=h:=by let⟨x,hx,e⟩:=ag.mp hm;rw[<- e];exact bx.1 x (by have:=eG g (aQ.mp hx).1;lia)
def LC (hm:m∈oX s f (eC a))(z:s=0):m=0:=by let⟨x,hx,e⟩:=ag.mp hm;rw[<- e,z];exact ny x
def qU (hu:M u=some (.lst ((eC a).map wi)))(hl:(eC a).length<=16000000)(s0:0<=s)(s8:s<=8)(h:F (fW s a) M):Hg Fw [wr u,wi s] M F:=by unfold fW at h;exact#[u,eC a,s,rfl,hu,hl,s0,by lia,λe=>by rwa [aj e] at h,λe=>by rwa [ah e] at h]
noncomputable def eV.DI (u:eV)(b:Pt)(Q:Pq):eV:=#[u.c,u.o,u.ds,u.ol,u.op,u.len,u.foot,b,Q]
structure LL (S:Addr)(s p:Int)(pats:List Pt)(M0:Mp)(L0:List eV)(hd:Addr)(M:Mp)(L:List eV):Prop where
 held:me S s p M hd L
 sX: ∀t∈L,oO s p pats t.b t.Q
 kp:fo M0 M (L0.flatMap (·.adr))
 fr: ∀t∈L, ∀x∈t.adr,x∈L0.flatMap (·.adr) \/ M0 x=none
 sp: ∀f,dq s p (L0.map (·.b)) f ->dq s p (L.map (·.b)) f
 key:L.map (·.c)=L0.map (·.c)
 ln: ∀t∈L, ∀u∈L0,t.c=u.c ->t.len=u.len
section
variable {S:Addr}{s p:Int}{pats:List Pt}{M0 M M2:Mp}{L0 L:List eV}{hd:Addr}{c1:Pt}{P1:Pq}{js:Pt}{u t:eV}
def zK.Y1 (h:zK s p b f len foot)(hf:f<fc)(e: ∀x,bZ s x<fc ->look c1 x=look b x):zK s p c1 f len foot:=by
 have at_: ∀k,look c1 (f+k*s)=look b (f+k*s):=λk=>e _ (by rw[h.ok.on];exact hf);refine#[h.ok,h.l0,h.s0,λx hx=> ?_,λx hx hc=> ?_,by rw[at_];exact h.top,?_,h.ft]
 .rcases Int.lt_or_le (bZ s x) fc with q | q
  .exact h.ge x (by rw[<- e x q];exact hx)
  .lia
 .exact h.pI x (by rw[<- e x (by lia)];exact hx) hc
 .have:=at_ 0;rw[bg,bE] at this;rw[this];exact h.bot
def GF (hu:u∈L)(nd:(L.map (·.c)).Nodup)(hc:u'.c=u.c)(ho:u'.o=u.o):k8 (gR L u')=k8 L:=by
 unfold k8 gR;rw[aE];refine bD λv hv=> ?_;show((Sum.inl (if v.c=u'.c then u' else v).c:Key),wr (if v.c=u'.c then u' else v).o)=((Sum.inl v.c:Key),wr v.o)
 by_cases z:v.c=u'.c
 .rw[aj z];have:v=u:=gI nd hv hu (z.trans hc);rw[this,hc,ho]
 .rw[ah z]
def LL.cut (ll:LL S s p pats M0 L0 hd M L)(hu:u∈L)(ht:t∈L)(fM:u.c<t.c)(kY:c6 p M2 u.ol u.op c1 P1)(ec: ∀x,look c1 x=(look u.b x+dU (λsh=>look t.b (x - s*sh)) js) % p) (ep: ∀w x,look (pf P1 w) x=(look (pf u.Q w) x+dU (λsh=>look (pf t.Q w) (x - sh)) js) % p) (el: ∀x,bZ s x<t.c ->look c1 x=look u.b x) (kp:fo M M2 u.adr) (fr: ∀x∈bY u.ol u.op P1,x∈u.adr \/ M x=none) (hk: ∀w∈P1.map (·.1),w∈u.Q.map (·.1) \/ w∈t.Q.map (·.1)): LL S s p pats M0 L0 hd M2 (gR L (u.DI c1 P1)):=by
 let⟨fS,sX,RP,zz,sp,key,ln⟩:=ll;have su:=fS.each u hu;have st:=fS.each t ht;have iV:u.c∈L.map (·.c):=ag.mpr #[u,hu,rfl];have RD: ∀v∈L,v.c≠u.c -> ∀x∈bY u.ol u.op P1,x∉v.adr:=λv hv ne x hx gY=>by
  rcases fr x hx with z | z
  .exact vq fS hu hv (a9 ne) x z gY
  .let⟨kvs,e⟩:=(fS.each v hv).row.mem gY;rw[z] at e;cases e
 refine#[#[by rw[GF (u':=u.DI c1 P1) hu fS.nd rfl rfl];exact kp _ _ fS.tT (fS.tH u hu),λv hv=> ?_,by rw[ng];exact fS.nd,?_,λv hv hx=> ?_],λv hv=> ?_,RP.trans kp λx hx=>zz u hu x hx,λv hv x hx=> ?_,λf hf=> ?_,by rw[ng];exact key,λv hv w hw e=> ?_]
 .rcases eT hv with e | ⟨e,ne⟩
  .rw[e];exact#[kp _ _ su.ins (vt su.row su.ins),kY,su.mw.Y1 fM el]
  .exact(fS.each v e).keep kp (vt su.row (fS.each v e).ins) λx hx gY=>vq fS e hu ne x hx gY
 .unfold gR;rw[cx];have RB:L.Pairwise λa b=>a.c≠b.c:=cx.mp fS.nd;refine(List.pairwise_and_iff.mpr #[fS.pe,RB] |>.imp_of_mem λ{v w} hv hw q=> ?_);by_cases z:v.c=u.c
  .rw[aj (show v.c=(u.DI c1 P1).c from z)];by_cases y:w.c=u.c
   .exact absurd (z.trans y.symm) q.2
   .rw[ah (show ¬w.c=(u.DI c1 P1).c from y)];exact RD w hw y
  .rw[ah (show ¬v.c=(u.DI c1 P1).c from z)];by_cases y:w.c=u.c
   .rw[aj (show w.c=(u.DI c1 P1).c from y)];exact λx hx gY=>RD v hv z x gY hx
   .rw[ah (show ¬w.c=(u.DI c1 P1).c from y)];exact q.1
 .rcases eT hv with e | ⟨e,_⟩
  .rw[e] at hx;rcases fr hd hx with z | z
   .exact fS.tH u hu z
   .rw[fS.tT] at z;cases z
  .exact fS.tH v e hx
 .rcases eT hv with e | ⟨e,_⟩
  .rw[e];exact(sX u hu).cut (sX t ht) su.nd kY.Nx st.nd ec ep hk
  .exact sX v e
 .rcases eT hv with e | ⟨e,_⟩
  .rw[e] at hx;rcases fr x hx with z | z
   .exact zz u hu x z
   .exact RP.free z
  .exact zz v e x hx
 .refine(sp f hf).trans λb hb=> ?_;let⟨v,hv,rfl⟩:=ag.mp hb;have h1:dq s p ((gR L (u.DI c1 P1)).map (·.b)) (look c1):=dq.of (ag.mpr #[_,mD iV,rfl]);have h2:dq s p ((gR L (u.DI c1 P1)).map (·.b)) (look t.b):=dq.of (ag.mpr #[t,kF ht (show t.c≠u.c by lia),rfl]);by_cases z:v.c=u.c
  .rw[gI fS.nd hv hu z];exact dq.back h1 h2 ec
  .exact dq.of (ag.mpr #[v,kF hv z,rfl])
 .rcases eT hv with e2 | ⟨e2,_⟩
  .rw[e2] at e ⊢;exact ln u hu w hw e
  .exact ln v e2 w hw e
noncomputable def Kp (s c E:Int)(b:Pt):Prop:= ∀x,bZ s x=c ->look b x≠0 -> -E<=hI s x /\ hI s x<=E
noncomputable def rF (s c len:Int)(b:Pt):Prop:= ∀x,bZ s x=c ->look b x≠0 ->0<=hI s x /\ hI s x<len
theorem Kp.cut (ha:Kp s c E a)(hb:rF s c lt b)(ec: ∀x,look c1 x=(look a x+dU (λsh=>look b (x - s*sh)) js) % p)(hj: ∀j∈js, -jl<=j.1 /\ j.1<=jh)(HK:s=0 -> ∀j∈js,j.1=0)(h1:E<=E')(h2:jl<=E')(h3:lt+jh<=E'):Kp s c E' c1:=λx hx dw=>by
 by_cases z:look a x=0
 .let⟨j,iX,q⟩: ∃j∈js,look b (x - s*j.1)≠0:=ar λhn=>dw (by rw[ec,z,fI λj iX=>ar λhq=>hn #[j,iX,hq]];rfl);have h4:=hb (x - s*j.1) (by rw[gP];exact hx) q;have h5:=hj j iX;by_cases y:s=0
  .have h6:=HK y j iX;rw[y,ny] at h4 ⊢;lia
  .rw[kj y] at h4;lia
 .have:=ha x hx z;lia
end
noncomputable def gv (L:List eV)(c:Int):Int:=match L.find? (λt=>decide (t.c=c)) with
 | some t=>t.len
 | none=>0
def AM (nd:(L.map (·.c)).Nodup)(h:t∈L):gv L t.c=t.len:=by unfold gv;rw[sF nd h]
noncomputable def jC (l:List Int):Int:=l.foldr (· + ·) 0
def mC (h: ∀x∈l,0<=x): ∀k,0<=jC (l.take k) /\ jC (l.take k) <=jC l:=by
 induction l with
 | nil=>intro k;simp[jC]
 | cons a r ih=>
  intro k;cases k with
  | zero=>
   have:=(ih (λx hx=>h x (aw _ hx)) r.length)
   rw[cb] at this;have:=h a aA;show 0<=(0:Int) /\ (0:Int) <=a+jC r;lia
  | succ k=>have:=ih (λx hx=>h x (aw _ hx)) k;have:=h a aA;show 0<=a+jC (r.take k) /\ a+jC (r.take k) <=a+jC r;lia
def EE (l:List Int)(a:Int):jC (l++ [a])=jC l+a:=by
 induction l with
 | nil=>show a+0=0+a;lia
 | cons b r ih=>show b+jC (r++ [a])=b+jC r+a;rw[ih];lia
def EF (h: ∀x∈l,0<=x)(k:Nat):jC (l.drop k) <=jC l:=by
 induction l generalizing k with
 | nil=>simp
 | cons a r ih=>
  cases k with
  | zero=>exact aT _
  | succ k=>have:=ih (λx hx=>h x (aw _ hx)) k;have:=h a aA;show jC (r.drop k) <=a+jC r;lia
def v9 (h:a.Perm b):jC a=jC b:=by
 induction h with
 | nil=>rfl
 | cons x _ ih=>show x+_=x+_;rw[show List.foldr (· + ·) 0 _=jC _ from rfl,ih];rfl
 | swap x y l=>show y+(x+jC l)=x+(y+jC l);lia
 | trans _ _ h1 h2=>exact h1.trans h2
def FU {L:List eV}(nd:(L.map (·.c)).Nodup):(L.map (·.c)).map (gv L)=L.map (·.len):=by rw[aE];exact bD λt ht=>AM nd ht
section
variable {S:Addr}{s p:Int}{pats:List Pt}{M0 M M2:Mp}{L0 L:List eV}{hd:Addr}
def LL.sm (h:LL S s p pats M0 L0 hd M L)(sm:Sm M M2):LL S s p pats M0 L0 hd M2 L:=by let⟨i2,i3,i4,i5,i6,i7,i8⟩:=h;exact#[#[sm _ _ i2.tT,λt ht=>(i2.each t ht).keep (fo.sm sm []) (λh=>by cases h) (λ_ _ h=>by cases h),i2.nd,i2.pe,i2.tH],i3,i4.trans (fo.sm sm []) (λ_ h=>by cases h),i5,i6,i7,i8]
theorem LL.init (h:me S s p M hd L)(md: ∀t∈L,oO s p pats t.b t.Q):LL S s p pats M L hd M L:=#[h,md,λd o e _=>e,λt ht x hx=> .inl (List.mem_flatMap.mpr #[t,ht,hx]),λf hf=>hf,rfl,λt ht u hu e=>by rw[gI h.nd ht hu e]]
def LL.gv (h:LL S s p pats M0 L0 hd M L)(nd:(L0.map (·.c)).Nodup)(ht:t∈L):t.len=gv L0 t.c:=by
 have:t.c∈L0.map (·.c):=by rw[<- h.key];exact ag.mpr #[t,ht,rfl]
 let⟨u,hu,e⟩:=ag.mp this;rw[<- e,AM nd hu];exact h.ln t ht u hu e.symm
def LL.get (h:LL S s p pats M0 L0 hd M L){c:Int}(hc:c∈L0.map (·.c)): ∃t∈L,t.c=c:=by rw[<- h.key] at hc;exact ag.mp hc
def yx (nd:(L.map (·.c)).Nodup)(h:t∈L):fh (k8 L) (.inl t.c)=some (wr t.o):=by rw[yy,sF nd h];rfl
end
def G9 (l:List W)(k:Nat):pO l (some ((k:Nat):Int)) none=l.drop k:=by
 unfold pO;rw[HT.EU,HT.Iy];rcases Nat.le_total k l.length with h | h
 .rw[Nat.min_eq_left h,List.take_of_length_le (by rw[List.length_drop];exact ao _)]
 .rw[Nat.min_eq_right h,List.drop_length,List.take_nil,List.drop_of_length_le h]
def iC {cs:List Int}(h:cs.Pairwise (· < ·)){i j:Nat}(hi:cs[i]? =some a)(hj:cs[j]? =some b)(gK:i<j):a<b:=by let⟨g1,g2⟩:=ai.mp hi;let⟨g3,g4⟩:=ai.mp hj;rw[<- g2, <- g4];exact bw.mp h i j g1 g3 gK
def Cz {cs:List Int}(h:cs.Pairwise (· < ·)){i j:Nat}(hi:cs[i]? =some a)(hj:cs[j]? =some b)(GK:a<b):i<j:=by
 rcases Nat.lt_trichotomy i j with q | q | q
 .exact q
 .subst q;rw[hi] at hj;cases hj;lia
 .have:=iC h hj hi q;lia
noncomputable def Jd (R S:Addr):jS:=λxs M q=>HU λ(hd:Addr) (p s Z E EP Λ:Int) (pats:List Pt)=> ∃ (L:List eV),uk (xs= [wi p,wi s,wr hd]) (p=2 \/ p=3 \/ p=5 \/ p=7) (0<=s) (s<=8) (me S s p M hd L) (∀t∈L,oO s p pats t.b t.Q) (∀t∈L,pQ s Z E EP t) (uk (0<=Z) (0<=E) (0<=EP) (pats.length<=100) (L.length<=13) (jC (L.map (·.len)) <=Λ) (Z+8*(E+14*(E+Λ)+1) <=1000000) (EP+14*(E+Λ) <=1000000 /\ ∀M' L',LL S s p pats M L hd M' L' ->(∀t∈L', ∀u∈L',t.c<u.c ->rF s u.c u.len t.b) ->(∀t∈L',nT s Z (E+L.length*(E+Λ)) (E+L.length*(E+Λ)) t.b /\ oP s (EP+L.length*(E+Λ)) (EP+L.length*(E+Λ)) t.Q) ->q wn M'))
def f' (p0:0<p)(g:GD p b)(x:Int):look (iU p b) x=look b x:=by rw[kh p0,fZ g.1,fF p0 g]
def Ah {t:eV}(hp:1<p)(g:GD p t.b)(h:zK s p t.b t.c t.len t.foot)(w:Wt D t.b):Sr s p (iU p t.b) t.c t.len D:=by
 have p0:0<p:=by lia
 have e:=f' p0 g;have gn:=qD (gN p0 t.b);refine#[gN p0 _,h.ok,h.l0,h.s0,λx hx=>h.ge x ?_,λx hx hc=>h.pI x ?_ hc,cI (by rw[e];exact h.lit hp),by rw[e];exact h.top,λx hx=>w x (by rw[<- e];exact hx)]
 .have:=eG gn hx;rw[e] at this;lia
 .have:=eG gn hx;rw[e] at this;lia
structure Ord (L Ls:List eV):Prop where
 perm:Ls.Perm L
 Ar:Ls.Pairwise λa b=>a.c<b.c
def qE (L:List eV)(nd:(L.map (·.c)).Nodup): ∃Ls,Ord L Ls:=by refine#[L.mergeSort λa b=>decide (a.c<=b.c),List.mergeSort_perm _ _,?_];have h1:=List.pairwise_mergeSort (le:=λa b:eV=>decide (a.c<=b.c)) (λa b c h1 h2=>by simp![dh] at*;lia) (λa b=>by simp![Bool.or_eq_true,dh];lia) L;have h2:((L.mergeSort λa b=>decide (a.c<=b.c)).map (·.c)).Nodup:=((List.mergeSort_perm L _).map (·.c)).nodup_iff.mpr nd;have h3:=cx.mp h2;exact(List.pairwise_and_iff.mpr #[h1,h3]).imp λh=>by have:=h.1;simp![dh] at this;have:=h.2;lia
section
variable {S:Addr}{s p D:Int}{M:Mp}{hd:Addr}{L Ls:List eV}
noncomputable def fB (p:Int)(Ls:List eV):List Pt:=Ls.map λt=>iU p t.b
def qp (hp:1<p)(h:me S s p M hd L)(o:Ord L Ls)(w: ∀t∈L,Wt D t.b)(hl: ∀t∈L,t.len<3000000):qe s p (fB p Ls) D:=by
 have sr: ∀t∈Ls,Sr s p (iU p t.b) t.c t.len D:=λt ht=>Ah hp (h.each t (o.perm.mem_iff.mp ht)).row.ga (h.each t (o.perm.mem_iff.mp ht)).mw (w t (o.perm.mem_iff.mp ht));have get: ∀ {i st},(fB p Ls)[i]? =some st -> ∃t:eV,Ls[i]? =some t /\ st=iU p t.b:=λ{i st} e=>by
  unfold fB at e;rw[ay] at e;cases e2:Ls[i]? with
  | none=>rw[e2] at e;cases e
  | some t=>rw[e2] at e;cases e;exact#[t,e2,rfl]
 refine#[λi st hi=> ?_,λi j st bG c len c' ze gK hi hj h1 h2=> ?_]
 .let⟨t,ht,rfl⟩:=get hi;exact#[_,_,sr t (au ht),hl t (o.perm.mem_iff.mp (au ht))]
 .let⟨t,ht,rfl⟩:=get hi;let⟨t',nW,rfl⟩:=get hj;rw[(h1.uniq (sr t (au ht))).1,(h2.uniq (sr t' (au nW))).1];let⟨g1,g2⟩:=ai.mp ht;let⟨g3,g4⟩:=ai.mp nW;rw[<- g2, <- g4];exact bw.mp o.Ar i j g1 g3 gK
def z4 (hp:1<p)(h:me S s p M hd L)(o:Ord L Ls)(w: ∀t∈L,Wt D t.b)(low: ∀t∈L, ∀u∈L,t.c<u.c ->rF s u.c u.len t.b):Trim s p (fB p Ls) D:=by
 intro i j st bG c len gK hi hj Nd x hx dw;unfold fB at hi hj;rw[ay] at hi hj;cases e1:Ls[i]? with
 | none=>rw[e1] at hi;cases hi
 | some t=>
  cases e2:Ls[j]? with
  | none=>rw[e2] at hj;cases hj
  | some t'=>
   rw[e1] at hi;rw[e2] at hj;cases hi;cases hj;have m1:=o.perm.mem_iff.mp (au e1);have m2:=o.perm.mem_iff.mp (au e2);have e3:=Nd.uniq (Ah hp (h.each t' m2).row.ga (h.each t' m2).mw (w t' m2));have fM:t.c<t'.c:=by let⟨g1,g2⟩:=ai.mp e1;let⟨g3,g4⟩:=ai.mp e2;rw[<- g2, <- g4];exact bw.mp o.Ar i j g1 g3 gK
   rw[e3.2];exact low t m1 t' m2 fM x (by rw[hx,e3.1]) (by rw[<- f' (by lia) (h.each t m1).row.ga];exact dw)
theorem nq (p0:0<p)(h:me S s p M hd L)(o:Ord L Ls)(hf:dq s p (L.map (·.b)) f):dq s p (fB p Ls) f:=hf.trans λb hb=>by let⟨t,ht,rfl⟩:=ag.mp hb;refine(dq.of (ag.mpr #[t,o.perm.mem_iff.mpr ht,rfl])).ext λx=> ?_;rw[f' p0 (h.each t ht).row.ga]
structure Base (s p w:Int)(pats bs:List Pt)(L:List eV):Prop where
 len:bs.length=L.length
 ind:s≠0 ->Indep s p bs
 of: ∀b∈bs,b∈pats
def IJ {w:Nat}(hp:p=2 \/ p=3 \/ p=5 \/ p=7)(s0:0<s)(h:me S s p M hd L)(hw: ∀t∈L,Wt D t.b)(hl: ∀t∈L,t.len<3000000)(low: ∀t∈L, ∀u∈L,t.c<u.c ->rF s u.c u.len t.b)(B:Base s p w pats bs L)(iV: ∀b∈bs,dq s p (L.map (·.b)) (look b))(hb: ∀b∈bs, ∀x,look b x≠0 -> -(w:Int) <=hI s x /\ hI s x<=w)(ht:t∈L)(hx:look t.b x≠0): -((2*L.length*w:Nat):Int) <=hI s x /\ hI s x<=((2*L.length*w:Nat):Int):=by
 let⟨Ls,o⟩:=qE L h.nd;have e:(fB p Ls).length=L.length:=by unfold fB;rw[aa];exact o.perm.length_eq
 have:=E2 hp s0 (qp (by lia) h o hw hl) (z4 (by lia) h o hw low) (by rw[B.len,e]) (B.ind (by lia)) (λb tI=>nq (by lia) h o (iV b tI)) hb (t:=iU p t.b) (ag.mpr #[t,o.perm.mem_iff.mpr ht,rfl]) (x:=x) (by rw[f' (by lia) (h.each t ht).row.ga];exact hx);rw[e] at this;exact this
def Nk (h: ∀x∈l,0<=x):jC l=(((l.map Int.toNat).sum:Nat):Int):=by
 induction l with
 | nil=>rfl
 | cons a r ih=>
  show a+jC r=_
  rw[ih λx hx=>h x (aw _ hx),aK,List.sum_cons]
  have:=h a aA
  push_cast;lia
def FW {w:Nat}(hp:p=2 \/ p=3 \/ p=5 \/ p=7)(s0:0<s)(h:me S s p M hd L)(hw: ∀t∈L,Wt D t.b)(hl: ∀t∈L,t.len<3000000)(B:Base s p w pats bs L)(iV: ∀b∈bs,dq s p (L.map (·.b)) (look b))(hb: ∀b∈bs, ∀x,look b x≠0 -> -(w:Int) <=hI s x /\ hI s x<=w):jC (L.map (·.len)) <=((2*L.length*w:Nat):Int):=by
 let⟨Ls,o⟩:=qE L h.nd;have e:(fB p Ls).length=L.length:=by unfold fB;rw[aa];exact o.perm.length_eq
 have:=AO hp s0 (qp (by lia) h o hw hl) (by rw[B.len,e]) (B.ind (by lia)) (λb tI=>nq (by lia) h o (iV b tI)) hb;rw[e] at this;rw[<- v9 (o.perm.map (·.len)),Nk λx hx=>by let⟨t,ht,rfl⟩:=ag.mp hx;exact((h.each t (o.perm.mem_iff.mp ht)).mw).l0];have e2:((fB p Ls).map λst=>(fi s st).toNat)=(Ls.map (·.len)).map Int.toNat:=by unfold fB;rw[aE,aE];refine bD λt ht=> ?_;have m:=o.perm.mem_iff.mp ht;show(fi s (iU p t.b)).toNat=t.len.toNat;rw[(Ah (by lia) (h.each t m).row.ga (h.each t m).mw (hw t m)).ja]
 rw[e2] at this;exact Int.ofNat_le.mpr this
def Jg {w:Nat}(ht:t∈L)(h0: ∀u∈L,0<=u.len):t.len<=jC (L.map (·.len)):=by
 induction L with
 | nil=>cases ht
 | cons a r ih=>
  show t.len<=a.len+jC (r.map (·.len));have h1:=(mC (l:=r.map (·.len)) (λx hx=>by let⟨u,hu,rfl⟩:=ag.mp hx;exact h0 u (aw _ hu)) 0)
  have h2:=h0 a aA;rcases av.mp ht with rfl | ht
  .show t.len<=_;have:0<=jC (r.map (·.len)):=by simp[jC] at h1;exact h1
   lia
  .have:=ih ht λu hu=>h0 u (aw _ hu);lia
end
noncomputable def RO:Nat ->Int
 | 0=>0
 | i+1=>RO i+(9*(332+272*(i:Int))+((i:Int)+1)*(256+544*(i:Int)))
def N8: ∀i:Nat,i<=8 ->0<=RO i /\ RO i<=193056:=by decide
noncomputable def vK (s:Int)(i:Nat):Int:=if s=0 then 0 else RO i
def F5 (s:Int)(i:Nat)(h:i<=8):0<=vK s i /\ vK s i<=193056:=by unfold vK;have:=N8 i h;split<;>lia
structure Vf (S:Addr)(s p Z:Int)(w:Nat)(pats:List Pt)(i:Nat)(M:Mp)(hd:Addr)(L:List eV)(bs:List Pt):Prop where
 held:me S s p M hd L
 md: ∀t∈L,oO s p (pats.take i) t.b t.Q
 low: ∀t∈L, ∀u∈L,t.c<u.c ->rF s u.c u.len t.b
 sp: ∀pt∈pats.take i,dq s p (L.map (·.b)) (look pt)
 base:Base s p w (pats.take i) bs L
 bz:s=0 -> ∀t∈L,Wt Z t.b
 bp: ∀t∈L,oP s (vK s i) (vK s i) t.Q
 fin: ∀t∈L,Wt 1000000 t.b /\ t.len<3000000
 len:L.length<=i
structure Hq (s p Z:Int)(w:Nat)(pats:List Pt):Prop where
 pat: ∀pt∈pats,d7 p pt /\ nT s Z w w pt
 len:pats.length<=8
 hp:p=2 \/ p=3 \/ p=5 \/ p=7
 s0:0<=s
 s8:s<=8
 z0:0<=Z
 z1:Z<=10000
 T':s=0 ->w=0
 w60:w<=60
 sw:s*w<=68
section
variable {S:Addr}{s p Z:Int}{w:Nat}{pats bs:List Pt}{M:Mp}{hd:Addr}{L:List eV}{i:Nat}
def vx (h:me S s p M hd L)(s0:0<s):(L.length:Int) <=s:=by
 have:=iA (l:=yz 0 s.toNat) h.nd λc hc=>by
  let⟨t,ht,rfl⟩:=ag.mp hc;rcases (h.each t ht).mw.ok with z | z
  .lia
  .exact mY.mpr (by lia)
 rw[aa] at this;unfold yz at this;rw[aa,bI] at this;lia
def Lo (P:Hq s p Z w pats){m:Nat}(hm:s≠0 ->(m:Int) <=s):(m:Int)*w<=68:=by
 by_cases z:s=0
 .rw[P.T' z];simp
 .have:=bf (hm z) (show 0<=(w:Int) by lia);have:=P.sw;lia
theorem Vf.lz (P:Hq s p Z w pats)(h:Vf S s p Z w pats i M hd L bs): ∀t∈L,pQ s Z (2*((L.length:Int)*w)) (vK s i) t:=λt ht=>by
 have W8: ∀u∈L,0<=u.len:=λu hu=>(h.held.each u hu).mw.l0;by_cases z:s=0
 .have e:=P.T' z;rw[e];refine#[#[λx _=>by rw[z,ny];simp,λ_=>h.bz z t ht],by rw[(h.held.each t ht).mw.s0 z];simp,h.bp t ht]
 .have s1:0<s:=by have:=P.s0;lia
  have hb: ∀b∈bs,b∈pats:=λb hb=>List.mem_of_mem_take (h.base.of b hb);have hw: ∀b∈bs, ∀x,look b x≠0 -> -(w:Int) <=hI s x /\ hI s x<=w:=λb tI x hx=>(P.pat b (hb b tI)).2.1 x hx;have iV: ∀b∈bs,dq s p (L.map (·.b)) (look b):=λb tI=>h.sp b (h.base.of b tI);have h1:=λ{x} hx=>IJ (D:=1000000) P.hp s1 h.held (λt ht=>(h.fin t ht).1) (λt ht=>(h.fin t ht).2) h.low h.base iV hw ht (x:=x) hx;have h2:=FW (D:=1000000) P.hp s1 h.held (λt ht=>(h.fin t ht).1) (λt ht=>(h.fin t ht).2) h.base iV hw;have h3:=Jg (w:=w) ht W8;have e:((2*L.length*w:Nat):Int)=2*((L.length:Int)*w):=by push_cast;rw[dz]
  rw[e] at h2;refine#[#[λx hx=>by have:=h1 hx;rw[e] at this;exact this,λq=>absurd q z],by lia,h.bp t ht]
def iE {l:List Pt}(h:n<k):(l.take k).getD n []=l.getD n []:=by rw[aC,aC,List.getElem?_take_of_lt h]
def oO.more (h:oO s p (pats.take i) b Q)(hi:i<pats.length):oO s p (pats.take (i+1)) b Q:=by
 have l1:(pats.take i).length=i:=by rw[bu];lia
 have l2:(pats.take (i+1)).length=i+1:=by rw[bu];lia
 refine#[λx=> ?_,λw hw=>by have:=h.key w hw;rw[l1] at this;rw[l2];push_cast;lia];rw[h.is,l1,l2];have hno:pf Q (i:Int)= []:=p6 λhm=>by have:=h.key _ hm;rw[l1] at this;lia
 have: ∀n,n<=i ->nU s (pats.take i) Q x n=nU s (pats.take (i+1)) Q x n:=λn=>by
  induction n with
  | zero=>intro _;rfl
  | succ n ih=>intro hn;rw[nU,nU,ih (by lia),iE (by lia),iE (by lia)]
 rw[nU,hno,this i (ao _)];show _=(_+0) % p;rw[bE]
def oO.first (p0:0<p)(hi:pats[i]? =some pt):oO s p (pats.take (i+1)) pt [((i:Int),q,[(0,1)])]:=by
 have hl:=(ai.mp hi).1;have l2:(pats.take (i+1)).length=i+1:=by rw[bu];lia
 refine#[λx=> ?_,λw hw=>by rw[List.map_singleton,af] at hw;rw[l2,hw];push_cast;lia];rw[l2,nU];have h0: ∀n,n<=i ->nU s (pats.take (i+1)) [((i:Int),q,[(0,1)])] x n=0:=λn=>by
  induction n with
  | zero=>intro _;rfl
  | succ n ih=>
   intro hn;have:pf [((i:Int),q,[((0:Int),(1:Int))])] (n:Int)= []:=p6 λhm=>by rw[List.map_singleton,af] at hm;have:(n:Int)=i:=hm;lia
   rw[nU,ih (by lia),this];rfl
 have e:pf [((i:Int),q,[((0:Int),(1:Int))])] (i:Int)= [(0,1)]:=by simp[pf]
 rw[h0 i (ao _),e,iE (Nat.lt_succ_self _),kQ hi];show _=(0+(look pt (x - s*0)*1+0)) % p;rw[cW,Int.sub_zero,dm,bE,bB]
def Dc {M1:Mp}(P:Hq s p Z w pats)(h:Vf S s p Z w pats i M hd L bs)(hi:pats[i]? =some pt)(nr:me S s p M1 hd L1)(zA: ∀t∈L1,Wt 1000000 t.b /\ t.len<3000000)(Us: ∀t∈L1,oO s p (pats.take (i+1)) t.b t.Q)(hlen:L1.length<=L.length+1)(qT: ∀c∈L.map (·.c),c∈L1.map (·.c)): ∃Y',Base s p w (pats.take (i+1)) Y' L1:=by
 have hl:=(ai.mp hi).1;have DA:=iA h.held.nd qT;rw[aa,aa] at DA;have oA: ∀b∈pats.take i,b∈pats.take (i+1):=λb hb=>by rw[bC];exact ax.mpr (.inl hb)
 have oC:pt∈pats.take (i+1):=by rw[bC,hi];exact ax.mpr (.inr (af.mpr rfl))
 have p0:0<p:=by have:=P.hp;lia
 have p1:1<p:=by have:=P.hp;lia
 by_cases e:L1.length=L.length
 .exact#[bs,by rw[e];exact h.base.len,h.base.ind,λb hb=>oA b (h.base.of b hb)]
 .refine#[bs++ [pt],by rw[aH,cC,h.base.len];lia,λz=> ?_,λb hb=> ?_]
  .have s1:0<s:=by have:=P.s0;lia
   let⟨Ls,o⟩:=qE L h.held.nd;let⟨Ls1,o1⟩:=qE L1 nr.nd;have e1:(fB p Ls).length=L.length:=by unfold fB;rw[aa];exact o.perm.length_eq
   have e2:(fB p Ls1).length=L1.length:=by unfold fB;rw[aa];exact o1.perm.length_eq
   refine zr P.hp s1 (qp p1 h.held o (λt ht=>(h.fin t ht).1) λt ht=>(h.fin t ht).2) (qp p1 nr o1 (λt ht=>(zA t ht).1) λt ht=>(zA t ht).2) (h.base.ind z) (λb hb=>nq p0 h.held o (h.sp b (h.base.of b hb))) (by rw[e1,e2];lia) λst kP=> ?_;let⟨t,ht,rfl⟩:=ag.mp kP;have pG:=o1.perm.mem_iff.mp ht;have m:=Us t pG;have l2:(pats.take (i+1)).length=i+1:=by rw[bu];lia
   refine#[pf t.Q i,(dq.f7 (sts:=pats.take i) (sts':=fB p Ls) (λb hb=>nq p0 h.held o (h.sp b hb)) (λn=>pf t.Q n) i (by rw[bu];lia)).ext λx=> ?_];rw[f' p0 (nr.each t pG).row.ga,Int.sub_emod,m.is,l2,nU,iE (Nat.lt_succ_self _),kQ hi, <- Int.sub_emod];have: ∀n,n<=i ->nU s (pats.take (i+1)) t.Q x n=f7 s (pats.take i) (λn=>pf t.Q n) x n:=λn=>by
    induction n with
    | zero=>intro _;rfl
    | succ n ih=>intro hn;rw[nU,f7,ih (by lia),iE (by lia),iE (by lia)]
   rw[this i (ao _)];congr 1;lia
  .rcases ax.mp hb with hb | hb
   .exact oA b (h.base.of b hb)
   .rw[af.mp hb];exact oC
end
structure Zu (s p Z:Int)(w:Nat)(pats sts:List Pt)(Ps:List Pq):Prop where
 gF:qe s p sts 1000000
 trim:Trim s p sts 1000000
 sp: ∀pt∈pats,dq s p sts (look pt)
 len:Ps.length=sts.length
 OR:sts.length<=pats.length
 md: ∀ (k:Nat) st P,sts[k]? =some st ->Ps[k]? =some P ->oO s p pats st P /\ (P.map (·.1)).Nodup /\ (∀t∈P,GD p t.2.2) /\ oP s (vK s pats.length) (vK s pats.length) P
 bx: ∀st∈sts,nT s Z (2*((sts.length:Int)*w)) (2*((sts.length:Int)*w)) st /\ fi s st<=2*((sts.length:Int)*w)
 cols:s≠0 ->(sts.length:Int) <=s
noncomputable def NH:jS:=λxs M q=>XE6 λ(u:Addr) (p s Z:Int) (w:Nat) (pats:List Pt)=>vD (xs= [wi p,wi s,wr u]) (M u=some (.lst (pats.map fG))) (Hq s p Z w pats) (∀ (M':Mp) (v:Addr) (as:List Addr) (sts:List Pt) (Ps:List Pq),Zu s p Z w pats sts Ps ->Sm M M' ->M v=none ->M' v=some (.lst (as.map wr)) ->as.length=sts.length ->(∀ (k:Nat) a P,as[k]? =some a ->Ps[k]? =some P -> ∃tl:List Part,tl.Perm (vU p 1 P) /\ M' a=some (.lst (tl.map mS))) ->q (.tup [.tup (sts.map fG),wr v]) M')
theorem Ao (h:Sm M0 M)(k:fo M M' F)(hf: ∀x∈F,M0 x=none):Sm M0 M':=λd o e=>k d o (h d o e) λhx=>by rw[hf d hx] at e;cases e
end WQ
namespace L2
open PySem
def AE (hK:X.K=K)(he:PE X e ta)(hb:attributeBase e f X.env (eval e X.env)=eval e X.env):PE X (.Attribute e f pos) (MW K ta f):=by subst hK;exact d9 he hb
noncomputable def Nt (K:PySem.W.Frag):R2:=λx y H Q=>E5 K x y H Q \/ wB K x y H Q
theorem Jz:BK X (Nt X.K):=cY.or eh
end L2
namespace WL
open PySem L2
section
variable {K:PySem.W.Frag}
noncomputable def Vl:vP:=λx y M q=>Ib x y M q \/ Ia x y M q
instance:IR K (Nt K) Vl where
 imp:=by
  rintro x y v u M H q Q m r1 r2 (h | h) k
  .exact .inl ((inferInstance:IR K (E5 K) Ib).imp _ _ _ _ _ _ _ _ m r1 r2 h k)
  .exact .inr ((inferInstance:IR K (wB K) Ia).imp _ _ _ _ _ _ _ _ m r1 r2 h k)
end
end WL
namespace WQ
open PySem L2 WL WP
noncomputable def lG (s p:Int)(A B:List Pt):Prop:=(∀a∈A,dq s p B (look a)) /\ ∀b∈B,dq s p A (look b)
section
variable {s p D:Int}{A B C sts sts':List Pt}
theorem lG.refl:lG s p A A:=#[λ_ h=>dq.of h,λ_ h=>dq.of h]
theorem lG.trans (h:lG s p A B)(h':lG s p B C):lG s p A C:=#[λa ha=>(h.1 a ha).trans h'.1,λc hc=>(h'.2 c hc).trans h.2]
def Bl (hp:p=2 \/ p=3 \/ p=5 \/ p=7)(s0:0<=s)(gF:qe s p sts D)(h:dq s p sts g)(low:TJ s p sts D g)(x:Int):g x % p=0:=by let⟨J,hJ⟩:=h;rw[hJ];exact Aj hp s0 gF hJ low x
def AN (p0:0<p)(h:d7 p st)(hx:look st x≠0):look st x % p≠0:=by have:=jG p0 h x;rw[cX this.1 this.2];exact hx
theorem Sr.lit (h:Sr s p st c len D):look st c≠0:=λe=>by let⟨z,hz,e2⟩:=ag.mp h.bot;have:=(h.pat.1 z hz).1;rw[<- e2,ju h.pat.2 hz] at e;lia
def BB (hp:p=2 \/ p=3 \/ p=5 \/ p=7)(s0:0<=s)(gF:qe s p sts D)(iF:qe s p sts' D)(h: ∀a∈sts,dq s p sts' (look a))(hc:c∈sts.map (dF s)):c∈sts'.map (dF s):=by
 let⟨st,kP,rfl⟩:=ag.mp hc;have sr:=gF.of kP;refine xB hp s0 iF (h st kP) (λx hx=> ?_) #[dF s st,sr.ok.own,AN (by lia) sr.pat sr.lit];have:look st x=0:=ar λhn=>by have:=sr.ge x (cI hn);lia
 rw[this];exact c9 _
def BA (gF:qe s p sts D):(sts.map (dF s)).Pairwise (· < ·):=by rw[cx,bw];intro i j hi hj gK;exact gF.Ar i j _ _ _ _ _ _ gK (ae hi) (ae hj) (gF.of (bK _)) (gF.of (bK _))
def C1 (hp:p=2 \/ p=3 \/ p=5 \/ p=7)(s0:0<=s)(gF:qe s p sts D)(iF:qe s p sts' D)(e:lG s p sts sts'):sts.map (dF s)=sts'.map (dF s):=by
 have u:=BA gF;have u':=BA iF;have nd:(sts.map (dF s)).Nodup:=u.imp λh e=>by lia
 have RB:(sts'.map (dF s)).Nodup:=u'.imp λh e=>by lia
 refine AK (u.imp λh=>by lia) (u'.imp λh=>by lia) ((List.perm_ext_iff_of_nodup nd RB).mpr λc=>#[BB hp s0 gF iF e.1,BB hp s0 iF gF e.2])
def sU (hp:p=2 \/ p=3 \/ p=5 \/ p=7)(s0:0<=s)(gF:qe s p sts D)(iF:qe s p sts' D)(TY:Trim s p sts' D)(h: ∀a∈sts',dq s p sts (look a))(ec: ∀ (j:Nat) a b,sts[j]? =some a ->sts'[j]? =some b ->dF s a=dF s b)(hl:sts.length=sts'.length)(hi:sts[i]? =some st)(ly:sts'[i]? =some bG)(ej: ∀ (j:Nat) a b,i<j ->sts[j]? =some a ->sts'[j]? =some b ->fi s a=fi s b):fi s st<=fi s bG:=by
 refine ar λhn=> ?_;have Nd:=iF.of (au ly);have hz:=Bl hp s0 gF (h bG (au ly)) (λj a c len hj sr x hx dw=> ?_) (dF s bG)
 .exact AN (by lia) Nd.pat Nd.lit hz
 .have Wm:look bG x≠0:=λe=>dw (by show look bG x % p=0;rw[e];exact c9 _);have Uy:=cI Wm;let⟨b,hb⟩: ∃b,sts'[j]? =some b:=#[_,ae (by have:=(ai.mp hj).1;lia)]
  have e1:=ec j a b hj hb;rw[sr.kS] at e1;rcases Nat.lt_trichotomy j i with q | q | q
  .have h1:=iF.Ar j i _ _ _ _ _ _ q hb ly (iF.of (au hb)) Nd;have h2:=Nd.ge x Uy;lia
  .subst q;rw[ly] at hb;cases hb;rw[hi] at hj;cases hj;have h1:=Nd.pI x Uy (by rw[hx,e1]);rw[sr.ja] at hn;lia
  .have h1:=TY i j _ _ _ _ q ly hb (iF.of (au hb)) x (by rw[hx,e1]) Wm;have h2:=ej j a b q hj hb;rw[sr.ja] at h2;lia
def FC (hp:p=2 \/ p=3 \/ p=5 \/ p=7)(s0:0<=s)(gF:qe s p sts D)(iF:qe s p sts' D)(tr:Trim s p sts D)(TY:Trim s p sts' D)(e:lG s p sts sts'):sts=sts':=by
 have em:=C1 hp s0 gF iF e;have hl:sts.length=sts'.length:=by have:=congrArg List.length em;rwa [aa,aa] at this
 have ec: ∀ (j:Nat) a b,sts[j]? =some a ->sts'[j]? =some b ->dF s a=dF s b:=λj a b ha hb=>by have:=congrArg (λl=>l[j]?) em;simp![ay,ha,hb,Option.map_some,Option.some.injEq] at this;exact this
 have U5: ∀ (j:Nat) a b,sts'[j]? =some a ->sts[j]? =some b ->dF s a=dF s b:=λj a b ha hb=>(ec j b a hb ha).symm;have el: ∀ (n i:Nat) a b,sts.length - i=n ->sts[i]? =some a ->sts'[i]? =some b ->fi s a=fi s b:=λn=>by
  induction n using Nat.strongRecOn with
  | ind n ih=>intro i a b hn ha hb;have hi:=(ai.mp ha).1;have later: ∀ (j:Nat) a b,i<j ->sts[j]? =some a ->sts'[j]? =some b ->fi s a=fi s b:=λj a b gK ha hb=>ih (sts.length - j) (by have:=(ai.mp ha).1;lia) j a b rfl ha hb;have h1:=sU hp s0 gF iF TY e.2 ec hl ha hb later;have h2:=sU hp s0 iF gF tr e.1 U5 hl.symm hb ha λj a b gK ha hb=>(later j b a gK hb ha).symm;lia
 refine List.ext_getElem? λi=> ?_;by_cases hi:i<sts.length
 .obtain⟨a,ha⟩: ∃a,sts[i]? =some a:=#[_,ae hi]
  let⟨b,hb⟩: ∃b,sts'[i]? =some b:=#[_,ae (by lia)]
  rw[ha,hb];congr 1;have QW:=gF.of (au ha);have QV:=iF.of (au hb);have e1:=ec i a b ha hb;have e2:=el _ i a b rfl ha hb;refine uX QW.pat QV.pat λx=> ?_;have iV:dq s p sts λx=>look a x+look b x*(-1):=(dq.of (au ha)).add ((e.2 b (au hb)).mul (-1));have hz:=Bl hp s0 gF iV (λj u c len hj sr y hy dw=> ?_) x
  .have h1:=jG (p:=p) (by lia) QW.pat x;have h2:=jG (p:=p) (by lia) QV.pat x;have jT:(look a x - look b x) % p=0:=by rw[<- hz];congr 1;lia
   have:=cA.mpr jT;rwa [cX h1.1 h1.2,cX h2.1 h2.2] at this
  .have So:look a y≠0 \/ look b y≠0:=by
    by_cases z:look a y=0
    .refine .inr λz'=>dw ?_;show(look a y+look b y* -1) % p=0;rw[z,z'];exact c9 _
    .exact .inl z
   let⟨v,hv⟩: ∃v,sts'[j]? =some v:=#[_,ae (by have:=(ai.mp hj).1;lia)]
   have c1:=ec j u v hj hv;have l1:=el _ j u v rfl hj hv;rw[sr.kS] at c1;rw[sr.ja] at l1;rcases Nat.lt_trichotomy j i with q | q | q
   .have h1:=gF.Ar j i _ _ _ _ _ _ q hj ha sr QW;rcases So with z | z
    .have:=QW.ge y (cI z);lia
    .have:=QV.ge y (cI z);lia
   .subst q;rw[ha] at hj;cases hj;have c0:=sr.kS;have l0:=sr.ja;have hb2:0<=hI s y /\ hI s y<=len:=by
     rcases So with z | z
     .have:=QW.pI y (cI z) (by lia);lia
     .have:=QV.pI y (cI z) (by lia);lia
    refine#[hb2.1,ar λhnl=>dw ?_];have hh:hI s y=len:=by lia
    have Py:=l7 s0 hy;rw[hh] at Py;have t1:=sr.top;have t2:=QV.top;rw[<- e1, <- e2,c0,l0] at t2;show(look a y+look b y* -1) % p=0;rw[Py,t1,t2];exact c9 _
   .rcases So with z | z
    .exact tr i j _ _ _ _ q ha hj sr y hy z
    .have:=TY i j _ _ _ _ q hb hv (iF.of (au hv)) y (by lia) z;lia
 .rw[cD (by lia),cD (by lia)]
end
section
variable {s p Z k n:Int}{w i j:Nat}{pats:List Pt}{a b:Pt}
theorem vd:dq s p G (look []):=dq.zero
end
def oO.ins {s p:Int}{pats:List Pt}{b:Pt}{Q:Pq}(h:oO s p pats b Q):dq s p pats (look b):=by
 refine#[λn=>pf Q n,λx=> ?_];rw[h.is];have: ∀n,nU s pats Q x n=f7 s pats (λn=>pf Q n) x n:=λn=>by
  induction n with
  | zero=>rfl
  | succ n ih=>rw[nU,f7,ih]
 rw[this]
noncomputable def sZ (k:Int):List Int ->Pt
 | []=> []
 | v::r=>(k,v)::sZ (k+1) r
noncomputable def lp (l:List Int):Pt:=sZ 0 l
theorem xa (x:Int): ∀ (l:List Int) (k:Int),look (sZ k l) x=if k<=x then l.getD (x - k).toNat 0 else 0
 | [],k=>by show(0:Int)=_;simp
 | v ::r,k=>by
  rw[sZ,look];by_cases e:k=x
  .rw[aj e,aj (by lia),show(x - k).toNat=0 by lia];rfl
  .rw[ah e,xa x r (k+1)];by_cases h:k+1<=x
   .rw[aj h,aj (by lia),show(x - k).toNat=(x - (k+1)).toNat+1 by lia];rfl
   .rw[ah h,ah (by lia)]
def iw (l:List Int)(x:Int):look (lp l) x=if 0<=x then l.getD x.toNat 0 else 0:=by have:=xa x l 0;rwa [Int.sub_zero] at this
theorem FR: ∀ (l:List Int) (k:Int),(sZ k l).Pairwise (λa b=>a.1<b.1) /\ ∀z∈sZ k l,k<=z.1
 | [],k=>#[.nil,λ_ h=>by cases h]
 | v ::r,k=>by
  let⟨h1,h2⟩:=FR r (k+1);refine#[a4.mpr #[λz hz=> ?_,h1],λz hz=> ?_]
  .have:=h2 z hz;show k<z.1;lia
  .rcases av.mp hz with rfl | q
   .exact aT _
   .have:=h2 z q;lia
theorem yE (l:List Int)(x:Int):dH (lp l) x=look (lp l) x:=mq (FR l 0).1 x
theorem p8: ∀ (l:List Int) (k:Int),(sZ k l).length=l.length
 | [],_=>rfl
 | _::r,k=>by rw[sZ,aG,aG,p8 r]
section
variable {s p:Int}{A A' B C D G:Pt}{L L':List Pt}
def JX (h: ∀x,look A x % p=look A' x % p):lG s p [A,G] [A',G]:=by
 refine#[λa ha=> ?_,λa ha=> ?_]
 .rcases av.mp ha with rfl | q
  .exact(dq.of (st:=A') (by simp)).ext λx=>h x
  .rw[af.mp q];exact dq.of (by simp)
 .rcases av.mp ha with rfl | q
  .exact(dq.of (st:=A) (by simp)).ext λx=>(h x).symm
  .rw[af.mp q];exact dq.of (by simp)
theorem xI:lG s p [A,B] [B,A]:=#[λa ha=>dq.of (by simp at ha ⊢;exact ha.symm),λa ha=>dq.of (by simp at ha ⊢;exact ha.symm)]
def JY:lG s p [A,[]] [A]:=by
 refine#[λa ha=> ?_,λa ha=> ?_]
 .rcases av.mp ha with rfl | q
  .exact dq.of (by simp)
  .rw[af.mp q];exact vd
 .rw[af.mp ha];exact dq.of (by simp)
theorem dq.sub (h:dq s p L f)(hs: ∀a∈L,a∈L'):dq s p L' f:=h.trans λa ha=>dq.of (hs a ha)
def GX (h:lG s p L [A])(h':lG s p [B] [C]):lG s p (L++ [B]) [A,C]:=by
 refine#[λa ha=> ?_,λa ha=> ?_]
 .rcases ax.mp ha with q | q
  .exact(h.1 a q).sub (by simp)
  .exact(h'.1 a q).sub (by simp)
 .rcases av.mp ha with rfl | q
  .exact(h.2 a (by simp)).sub λx hx=>List.mem_append_left _ hx
  .exact(h'.2 a q).sub λx hx=>aV _ hx
def GZ (h: ∀x,look B x=look A (x+f)):lG 1 p [A] [B]:=by
 refine#[λa ha=> ?_,λa ha=> ?_]
 .rw[af.mp ha];refine((dq.of (st:=B) (sts:= [B]) (by simp)).shift f).ext λx=> ?_;rw[h];congr 2;lia
 .rw[af.mp ha];refine((dq.of (st:=A) (sts:= [A]) (by simp)).shift (-f)).ext λx=> ?_;rw[h];congr 2;lia
end
def Ca (h: ∀n:Nat,ms.getD n 0 % p=(l.getD n 0 - if gap<=n then m*g.getD (n - gap) 0 else 0) % p):lG 1 p [lp l,lp g] [lp ms,lp g]:=by
 have key: ∀x,look (lp ms) x % p=(look (lp l) x - look (lp g) (x - 1*(gap:Int))*m) % p:=λx=>by
  rw[iw,iw,iw];by_cases c:0<=x
  .rw[aj c,aj c,h];by_cases e:gap<=x.toNat
   .rw[aj e,aj (by lia),show(x - 1*(gap:Int)).toNat=x.toNat - gap by lia,bN]
   .rw[ah e,ah (by lia),bg]
  .rw[ah c,ah c,ah (by lia)];simp
 refine#[λa ha=> ?_,λa ha=> ?_]
 .rcases av.mp ha with rfl | q
  .refine((dq.of (st:=lp ms) (by simp)).add (((dq.of (st:=lp g) (by simp)).shift gap).mul m)).ext λx=> ?_;rw[bJ,key, <- bJ];congr 1;lia
  .rw[af.mp q];exact dq.of (by simp)
 .rcases av.mp ha with rfl | q
  .refine((dq.of (st:=lp l) (by simp)).add (((dq.of (st:=lp g) (by simp)).shift gap).mul (-m))).ext λx=> ?_;rw[key];congr 1;rw[Int.mul_neg];lia
  .rw[af.mp q];exact dq.of (by simp)
noncomputable def ND:jS:=λxs M q=>oM λ(p:Int) (a g:List Int)=>uk (xs= [wi p,gQ a,gQ g]) (p=2 \/ p=3 \/ p=5 \/ p=7) (gX p a) (gX p g) (a.length<=1000) (g.length<=1000) (g≠ []) (∀r,gX p r ->r.length<g.length ->lG 1 p [lp a,lp g] [lp g,lp r] ->q (gQ r) M)
noncomputable def NI:jS:=λxs M q=>oM λ(p Z:Int) (pat:Pt)=>Ke (xs= [fG pat]) (p=2 \/ p=3 \/ p=5 \/ p=7) (d7 p pat) (Wt Z pat) (0<=Z) (Z<=100) (∀r,gX p r ->(r.length:Int) <=2*Z+1 ->lG 1 p [pat] [lp r] ->q (gQ r) M)
noncomputable def NJ:jS:=λxs M q=>oM λ(p:Int) (x:W) (l:List Int)=>DE (xs= [wi p,x]) (x=gQ l \/ ∃u,x=wr u /\ M u=some (.lst (l.map wi))) (0<p) (p<1000) (l.length<=1000) (q (fG (iU p (lp l))) M)
noncomputable def Fx:jS:=λxs M q=>oM λ(p:Int) (u:Addr) (pats:List Pt)=>DE (xs= [wi p,wr u]) (M u=some (.lst (pats.map fG))) (p=2 \/ p=3 \/ p=5 \/ p=7) (∀pt∈pats,d7 p pt /\ Wt 100 pt) (pats.length<=1000) (∀r,gX p r ->r.length<=1000 ->lG 1 p pats [lp r] ->q (gQ r) M)
def zY (hp:p=2 \/ p=3 \/ p=5 \/ p=7)(c0:0<c)(c1:c<p): ∃t,iY (((List.range (p - 1).toNat).filter λk:Nat=>decide ((1+(k:Int))*c % p=1)).map λk:Nat=>wi (1+(k:Int))) 0=some (wi t) /\ 1<=t /\ t<p /\ t*c % p=1:=by
 rcases hp with rfl | rfl | rfl | rfl
 .have:c=1:=by lia
  subst this;exact#[1,rfl,by decide,by decide,by decide]
 .have:c=1 \/ c=2:=by lia
  rcases this with rfl | rfl
  .exact#[1,rfl,by decide,by decide,by decide]
  .exact#[2,rfl,by decide,by decide,by decide]
 .have:c=1 \/ c=2 \/ c=3 \/ c=4:=by lia
  rcases this with rfl | rfl | rfl | rfl
  .exact#[1,rfl,by decide,by decide,by decide]
  .exact#[3,rfl,by decide,by decide,by decide]
  .exact#[2,rfl,by decide,by decide,by decide]
  .exact#[4,rfl,by decide,by decide,by decide]
 .have:c=1 \/ c=2 \/ c=3 \/ c=4 \/ c=5 \/ c=6:=by lia
  rcases this with rfl | rfl | rfl | rfl | rfl | rfl
  .exact#[1,rfl,by decide,by decide,by decide]
  .exact#[4,rfl,by decide,by decide,by decide]
  .exact#[5,rfl,by decide,by decide,by decide]
  .exact#[2,rfl,by decide,by decide,by decide]
  .exact#[3,rfl,by decide,by decide,by decide]
  .exact#[6,rfl,by decide,by decide,by decide]
def Ec {p x t c:Int}(p0:0<p)(h:t*c % p=1):(x - x*t*c) % p=0:=by rw[dz,Int.sub_emod,bT,h,dm,cq,Int.sub_self];rfl
def kl {l:List Int}(h:l.length<=n):l.getD n 0=0:=by rw[aC,cD h];rfl
def JW:lG 1 p [lp l,lp g] [lp g,lp (D9 p l)]:=by
 refine(JX λx=> ?_).trans xI;rw[iw,iw];by_cases c:0<=x
 .rw[aj c,aj c,Il,cq]
 .rw[ah c,ah c]
theorem sY: ∀ (l:List Int) (k:Int),sZ k l=(List.range l.length).map λi:Nat=>(k+(i:Int),l.getD i 0)
 | [],k=>rfl
 | v ::r,k=>by
  rw[sZ,sY r (k+1),aG,List.range_succ_eq_map,aK,aE];congr 1
  .show(k,v)=(k+0,v);rw[bE]
  .apply bD;intro i _;show(k+1+(i:Int),r.getD i 0)=(k+((i+1:Nat):Int),(v::r).getD (i+1) 0)
   rw[Int.natCast_add,Int.add_assoc,Int.add_comm 1];rfl
def w6 (l:List Int):(lp l).map cQ=(List.range l.length).map λk:Nat=>cQ ((k:Int),l.getD k 0):=by unfold lp;rw[sY,aE];apply bD;intro i _;show cQ (0+(i:Int),l.getD i 0)=_;rw[bB]
theorem u5: ∀ (a b:List Int) (k:Int),sZ k (a++b)=sZ k a++sZ (k+a.length) b
 | [],b,k=>by show sZ k b= []++sZ (k+((0:Nat):Int)) b;simp
 | v::r,b,k=>by show(k,v)::sZ (k+1) (r++b)=(k,v)::(sZ (k+1) r++sZ (k+((r.length+1:Nat):Int)) b);rw[u5 r b (k+1),Int.natCast_add,Int.add_assoc,Int.add_comm 1];rfl
theorem sv (x:Int): ∀ (n:Nat) (k:Int),dH (sZ k (List.replicate n 0)) x=0
 | 0,_=>rfl
 | n+1,k=>by show(if k=x then(0:Int) else 0)+dH (sZ (k+1) (List.replicate n 0)) x=0;rw[sv x n];split<;>rfl
noncomputable def fC (f:Int)(acc:List Int)(z:Int×Int):List Int:=acc++List.replicate (z.1 - f - acc.length).toNat 0++ [z.2]
theorem BG {f:Int}(x:Int): ∀ (rest:Pt) (acc:List Int) (seen:Pt),rest.Pairwise (λa b=>a.1<b.1) ->(∀z∈rest,(acc.length:Int) <=z.1 - f) ->dH (lp acc) x=dH seen (x+f) ->dH (lp (rest.foldl (fC f) acc)) x=dH (seen++rest) (x+f)
 | [],acc,seen,_,_,h=>by rw[List.append_nil];exact h
 | z ::r,acc,seen,hs,hl,h=>by
  have h0:=hl z aA;have e:(fC f acc z).length=(z.1 - f).toNat+1:=by unfold fC;rw[aH,aH,cj,cC];lia
  have ht:dH (lp (fC f acc z)) x=dH (seen++ [z]) (x+f):=by
   unfold lp fC;rw[u5,u5,fA,fA,fA,sv,bE];show dH (lp acc) x+((if 0+((acc++List.replicate (z.1 - f - acc.length).toNat 0).length:Int)=x then z.2 else 0)+0)=dH seen (x+f)+((if z.1=x+f then z.2 else 0)+0);rw[h,aH,cj];by_cases c:z.1=x+f
   .rw[aj c,aj (by lia)]
   .rw[ah c,ah (by lia)]
  have:=BG x r (fC f acc z) (seen++ [z]) (a4.mp hs).2 (λz' jT=>by have:=(a4.mp hs).1 z' jT;rw[e];lia) ht;rw[bQ] at this;exact this
theorem BH {f p:Int}(p0:0<p): ∀ (rest:Pt) (acc:List Int),(∀z∈rest,0<z.2 /\ z.2<p) ->gX p acc ->gX p (rest.foldl (fC f) acc)
 | [],_,_,h=>h
 | z ::r,acc,hz,h=>by
  refine BH p0 r _ (λz' jT=>hz z' (aw _ jT)) #[λx hx=> ?_,λx hx=> ?_]
  .have h1:=hz z aA;unfold fC at hx;rcases ax.mp hx with q | q
   .rcases ax.mp q with q | q
    .exact h.1 x q
    .rw[List.eq_of_mem_replicate q];exact#[aT _,p0]
   .rw[af.mp q];lia
  .unfold fC at hx;rw[List.getLast?_append] at hx;have h1:=hz z aA;simp at hx;lia
theorem vC {f:Int}{B:Nat}: ∀ (rest:Pt) (acc:List Int),(∀z∈rest,z.1 - f+1<=(B:Int)) ->acc.length+1<=B \/ acc.length<=B /\ rest= [] \/ (∀z∈rest,(acc.length:Int) <=z.1 - f) /\ acc.length<=B ->rest.Pairwise (λa b=>a.1<b.1) ->(∀z∈rest,(acc.length:Int) <=z.1 - f) ->(rest.foldl (fC f) acc).length<=B
 | [],acc,_,h,_,_=>by show acc.length<=B;lia
 | z ::r,acc,hb,h,hs,hl=>by
  have h0:=hl z aA;have h1:=hb z aA;have e:(fC f acc z).length=(z.1 - f).toNat+1:=by unfold fC;rw[aH,aH,cj,cC];lia
  have k7: ∀z'∈r,((fC f acc z).length:Int) <=z'.1 - f:=λz' jT=>by have:=(a4.mp hs).1 z' jT;rw[e];lia
  exact vC r _ (λz' jT=>hb z' (aw _ jT)) (.inr (.inr #[k7,by rw[e];lia])) (a4.mp hs).2 k7
def Dd {pat:Pt}{r:Pt}(p0:0<p)(e:pat=z0::r)(h:d7 p pat)(hw:Wt Z pat):gX p (pat.foldl (fC z0.1) []) /\ ((pat.foldl (fC z0.1) []).length:Int) <=2*Z+1 /\ lG 1 p [pat] [lp (pat.foldl (fC z0.1) [])]:=by
 have hm: ∀z∈pat, -Z<=z.1 /\ z.1<=Z:=λz hz=>hw z.1 (by rw[ju h.2 hz];have:=h.1 z hz;lia);have h0:=hm z0 (by rw[e];exact aA);have hl: ∀z∈pat,(([]:List Int).length:Int) <=z.1 - z0.1:=λz hz=>by
  have hs:=h.2;rw[e] at hz hs;rcases av.mp hz with rfl | q
  .show(0:Int) <=_;lia
  .have:=(a4.mp hs).1 z q;show(0:Int) <=_;lia
 refine#[BH p0 pat [] (λz hz=>by have:=h.1 z hz;lia) (kM p),?_,GZ (f:=z0.1) λx=> ?_]
 .have:=vC (B:=(2*Z+1).toNat) pat [] (λz hz=>by have:=hm z hz;lia) (.inr (.inr #[hl,by simp])) h.2 hl;lia
 .rw[<- yE,BG x pat [] [] h.2 hl rfl];show dH pat (x+z0.1)=_;rw[mq h.2]
def Kb {pat:Pt}{r:Pt}(e:pat=z0::r)(h:d7 p pat)(hw:Wt Z pat)(hZ:Z<=100)(i:Nat):((pat.take i).foldl (fC z0.1) []).length<=201:=by
 have hm: ∀z∈pat, -Z<=z.1 /\ z.1<=Z:=λz hz=>hw z.1 (by rw[ju h.2 hz];have:=h.1 z hz;lia);have h0:=hm z0 (by rw[e];exact aA);have hl: ∀z∈pat.take i,(([]:List Int).length:Int) <=z.1 - z0.1:=λz hz=>by
  have hz:=List.mem_of_mem_take hz;have hs:=h.2;rw[e] at hz hs;rcases av.mp hz with rfl | q
  .show(0:Int) <=_;lia
  .have:=(a4.mp hs).1 z q;show(0:Int) <=_;lia
 exact vC (B:=201) _ [] (λz hz=>by have:=hm z (List.mem_of_mem_take hz);lia) (.inr (.inr #[hl,by simp])) (h.2.sublist (List.take_sublist _ _)) hl
theorem Nj (h:Sm M M')(ht:M t=none):Sm M (um M' t o):=λb u e=>by rw[aN (λz=>by rw[z,ht] at e;cases e)];exact h b u e
def BC (x:Int):bZ 1 x=0:=by
 rcases rn (s:=1) (x:=x) (by decide) with h | h
 .exact absurd h (by decide)
 .lia
def GO (x:Int):hI 1 x=x:=by have:=l7 (s:=1) (by decide) (BC x);lia
theorem OZ (h:Wt 60 a):nT 1 60 ((60:Nat):Int) ((60:Nat):Int) a:=#[λx hx=>by rw[GO];exact h x hx,λz=>absurd z (by decide)]
def qK (p0:0<p)(r:List Int)(y:Int):look (iU p (lp (r.map (· *t)))) y=if 0<=y then r.getD y.toNat 0*t % p else 0:=by
 rw[kh p0,yE,iw];by_cases c:0<=y
 .rw[aj c,aj c,aC,aC,ay];cases r[y.toNat]? with
  | none=>show(0:Int) % p=0*t % p;rw[bg]
  | some v=>rfl
 .rw[ah c,ah c];exact c9 _
structure Zl (p:Int)(r:List Int)(B:Pt)(z0:Int×Int)(D:Pt):Prop where
 gF:qe 1 p [D] 1000000
 trim:Trim 1 p [D] 1000000
 eqs:lG 1 p [lp r] [D]
def Ci {B rest:Pt}(p0:0<p)(p2:2<=p)(hr:r≠ [])(hl:r.length<=1000)(hc:r.getD (r.length - 1) 0=c)(ht:t*c % p=1)(hB:B=iU p (lp (r.map (· *t))))(e:B=z0::rest):Zl p r B z0 (iU p ([]++wW (-z0.1) 1 B)):=by
 have hL:0<r.length:=cU.mpr hr;have iB:d7 p B:=by rw[hB];exact gN p0 _
 have lB: ∀y,look B y=if 0<=y then r.getD y.toNat 0*t % p else 0:=λy=>by rw[hB];exact qK p0 r y
 have vL:look B z0.1≠0:=by
  have hm:z0∈B:=by rw[e];exact aA
  rw[ju iB.2 hm];have:=iB.1 z0 hm;lia
 have Wg: ∀y,look B y≠0 ->0<=y /\ y< (r.length:Int) /\ z0.1<=y:=λy hy=>by
  have h1:=lB y;have c0:0<=y:=ar λc=>hy (by rw[h1,ah c]);refine#[c0,ar λc=>hy ?_,?_]
  .rw[h1,aj c0,kl (by lia),bg];exact c9 _
  .have hm:=cI hy;let⟨z,hz,rfl⟩:=ag.mp hm;have hs:=iB.2;rw[e] at hz hs;rcases av.mp hz with rfl | q
   .exact aT _
   .have:=(a4.mp hs).1 z q;lia
 have z1:=Wg z0.1 vL;have iD:d7 p (iU p ([]++wW (-z0.1) 1 B)):=gN p0 _;have lD: ∀x,look (iU p ([]++wW (-z0.1) 1 B)) x=look B (x+z0.1):=λx=>by rw[FT p0 d7.nil iB];show(0+look B (x - -z0.1)*1) % p=_;have h:=jG p0 iB (x+z0.1);rw[bB,dm,Int.sub_neg,cX h.1 h.2]
 have top:look B ((r.length:Int) - 1)=1:=by rw[lB,aj (by lia),show((r.length:Int) - 1).toNat=r.length - 1 by lia,hc,bN,ht]
 have aaf:=Wg ((r.length:Int) - 1) (by rw[top];decide);have sr:Sr 1 p (iU p ([]++wW (-z0.1) 1 B)) 0 ((r.length:Int) - 1 - z0.1) 1000000:=by
  have pl: ∀x∈eC (iU p ([]++wW (-z0.1) 1 B)),0<=x /\ x<=(r.length:Int) - 1 - z0.1:=λx hx=>by
   let⟨z,hz,rfl⟩:=ag.mp hx;have h1:look (iU p ([]++wW (-z0.1) 1 B)) z.1≠0:=by rw[ju iD.2 hz];have:=iD.1 z hz;lia
   rw[lD] at h1;have:=Wg _ h1;lia
  refine#[iD, .inr #[by decide,by decide],by lia,λz=>absurd z (by decide),λx _=>by rw[BC];exact aT _,λx hx _=>by rw[GO];exact pl x hx,cI (by rw[lD,bB];exact vL),?_,λx hx=> ?_]
  .rw[lD,bB,dm,Int.sub_add_cancel];exact top
  .have:=pl x (cI hx);lia
 refine#[#[λi st hi=> ?_,λi j st bG c len c' ze gK hi hj=> ?_],λi j st bG c len gK hi hj=> ?_,?_]
 .cases i with
  | zero=>cases hi;exact#[0,_,sr,by lia]
  | succ i=>simp at hi
 .have:=(ai.mp hj).1;simp at this;lia
 .have:=(ai.mp hj).1;simp at this;lia
 .refine lG.trans (B:= [B]) #[λa ha=> ?_,λa ha=> ?_] (GZ lD)
  .rw[af.mp ha];refine((dq.of (st:=B) (sts:= [B]) (by simp)).mul c).ext λx=> ?_;rw[iw,lB];by_cases c0:0<=x
   .rw[aj c0,aj c0,bT,cq, <- bT,dz,bT,ht,dm,cq]
   .rw[ah c0,ah c0,bg]
  .rw[af.mp ha];refine((dq.of (st:=lp r) (sts:= [lp r]) (by simp)).mul t).ext λx=> ?_;rw[iw,lB];by_cases c0:0<=x
   .rw[aj c0,aj c0,cq]
   .rw[ah c0,ah c0,bg]
def FP (p0:0<p)(hr:r≠ [])(hc:r.getD (r.length - 1) 0=c)(ht:t*c % p=1): ∃z0 rest,iU p (lp (r.map (· *t)))=z0::rest:=by
 have hL:0<r.length:=cU.mpr hr;cases e:iU p (lp (r.map (· *t))) with
 | cons a b=>exact#[a,b,rfl]
 | nil=>have:=qK (t:=t) p0 r ((r.length:Int) - 1);rw[e,aj (by lia),show((r.length:Int) - 1).toNat=r.length - 1 by lia,hc,bN,ht] at this;exact absurd (show(0:Int)=1 from this) (by decide)
def Zu.own (h:Zu s p Z w pats sts Ps):lG s p sts pats:=by
 refine#[λst kP=> ?_,h.sp];let⟨i,hi⟩:=cg.mp kP;let⟨P,hP⟩: ∃P,Ps[i]? =some P:=#[_,ae (by rw[h.len];exact(ai.mp hi).1)]
 exact(h.md i st P hi hP).1.ins
theorem Qd (p0:0<p)(h:r.length<=60):Wt 60 (iU p (lp r)):=λx hx=>by
 rw[kh p0,yE,iw] at hx;by_cases c:0<=x
 .rw[aj c] at hx;have:x.toNat<r.length:=ar λhn=>hx (by rw[kl (by lia)];exact c9 _);lia
 .rw[ah c] at hx;exact absurd (c9 _) hx
theorem Ir:qe s p [] D:=#[λi st h=>by simp at h,λi j st bG _ _ _ _ _ h=>by simp at h]
theorem Ea:Trim s p [] D:=λi j st bG _ _ _ h=>by simp at h
theorem GY:lG s p [[]] []:=#[λa ha=>by rw[af.mp ha];exact vd,λb hb=>by simp at hb]
end WQ
set_option synthInstance.maxSize 100000
set_option synthInstance.maxHeartbeats 0
open PySem L2 WL WP WQ EN PyProof.Rows
local macro_rules | `(tactic| simp? [$xs,*]) => do let a <- ("lstK_e dicK_e optK_e andK_e iteK_t iteK_f isB_e refK_e tupK_e keyK_i wVar_0 wVar_1 wVar_2 wVar_3 wVar_4 wVar_5 wVar_6 wVar_7 wVar_8 wVar_9 wVar_10 wVar_11 wVar_12 wVar_13 wVar_14 wVar_15 wVar_16 wVar_17 wVar_18 wVar_19 wVar_20 wVar_21 wVar_22 wVar_23 wC_e wOp_e wUn_e wI_e wI0_e wU_e wEq_i wNe_i wTest_e wAnd_e wOr_e wNot_e wAndV_e wNotV_e wChain_e wNil_e wCons_e wTup_e wLst_e wIxL_e wIxT_e wNoPart_e intK_e wPart_e wSl_e wSlL_e wCB_e wCall_e wLen_l wLen_t wAbs_e wMax2_e wListOf_l wListOf_t wTupleOf_l wIsX_e wBM_e wAppend_e wExtend_e wCat_e wRep_e wTruth_e wDNew_e wDGet_e wDNotIn_e wDGet2_e sNext_e sCont_e sDrop_e sRet_e sRetN_e sIf_e sAsg_e twoK_e sDPutW_e sFor_e sWhile_e vName_e vNil_e vCons_e vTup_e vSub_e wSetL_e jList_e jTup_e oneK_e jRng1_e jRng2_e wComp_e wYes_e wComp2_e jRng3_e jSeq_e seqK_l wDSetD_e setdK_s setdK_n wFld_e sFldW_e insK_e jItems_e wLItems_e wMinD_e sDDelW_e".splitOn " ").toArray.mapM λs => `(Lean.Parser.Tactic.simpLemma| ↓ $(Lean.mkIdent s.toName):term); let b <- ("kit_int_int kit_int_bool kit_int_str kit_int_tuple kit_int_list kit_bool_int kit_bool_bool kit_bool_str kit_bool_tuple kit_bool_list kit_str_int kit_str_bool kit_str_str kit_str_tuple kit_str_list kit_NoneType_int kit_NoneType_bool kit_NoneType_str kit_NoneType_tuple kit_NoneType_list kit_tuple_int kit_tuple_bool kit_tuple_str kit_tuple_tuple kit_tuple_list kit_list_int kit_list_bool kit_list_str kit_list_tuple kit_list_list sl1 sl2 sl3 sl4 sl0 List.map_cons List.map_nil List.length_cons List.length_nil Nat.zero_add List.cons_append List.nil_append List.set_cons_zero List.set_cons_succ um_same um_um atI_0 atI_1 atI_2 atI_3 ixN_1 ixN_2 ixN_3 Bool.not_true Bool.not_false List.getElem?_cons_zero List.getElem?_cons_succ Option.join_some and_self and_true true_and Option.getD_some Option.getD_none tyW capρ".splitOn " ").toArray.mapM λs => `(Lean.Parser.Tactic.simpLemma| $(Lean.mkIdent s.toName):term); `(tactic| try simp only [$a,*, $b,*, Nat.reduceAdd, Nat.reduceSub, List.reduceReplicate, $xs,*])
local macro_rules | `(tactic| dsimp? [$xs,*]) => `(tactic| (simp? [↓cy, $xs,*]; repeat (with_reducible refine gw ?_; simp? [↓cy, $xs,*])))
local macro_rules | `(tactic| trivial) => `(tactic| first | exact Or.inl rfl | exact Or.inr rfl)
local macro_rules | `(tactic| right) => `(tactic| decide +kernel)
local macro_rules | `(tactic| left) => `(tactic| (intro _ _ _ h; (repeat (cases h; rename_i h)); subst_vars; rfl))
namespace jX
open PySem L2 WL WP WQ EN PyProof.Rows
noncomputable def top (i:Nat):Stmt:=PySem.Challenge.pw_duskround_k23_stairs_of_one_column.main.body.getD i (.Pass #[0,0,0,0])
noncomputable abbrev uH:Stmt:=top 1
noncomputable abbrev oe:Stmt:=top 3
noncomputable abbrev ET:Stmt:=Lw (top 5) 0
noncomputable abbrev uL:Stmt:=Lw (top 6) 0
noncomputable abbrev qA:Stmt:=top 7
noncomputable abbrev gm:Stmt:=top 8
noncomputable abbrev jo:Stmt:=top 9
noncomputable abbrev jg:Stmt:=top 10
noncomputable abbrev j9:Stmt:=top 11
noncomputable abbrev gj:Stmt:=top 12
noncomputable abbrev ES:Stmt:=top 13
noncomputable abbrev uI:Stmt:=top 14
noncomputable abbrev iq:Stmt:=top 15
noncomputable abbrev n6:Stmt:=top 16
noncomputable abbrev n8:Stmt:=top 17
noncomputable abbrev mK:Stmt:=top 18
noncomputable abbrev n9:Stmt:=top 20
noncomputable abbrev qz:Stmt:=top 21
noncomputable abbrev ER:Stmt:=top 22
noncomputable abbrev mJ:Stmt:=top 23
noncomputable abbrev j7:Stmt:=top 24
noncomputable abbrev pV:Stmt:=top 26
noncomputable abbrev uK:Stmt:=top 27
noncomputable abbrev iH:Stmt:=top 28
noncomputable abbrev mH:Stmt:=top 29
noncomputable abbrev uJ:Stmt:=top 30
noncomputable abbrev jm:Stmt:=top 31
noncomputable abbrev lO:Stmt:=top 32
noncomputable abbrev gk:Stmt:=top 33
noncomputable abbrev j8:Stmt:=top 34
noncomputable abbrev oT:Stmt:=top 35
set_option genInjectivity false in
set_option genSizeOf false in
structure Zv where
 GU:Addr
 G6:FuncData
 tO:Addr
 tX:FuncData
 Mb:Addr
 Mg:FuncData
 Bc:Addr
 Br:FuncData
 xG:Addr
 xT:FuncData
 ko:Addr
 ku:FuncData
 tP:Addr
 tY:FuncData
 lA:Addr
 lC:FuncData
 o9:Addr
 pq:FuncData
 jd:Addr
 jf:FuncData
 Ma:Addr
 Mf:FuncData
 A7:Addr
 Bm:FuncData
 nD:Addr
 nK:FuncData
 tL:Addr
 tU:FuncData
 tM:Addr
 tV:FuncData
 Bb:Addr
 Bq:FuncData
 tN:Addr
 tW:FuncData
 xE:Addr
 xR:FuncData
 L9:Addr
 Me:FuncData
 xD:Addr
 xQ:FuncData
 oY:Addr
 pj:FuncData
 A8:Addr
 Bn:FuncData
 Ba:Addr
 Bp:FuncData
 km:Addr
 kq:FuncData
 xC:Addr
 xP:FuncData
 A9:Addr
 Bo:FuncData
 xF:Addr
 xS:FuncData
 qV:Addr
 qZ:FuncData
 kn:Addr
 kr:FuncData
 oZ:Addr
 pk:FuncData
 L8:Addr
 Md:FuncData
 fk:Addr
 dI:Addr
structure Txt (K:PySem.W.Frag)(mg:Str ->Option Value)(A:Zv):Prop where
 Ml:mg "abs" =none
 To:mg "all" =none
 O4:mg "bool" =none
 O3:mg "dict" =none
 yc:mg "enumerate" =none
 Mj:mg "int" =none
 fL:mg "isinstance" =none
 gf:mg "len" =none
 hV:mg "list" =none
 Tn:mg "max" =none
 Tj:mg "min" =none
 fK:mg "range" =none
 iR:mg "sorted" =none
 ix:mg "tuple" =none
 tidy:lF K mg "tidy" ["p","pairs"] uH A.GU A.G6
 inverse:lF K mg "inverse" ["p","setting"] oe A.tO A.tX
 Row:TU K mg "Row" "Row.__init__" ["self","lamps","parts"] ET A.fk A.Mb A.Mg
 Stair:TU K mg "Stair" "Stair.__init__" ["self","row","first","length","foot"] uL A.dI A.Bc A.Br
 column:lF K mg "column" ["place","stride"] qA A.xG A.xT
 first_column:lF K mg "first_column" ["places","stride"] gm A.ko A.ku
 heights:lF K mg "heights" ["places","stride","first"] jo A.tP A.tY
 add_shifted:lF K mg "add_shifted" ["p","held","others","by","n"] jg A.lA A.lC
 add_moved:lF K mg "add_moved" ["p","stride","row","other","shift","n"] j9 A.o9 A.pq
 too_high_or_low:lF K mg "too_high_or_low" ["found","length"] gj A.jd A.jf
 cut:lF K mg "cut" ["p","stride","row","stair"] ES A.Ma A.Mf
 stood:lF K mg "stood" ["p","stride","row"] uI A.A7 A.Bm
 told_parts:lF K mg "told_parts" ["p","parts","n"] iq A.nD A.nK
 take_in:lF K mg "take_in" ["p","stride","held","row"] n6 A.tL A.tU
 lie_low:lF K mg "lie_low" ["p","stride","held"] n8 A.tM A.tV
 built:lF K mg "built" ["p","stride","patterns"] mK A.Bb A.Bq
 AS:lF K mg "_law_begin" ["_law_script"] n9 A.tN A.tW
 lX:lF K mg "_law_take" ["_law_draw","_law_many"] qz A.xE A.xR
 l_p:lF K mg "_law_p" ["_law_draw"] ER A.L9 A.Me
 u9:lF K mg "_law_tidy" ["_law_p_here","_law_pairs"] mJ A.xD A.xQ
 ox:lF K mg "_law_pattern" ["_law_draw","_law_p_here","_law_most","_law_far"] j7 A.oY A.pj
 Lr:lF K mg "_law_sum" ["_law_p_here","_law_one","_law_other","_law_by","_law_many"] pV A.A8 A.Bn
 F4:lF K mg "_law_int" ["_law_thing"] uK A.Ba A.Bp
 mZ:lF K mg "_law_is_pattern" ["_law_p_here","_law_thing"] iH A.km A.kq
 zf:lF K mg "_law_trim" ["_law_p_here","_law_row"] mH A.xC A.xP
 Lu:lF K mg "_law_mul" ["_law_p_here","_law_one","_law_other"] uJ A.A9 A.Bo
 F3:lF K mg "_law_over" ["_law_p_here","_law_one","_law_other"] jm A.xF A.xS
 m7:lF K mg "_law_as_sum" ["_law_pattern_here"] lO A.qV A.qZ
 jH:lF K mg "_law_as_pattern" ["_law_p_here","_law_row"] gk A.kn A.kr
 tq:lF K mg "_law_divisor" ["_law_p_here","_law_patterns"] j8 A.oZ A.pk
 law:lF K mg "law" ["_law_script"] oT A.L8 A.Md
 n_Row_lamps:dZ K A.fk "lamps"
 n_Row_parts:dZ K A.fk "parts"
 n_Stair_first:dZ K A.dI "first"
 n_Stair_foot:dZ K A.dI "foot"
 n_Stair_lamps:dZ K A.dI "lamps"
 n_Stair_length:dZ K A.dI "length"
 n_Stair_parts:dZ K A.dI "parts"
theorem Aq:b7 ["p","pairs","turned","place","setting"] ["p","pairs"] (aP uH):=#[rfl,rfl,rfl,by right,rfl,by right,by right]
theorem qx:b7 ["p","setting","found","at"] ["p","setting"] (aP oe):=#[rfl,rfl,rfl,by right,rfl,by right,by right]
theorem EO:b7 ["self","lamps","parts"] ["self","lamps","parts"] (aP ET):=#[rfl,rfl,rfl,by right,rfl,by right,by right]
theorem wq:b7 ["self","row","first","length","foot"] ["self","row","first","length","foot"] (aP uL):=#[rfl,rfl,rfl,by right,rfl,by right,by right]
theorem sN:b7 ["place","stride"] ["place","stride"] (aP qA):=#[rfl,rfl,rfl,by right,rfl,by right,by right]
theorem jP:b7 ["places","stride"] ["places","stride"] (aP gm):=#[rfl,rfl,rfl,by right,rfl,by right,by right]
theorem qy:b7 ["places","stride","first"] ["places","stride","first"] (aP jo):=#[rfl,rfl,rfl,by right,rfl,by right,by right]
theorem j6:b7 ["p","held","others","by","n","key","setting","now"] ["p","held","others","by","n"] (aP jg):=#[rfl,rfl,rfl,by right,rfl,by right,by right]
theorem mG:b7 ["p","stride","row","other","shift","n","which","settings"] ["p","stride","row","other","shift","n"] (aP j9):=#[rfl,rfl,rfl,by right,rfl,by right,by right]
theorem iG:b7 ["found","length"] ["found","length"] (aP gj):=#[rfl,rfl,rfl,by right,rfl,by right,by right]
theorem EM:b7 ["p","stride","row","stair","found","height","setting"] ["p","stride","row","stair"] (aP ES):=#[rfl,rfl,rfl,by right,rfl,by right,by right]
theorem wd:b7 ["p","stride","row","first","found","turn","upright"] ["p","stride","row"] (aP uI):=#[rfl,rfl,rfl,by right,rfl,by right,by right]
theorem lj:b7 ["p","parts","n"] ["p","parts","n"] (aP iq):=#[rfl,rfl,rfl,by right,rfl,by right,by right]
theorem qu:b7 ["p","stride","held","row","first","stair","left"] ["p","stride","held","row"] (aP n6):=#[rfl,rfl,rfl,by right,rfl,by right,by right]
theorem qv:b7 ["p","stride","held","firsts","at","behind"] ["p","stride","held"] (aP n8):=#[rfl,rfl,rfl,by right,rfl,by right,by right]
theorem wo:b7 ["p","stride","patterns","held","which","pattern","firsts","stairs"] ["p","stride","patterns"] (aP mK):=#[rfl,rfl,rfl,by right,rfl,by right,by right]
theorem qw:b7 ["_law_script"] ["_law_script"] (aP n9):=#[rfl,rfl,rfl,by right,rfl,by right,by right]
theorem sJ:b7 ["_law_draw","_law_many","_law_number","_law_got"] ["_law_draw","_law_many"] (aP qz):=#[rfl,rfl,rfl,by right,rfl,by right,by right]
theorem EL:b7 ["_law_draw"] ["_law_draw"] (aP ER):=#[rfl,rfl,rfl,by right,rfl,by right,by right]
theorem sI:b7 ["_law_p_here","_law_pairs","_law_sums","_law_place","_law_setting"] ["_law_p_here","_law_pairs"] (aP mJ):=#[rfl,rfl,rfl,by right,rfl,by right,by right]
theorem mE:b7 ["_law_draw","_law_p_here","_law_most","_law_far","_law_pairs","_law_k","_law_place"] ["_law_draw","_law_p_here","_law_most","_law_far"] (aP j7):=#[rfl,rfl,rfl,by right,rfl,by right,by right]
theorem we:b7 ["_law_p_here","_law_one","_law_other","_law_by","_law_many"] ["_law_p_here","_law_one","_law_other","_law_by","_law_many"] (aP pV):=#[rfl,rfl,rfl,by right,rfl,by right,by right]
theorem wj:b7 ["_law_thing"] ["_law_thing"] (aP uK):=#[rfl,rfl,rfl,by right,rfl,by right,by right]
theorem jN:b7 ["_law_p_here","_law_thing","_law_k","_law_pair"] ["_law_p_here","_law_thing"] (aP iH):=#[rfl,rfl,rfl,by right,rfl,by right,by right]
theorem sH:b7 ["_law_p_here","_law_row","_law_kept"] ["_law_p_here","_law_row"] (aP mH):=#[rfl,rfl,rfl,by right,rfl,by right,by right]
theorem wg:b7 ["_law_p_here","_law_one","_law_other","_law_row","_law_k","_law_j"] ["_law_p_here","_law_one","_law_other"] (aP uJ):=#[rfl,rfl,rfl,by right,rfl,by right,by right]
theorem sL:b7 ["_law_p_here","_law_one","_law_other","_law_left","_law_turn","_law_many","_law_gap"] ["_law_p_here","_law_one","_law_other"] (aP jm):=#[rfl,rfl,rfl,by right,rfl,by right,by right]
theorem oS:b7 ["_law_pattern_here","_law_row","_law_place","_law_setting"] ["_law_pattern_here"] (aP lO):=#[rfl,rfl,rfl,by right,rfl,by right,by right]
theorem jO:b7 ["_law_p_here","_law_row"] ["_law_p_here","_law_row"] (aP gk):=#[rfl,rfl,rfl,by right,rfl,by right,by right]
theorem mF:b7 ["_law_p_here","_law_patterns","_law_here","_law_pattern_here","_law_one","_law_left"] ["_law_p_here","_law_patterns"] (aP j8):=#[rfl,rfl,rfl,by right,rfl,by right,by right]
theorem EK:b7 ["_law_script","_law_draw","_law_p_here","_law_patterns","_law_both","_law_due","_law_row","_law_turn","_law_pattern_here","_law_found"] ["_law_script"] (aP oT):=#[rfl,rfl,rfl,by right,rfl,by right,by right]
section
variable {P:Program}{w:World}{K:PySem.W.Frag}{mg:Str ->Option Value}{base:Heap}{A:Zv}
def Cc (T:Txt K mg A):d3 P w K mg base i0 1 A.xG A.xT ["place","stride"] (kX K VM):=by
 refine mU T.column.fn sN (by left) λeI A' outer s H E hr=> ?_;have nd:=sN.nd;refine#[_,(aI (gq (cL kc (pv 1) aJ (de _)) (aW (c4 (pv 0))) eY) (aW (c4 (bH fO (pv 0) (pv 1))))),?_];try dsimp only[fg]
 refine#[_,inferInstance,?_];rintro vs M q ⟨x,s,rfl,s0,s1,k⟩;dsimp? [];refine d8 (λh=> ?_) λh=> ?_
 .dsimp? [];rw[bZ,aj h] at k;exact pM k
 .have h0:0<s:=by lia
  dsimp? [h0];rw[bZ,ah h] at k;exact pM k
def hU (T:Txt K mg A):d3 P w K mg base i0 2 A.ko A.ku ["places","stride"] (kX K Fw):=by
 refine mU T.first_column.fn jP (by left) λeI A' outer s H E hr=> ?_;have nd:=jP.nd;refine#[_,(aW (c4 (IX (by rfl) T.Tj rfl (eZ rfl (dG.of (sc:=aP gm) (N:= ["places","stride"]) (own:= ["place"]) (fr:= [1]) (N':= ["place","stride"]) rfl rfl rfl (by right) rfl (by right) (by right) (by right) (by right) (by right)) (eR (pv 0)) (λ_ _ _ _=>(bR (i:=0) (by show(["place","stride"]:List Str).Nodup;decide+kernel) rfl (by trivial))) di (λ_ _ _ _=>fq) (λ_ _ _ _=>(a8 T.column (Cc T) hr (ab (pv 0) (ab (pv 1) aD))))) Fm))),?_];try dsimp only[fg]
 refine#[_,inferInstance,?_];rintro vs M q ⟨a,ns,s,rfl,ha,hl,s0,s1,k0,k1⟩;dsimp? [DQ,ha];refine iP (λx:Int=>wi (bZ s x)) (big (by lia)) (λM6 s6=>s6 _ _ ha) ?_ λt ht=> ?_
 .intro x hx M3 N s3 hN;dsimp? [];refine#[x,s,rfl,s0,s1,?_];dsimp? [];exact hN
 dsimp? [];refine#[t,ns.map (bZ s),rfl,by rw[um_same,aE];rfl,λe=> ?_,λm hm=> ?_]
 .dsimp? [];exact#[M,cu ht,k0 (by simpa using e)]
 .dsimp? [];have dw:ns≠ []:=by rintro rfl;exact absurd hm.1 (by simp)
  rw[iT.uniq hm (fT (by simpa using dw))];exact#[M,cu ht,k1 dw]
def qG (T:Txt K mg A):d3 P w K mg base i0 1 A.tP A.tY ["places","stride","first"] (kX K VJ):=by
 refine mU T.heights.fn qy (by left) λeI A' outer s H E hr=> ?_;have nd:=qy.nd;refine#[_,(aI (gq (cL kc (pv 1) aJ (de _)) (aW (c4 (eZ rfl (dG.of (sc:=aP jo) (N:= ["places","stride","first"]) (own:= ["place"]) (fr:= [2]) (N':= ["place","first"]) rfl rfl rfl (by right) rfl (by right) (by right) (by right) (by right) (by right)) (eR (pv 0)) (λ_ _ _ _=>(bR (i:=0) (by show(["place","first"]:List Str).Nodup;decide+kernel) rfl (by trivial))) di (λ_ _ _ _=>(kG (cL kc (pv 0) (pv 1) (de _)))) (λ_ _ _ _=>aJ)))) eY) (aW (c4 (bL zG (by rfl) T.iR Boot.«sorted» (ab (eZ rfl (dG.of (sc:=aP jo) (N:= ["places","stride","first"]) (own:= ["place"]) (fr:= [1,2]) (N':= ["place","stride","first"]) rfl rfl rfl (by right) rfl (by right) (by right) (by right) (by right) (by right)) (eR (pv 0)) (λ_ _ _ _=>(bR (i:=0) (by show(["place","stride","first"]:List Str).Nodup;decide+kernel) rfl (by trivial))) di (λ_ _ _ _=>(kG (cL kc (bH fO (pv 0) (pv 1)) (pv 2) (de _)))) (λ_ _ _ _=>(bH uY (pv 0) (pv 1)))) aD))))),?_];try dsimp only[fg]
 refine#[_,inferInstance,?_];rintro vs M q ⟨a,ns,s,f,rfl,ha,hl,s0,s1,k⟩;dsimp? [];refine d8 (λh=> ?_) λh=> ?_
 .subst h;dsimp? [ha];refine comp_map (λx:Int=>decide (x=f)) (λx:Int=>wi 0) (big (by lia)) (λM6 s6=>s6 _ _ ha) ?_ λt ht=> ?_
  .intro x hx M3 N s3 hN;dsimp? [];refine d8 (λh=> ?_) λh=> ?_
   .dsimp? [];simpa only[h,decide_true,bW] using hN
   .dsimp? [];simpa only[h,decide_false,az,bj] using hN
  dsimp? [];have e:(ns.filter λx=>decide (x=f)).map (λ_=>wi 0)=(oX 0 f ns).map wi:=by unfold oX;rw[aE];rfl
  rw[e];refine pM (k t _ ht (List.Perm.refl _) ?_);unfold oX;rw[cx];exact List.pairwise_of_forall λ_ _=>aT _
 .have h0:0<s:=by lia
  have cd: ∀x,zQ x s=True:=λx=>by simp[zQ];lia
  dsimp? [ha,h0,cd];refine comp_map (λx:Int=>decide (x % s=f)) (λx:Int=>wi (x / s)) (big (by lia)) (λM6 s6=>s6 _ _ ha) ?_ λt ht=> ?_
  .intro x hx M3 N s3 hN;dsimp? [h0];refine d8 (λh=> ?_) λh=> ?_
   .dsimp? [h0,cd];simpa only[h,decide_true,bW] using hN
   .dsimp? [];simpa only[h,decide_false,az,bj] using hN
  dsimp? [DP];have e:(ns.filter λx=>decide (x % s=f)).map (λx=>wi (x / s))=(oX s f ns).map wi:=by unfold oX bZ hI;rw[aE];simp![h,bj];rfl
  refine#[t,oX s f ns,rfl,by rw[um_same,e],λp ms hp h1 h2=> ?_];dsimp? [];exact#[_,Nh ht hp,k p ms (by rw[aN (λz=>by rw[z,um_same] at hp;cases hp)] at hp;exact hp) h1 h2]
def yY (T:Txt K mg A):d3 P w K mg base i0 1 A.Mb A.Mg ["self","lamps","parts"] (kX K (NF A.fk)):=by
 have cl:=aY T.Row.cl;have n1:=aY T.n_Row_lamps;have n2:=aY T.n_Row_parts;refine mU T.Row.fn EO (by left) λeI A' outer s H E hr=> ?_;have nd:=EO.nd;refine#[_,(aI (lQ (pv 0) (pv 1) rfl) (aW (lQ (pv 0) (pv 2) rfl))),?_];try dsimp only[fg]
 refine#[_,inferInstance,?_];rintro vs M q ⟨s,dx,l,r,rfl,hs,k⟩;have e1:jQ "lamps" l []= [(("lamps" :Str),l)]:=rfl;have e2:jQ "parts" r [(("lamps" :Str),l)]= [(("lamps" :Str),l),(("parts" :Str),r)]:=rfl;dsimp? [hs,cl,n1,n2,e1,e2,Nat.reduceLT];exact pM k
def FI (T:Txt K mg A):d3 P w K mg base i0 1 A.Bc A.Br ["self","row","first","length","foot"] (kX K (Fu A.fk A.dI)):=by
 have cl:=aY T.Row.cl;have cl2:=aY T.Stair.cl;have n1:=aY T.n_Row_lamps;have n2:=aY T.n_Row_parts;have m1:=aY T.n_Stair_lamps;have m2:=aY T.n_Stair_parts;have m3:=aY T.n_Stair_first;have m4:=aY T.n_Stair_length;have m5:=aY T.n_Stair_foot;refine mU T.Stair.fn wq (by left) λeI A' outer s H E hr=> ?_;have nd:=wq.nd;refine#[_,(aI (lQ (pv 0) (d9 (pv 1) rfl) rfl) (aI (lQ (pv 0) (d9 (pv 1) rfl) rfl) (aI (lQ (pv 0) (pv 2) rfl) (aI (lQ (pv 0) (pv 3) rfl) (aW (lQ (pv 0) (pv 4) rfl)))))),?_];try dsimp only[fg]
 refine#[_,inferInstance,?_];rintro vs M q ⟨s,dx,r,dr,l,u,f,g,e,rfl,hsr,hs,hr,k⟩;have f1: [(("lamps" :Str),l),(("parts" :Str),u)].lookup ("lamps" :Str)=some l:=rfl;have f2: [(("lamps" :Str),l),(("parts" :Str),u)].lookup ("parts" :Str)=some u:=rfl;have e1:jQ "lamps" l []= [(("lamps" :Str),l)]:=rfl;have e2:jQ "parts" u [(("lamps" :Str),l)]= [(("lamps" :Str),l),(("parts" :Str),u)]:=rfl;have e3:jQ "first" f [(("lamps" :Str),l),(("parts" :Str),u)]= [(("lamps" :Str),l),(("parts" :Str),u),(("first" :Str),f)]:=rfl;have e4:jQ "length" g [(("lamps" :Str),l),(("parts" :Str),u),(("first" :Str),f)]= [(("lamps" :Str),l),(("parts" :Str),u),(("first" :Str),f),(("length" :Str),g)]:=rfl;have e5:jQ "foot" e [(("lamps" :Str),l),(("parts" :Str),u),(("first" :Str),f),(("length" :Str),g)]= [(("lamps" :Str),l),(("parts" :Str),u),(("first" :Str),f),(("length" :Str),g),(("foot" :Str),e)]:=rfl;dsimp? [hs,hr,cl,cl2,n1,n2,m1,m2,m3,m4,m5,f1,f2,e1,e2,e3,e4,e5,aN (a9 hsr),Nat.reduceLT];exact pM k
def kf (T:Txt K mg A):d3 P w K mg base i0 1 A.lA A.lC ["p","held","others","by","n"] (kX K Rm):=by
 refine mU T.add_shifted.fn j6 (by left) λeI A' outer s H E hr=> ?_;have nd:=j6.nd;refine#[_,(aW (Ay (fX bO rfl (wG rfl (pv 2)) (lS (n:=2) rfl (eD (bR (i:=5) nd rfl (by trivial)) (eD (bR (i:=6) nd rfl (by trivial)) jE))) (aI (bU (i:=7) nd rfl (by trivial) (bH fO (bH eN (mR (fw hr) (pv 1) (bH eN (pv 5) (pv 3)) aJ #[by rfl,by rfl,by rfl,by rfl]) (bH e9 (pv 6) (pv 4))) (pv 0))) (aW (gq (cL AI (pv 7) aJ (de _)) (aW (mO (fw hr) (pv 1) (bH eN (pv 5) (pv 3)) (pv 7) rfl)) (aW (IQ (pv 1) (bH eN (pv 5) (pv 3)))))))))),?_];try dsimp only[fg]
 refine#[_,inferInstance,?_];rintro vs M q ⟨h,o,p,nN,n,a,b,rfl,UL,hh,ho,p0,p1,ga,gb,nz,hl,k⟩;refine#[o,_,ho,?_];dsimp? [ho];intro ob ks;have CG:(fP b).map (λkv=>W.tup [fQ kv.1,kv.2])=b.map cQ:=by unfold fP;rw[aE];rfl
 rw[CG];refine ip (λi ρ M'=>Mo λ(o1 o2 o3:Option W) (c:Pt)=>Ke (ρ= [some (wi p),some (wr h),some (wr o),some (wi nN),some (wi n),o1,o2,o3]) (M' h=some (.dK (fP c))) (M' o=some (.fz ob ks (fP b))) (∀d,d≠h ->d≠o ->M' d=M d) (GD p c) (c.length<=a.length+i) (∀x,look c x=(look a x+dH (K3 nN (b.take i)) x*n) % p)) #[none,none,none,a,rfl,by rw[aN UL];exact hh,um_same,λd _ h2=>aN h2,ga,ao _,λx=>by have:=ga.range p0 x;simp[K3,dH];exact(cX this.1 this.2).symm] ?_ ?_ ?_
 .rintro i ρ M' _ ⟨o1,o2,o3,c,rfl,_,h2,_⟩;exact h2
 .rintro i x ρ M' hx ⟨o1,o2,o3,c,rfl,h1,h2,h3,gc,oE,JP⟩ N hN;let⟨z,hz,rfl⟩:=pairs_at hx;have Gy:=(ai.mp hz).1;have hzr:=gb.2 z (au hz);have cm:gM z.2 n=True:=aY (.inl #[by lia,by lia]);have hs:((fP c).length<sizeLine)=True:=by rw[fP,aa];exact aY (yb (by lia))
  have KZ: ∀x,(look a x+dH (K3 nN (b.take (i+1))) x*n) % p=if x=z.1+nN then(look c (z.1+nN)+z.2*n) % p else look c x:=λx=>by
   have e:K3 nN (b.take (i+1))=K3 nN (b.take i)++ [(z.1+nN,z.2)]:=by rw[bC,hz];unfold K3;rw[aM];rfl
   rw[e,ml];by_cases ex:x=z.1+nN
   .subst ex;rw[aj rfl,aj rfl,JP,Int.emod_add_emod,Int.add_mul,Int.add_assoc]
   .rw[ah ex,ah (λq=>ex q.symm),JP,bE]
  dsimp? [cQ,h1,qa,cm,p0];refine zo (λdw=> ?_) λhe=> ?_
  .have h0:=cF (look c (z.1+nN)+z.2*n) (show p≠0 by lia);have hp:=cf (look c (z.1+nN)+z.2*n) p0;dsimp? [h1,hs,pX];refine hN _ _ #[_,_,_,kZ c (z.1+nN) ((look c (z.1+nN)+z.2*n) % p),rfl,um_same,by rw[aN (a9 UL)];exact h2,λd d1 d2=>by rw[aN d1];exact h3 d d1 d2,gc.put (by lia) hp,aZ qO (by lia),λx=> ?_];rw[KZ,ou]
  .have Xk:((fh (fP c) (Sum.inl (z.1+nN))).isSome=true)=True:=aY (JR λe0=>by rw[e0,bB] at he;exact nz z.2 hzr.1 hzr.2 he);dsimp? [h1,Xk,G2];refine hN _ _ #[_,_,_,gx c (z.1+nN),rfl,um_same,by rw[aN (a9 UL)];exact h2,λd d1 d2=>by rw[aN d1];exact h3 d d1 d2,gc.drop _,aZ (Cq _ _) (by lia),λx=> ?_];rw[KZ,zc,he]
 .rintro ρ M' ⟨o1,o2,o3,c,rfl,h1,h2,h3,gc,oE,JP⟩;rw[aa] at oE JP;rw[cb] at JP;refine#[ob,ks,fP b,h2,um M h (.dK (fP c)),λd u e=> ?_,k c gc oE λx=> ?_]
  .by_cases d1:d=h
   .subst d1;rw[um_same] at e;rw[aN UL,h1];exact e
   .rw[aN d1] at e;by_cases d2:d=o
    .subst d2;rw[um_same, <- ho];exact e
    .rw[aN d2,h3 d d1 d2];exact e
  .rw[JP,z6,fZ gb.1]
end
end jX
open PySem L2 WL WP WQ EN PyProof.Rows
namespace jX
open PySem L2 WL WP WQ EN PyProof.Rows
section
variable {P:Program}{w:World}{K:PySem.W.Frag}{mg:Str ->Option Value}{base:Heap}{A:Zv}
def jF (T:Txt K mg A):d3 P w K mg base i0 2 A.o9 A.pq ["p","stride","row","other","shift","n"] (kX K (Ll A.fk A.dI)):=by
 refine mU T.add_moved.fn mG (by left) λeI A' outer s H E hr=> ?_;have nd:=mG.nd;refine#[_,(aI (fV (a8 T.add_shifted (kf T) hr (ab (pv 0) (ab (d9 (pv 2) rfl) (ab (d9 (pv 3) rfl) (ab (bH e9 (pv 1) (pv 4)) (ab (pv 5) aD))))))) (aW (Ay (fX bO rfl (wG rfl (d9 (pv 3) rfl)) (lS (n:=2) rfl (eD (bR (i:=6) nd rfl (by trivial)) (eD (bR (i:=7) nd rfl (by trivial)) jE))) (aW (fV (a8 T.add_shifted (kf T) hr (ab (pv 0) (ab (Fn (d9 (pv 2) rfl) (pv 6) jt #[by rfl,by rfl,by rfl,by rfl]) (ab (pv 7) (ab (pv 4) (ab (pv 5) aD)))))))))))),?_];try dsimp only[fg]
 refine#[_,inferInstance,?_];rintro vs M q ⟨r,rl,rp,o,ol,op,p,s,sh,n,a,b,P,Q,B,C,rfl,JE,LJ,p0,p1,s0,s1,nz,iI,iW,pe,GK,hPQ,hB,hC,hBC,k⟩;let⟨Cr,dr,zz,yn,C3,Dw,Um,GV,YQ⟩:oM λCr dr zz=>DE (M r=some (.ins Cr dr zz)) (zP K Cr=True) (dZ K Cr "lamps" =True) (dZ K Cr "parts" =True) (zz.lookup ("lamps" :Str)=some (wr rl)) (zz.lookup ("parts" :Str)=some (wr rp)):=by
  rcases JE with⟨d,e⟩ | ⟨d,f,g,e',e⟩
  .exact#[_,_,_,e,aY T.Row.cl,aY T.n_Row_lamps,aY T.n_Row_parts,rfl,rfl]
  .exact#[_,_,_,e,aY T.Stair.cl,aY T.n_Stair_lamps,aY T.n_Stair_parts,rfl,rfl]
 let⟨Co,dO,fs,ho,clO,nO1,nO2,fO1,fO2⟩:oM λCo dO fs=>DE (M o=some (.ins Co dO fs)) (zP K Co=True) (dZ K Co "lamps" =True) (dZ K Co "parts" =True) (fs.lookup ("lamps" :Str)=some (wr ol)) (fs.lookup ("parts" :Str)=some (wr op)):=by
  rcases LJ with⟨d,e⟩ | ⟨d,f,g,e',e⟩
  .exact#[_,_,_,e,aY T.Row.cl,aY T.n_Row_lamps,aY T.n_Row_parts,rfl,rfl]
  .exact#[_,_,_,e,aY T.Stair.cl,aY T.n_Stair_lamps,aY T.n_Stair_parts,rfl,rfl]
 have cm:gM s sh=True:=aY (.inl #[by lia,by lia]);have yZ: ∀ {x C' d' CM},M x=some (.ins C' d' CM) ->x∉bY rl rp P:=λ{x C' d' CM} e hx=>by let⟨kvs,e2⟩:=iI.mem hx;rw[e] at e2;cases e2
 have aai: ∀ {x C' d' CM},M x=some (.ins C' d' CM) ->x∉bY ol op Q:=λ{x C' d' CM} e hx=>by let⟨kvs,e2⟩:=iW.mem hx;rw[e] at e2;cases e2
 have Pm:rl∈bY rl rp P:=by simp[bY]
 have mrp:rp∈bY rl rp P:=by simp[bY]
 have mol:ol∈bY ol op Q:=by simp[bY]
 have Ur:op∈bY ol op Q:=by simp[bY]
 have min: ∀t∈Q,t.2.1∈bY ol op Q:=λt ht=>by simp![bY,av,ag];exact .inr (.inr #[t,ht,rfl])
 have ndQ:=bF.mp (bF.mp iW.Ln).2;dsimp? [yn,ho,C3,Dw,Um,clO,nO1,nO2,GV,YQ,fO1,fO2,cm];refine#[rl,ol,p,s*sh,n,a,b,rfl,λe=>pe rl Pm (by rw[e];exact mol),iI.lam,iW.lam,p0,p1,iI.ga,iW.ga,nz,GK,λc gc oE JP=> ?_];simp? [↓cy];refine gw ?_;have Nq:=iI.V' gc;have ho1:um M rl (.dK (fP c)) o=some (.ins Co dO fs):=by rw[aN (λe=>yZ ho (by rw[e];exact Pm))];exact ho
 have HF:um M rl (.dK (fP c)) r=some (.ins Cr dr zz):=by rw[aN (λe=>yZ yn (by rw[e];exact Pm))];exact yn
 have CA:um M rl (.dK (fP c)) op=some (.dK (mf Q)):=by rw[aN (λe=>pe rl Pm (by rw[<- e];exact Ur))];exact iW.par
 refine#[op,mf Q,CA,?_];dsimp? [ho1,clO,nO2,fO2,CA];intro ob ks;have CG:(mf Q).map (λkv=>W.tup [fQ kv.1,kv.2])=Q.map λt=>W.tup [wi t.1,wr t.2.1]:=by unfold mf;rw[aE];rfl
 rw[CG];generalize DD:um M rl (.dK (fP c))=M1 at Nq ho1 HF CA;have Wb:fo M M1 (bY rl rp P):=λd u e nd=>by rw[<- DD,aN (λz=>nd (by rw[z];exact Pm))];exact e
 have U2: ∀x,M1 x=none ->M x=none:=λx e=>by
  cases e2:M x with
  | none=>rfl
  | some u=>by_cases hx:x=rl;(· subst hx;rw[Nq.lam] at e;cases e);(· rw[<- DD,aN hx,e2] at e;cases e)
 refine ip (λi ρ M'=>oM λ(o1 o2:Option W) (P':Pq)=>uk (ρ= [some (wi p),some (wi s),some (wr r),some (wr o),some (wi sh),some (wi n),o1,o2]) (M' op=some (.fz ob ks (mf Q))) (c6 p M' rl rp c P') (fo M1 M' (op::bY rl rp P)) (∀x∈bY rl rp P',x∈bY rl rp P \/ M1 x=none) (∀x∈bY rl rp P,x∈bY rl rp P') (∀w x,look (pf P' w) x=(look (pf P w) x+look (pf (Q.take i) w) (x - sh)*n) % p) (vD (∀w,w∉(Q.take i).map (·.1) ->pf P' w=pf P w) (P'.length<=P.length+i) (∀t∈P',t.2.2.length<=B+C) (∀w∈P'.map (·.1),w∈P.map (·.1) \/ w∈Q.map (·.1)))) #[none,none,P,rfl,um_same,Nq.same λd hd=>aN (λz=>pe d hd (by rw[z];exact Ur)),λd u e nd=>by rw[aN (λz=>nd (by rw[z];exact aA))];exact e,λx hx=> .inl hx,λx hx=>hx,λw x=>by show _=(look (pf P w) x+0*n) % p;rw[bg,bE,fF p0 (iI.Fj w)],λw _=>rfl,ao _,λt ht=>aZ (hB t ht) (Nat.le_add_right _ _),λw hw=> .inl hw] ?_ ?_ ?_
 .rintro i ρ M' _ ⟨o1,o2,P',rfl,h2,_⟩;exact h2
 .rintro i x ρ M' hx ⟨o1,o2,P',rfl,h2,row,kp,fr,oA,A2,PD,W5,iV,HI⟩ N hN;let⟨t,hz,rfl⟩: ∃t,Q[i]? =some t /\ x=W.tup [wi t.1,wr t.2.1]:=by
   rw[ay] at hx;cases e:Q[i]? with
   | none=>rw[e] at hx;cases hx
   | some q=>rw[e] at hx;cases hx;exact#[q,rfl,rfl]
  have Gy:=(ai.mp hz).1;have LD:=au hz;have hwi:=PD t.1 (Eg iW.nV hz);have Gm:M' r=some (.ins Cr dr zz):=kp r _ HF (λhm=>by
   rcases av.mp hm with z | z
   .rw[z,CA] at HF;cases HF
   .exact yZ yn z)
  have jY:t.2.1∉bY rl rp P:=λz=>pe _ z (min t LD);have Wy:M' t.2.1=some (.dK (fP t.2.2)):=kp _ _ (by rw[<- DD,aN (λz=>jY (by rw[z];exact Pm))];exact iW.A0 t LD) (λhm=>by
   rcases av.mp hm with z | z
   .exact ndQ.1 (by rw[<- z];exact ag.mpr #[t,LD,rfl])
   .exact jY z)
  have QD:t.2.1∉bY rl rp P':=λz=>by
   rcases fr _ z with z | z
   .exact jY z
   .have:=iW.A0 t LD;rw[U2 _ z] at this;cases this
  have hs:((mf P').length<sizeLine)=True:=by rw[mf,aa];exact aY (yb (by lia))
  have hrp:=row.par;dsimp? [Gm,C3,Um,YQ,hrp];intro e he;have VT:rp≠e:=dM row.par he;have VU:t.2.1≠e:=dM Wy he;dsimp? [aN VT,hrp,hs,uz];have VX:op∉bY rl rp P:=λz=>pe _ z Ur;have Jn:op∉bY rl rp P':=λz=>by
   rcases fr _ z with z | z
   .exact VX z
   .rw[CA] at z;cases z
  have Jm:op≠e:=dM h2 he;have hBw:(pf P t.1).length<=B:=by
   unfold pf;cases e2:P.find? (λu=>decide (u.1=t.1)) with
   | none=>exact dj _
   | some u=>exact hB u (find_some e2).1
  have htC:=hC t LD;have TZ: ∀w,w∉(Q.take (i+1)).map (·.1) ->w≠t.1 /\ w∉(Q.take i).map (·.1):=λw hw=>by rw[bC,hz,aM] at hw;exact#[λz=>hw (ax.mpr (.inr (by rw[z];exact af.mpr rfl))),λz=>hw (ax.mpr (.inl z))]
  have dne: ∀ {d u},M1 d=some u ->d≠e ->d∉op::bY rl rp P ->M' d=some u:=λh1 _ h3=>kp _ _ h1 h3;have Zm:M1 e=none:=by
   cases e2:M1 e with
   | none=>rfl
   | some u=>
    exfalso;by_cases hm:e∈op::bY rl rp P
    .rcases av.mp hm with z | z
     .exact Jm z.symm
     .let⟨kvs,q2⟩:=row.mem (oA e z);rw[he] at q2;cases q2
    .rw[kp e u e2 hm] at he;cases he
  cases hf:P'.find? (λu=>decide (u.1=t.1)) with
  | some u=>
   let⟨hu,hw⟩:=find_some hf;have eu:u.2.2=pf P t.1:=by rw[<- hwi, <- hw];exact(qB row.nV hu).symm
   have une:u.2.1≠e:=dM (row.A0 u hu) he;have MC:u.2.1∈bY rl rp P':=by simp![bY,av,ag];exact .inr (.inr #[u,hu,rfl])
   rw[Option.map_some,setdK_s];refine#[u.2.1,t.2.1,p,sh,n,u.2.2,t.2.2,rfl,λz=>QD (by rw[<- z];exact MC),by rw[aN une];exact row.A0 u hu,by rw[aN VU];exact Wy,p0,p1,row.gp u hu,iW.gp t LD,nz,by rw[eu];lia,λc' UZ k7 Ou=> ?_];have CS:bY rl rp (lN P' u.1 c')=bY rl rp P':=by unfold bY;rw[yf]
   have Qw:u.1∈P'.map (·.1):=ag.mpr #[u,hu,rfl];refine hN _ _ #[_,_,lN P' u.1 c',rfl,by rw[aN (λz=>Jn (by rw[z];exact MC)),aN Jm];exact h2,(row.set hu UZ).same λd hd=> ?_,λd o' e1 nd=> ?_,by rw[CS];exact fr,by rw[CS];exact oA,λw' x=> ?_,λw' HE=> ?_,by unfold lN;rw[aa];lia,λv hv=> ?_,by rw[xj];exact HI]
   .rw[CS] at hd;by_cases z:d=u.2.1
    .rw[z,um_same,um_same]
    .let⟨kvs,q2⟩:=row.mem hd;rw[aN z,aN z,aN (dM q2 he)]
   .have n1:d≠e:=λz=>by rw[z,Zm] at e1;cases e1
    have n2:d≠u.2.1:=λz=>by
     rcases fr _ MC with q2 | q2
     .exact nd (aw _ (by rw[z];exact q2))
     .rw[z,q2] at e1;cases e1
    rw[aN n2,aN n1];exact kp d o' e1 nd
   .rw[AD w' Qw,AB iW.nV hz,hw];by_cases z:w'=t.1
    .rw[aj z,aj z,Ou,eu,z]
    .rw[ah z,ah z];exact A2 w' x
   .let⟨z1,z2⟩:=TZ w' HE;rw[AD w' Qw,hw,ah z1];exact PD w' z2
   .let⟨v',vg,rfl⟩:=ag.mp hv;split
    .show c'.length<=B+C;rw[eu] at k7;lia
    .exact iV v' vg
  | none=>
   have JK:=find_none hf;have VD:pf P t.1= []:=by rw[<- hwi];exact p6 JK
   rw[Option.map_none,setdK_n,E7 (c:= []) JK];refine#[e,t.2.1,p,sh,n,[],t.2.2,rfl,a9 VU,by rw[aN (a9 VT),um_same];rfl,by rw[aN (λz=>QD (by rw[z];simp[bY])),aN VU];exact Wy,p0,p1,GD.nil,iW.gp t LD,nz,by simp![List.length_nil];lia,λc' UZ k7 Ou=> ?_];have epd:mf (P'++ [(t.1,e,[])])=mf (P'++ [(t.1,e,c')]):=by unfold mf;rw[aM,aM];rfl
   have CS:bY rl rp (P'++ [(t.1,e,c')])=bY rl rp P'++ [e]:=by unfold bY;rw[aM];rfl
   refine hN _ _ #[_,_,P'++ [(t.1,e,c')],rfl,by rw[aN Jm,aN (λz=>Jn (by rw[z];simp[bY])),aN Jm];exact h2,(row.new he JK UZ).same λd hd=> ?_,λd o' e1 nd=> ?_,λx hx=> ?_,λx hx=>by rw[CS];exact ax.mpr (.inl (oA x hx)),λw' x=> ?_,λw' HE=> ?_,by rw[aH,cC];lia,λv hv=> ?_,λw' HE=> ?_]
   .by_cases z:d=e
    .rw[z,um_same,aN (a9 VT),um_same]
    .rw[aN z];by_cases z2:d=rp
     .rw[z2,um_same,um_same,epd]
     .rw[aN z2,aN z2,aN z,aN z]
   .have n1:d≠e:=λz=>by rw[z,Zm] at e1;cases e1
    have n2:d≠rp:=λz=>nd (aw _ (by rw[z];exact mrp));rw[aN n1,aN n2,aN n1];exact kp d o' e1 nd
   .rw[CS] at hx;rcases ax.mp hx with hx | hx
    .exact fr x hx
    .rw[af.mp hx];exact .inr Zm
   .rw[yS w' JK,AB iW.nV hz];by_cases z:w'=t.1
    .rw[aj z,aj z,Ou,z,VD]
    .rw[ah z,ah z];exact A2 w' x
   .let⟨z1,z2⟩:=TZ w' HE;rw[yS w' JK,ah z1];exact PD w' z2
   .rcases ax.mp hv with hv | hv
    .exact iV v hv
    .rw[af.mp hv];show c'.length<=B+C;simp![List.length_nil] at k7;lia
   .rw[aM] at HE;rcases ax.mp HE with HE | HE
    .exact HI w' HE
    .rw[af.mp HE];exact .inr (ag.mpr #[t,LD,rfl])
 .rintro ρ M' ⟨o1,o2,P',rfl,h2,row,kp,fr,oA,A2,PD,W5,iV,HI⟩;rw[aa] at W5 A2 PD;rw[cb] at A2 PD;have VX:op∉bY rl rp P:=λz=>pe _ z Ur;have Jn:op∉bY rl rp P':=λz=>by
   rcases fr _ z with z | z
   .exact VX z
   .rw[CA] at z;cases z
  refine#[ob,ks,mf Q,h2,pM (k _ c P' (row.same λd hd=>aN (λz=>Jn (by rw[<- z];exact hd))) JP A2 (λd u e nd=> ?_) (λx hx=>(fr x hx).imp id (U2 x)) oA oE W5 iV HI)];by_cases hd:d=op
  .subst hd;rw[um_same, <- iW.par];exact e
  .rw[aN hd];exact kp d u (Wb d u e nd) λhm=>(av.mp hm).elim hd nd
def lV (T:Txt K mg A):d3 P w K mg base i0 1 A.jd A.jf ["found","length"] (kX K VF):=by
 refine mU T.too_high_or_low.fn iG (by left) λeI A' outer s H E hr=> ?_;have nd:=iG.nd;refine#[_,(aI (gq (sO (cL kc (pv 1) aJ (de _)) (uQ (kb (BZ (pv 0))))).pt (aW (c4 (pv 0))) eY) (aW (c4 (bH FA (yT (by rfl) T.hV (by rfl) T.fK rfl (ab (cP cY (pv 0) (hW fN aJ) (λ_ _=>rfl)) (ab (bH gH (pv 1) aJ) (ab (hW fN aJ) aD)))) (yU (by rfl) T.hV (by rfl) T.fK rfl (ab (cP cY (pv 0) aJ (λ_ _=>rfl)) (ab aJ aD))))))),?_];try dsimp only[fg]
 refine#[_,inferInstance,?_];rintro vs M q ⟨f,ns,len,rfl,hf,l0,l1,hn,hb,k⟩;by_cases hl:len=0
 .have e:rO ns len=ns:=aj (.inl hl);rw[e] at k;dsimp? [hl,decide_true];exact pM (k f M (Sm.refl M) hf)
 .have k7:decide (len=0)=false:=c7 hl;have htr: ∀ {k:Bool ->Prop},MQ M (.v (.ref f)) k=k (!(ns.map wi).isEmpty):=D8 hf;by_cases dw:ns= []
  .have e:rO ns len=ns:=aj (.inr dw);rw[e] at k;subst dw;dsimp? [k7,htr,List.map_nil,List.isEmpty_nil,Bool.not_true,Bool.not_false];exact pM (k f M (Sm.refl M) hf)
  .have hie:(ns.map wi).isEmpty=false:=by cases ns with | nil=>exact absurd rfl dw | cons a r=>rfl
   have h1:iY (ns.map wi) (-1)=some (wi (ns.getLastD 0)):=ui dw;have h0:iY (ns.map wi) 0=some (wi (ns.headD 0)):=by
    cases ns with
    | nil=>exact absurd rfl dw
    | cons a r=>exact atI_0
   have GI: -4000000<ns.getLastD 0 /\ ns.getLastD 0<4000000:=hb _ (kK dw);have hbh: -4000000<ns.headD 0 /\ ns.headD 0<4000000:=by
    refine hb _ ?_;cases ns with
    | nil=>exact absurd rfl dw
    | cons a r=>exact aA
   dsimp? [k7,htr,hie,Bool.not_false,hf,h1,h0,DS];refine#[ns.getLastD 0,len - 1,rfl,#[by decide,by decide,by lia,by lia],by lia,λu hu=> ?_];have nu:f≠u:=dM hf hu;dsimp? [aN nu,hf,h0,DU];refine#[ns.headD 0,0,rfl,#[by lia,by lia,by lia,by lia],by lia,λv hv=> ?_];have VR:u≠v:=dM um_same hv;dsimp? [aN VR];have e:rO ns len=nG (ns.getLastD 0) (ns.getLastD 0 - (len - 1)).toNat++yz (ns.headD 0) (0 - ns.headD 0).toNat:=ah (by rintro(z | z);(· exact hl z);(· exact dw z));refine#[big (by unfold Bg eM;rw[aa,aa,bI,bI];lia),λp hp=>pM (k p _ (((cu hu).trans (cu hv)).trans (cu hp)) ?_)];rw[um_same,e,aM];unfold Bg eM nG yz;rw[aE,aE];rfl
def FG (T:Txt K mg A):d3 P w K mg base i0 3 A.Ma A.Mf ["p","stride","row","stair"] (kX K (VL A.fk A.dI)):=by
 have HQ:=aY T.Stair.cl;have Z9:=aY T.n_Stair_first;have V1:=aY T.n_Stair_length;have Z8:=aY T.n_Stair_foot;refine mU T.cut.fn EM (by left) λeI A' outer s H E hr=> ?_;have nd:=EM.nd;refine#[_,(aI (bU (i:=4) nd rfl (by trivial) (a8 T.heights (qG T) hr (ab (dE (iQ rfl) (by rfl) T.hV Boot.«list» (ab (d9 (pv 2) rfl) aD)) (ab (pv 1) (ab (d9 (pv 3) rfl) aD))))) (aW (fX bO rfl (eR (a8 T.too_high_or_low (lV T) hr (ab (pv 4) (ab (d9 (pv 3) rfl) aD)))) (bR (i:=5) nd rfl (by trivial)) (aI (bU (i:=6) nd rfl (by trivial) (mR (fw hr) (d9 (pv 2) rfl) (bH eN (d9 (pv 3) rfl) (bH e9 (pv 5) (pv 1))) aJ #[by rfl,by rfl,by rfl,by rfl])) (aI (gq (cL kc (pv 6) aJ (de _)) (aW wD) eY) (aW (gq (cL wM (pv 5) aJ (de _)) (aW (fV (a8 T.add_moved (jF T) hr (ab (pv 0) (ab (pv 1) (ab (pv 2) (ab (pv 3) (ab (pv 5) (ab (bH e9 (hW fN (pv 6)) (d9 (pv 3) rfl)) aD))))))))) (aW (fV (a8 T.add_moved (jF T) hr (ab (pv 0) (ab (pv 1) (ab (pv 2) (ab (pv 3) (ab (bH gH (pv 5) (d9 (pv 3) rfl)) (ab (hW fN (pv 6)) aD)))))))))))))))),?_];try dsimp only[fg]
 refine#[_,inferInstance,?_];rintro vs M q ⟨r,rl,rp,o,ds,ol,op,p,s,f,len,foot,a,b,P,Q,B,C,Z,D,rfl,JE,LJ,hp,s0,s8,Jw,F,iI,iW,pe,wa,TV,z0,z1,d0,d1,hB,hC,b0,b1,c0,c1,hPQ,k⟩;let⟨Cr,dr,zz,yn,C3,Dw,Um,GV,YQ⟩:oM λCr dr zz=>DE (M r=some (.ins Cr dr zz)) (zP K Cr=True) (dZ K Cr "lamps" =True) (dZ K Cr "parts" =True) (zz.lookup ("lamps" :Str)=some (wr rl)) (zz.lookup ("parts" :Str)=some (wr rp)):=by
  rcases JE with⟨d,e⟩ | ⟨d,f,g,e',e⟩
  .exact#[_,_,_,e,aY T.Row.cl,aY T.n_Row_lamps,aY T.n_Row_parts,rfl,rfl]
  .exact#[_,_,_,e,aY T.Stair.cl,aY T.n_Stair_lamps,aY T.n_Stair_parts,rfl,rfl]
 have p0:0<p:=by lia
 have fS3: [(("lamps" :Str),wr ol),(("parts" :Str),wr op),(("first" :Str),wi f),(("length" :Str),wi len),(("foot" :Str),wi foot)].lookup ("first" :Str)=some (wi f):=rfl;have YM: [(("lamps" :Str),wr ol),(("parts" :Str),wr op),(("first" :Str),wi f),(("length" :Str),wi len),(("foot" :Str),wi foot)].lookup ("length" :Str)=some (wi len):=rfl;have fS5: [(("lamps" :Str),wr ol),(("parts" :Str),wr op),(("first" :Str),wi f),(("length" :Str),wi len),(("foot" :Str),wi foot)].lookup ("foot" :Str)=some (wi foot):=rfl;have Gs:=wa.len iI.ga z0;have rX:(eC a).length<=16000000:=by unfold eC;rw[aa];lia
 have xt:=iI.lam;dsimp? [yn,C3,Dw,GV];refine#[rl,fP a,rfl,xt,λu hu=> ?_];rw[m8];have VW:o≠u:=dM LJ hu;dsimp? [aN VW,LJ,HQ,Z9,fS3];refine#[u,eC a,s,f,rfl,um_same,rX,s0,by lia,λv ms hv du ik=> ?_];have nov:o≠v:=dM (by rw[aN VW];exact LJ) hv;dsimp? [aN VW,aN nov,LJ,HQ,V1,YM];have hpa: ∀x∈eC a, -Z<=x /\ x<=Z:=λx hx=>by let⟨z,hz,rfl⟩:=ag.mp hx;exact wa z.1 (by rw[iL iI.ga.1 hz];have:=iI.ga.2 z hz;lia)
 have lx: ∀m∈ms, ∃x, -Z<=x /\ x<=Z /\ m=hI s x:=λm hm=>by let⟨x,hx,e⟩:=ag.mp (du.mem_iff.mp hm);have:=hpa x (aQ.mp hx).1;exact#[x,this.1,this.2,e.symm]
 have JM: ∀m∈ms, -Z - 1<=m /\ m<=Z:=λm hm=>by let⟨x,h1,h2,rfl⟩:=lx m hm;exact S1 (f:=f) s0 s8 #[h1,h2] z0
 have HH:ms.length<=(2*Z+1).toNat:=by rw[du.length_eq];refine aZ ?_ (aZ (Nat.le_of_eq (aa (as:=a) (λz=>z.1))) Gs);unfold oX;rw[aa];exact List.length_filter_le _ _
 refine#[v,ms,len,rfl,um_same,F.l0,by lia,by lia,λx hx=>by have:=JM x hx;lia,λt M1 sm DD=> ?_];let⟨HS,SS⟩:=Ee F.l0 ik (du.nodup_iff.mpr (kO iI.ga.1 s0));have hlen:(rO ms len).length<=(2*Z+2).toNat:=aZ (Io F.l0 z0 JM HH) (by lia);have OE:=λh (hh:h∈rO ms len)=>Ef F.l0 hh;have vL:s=0 -> ∀h∈rO ms len,h=0:=λe h hh=>by have l0:=F.s0 e;have e2:rO ms len=ms:=aj (.inl l0);rw[e2] at hh;let⟨x,_,_,rfl⟩:=lx h hh;unfold hI;rw[aj e]
 let⟨hs,YU⟩: ∃hs,hs=rO ms len:=#[_,rfl]
 rw[<- YU] at DD HS SS hlen OE vL;dsimp? [DD];have ZQ:Sm M M1:=((cu hu).trans (cu hv)).trans sm;refine ip (λi ρ M'=>Tt λ(o5 o6:Option W) (c:Pt) (P':Pq) (js:List (Int×Int))=>uk (ρ= [some (wi p),some (wi s),some (wr r),some (wr o),some (wr v),o5,o6]) (M' t=some (.lst (hs.map wi))) (c6 p M' rl rp c P') (nS s p f len b a hs i c js) (∀w x,look (pf P' w) x=(look (pf P w) x+dU (λsh=>look (pf Q w) (x - sh)) js) % p) (s=0 -> ∀j∈js,j.1=0) (Wt (Z+D+s) c) (uk (fo M M' (bY rl rp P)) (∀x∈bY rl rp P',x∈bY rl rp P \/ M x=none) (∀x∈bY rl rp P,x∈bY rl rp P') (∀t∈P',Wt (max B (C+Z+1)) t.2.2) (∀w∈P'.map (·.1),w∈P.map (·.1) \/ w∈Q.map (·.1)) (look c=G' s p f len foot b (hs.take i) (look a)) (∀j∈js, -Z - 1<=j.1 /\ j.1<=Z) (∀j∈js, ∃h∈hs,j.1=ji len h))) #[none,none,a,P,[],rfl,DD,iI.keep (fo.sm ZQ []) (λd _ h=>by cases h),#[λx=> ?i1,λj g hj _=>absurd hj (Nat.not_lt_zero j),λx hx dw=> ?i2,λx _=>rfl],λw x=> ?i3,(λ_ j hj=>by cases hj),λx hx=> ?i4,fo.sm ZQ _,λx hx=> .inl hx,λx hx=>hx,λt ht=>(hB t ht).up (by lia),λw hw=> .inl hw,rfl,(λj h=>by cases h),(λj h=>by cases h)] ?_ ?_ ?_;case i1=>show _=(look a x+0) % p;rw[bE,fF p0 iI.ga]
 case i2=>
  refine SS _ (du.mem_iff.mpr (ag.mpr #[x,aQ.mpr #[?_,by simpa using hx],rfl]))
  exact cI dw
 case i3=>show _=(look (pf P w) x+0) % p;rw[bE,fF p0 (iI.Fj w)]
 case i4=>have:=wa x hx;lia
 .rintro i ρ M' _ ⟨o5,o6,c,P',js,rfl,h2,_⟩;exact h2
 .rintro i x ρ M' hx ⟨o5,o6,c,P',js,rfl,h2,row,cst,A2,HK,wc,kp,fr,oA,iV,HI,DB,PK,UK⟩ N hN;let⟨h,hz,rfl⟩: ∃h,hs[i]? =some h /\ x=wi h:=by
   rw[ay] at hx;cases e:hs[i]? with
   | none=>rw[e] at hx;cases hx
   | some q=>rw[e] at hx;cases hx;exact#[q,rfl,rfl]
  have hm:=au hz;have Gy:=(ai.mp hz).1;have yZ: ∀ {x C' d' CM},M x=some (.ins C' d' CM) ->x∉bY rl rp P:=λ{x C' d' CM} e hx=>by let⟨kvs,e2⟩:=iI.mem hx;rw[e] at e2;cases e2
  have Gm:=kp r _ yn (yZ yn);have UG:=kp o _ LJ (yZ LJ);have hlm:=row.lam;have hh1: -4000000<h /\ h<4000000:=by
   rcases Int.lt_or_le h 0 with z | z
   .let⟨m,h3,h4⟩:=(OE h hm).1 z;have:=JM m h3;lia
   .let⟨m,h3,h4⟩:=(OE h hm).2 z;have:=JM m h3;lia
  have cm:gM h s=True:=aY (.inr #[by lia,by lia]);dsimp? [Gm,UG,C3,HQ,Dw,Z9,V1,Z8,GV,fS3,YM,fS5,hlm,cm,qa];refine d8 (λe0=>hN _ _ #[_,_,c,P',js,rfl,h2,row,cst.skip hz e0,A2,HK,wc,kp,fr,oA,iV,HI,by rw[tZ hz, <- DB];exact(aj e0).symm,PK,UK]) λe0=> ?_;have hl:=row.ga.range p0 (f+h*s);have Oy:=F.ft;have Sq:NZ p (-look c (f+h*s)):=sT hp λe=>e0 (by have:=Int.emod_emod_of_dvd (-look c (f+h*s)) (Int.dvd_refl p);have h3:(-look c (f+h*s)) % p=0:=e;have:=Int.dvd_of_emod_eq_zero h3;have h4:=Int.dvd_neg.mp this;have h5:=Int.emod_eq_zero_of_dvd h4;rw[cX hl.1 hl.2] at h5;exact h5);have WU:NZ p (-look c (f+h*s)*foot):=sT hp λe=>Sq foot Oy.1 Oy.2 (by rw[bN];exact e);have Q4:=iW.keep kp λd hd k9=>pe d k9 hd;have YZ: ∀x∈bY rl rp P',x∉bY ol op Q:=λx hx gY=>by
   rcases fr x hx with z | z
   .exact pe x z gY
   .let⟨kvs,e⟩:=iW.mem gY;rw[z] at e;cases e
  have oE:=wc.len row.ga (by lia);have GI:=TV.len iW.ga d0;have PJ:=F6 row.nV HI;have SI: ∀t∈P',t.2.2.length<=(2*max B (C+Z+1)+1).toNat:=λt ht=>(iV t ht).len (row.gp t ht) (by lia);have hC': ∀t∈Q,t.2.2.length<=(2*C+1).toNat:=λt ht=>(hC t ht).len (iW.gp t ht) c0;have Wf:rG A.fk A.dI M' r rl rp:=JE.keep kp (yZ yn);have Vw: -Z - 1<=ji len h /\ ji len h<=Z:=by
   have l0:=F.l0;unfold ji;split
   .rename_i jV;let⟨m,h3,h4⟩:=(OE h hm).1 jV;have:=JM m h3;lia
   .rename_i jV;let⟨m,h3,h4⟩:=(OE h hm).2 (by lia);have:=JM m h3;have:=HS.out h hm;lia
  have shb: -(Z+s) <=s*ji len h /\ s*ji len h<=Z+s:=by
   rcases Int.lt_or_eq_of_le s0 with z | z
   .unfold ji;split
    .rename_i jV;let⟨m,h3,h4⟩:=(OE h hm).1 jV;let⟨x,h5,h6,rfl⟩:=lx m h3;have h7:=zx (x:=x) z;have h8:=a6 h4 s0;have h9:s*h<=0:=Int.mul_nonpos_of_nonneg_of_nonpos s0 (by lia);lia
    .rename_i jV;let⟨m,h3,h4⟩:=(OE h hm).2 (by lia);let⟨x,h5,h6,rfl⟩:=lx m h3;have h7:=zx (x:=x) z;have h8:=a6 h4 s0;have hol:=HS.out h hm;have h9:0<=s*(h - len):=dy s0 (by lia);have UY:s*(h - len) <=s*h:=a6 (by have:=F.l0;lia) s0;lia
   .rw[<- z,bg];lia
  have fin: ∀n,(n=if h<0 then -(look c (f+h*s))*foot else -(look c (f+h*s))) ->NZ p n ->Ll A.fk A.dI [wi p,wi s,wr r,wr o,wi (ji len h),wi n] M' λ_ M2=>N [some (wi p),some (wi s),some (wr r),some (wr o),some (wr v),some (wi h),some (wi (look c (f+h*s)))] M2:=λn hn nz=>by
   refine#[r,rl,rp,o,ol,op,p,s,ji len h,n,c,b,P',Q,_,_,rfl,Wf, .inr #[_,_,_,_,UG],p0,by lia,s0,by lia,nz,row,Q4,YZ,by lia,by lia,SI,hC',by lia,λM2 c' P2 kY ec ep Jx JT MZ _ _ SG Gu=>hN _ _ #[_,_,c',P2,(ji len h,n)::js,rfl,?_,kY,cst.step F HS s0 p0 vL row.ga kY.ga hz hn ec,λw x=> ?_,λe j hj=> ?_,λx hx=> ?_,kp.trans Jx fr,λx hx=> ?_,λx hx=>MZ x (oA x hx),λt ht=> ?_,λw hw=> ?_,?_,λj hj=> ?_,λj hj=> ?_]]
   .exact Jx t _ h2 λhx=>by let⟨kvs,e⟩:=row.mem hx;rw[h2] at e;cases e
   .rw[ep,A2,Int.emod_add_emod,cB,Int.add_assoc,Int.add_comm (dU _ js)]
   .rcases av.mp hj with rfl | hj
    .have e1:=vL e h hm;have e2:=F.s0 e;show ji len h=0;rw[e1,e2];rfl
    .exact HK e j hj
   .rw[ec] at hx;by_cases hc:look c x=0
    .have hb:look b (x - s*ji len h)≠0:=λe=>hx (by rw[hc,e,bg];rfl);have:=TV _ hb;lia
    .exact wc x hc
   .rcases JT x hx with z | z
    .exact fr x z
    .cases e:M x with
     | none=>exact .inr rfl
     | some u=>
      by_cases gY:x∈bY rl rp P
      .exact .inl gY
      .rw[kp x _ e gY] at z;cases z
   .intro x hx;rw[<- qB kY.nV ht,ep] at hx;by_cases hc:look (pf P' t.1) x=0
    .have hb:look (pf Q t.1) (x - ji len h)≠0:=λe=>hx (by rw[hc,e,bg];rfl);have:=Kq hC t.1 _ hb;lia
    .exact Kq iV t.1 x hc
   .rcases Gu w hw with z | z
    .exact HI w z
    .exact .inr z
   .rw[tZ hz, <- DB];unfold Ey;rw[ah e0, <- hn];exact funext ec
   .rcases av.mp hj with rfl | hj
    .exact Vw
    .exact PK j hj
   .rcases av.mp hj with rfl | hj
    .exact#[h,hm,rfl]
    .exact UK j hj
  dsimp? [];refine d8 (λjV=> ?_) λjV=> ?_
  .have Y2:gM (-look c (f+h*s)) foot=True:=aY (.inr #[by lia,by lia]);dsimp? [UG,HQ,Z8,fS5,Y2];have:=fin _ rfl (by rw[aj jV];exact WU);rw[aj jV,show ji len h=h from aj jV] at this;exact this
  .dsimp? [UG,HQ,V1,YM];have:=fin _ rfl (by rw[ah jV];exact Sq);rw[ah jV,show ji len h=h - len from ah jV] at this;exact this
 .rintro ρ M' ⟨o5,o6,c,P',js,rfl,h2,row,cst,A2,HK,wc,kp,fr,oA,iV,HI,DB,PK,UK⟩;rw[aa] at cst DB;rw[cb] at DB;exact pM (k M' c P' js row cst.rel A2 HK (cst.low s0) cst.N5 wc kp fr oA iV HI #[ms,du,ik,by rw[DB,YU],by rw[<- YU];exact UK] PK)
def sS (T:Txt K mg A):d3 P w K mg base i0 1 A.xC A.xP ["_law_p_here","_law_row"] (kX K Rj):=by
 refine mU T.zf.fn sH (by left) λeI A' outer s H E hr=> ?_;have nd:=sH.nd;refine#[_,(aI (lP (i:=2) rfl nd rfl (Or.inl rfl) (dG.of (sc:=aP mH) (N:= ["_law_p_here","_law_row","_law_kept"]) (own:= ["_law_number"]) (fr:= [0]) (N':= ["_law_number","_law_p_here"]) rfl rfl rfl (by right) rfl (by right) (by right) (by right) (by right) (by right)) (Ny (pv 1)) (λ_ _ _ _=>(bR (i:=0) (by show(["_law_number","_law_p_here"]:List Str).Nodup;decide+kernel) rfl (by trivial))) di (λ_ _ _ _=>fq) (λ_ _ _ _=>(bH fO (pv 0) (pv 1))) rfl) (aI (mN bO (yQ (cL sR (bL cR (by rfl) T.gf Boot.«len» (ab (pv 2) aD)) aJ (de _)) (uR (cL kc (cP cY (pv 2) (hW fN aJ) (λ_ _=>rfl)) aJ (de _)))).pt (aW (bU (i:=2) nd rfl (by trivial) (mP pT (pv 2) pZ (pY (hW fN aJ)))))) (aW (c4 (dE gT (by rfl) T.ix Boot.«tuple» (ab (pv 2) aD)))))),?_];try dsimp only[fg]
 refine#[_,inferInstance,?_];rintro vs M q ⟨p,a,ns,rfl,ha,p0,hl,k⟩;have HG:(0<p)=True:=aY p0;simp? [↓cy,ha];refine jK (λx=>match x with | .v (.int n)=>some (wi (n % p)) | _=>none) (by rw[aa];exact big (by lia)) (λM3 s3=>s3 _ _ ha) ?_ λt ht=> ?_
 .intro i x hx M3 N s3 hN;let⟨n,LN,rfl⟩:=nj hx;simp? [↓cG,HG];exact hN
 have e:(ns.map wi).filterMap (λx=>match x with | .v (.int n)=>some (wi (n % p)) | _=>none)=(ns.map (· % p)).map wi:=by rw[List.filterMap_map,aE];exact List.filterMap_eq_map.symm▸rfl
 rw[e];refine gw ?_; simp? [↓cy];refine pS (λm ρ M'=>Di λ(ms:List Int) (u:Addr)=>BJ (ρ= [some (wi p),some (wr a),some (wr u)]) (M' u=some (.lst (ms.map wi))) (Sm M M') (m=ms.length) (i9 ms=D9 p ns)) ns.length #[ns.map (· % p),t,rfl,um_same,cu ht,by rw[aa],rfl] ?_;rintro m ρ M' ⟨ms,u,rfl,hu,sM,rfl,hm⟩ N hN;induction ms using WP.fH with
 | h0=>
  have hz:decide ((0:Int) < ((0:Nat):Int))=false:=by decide
  have jT:decide ((0:Int) < ((([]:List Int).map wi).length:Nat))=false:=by decide
  simp? [↓cy,hu,hz,jT];refine gw ?_; simp? [↓cy,hu];rw[<- hm] at k;exact#[M,sM,k]
 | h1 ms x _=>
  have tJ:iY ((ms++ [x]).map wi) (-1)=some (wi x):=Hl (by rw[aM];simp);have hz:decide ((0:Int) < (((ms++ [x]).map wi).length:Nat))=true:=c5 (by simp);simp? [↓cy,hu,hz,tJ];refine d8 (λh=> ?_) λh=> ?_
  .subst h;intro v hv;refine hN ms.length _ _ (by simp) #[ms,v,rfl,?_,sM.trans (cu hv),rfl,by rw[lI] at hm;exact hm];rw[um_same];have hc:pO ((ms++ [0]).map wi) none (some (-1))=ms.map wi:=by
    unfold pO;rw[aM];have e1:HT.mL (ms.map wi++ [0].map wi).length 0 none=0:=rfl;have e2:HT.mL (ms.map wi++ [0].map wi).length (ms.map wi++ [0].map wi).length (some (-1))=(ms.map wi).length:=by unfold HT.mL;simp;lia
    rw[e1,e2];simp
   rw[hc]
  .refine gw ?_; simp? [↓cy,hu];rw[lJ h] at hm;rw[<- hm] at k;exact#[M,sM,k]
def qF (T:Txt K mg A):d3 P w K mg base i0 1 A.tO A.tX ["p","setting"] (kX K Fv):=by
 refine mU T.inverse.fn qx (by left) λeI A' outer s H E hr=> ?_;have nd:=qx.nd;refine#[_,(aI (bU (i:=2) nd rfl (by trivial) aJ) (aI (fX bO rfl (f9 (by rfl) T.fK (ab (bH gH (pv 0) aJ) aD)) (bR (i:=3) nd rfl (by trivial)) (aW (bU (i:=2) nd rfl (by trivial) (bH fO (bH e9 (pv 2) (pv 1)) (pv 0))))) (aW (c4 (pv 2))))),?_];try dsimp only[fg]
 refine#[_,inferInstance,?_];rintro vs M q ⟨p,s,rfl,hp,s0,s1,k⟩;have HG:(0<p)=True:=aY (by lia);have cm: ∀x,gM x s=True:=λx=>aY (.inr #[by lia,by lia]);simp? [↓cy];refine gw ?_; simp? [↓cy];refine#[#[by lia,by lia],ip (λi ρ M'=> ∃o:Option W,ρ= [some (wi p),some (wi s),some (wi (pw p s i)),o] /\ M'=M) #[none,rfl,rfl] (λ_ _ _ _ _=>trivial) ?_ ?_]
 .rintro i x ρ M' hx ⟨o,rfl,rfl⟩ N hN;let⟨hi,rfl⟩:=ka hx;simp? [↓cy,cm,HG];exact hN _ _ #[_,rfl,rfl]
 .rintro ρ M' ⟨o,rfl,rfl⟩;rw[iy];dsimp only;refine gw ?_; simp? [↓cy];let⟨h1,h2,h3⟩:=Nu p s hp s0 s1;exact pM (k _ h1 h2 h3)
def FF (T:Txt K mg A):d3 P w K mg base i0 2 A.A9 A.Bo ["_law_p_here","_law_one","_law_other"] (kX K VH):=by
 refine mU T.Lu.fn wg (by left) λeI A' outer s H E hr=> ?_;have nd:=wg.nd;refine#[_,(aI (bU (i:=3) nd rfl (by trivial) (bH Fy (qC (ab aJ aD)) (bH eN (bL cR (by rfl) T.gf Boot.«len» (ab (pv 1) aD)) (bL cR (by rfl) T.gf Boot.«len» (ab (pv 2) aD))))) (aI (fX bO rfl (f9 (by rfl) T.fK (ab (bL cR (by rfl) T.gf Boot.«len» (ab (pv 1) aD)) aD)) (bR (i:=4) nd rfl (by trivial)) (aW (fX bO rfl (f9 (by rfl) T.fK (ab (bL cR (by rfl) T.gf Boot.«len» (ab (pv 2) aD)) aD)) (bR (i:=5) nd rfl (by trivial)) (aW (lR (bH eN (cP cY (pv 3) (bH eN (pv 4) (pv 5)) (λ_ _=>rfl)) (bH e9 (cP eh (pv 1) (pv 4) (λ_ _=>rfl)) (cP eh (pv 2) (pv 5) (λ_ _=>rfl)))) (lT (pv 3) (bH eN (pv 4) (pv 5)) set_list)))))) (aW (c4 (a8 T.zf (sS T) hr (ab (pv 0) (ab (pv 3) aD))))))),?_];try dsimp only[fg]
 refine#[_,inferInstance,?_];rintro vs M q ⟨p,a,b,rfl,p0,Gs,hlb,Wu,k⟩;have la:(a.map wi).length=a.length:=aa _;have lb:(b.map wi).length=b.length:=aa _;simp? [↓cy];intro c hc;simp? [↓cy,gQ,la,lb];refine#[#[by lia,by lia,by rw[cO];simp;lia],λr hr=> ?_];have er:(List.replicate ((a.length:Int)+(b.length:Int)).toNat [W.v (V.int 0)]).flatten=(List.replicate (a.length+b.length) (0:Int)).map wi:=by
  have:((a.length:Int)+(b.length:Int)).toNat=a.length+b.length:=by lia
  rw[this,List.map_replicate];induction a.length+b.length with
  | zero=>rfl
  | succ n ih=>rw[cT,List.flatten_cons,ih,cT];rfl
 rw[er];have hMr:M r=none:=(cu hc).free hr;refine gw ?_; simp? [↓cy,gQ,la,lb];refine#[#[by lia,by lia],ip (λi ρ M'=> ∃ (o1 o2:Option W),ρ= [some (wi p),some (gQ a),some (gQ b),some (wr r),o1,o2] /\ M' r=some (.lst ((rW a b i).map wi)) /\ Sm M M') #[none,none,rfl,um_same,(cu hc).trans (cu hr)] (λ_ _ _ _ _=>trivial) ?_ ?_]
 .rintro i x ρ M' hx ⟨o1,o2,rfl,hM,sM⟩ N hN;let⟨hi,rfl⟩:=ka hx;replace hi:i<a.length:=by lia
  have hA:=gV hi;have hnr:=Wu (a.getD i 0) (by rw[aC,ae hi];exact bK hi);have cm: ∀y,gM (a.getD i 0) y=True:=λy=>aY (.inl #[by lia,by lia]);simp? [↓cy,gQ,lb];refine#[#[by lia,by lia],ip (λj ρ M'=> ∃ (o2:Option W),ρ= [some (wi p),some (gQ a),some (gQ b),some (wr r),some (wi (0+(i:Int))),o2] /\ M' r=some (.lst ((oU (rW a b i) i (a.getD i 0) b j).map wi)) /\ Sm M M') #[o2,rfl,hM,sM] (λ_ _ _ _ _=>trivial) ?_ ?_]
  .rintro j x ρ M' hx ⟨o2,rfl,hM,sM⟩ N hN;let⟨hj,rfl⟩:=ka hx;replace hj:j<b.length:=by lia
   have hB:=gV hj;have hlen:=oq (rW a b i) i (a.getD i 0) b j;rw[mW] at hlen;have Gy:i+j< (oU (rW a b i) i (a.getD i 0) b j).length:=by lia
   have eij:(0+(i:Int))+(0+(j:Int))=((i+j:Nat):Int):=by lia
   have ei:(0+(i:Int))=(i:Int):=by lia
   have ej:(0+(j:Int))=(j:Int):=by lia
   have h1:=gV Gy;have h2:qR ((oU (rW a b i) i (a.getD i 0) b j).map wi).length ((i+j:Nat):Int)=some (i+j):=JA (by rw[aa];exact Gy);simp? [↓cy,gQ];simp![eij];simp? [↓cy,hM,h1];simp![ei,ej];simp? [↓cy,hA,hB,cm];simp? [↓cy,hM,h2];simp![ei] at hN;refine hN _ _ #[_,rfl,?_,λx o e=> ?_]
   .rw[um_same,oU,oK, <- EI]
   .rw[aN (dM e hMr)];exact sM x o e
  .rintro ρ M' ⟨o2,rfl,hM,sM⟩;rw[iy] at hM;have en:(b.length:Int).toNat=b.length:=by lia
   rw[en] at hM;dsimp only;exact hN _ _ #[_,_,rfl,hM,sM]
 .rintro ρ M' ⟨o1,o2,rfl,hM,sM⟩;rw[iy] at hM;have en:(a.length:Int).toNat=a.length:=by lia
  rw[en] at hM;dsimp only;refine gw ?_; simp? [↓cy];exact#[p,r,mulL a b,rfl,hM,p0,by rw[mulL,mW];lia,M,sM,k]
def wO (T:Txt K mg A):d3 P w K mg base i0 4 A.A7 A.Bm ["p","stride","row"] (kX K (NC A.fk A.dI)):=by
 have C3:=aY T.Row.cl;have Dw:=aY T.n_Row_lamps;refine mU T.stood.fn wd (by left) λeI A' outer s H E hr=> ?_;have nd:=wd.nd;refine#[_,(aI (bU (i:=3) nd rfl (by trivial) (a8 T.first_column (hU T) hr (ab (dE (iQ rfl) (by rfl) T.hV Boot.«list» (ab (d9 (pv 2) rfl) aD)) (ab (pv 1) aD)))) (aI (bU (i:=4) nd rfl (by trivial) (a8 T.heights (qG T) hr (ab (dE (iQ rfl) (by rfl) T.hV Boot.«list» (ab (d9 (pv 2) rfl) aD)) (ab (pv 1) (ab (pv 3) aD))))) (aI (bU (i:=5) nd rfl (by trivial) (a8 T.inverse (qF T) hr (ab (pv 0) (ab (fu (fw hr) (d9 (pv 2) rfl) (bH eN (pv 3) (bH e9 (cP cY (pv 4) (hW fN aJ) (λ_ _=>rfl)) (pv 1))) (λ_ _=>rfl)) aD)))) (aI (bU (i:=6) nd rfl (by trivial) (mQ T.Row (yY T) (hr.mono (by decide)) (by rfl) (ab jt (ab jt aD)))) (aI (fV (a8 T.add_moved (jF T) hr (ab (pv 0) (ab (pv 1) (ab (pv 6) (ab (pv 2) (ab (hW fN (cP cY (pv 4) aJ (λ_ _=>rfl))) (ab (pv 5) aD)))))))) (aW (c4 (mQ T.Stair (FI T) (hr.mono (by decide)) (by rfl) (ab (pv 6) (ab (pv 3) (ab (bH gH (cP cY (pv 4) (hW fN aJ) (λ_ _=>rfl)) (cP cY (pv 4) aJ (λ_ _=>rfl))) (ab (a8 T.inverse (qF T) hr (ab (pv 0) (ab (fu (fw hr) (d9 (pv 6) rfl) (pv 3) (λ_ _=>rfl)) aD))) aD)))))))))))),?_];try dsimp only[fg]
 refine#[_,inferInstance,?_];rintro vs M q ⟨r,dr,rl,rp,p,s,a,P,B,D,rfl,yn,hp,s0,s8,iI,dw,wa,d0,d1,hB,hBl,hPl,k⟩;have p0:0<p:=by lia
 have GV: [(("lamps" :Str),wr rl),(("parts" :Str),wr rp)].lookup ("lamps" :Str)=some (wr rl):=rfl;have Gs:=wa.len iI.ga d0;have rX:(eC a).length<=16000000:=by unfold eC;rw[aa];lia
 have xt:=iI.lam;dsimp? [yn,C3,Dw,GV];refine#[rl,fP a,rfl,xt,λu hu=> ?_];rw[m8];refine#[u,eC a,s,rfl,um_same,rX,s0,by lia,λe=>absurd (List.map_eq_nil_iff.mp e) dw,λ_=> ?_];have mm:=λms=>RJ (s:=s) (a:=a) (ms:=ms) dw;generalize fE ((eC a).map (bZ s))=f at mm ⊢;have nru:r≠u:=dM yn hu;have Z2:rl≠u:=dM xt hu;dsimp? [aN nru,aN Z2,yn,C3,Dw,GV];refine#[rl,fP a,rfl,by rw[aN Z2];exact xt,λu2 hu2=> ?_];rw[m8];refine#[u2,eC a,s,f,rfl,um_same,rX,s0,by lia,λv ms hv du ik=> ?_];let⟨lx,mn⟩:=mm ms du ik;have h1:iY (ms.map wi) (-1)=some (wi (ms.getLastD 0)):=ui lx;have h0:iY (ms.map wi) 0=some (wi (ms.headD 0)):=by
  cases ms with
  | nil=>exact absurd rfl lx
  | cons a r=>exact atI_0
 generalize ms.getLastD 0=tp at mn h1;generalize ms.headD 0=m at mn h0;have rP:Sm M (um (um (um M u (.lst ((eC a).map wi))) u2 (.lst ((eC a).map wi))) v (.lst (ms.map wi))):=((cu hu).trans (cu hu2)).trans (cu hv);have R':um (um (um M u (.lst ((eC a).map wi))) u2 (.lst ((eC a).map wi))) v (.lst (ms.map wi)) v=some (.lst (ms.map wi)):=um_same;generalize um (um (um M u (.lst ((eC a).map wi))) u2 (.lst ((eC a).map wi))) v (.lst (ms.map wi))=M1 at rP R' ⊢;have HF:=rP _ _ yn;have Sz:=rP _ _ xt;have cm:gM tp s=True:=aY (.inr #[by lia,by lia]);have Og:=vB s0 mn.hi;have JC:=qh (m:=a) Og.1;have Ov:=eG iI.ga Og.1;dsimp? [R',h1,HF,C3,Dw,GV,Sz,cm,JC];refine#[p,_,rfl,hp,Ov.1,Ov.2,λtn QB Pd Dy=> ?_];dsimp? [];intro e1 SN e2 HL x dx hx PN Xq;refine#[x,dx,wr e1,wr e2,rfl,um_same,rfl,?_];have EG:Sm M1 (um (um (um M1 e1 (.dK [])) e2 (.dK [])) x (.ins A.fk dx [("lamps",wr e1),("parts",wr e2)])):=((cu SN).trans (cu HL)).trans (cu hx);dsimp? [];have PB:um (um (um M1 e1 (.dK [])) e2 (.dK [])) x (.ins A.fk dx [("lamps",wr e1),("parts",wr e2)]) x=some (.ins A.fk dx [("lamps",wr e1),("parts",wr e2)]):=um_same;have Dx:e1≠e2:=dM um_same HL;have RF:e1≠x:=dM (by rw[aN Dx];exact um_same) hx;have Pl:e2≠x:=dM um_same hx;have hf1:M1 e2=none:=by rw[aN (a9 Dx)] at HL;exact HL
 have hf2:M1 x=none:=by rw[aN (a9 Pl),aN (a9 RF)] at hx;exact hx
 have IF:c6 p (um (um (um M1 e1 (.dK [])) e2 (.dK [])) x (.ins A.fk dx [("lamps",wr e1),("parts",wr e2)])) e1 e2 [] []:=#[by rw[aN RF,aN Dx];exact um_same,by rw[aN Pl];exact um_same,(λt ht=>by cases ht),GD.nil,(λt ht=>by cases ht),List.nodup_nil,by simp[bY,Dx]]
 generalize um (um (um M1 e1 (.dK [])) e2 (.dK [])) x (.ins A.fk dx [("lamps",wr e1),("parts",wr e2)])=M2 at EG PB IF ⊢;have R9:=EG _ _ R';have Gm:=EG _ _ HF;have JT: ∀d,d∈x::bY e1 e2 [] ->M1 d=none:=λd hd=>by
  simp![bY,av,List.map_nil,List.not_mem_nil,or_false] at hd;rcases hd with rfl | rfl | rfl
  .exact hf2
  .exact SN
  .exact hf1
 have YI: ∀d,M1 d=none ->M d=none:=λd hd=>by
  cases e:M d with
  | none=>rfl
  | some o=>rw[rP _ _ e] at hd;cases hd
 have Q5:c6 p M2 rl rp a P:=iI.keep (fo.sm (rP.trans EG) []) (λd _ h=>by cases h);have nz:NZ p tn:=sT hp (by rw[cX (by lia) Pd];lia);dsimp? [R9,h0];refine#[x,e1,e2,r,rl,rp,p,s, -m,tn,[],a,[],P,0,B,rfl, .inl #[_,PB], .inl #[_,Gm],p0,by lia,s0,by lia,nz,IF,Q5,?_,by show 0+a.length<=_;lia,by show 0+P.length<=_;lia,(λt ht=>by cases ht),hB,by lia,λM3 b Q rR eb eq Pp JS aah GI _ Xh W9=> ?_]
 .intro d hd k9;let⟨kvs,e⟩:=iI.mem k9;rw[YI d (JT d (aw _ hd))] at e;cases e
 have YW: ∀x,look b x=look a (x+s*m)*tn % p:=λx=>by rw[eb];show(0+_) % p=_;rw[bB,Int.mul_neg,Int.sub_neg]
 have Oy:=yJ s0 p0 iI.ga mn nz YW;have R8:=qh (m:=b) (cI (m:=b) (x:=f) (by lia));have nvr: ∀ {d kvs},M2 d=some (.lst kvs) ->d∉bY e1 e2 []:=λ{d kvs} e hd=>by let⟨kvs,e2⟩:=IF.mem hd;rw[e] at e2;cases e2
 have nir: ∀ {d C' d' CM},M2 d=some (.ins C' d' CM) ->d∉bY e1 e2 []:=λ{d C' d' CM} e hd=>by let⟨kvs,e2⟩:=IF.mem hd;rw[e] at e2;cases e2
 have hv3:=Pp _ _ R9 (nvr R9);have Wl:=Pp _ _ PB (nir PB);have Sx:=rR.lam;have fX1: [(("lamps" :Str),wr e1),(("parts" :Str),wr e2)].lookup ("lamps" :Str)=some (wr e1):=rfl;dsimp? [];rw[uv];dsimp? [hv3,h0,h1,Wl,C3,Dw,fX1,Sx,R8];refine#[p,_,rfl,hp,Oy.1,Oy.2,λfoot f0 f1 hfo=> ?_];dsimp? [];intro o ds ho hds PQ;have ZZ:x≠o:=dM Wl ho;refine#[o,ds,x,dx,wr e1,wr e2,wi f,wi (tp - m),wi foot,rfl,a9 ZZ,um_same,by rw[aN ZZ];exact Wl,rfl,pM ?_];have YH: ∀d,M2 d=none ->M d=none:=λd hd=>by
  cases e:M d with
  | none=>rfl
  | some o=>rw[EG _ _ (rP _ _ e)] at hd;cases hd
 have Du:Sm M M3:=λd u e=>Pp _ _ (EG _ _ (rP _ _ e)) λhd=>by rw[YI d (JT d (aw _ hd))] at e;cases e
 have S8: ∀d,M3 d=none ->M d=none:=λd hd=>by
  cases e:M d with
  | none=>rfl
  | some o=>rw[Du _ _ e] at hd;cases hd
 refine k _ o ds e1 e2 b Q f m tp foot tn um_same (rR.same λd hd=> ?_) (BU (by lia) s0 iI.ga mn Dy YW hfo f0 f1) mn QB Pd Dy YW (λw x=> ?_) (λd u e=> ?_) (λd hd=> ?_) (λt ht=>aZ (Xh t ht) (by lia)) λw hw=>(W9 w hw).elim (λz=>by cases z) id
 .have PQ:d≠o:=λz=>by let⟨kvs,e⟩:=rR.mem hd;rw[z,ho] at e;cases e
  rw[aN PQ,aN PQ]
 .rw[eq];show(0+_) % p=_;rw[bB,Int.sub_neg]
 .have PQ:d≠o:=λz=>by rw[z,S8 o ho] at e;cases e
  rw[aN PQ,aN PQ];exact Du _ _ e
 .rcases av.mp hd with rfl | hd
  .exact S8 _ ho
  .rcases JS d hd with z | z
   .exact YI d (JT d (aw _ z))
   .exact YH d z
def rV (T:Txt K mg A):d3 P w K mg base i0 1 A.nD A.nK ["p","parts","n"] (kX K Rk):=by
 refine mU T.told_parts.fn lj (by left) λeI A' outer s H E hr=> ?_;have nd:=lj.nd;refine#[_,(aW (c4 (Fo (n1:=1) rfl (dG.of (sc:=aP iq) (N:= ["p","parts","n"]) (own:= ["which","shift"]) (fr:= [0,2,1]) (N':= ["which","shift","p","n","parts"]) rfl rfl rfl (by right) rfl (by right) (by right) (by right) (by right) (by right)) (eR (bL (fJ rfl) (by rfl) T.iR Boot.«sorted» (ab (pv 1) aD))) (λ_ _ _ _=>(bR (i:=0) (by show(["which","shift","p","n","parts"]:List Str).Nodup;decide+kernel) rfl (by trivial))) (by decide) (xi (by show _<_;decide)) (λ_ _ _ _=>fq) (λ_ _ _ _=>(Fh (K:=K) rfl (bL (fJ rfl) (by rfl) T.iR Boot.«sorted» (ab (fu (fw hr) (pv 4) (pv 0) (λ_ _=>rfl)) aD)))) (λ_ _ _ _=>(bR (i:=1) (by show(["which","shift","p","n","parts"]:List Str).Nodup;decide+kernel) rfl (by trivial))) (xi (by show _<=_ /\ _<_;decide)) (λ_ _ _ _=>fq) (λ_ _ _ _=>(gr (ab (pv 0) (ab (pv 1) (ab (bH fO (bH e9 (fu (fw hr) (fu (fw hr) (pv 4) (pv 0) (λ_ _=>rfl)) (pv 1) (λ_ _=>rfl)) (pv 3)) (pv 2)) aD)))))))),?_];try dsimp only[fg]
 refine#[_,inferInstance,?_];rintro vs M q ⟨rl,rp,p,n,a,P,B,rfl,p0,p1,n0,n1,row,hPl,hB,hB9,hPB,k⟩;have JG:=row.par;dsimp? [JG];refine#[rp,mf P,P.map (·.1),rfl,JG,by unfold mf;rw[aE,aE];rfl,big (by rw[aa];lia),λu ws hu du ik=> ?_];dsimp? [um_same];have R1:ws.length=P.length:=by rw[du.length_eq,aa]
 have QX:=cu (o:= .lst (ws.map wi)) hu;refine zF (λx:Int=>wi x) (λw zs=> ∃yl:List Int,yl.Perm (eC (pf P w)) /\ zs=yl.map λsh=>mS (w,sh,look (pf P w) sh*n % p)) B (yb (by rw[R1];lia)) (λp' M' h1 h2=>h2 u _ (dM um_same h1) um_same) ?_ ?_
 .intro w hw p' M' ys LH sm Gg B' N0 hB';let⟨t,ht,rfl⟩:=ag.mp (du.mem_iff.mp hw);have A2:pf P t.1=t.2.2:=qB row.nV ht;have hM: ∀d o,M d=some o ->M' d=some o:=λd o e=>sm d o (λz=>by rw[z] at e;rw[QX _ _ e] at LH;cases LH) (QX _ _ e);have Sn:=hM _ _ JG;have SH:=hM _ _ (row.A0 t ht);have JC:fh (mf P) (Sum.inl t.1)=some (wr t.2.1):=by
   rw[uz];cases e:P.find? (λu=>decide (u.1=t.1)) with
   | none=>exact absurd (List.find?_eq_none.mp e t ht) (by simp)
   | some u=>have h1:=find_some e;have h2:u=t:=gI row.nV h1.1 ht h1.2;rw[h2];rfl
  dsimp? [Sn,JC,SH];refine#[t.2.1,fP t.2.2,eC t.2.2,rfl,SH,by unfold fP eC;rw[aE,aE];rfl,big (by unfold eC;rw[aa];have:=hB t ht;lia),λv yl hv vh Ws=> ?_];dsimp? [um_same];refine hB' _ _ yl (λsh=>mS (t.1,sh,look (pf P t.1) sh*n % p)) _ (rC.sm (cu hv)) (by rw[aN (dM Gg hv)];exact Gg) #[yl,by rw[A2];exact vh,rfl] ?_ (λM5 h5=>h5 v _ (a9 (dM Gg hv)) um_same) ?_
  .rw[vh.length_eq];unfold eC;rw[aa];exact hB t ht
  .intro sh UA M5 sm5 N hN;have np: ∀ {d o},M d=some o ->d≠p':=λ{d o} e z=>by rw[z] at e;rw[QX _ _ e] at LH;cases LH
   have P8: ∀d o,M d=some o ->M5 d=some o:=λd o e=>sm5 d o (np e) (cu hv _ _ (hM d o e));have Sl:=P8 _ _ JG;have Xg:=P8 _ _ (row.A0 t ht);have Ov:=eG (row.gp t ht) (vh.mem_iff.mp UA);have Gh:=qh (m:=t.2.2) (vh.mem_iff.mp UA);have cm:gM (look t.2.2 sh) n=True:=aY (.inr #[by lia,by lia]);dsimp? [Sl,JC,Xg,Gh,cm,p0];rw[A2] at hN;exact hN
 .intro t M' yss ht sm hM' hlen hR;let⟨tl,e,hp⟩:=BS row.nV (λw=>(row.Fj w).1) du hlen hR;have UR:M t=none:=by
   cases e:M t with
   | none=>rfl
   | some o=>rw[QX _ _ e] at ht;cases ht
  exact pM (k t M' tl (λd o e=>sm d o (λz=>by rw[z,UR] at e;cases e) (QX _ _ e)) UR (by rw[hM',e]) hp)
def yX (T:Txt K mg A):d3 P w K mg base i0 1 A.tN A.tW ["_law_script"] (Am K):=by
 refine T.AS.fn.ok qw (λvs H Q E h=> ?_) (λeI A' outer s H vs Q E hr h=> ?_)
 .let⟨a,ns,rfl,_⟩:=h;rfl
 .let⟨a,ns,rfl,hs,k⟩:=h;have nd:=qw.nd;refine#[_,(aW (c4 (qC (ab (dE jM (by rfl) T.hV Boot.«list» (ab (mP pT (pv 0) pZ (pY aJ)) aD)) (ab aJ (ab aJ (ab aJ aD))))))),?_];have ec: ∃ms:List Int,xW (ns.map V.int) none (some 63)=ms.map V.int:=by refine#[(ns.drop (HT.mL (ns.map V.int).length 0 none)).take (HT.mL (ns.map V.int).length (ns.map V.int).length (some 63) - HT.mL (ns.map V.int).length 0 none),?_];unfold xW;rw[List.map_take,List.map_drop]
  let⟨ms,em⟩:=ec;refine#[_,rfl,_,rfl,_,_,rfl,hs,λp hp=>#[_,_,rfl, .inl (gB.of cn),λl hl=>#[by show 4<=sizeLine;decide,λd hd=> ?_]]];have fS:l≠d:=λe=>by rw[e,cn] at hd;cases hd
  refine k d l ms _ fS.symm cn ?_;rw[bM fS,cn,em]
def iz (T:Txt K mg A):d3 P w K mg base i0 1 A.xE A.xR ["_law_draw","_law_many"] (kX K Rl):=by
 refine mU T.lX.fn sJ (by left) λeI A' outer s H E hr=> ?_;have nd:=sJ.nd;refine#[_,(aI (gq (yQ (cL wM (cP cY (pv 0) aJ (λ_ _=>rfl)) (pv 1) (de _)) (uR (cL wM (cP cY (pv 0) aJ (λ_ _=>rfl)) (bL cR (by rfl) T.gf Boot.«len» (ab (cP cY (pv 0) aJ (λ_ _=>rfl)) aD)) (de _)))).pt (aI (bU (i:=2) nd rfl (by trivial) (cP cY (cP cY (pv 0) aJ (λ_ _=>rfl)) (cP cY (pv 0) aJ (λ_ _=>rfl)) (λ_ _=>rfl))) (aI (lR (bH eN (cP cY (pv 0) aJ (λ_ _=>rfl)) aJ) (lT (pv 0) aJ set_list)) (aI (lR aJ (lT (pv 0) aJ set_list)) (aW (gq (cL wN (bL ub (by rfl) T.Ml Boot.«abs» (ab (pv 2) aD)) (bH NK aJ aJ) (de _)) (aW (lR (bL ub (by rfl) T.Ml Boot.«abs» (ab (pv 2) aD)) (lT (pv 0) aJ set_list))) (aW (lR (bH fO (bH eN (bH eN (bH e9 (cP cY (pv 0) aJ (λ_ _=>rfl)) aJ) (bH e9 (bH fO (pv 2) aJ) aJ)) aJ) aJ) (lT (pv 0) aJ set_list)))))))) eY) (aI (gq (cL wN (cP cY (pv 0) aJ (λ_ _=>rfl)) (pv 1) (de _)) (aI (bU (i:=3) nd rfl (by trivial) (bH fO (cP cY (pv 0) aJ (λ_ _=>rfl)) (pv 1))) (aI (lR (bH uY (cP cY (pv 0) aJ (λ_ _=>rfl)) (pv 1)) (lT (pv 0) aJ set_list)) (aW (c4 (pv 3))))) eY) (aI (lR (bH fO (bH eN (bH e9 (cP cY (pv 0) aJ (λ_ _=>rfl)) aJ) aJ) aJ) (lT (pv 0) aJ set_list)) (aW (c4 (bH fO (bH uY (cP cY (pv 0) aJ (λ_ _=>rfl)) aJ) (pv 1))))))),?_];try dsimp only[fg]
 refine#[_,inferInstance,?_];rintro vs M q ⟨d,l,n,rfl,⟨ns,i,c,sd,hd,hl,hi,dw⟩,n0,n1,k⟩;refine zt (λρ M'=>Tt λ(o1 o2:Option W) (i' c' s':Int)=>vD (ρ= [some (wr d),some (wi n),o1,o2]) (M' d=some (.lst [wr l,wi i',wi c',wi s'])) (NB d M M') (0<=i')) ?_ λN hN=> ?_
 .rintro ρ M' ⟨o1,o2,i',c',s',rfl,h,nb,ly⟩;have fin: ∀ (r c' s':Int),0<=r ->r<n -> ∃M0,Sm M0 (um M' d (.lst [wr l,wi i',wi c',wi s'])) /\ q (wi r) M0:=λr c' s' h0 h1=>pM (k r _ h0 h1 #[ns,i',c',s',um_same,by rw[aN (a9 dw),nb l (a9 dw)];exact hl,ly,dw] (nb.trans NB.put));have cm3: ∀x,gM x 16807=True:=λx=>by simp[gM]
  have cd1: ∀x,zQ x n=True:=λx=>by simp[zQ,n0,n1]
  have cd2: ∀x,zQ x 64=True:=λx=>by simp[zQ]
  have z2:((0:Int) <2147483647)=True:=by decide
  simp? [↓cG,h,n0,cm3,cd1,cd2,z2];exact d8 (λ_=>fin _ _ _ (cF _ (by lia)) (cf _ n0)) λ_=>fin _ _ _ (cF _ (by lia)) (cf _ n0)
 .have nx: ∀ (o1 o2:Option W) (i' c' s':Int),0<=i' ->N [some (wr d),some (wi n),o1,o2] (um M d (.lst [wr l,wi i',wi c',wi s'])):=λ_ _ _ _ _ h=>hN _ _ #[_,_,_,_,_,rfl,um_same,NB.put,h];have Ui: ∀ (o1 o2:Option W),N [some (wr d),some (wi n),o1,o2] M:=λ_ _=>hN _ _ #[_,_,_,_,_,rfl,hd,NB.refl d M,hi];have cp:Pc 10 18=True:=by simp[Pc]
  have cm: ∀x,gM x 48271=True:=λx=>by simp[gM]
  have Y2: ∀x,gM x 69621=True:=λx=>by simp[gM]
  have z1:((0:Int) <2147483629)=True:=by decide
  have z2:((0:Int) <2147483647)=True:=by decide
  by_cases fM:i<ns.length
  .have hx:iY (ns.map wi) i=some (wi (ns[i.toNat]'(by lia))):=Ka hi (by rw[ay,ae (by lia)];rfl);simp? [↓cG,hd,hl,hx,aa,cp,cm,Y2,z1,z2];exact d8 (λ_=>d8 (λ_=>d8 (λ_=>nx _ _ _ _ _ (by lia)) λ_=>nx _ _ _ _ _ (by lia)) λ_=>Ui _ _) λ_=>Ui _ _
  .simp? [↓cG,hd,hl,fM,aa,decide_false];exact d8 (λ_=>Ui _ _) λ_=>Ui _ _
def NP (T:Txt K mg A):d3 P w K mg base i0 2 A.L9 A.Me ["_law_draw"] (kX K pP):=by
 refine mU T.l_p.fn EL (by left) λeI A' outer s H E hr=> ?_;have nd:=EL.nd;refine#[_,(aW (c4 (cP eh (gr (ab aJ (ab aJ (ab aJ (ab aJ aD))))) (a8 T.lX (iz T) hr (ab (pv 0) (ab aJ aD))) (λ_ _=>rfl)))),?_];try dsimp only[fg]
 refine#[_,inferInstance,?_];rintro vs M q ⟨d,l,rfl,hD,k⟩;simp? [↓cG];refine#[d,l,4,rfl,hD,by decide,by decide,λr M1 r0 r1 D1 b1=> ?_];have hr4:r=0 \/ r=1 \/ r=2 \/ r=3:=by omega
 rcases hr4 with rfl | rfl | rfl | rfl<;> simp? [↓cG]
 .exact pM (k 2 _ (by decide) D1 b1)
 .exact pM (k 3 _ (by decide) D1 b1)
 .exact pM (k 5 _ (by decide) D1 b1)
 .exact pM (k 7 _ (by decide) D1 b1)
def wQ (T:Txt K mg A):d3 P w K mg base i0 1 A.Ba A.Bp ["_law_thing"] (kX K VI):=by
 refine mU T.F4.fn wj (by left) λeI A' outer s H E hr=> ?_;have nd:=wj.nd;refine#[_,(aW (c4 (Fq (bL jx (by rfl) T.fL Boot.«isinstance» (ab (pv 0) (ab (kH (by rfl) T.Mj Boot.«int» (show RelV (.ty "int") _ from rfl)) aD))) (Fl (NA (bL jx (by rfl) T.fL Boot.«isinstance» (ab (pv 0) (ab (kH (by rfl) T.O4 Boot.«bool» (show RelV (.ty "bool") _ from rfl)) aD)))))))),?_];try dsimp only[fg]
 refine#[_,inferInstance,?_];rintro vs M q ⟨i,rfl,k⟩;simp? [↓cG];exact pM k
def Ji (T:Txt K mg A):d3 P w K mg base i0 1 A.GU A.G6 ["p","pairs"] (kX K Lk):=by
 refine mU T.tidy.fn Aq (by left) λeI A' outer s H E hr=> ?_;have nd:=Aq.nd;refine#[_,(aI (bU (i:=2) nd rfl (by trivial) jt) (aI (fX bO rfl (eR (pv 1)) (lS (n:=2) rfl (eD (bR (i:=3) nd rfl (by trivial)) (eD (bR (i:=4) nd rfl (by trivial)) jE))) (aW (mO (fw hr) (pv 2) (pv 3) (bH fO (bH eN (mR (fw hr) (pv 2) (pv 3) aJ #[by rfl,by rfl,by rfl,by rfl]) (pv 4)) (pv 0)) rfl))) (aW (c4 (dE gT (by rfl) T.ix Boot.«tuple» (ab (eZ rfl (dG.of (sc:=aP uH) (N:= ["p","pairs","turned","place","setting"]) (own:= ["place"]) (fr:= [2]) (N':= ["place","turned"]) rfl rfl rfl (by right) rfl (by right) (by right) (by right) (by right) (by right)) (eR (bL (fJ rfl) (by rfl) T.iR Boot.«sorted» (ab (pv 2) aD))) (λ_ _ _ _=>(bR (i:=0) (by show(["place","turned"]:List Str).Nodup;decide+kernel) rfl (by trivial))) di (λ_ _ _ _=>(kG (cL AI (fu (fw hr) (pv 1) (pv 0) (λ_ _=>rfl)) aJ (de _)))) (λ_ _ _ _=>(gr (ab (pv 0) (ab (fu (fw hr) (pv 1) (pv 0) (λ_ _=>rfl)) aD))))) aD)))))),?_];try dsimp only[fg]
 refine#[_,inferInstance,?_];rintro vs M q ⟨a,p,ps,rfl,ha,p0,S2,Xy,k⟩;simp? [↓cG];intro d hd;have FO:a≠d:=dM ha hd;simp? [↓cG,aN FO,ha];refine ip (λi ρ M'=>oM λ(o1 o2:Option W) (m:Pt)=>DE (ρ= [some (wi p),some (wr a),some (wr d),o1,o2]) (M'=um M d (.dK (fP m))) ((m.map (·.1)).Nodup) (m.length<=i) (∀x,look m x=dH (ps.take i) x % p) (∀k∈m.map (·.1), ∃q∈ps,q.1=k)) #[none,none,[],rfl,rfl,List.nodup_nil,ao _,λx=>by simp[look,dH],by simp] ?_ ?_ ?_
 .rintro i ρ M' _ ⟨o1,o2,m,rfl,rfl,_⟩;rw[aN FO];exact ha
 .rintro i x ρ M' hx ⟨o1,o2,m,rfl,rfl,hn,hl,ht,iV⟩ N hN;let⟨z,hz,rfl⟩:=pairs_at hx;have Gy:=(ai.mp hz).1;have hs:((fP m).length<sizeLine)=True:=by rw[fP,aa];exact aY (yb (by omega))
  simp? [↓cG,cQ,qa,p0,hs,pX];refine hN _ _ #[_,_,_,rfl,rfl,u4 hn,aZ qO (by omega),λx=> ?_,λk hk=>(w5 hk).elim (λe=>#[z,au hz,e.symm]) (iV k)];rw[ou,bC,hz];show _=dH (ps.take i++ [z]) x % p;rw[ml];by_cases hx:x=z.1
  .subst hx;rw[aj rfl,aj rfl,ht,Int.emod_add_emod]
  .rw[ah hx,ah (a9 hx),bE];exact ht x
 .rintro ρ M' ⟨o1,o2,m,rfl,rfl,hn,hl,ht,iV⟩;rw[aa] at hl ht;rw[cb] at ht;simp? [↓cG];refine#[d,fP m,m.map (·.1),rfl,um_same,xf m,(by rw[aa];exact big (by omega)),λsp ns xo du ik=> ?_];have OA:d≠sp:=dM um_same xo;have LK:ns.length<=16000000:=by rw[du.length_eq,aa];omega
  simp? [↓cG];refine jK (λx=>match x with | .v (.int n)=>if look m n=0 then none else some (cQ (n,look m n)) | _=>none) (by rw[aa];exact big LK) (λM3 s3=>s3 _ _ um_same) ?_ λt Wr=> ?_
  .intro i x hx M3 N s3 hN;let⟨n,LN,rfl⟩:=nj hx;have Xt:M3 d=some (.dK (fP m)):=s3 _ _ (by rw[aN OA,um_same]);have JK:n∈m.map (·.1):=du.mem_iff.mp (au LN);simp? [↓cG,Xt,qh JK];refine zo (λh=> ?_) λh=> ?_
   .simp![h,bj] at hN;exact hN
   .simp![h,bW] at hN;exact hN
  .simp? [↓cG];refine#[M,((Sm.um (Sm.refl M) hd).trans (cu xo)).trans (cu Wr),?_]
   .have e:(ns.map wi).filterMap (λx=>match x with | .v (.int n)=>if look m n=0 then none else some (cQ (n,look m n)) | _=>none)=(iU p ps).map cQ:=by rw[<- Ap p0 hn ht du ik,List.filterMap_map];unfold sel;rw[List.map_filterMap];congr 1;funext n;simp![Function.comp];split<;>rfl
    rw[e];exact k
def oi (T:Txt K mg A):d3 P w K mg base i0 1 A.xD A.xQ ["_law_p_here","_law_pairs"] (kX K Lk):=by
 refine mU T.u9.fn sI (by left) λeI A' outer s H E hr=> ?_;have nd:=sI.nd;refine#[_,(aI (bU (i:=2) nd rfl (by trivial) jt) (aI (fX bO rfl (eR (pv 1)) (lS (n:=2) rfl (eD (bR (i:=3) nd rfl (by trivial)) (eD (bR (i:=4) nd rfl (by trivial)) jE))) (aW (mO (fw hr) (pv 2) (pv 3) (bH fO (bH eN (mR (fw hr) (pv 2) (pv 3) aJ #[by rfl,by rfl,by rfl,by rfl]) (pv 4)) (pv 0)) rfl))) (aW (c4 (dE gT (by rfl) T.ix Boot.«tuple» (ab (eZ rfl (dG.of (sc:=aP mJ) (N:= ["_law_p_here","_law_pairs","_law_sums","_law_place","_law_setting"]) (own:= ["_law_place"]) (fr:= [2]) (N':= ["_law_place","_law_sums"]) rfl rfl rfl (by right) rfl (by right) (by right) (by right) (by right) (by right)) (eR (bL (fJ rfl) (by rfl) T.iR Boot.«sorted» (ab (pv 2) aD))) (λ_ _ _ _=>(bR (i:=0) (by show(["_law_place","_law_sums"]:List Str).Nodup;decide+kernel) rfl (by trivial))) di (λ_ _ _ _=>(kG (cL sR (fu (fw hr) (pv 1) (pv 0) (λ_ _=>rfl)) aJ (de _)))) (λ_ _ _ _=>(gr (ab (pv 0) (ab (fu (fw hr) (pv 1) (pv 0) (λ_ _=>rfl)) aD))))) aD)))))),?_];try dsimp only[fg]
 refine#[_,inferInstance,?_];rintro vs M q ⟨a,p,ps,rfl,ha,p0,S2,Xy,k⟩;simp? [↓cG];intro d hd;have FO:a≠d:=dM ha hd;simp? [↓cG,aN FO,ha];refine ip (λi ρ M'=>oM λ(o1 o2:Option W) (m:Pt)=>DE (ρ= [some (wi p),some (wr a),some (wr d),o1,o2]) (M'=um M d (.dK (fP m))) ((m.map (·.1)).Nodup) (m.length<=i) (∀x,look m x=dH (ps.take i) x % p) (∀k∈m.map (·.1), ∃q∈ps,q.1=k)) #[none,none,[],rfl,rfl,List.nodup_nil,ao _,λx=>by simp[look,dH],by simp] ?_ ?_ ?_
 .rintro i ρ M' _ ⟨o1,o2,m,rfl,rfl,_⟩;rw[aN FO];exact ha
 .rintro i x ρ M' hx ⟨o1,o2,m,rfl,rfl,hn,hl,ht,iV⟩ N hN;let⟨z,hz,rfl⟩:=pairs_at hx;have Gy:=(ai.mp hz).1;have hs:((fP m).length<sizeLine)=True:=by rw[fP,aa];exact aY (yb (by omega))
  simp? [↓cG,cQ,qa,p0,hs,pX];refine hN _ _ #[_,_,_,rfl,rfl,u4 hn,aZ qO (by omega),λx=> ?_,λk hk=>(w5 hk).elim (λe=>#[z,au hz,e.symm]) (iV k)];rw[ou,bC,hz];show _=dH (ps.take i++ [z]) x % p;rw[ml];by_cases hx:x=z.1
  .subst hx;rw[aj rfl,aj rfl,ht,Int.emod_add_emod]
  .rw[ah hx,ah (a9 hx),bE];exact ht x
 .rintro ρ M' ⟨o1,o2,m,rfl,rfl,hn,hl,ht,iV⟩;rw[aa] at hl ht;rw[cb] at ht;simp? [↓cG];refine#[d,fP m,m.map (·.1),rfl,um_same,xf m,(by rw[aa];exact big (by omega)),λsp ns xo du ik=> ?_];have OA:d≠sp:=dM um_same xo;have LK:ns.length<=16000000:=by rw[du.length_eq,aa];omega
  simp? [↓cG];refine jK (λx=>match x with | .v (.int n)=>if look m n=0 then none else some (cQ (n,look m n)) | _=>none) (by rw[aa];exact big LK) (λM3 s3=>s3 _ _ um_same) ?_ λt Wr=> ?_
  .intro i x hx M3 N s3 hN;let⟨n,LN,rfl⟩:=nj hx;have Xt:M3 d=some (.dK (fP m)):=s3 _ _ (by rw[aN OA,um_same]);have JK:n∈m.map (·.1):=du.mem_iff.mp (au LN);simp? [↓cG,Xt,qh JK];have DA:0<=look m n:=by rw[ht];exact cF _ (by omega)
   refine d8 (λh=> ?_) λh=> ?_
   .have h':¬look m n=0:=by omega
    simp![h',bj] at hN;exact hN
   .have h':look m n=0:=by omega
    simp![h',bW] at hN;exact hN
  .simp? [↓cG];refine#[M,((Sm.um (Sm.refl M) hd).trans (cu xo)).trans (cu Wr),?_]
   .have e:(ns.map wi).filterMap (λx=>match x with | .v (.int n)=>if look m n=0 then none else some (cQ (n,look m n)) | _=>none)=(iU p ps).map cQ:=by rw[<- Ap p0 hn ht du ik,List.filterMap_map];unfold sel;rw[List.map_filterMap];congr 1;funext n;simp![Function.comp];split<;>rfl
    rw[e];exact k
def mT (T:Txt K mg A):d3 P w K mg base i0 2 A.oY A.pj ["_law_draw","_law_p_here","_law_most","_law_far"] (kX K Ft):=by
 refine mU T.ox.fn mE (by left) λeI A' outer s H E hr=> ?_;have nd:=mE.nd;refine#[_,(aI (bU (i:=4) nd rfl (by trivial) (qC aD)) (aI (fX bO rfl (f9 (by rfl) T.fK (ab (a8 T.lX (iz T) hr (ab (pv 0) (ab (bH eN (pv 2) aJ) aD))) aD)) (bR (i:=5) nd rfl (by trivial)) (aI (bU (i:=6) nd rfl (by trivial) (bH gH (a8 T.lX (iz T) hr (ab (pv 0) (ab (bH eN (bH e9 aJ (pv 3)) aJ) aD))) (pv 3))) (aW (fV (Fp PySem.F.plainAttrs_list PySem.F.slot_list_append PySem.F.type_list_append kI (pv 4) (ab (gr (ab (pv 6) (ab (bH eN aJ (a8 T.lX (iz T) hr (ab (pv 0) (ab (bH gH (pv 1) aJ) aD)))) aD))) aD)))))) (aW (c4 (a8 T.u9 (oi T) hr (ab (pv 1) (ab (pv 4) aD))))))),?_];try dsimp only[fg]
 refine#[_,inferInstance,?_];rintro vs M q ⟨d,l,p,most,lz,rfl,hD,p2,p3,m0,m1,f0,f1,k⟩;simp? [↓cy];intro a ha;let⟨FO,Z7⟩:=hD.ne ha;refine gw ?_;simp? [↓cy];refine#[d,l,most+1,rfl,hD.put ha,by omega,by omega,λn M1 n0 n1 D1 b1=> ?_];have ha1:M1 a=some (.lst []):=by rw[b1 a FO,um_same]
 simp? [↓cy];refine#[#[by omega,by omega],ip (λi ρ M'=>oM λ(o1 o2:Option W) (ps:Pt)=>DE (ρ= [some (wr d),some (wi p),some (wi most),some (wi lz),some (wr a),o1,o2]) (Dr M' d l) (M' a=some (.lst (ps.map cQ))) (ps.length=i) (∀z∈ps, -lz<=z.1 /\ z.1<=lz /\ 0<z.2 /\ z.2<p) (∀b,b≠d ->b≠a ->M' b=M b)) #[none,none,[],rfl,D1,ha1,rfl,by simp,λb h1 h2=>by rw[b1 b h1,aN h2]] (λ_ _ _ _ _=>trivial) ?_ ?_]
 .rintro i x ρ M' hx ⟨o1,o2,ps,rfl,D2,XC,hl,hz,hb⟩ N hN;let⟨hi,rfl⟩:=ka hx;have cm: ∀x,gM 2 x=True:=λx=>by simp[gM]
  simp? [↓cy,cm];refine#[d,l,2*lz+1,rfl,D2,by omega,by omega,λr M3 r0 r1 D3 b3=> ?_];simp? [↓cy];refine gw ?_;have ha3:M3 a=some (.lst (ps.map cQ)):=by rw[b3 a FO];exact XC
  simp? [↓cy,ha3];refine#[d,l,p - 1,rfl,D3,by omega,by omega,λs' M4 s0 s1 D4 b4=> ?_];have ha4:M4 a=some (.lst (ps.map cQ)):=by rw[b4 a FO];exact ha3
  have hs:((ps.map cQ).length<sizeLine)=True:=by rw[aa];exact aY (yb (by omega))
  simp? [↓cy,ha4,hs];refine hN _ _ #[_,_,ps++ [(r - lz,1+s')],rfl,D4.Rh FO Z7,?_,by simp[hl],λz jT=> ?_,λb h1 h2=> ?_]
  .rw[um_same,aM];rfl
  .rcases ax.mp jT with jT | jT
   .exact hz z jT
   .rw[af.mp jT];exact#[by show -lz<=r - lz;omega,by show r - lz<=lz;omega,by show 0<1+s';omega,by show 1+s'<p;omega]
  .rw[aN h2,b4 b h1,b3 b h1,hb b h1 h2]
 .rintro ρ M' ⟨o1,o2,ps,rfl,D2,XC,hl,hz,hb⟩;rw[iy] at hl;dsimp only;refine gw ?_;simp? [↓cy];refine#[a,p,ps,rfl,XC,by omega,JU (by omega),by omega,?_];refine#[λb=>if b=a then none else M' b,λb o e=> ?_,k ps _ (by omega) hz ?_ ?_]
  .dsimp only at e;split at e
   .cases e
   .exact e
  .let⟨ns,i,c,s',h1,h2,h3,h4⟩:=D2;exact#[ns,i,c,s',by dsimp only;rw[ah (a9 FO)];exact h1,by dsimp only;rw[ah (a9 Z7)];exact h2,h3,h4]
  .intro b tI;dsimp only;split
   .rename_i e;rw[e];exact ha.symm
   .rename_i e;exact hb b tI e
def pC (T:Txt K mg A):d3 P w K mg base i0 2 A.km A.kq ["_law_p_here","_law_thing"] (kX K NG):=by
 refine mU T.mZ.fn jN (by left) λeI A' outer s H E hr=> ?_;have nd:=jN.nd;refine#[_,(aI (gq (kb (oh (bL jx (by rfl) T.fL Boot.«isinstance» (ab (pv 1) (ab (kH (by rfl) T.ix Boot.«tuple» (show RelV (.ty "tuple") _ from rfl)) aD))))) (aW (c4 sQ)) eY) (aI (fX bO rfl (f9 (by rfl) T.fK (ab (bL cR (by rfl) T.gf Boot.«len» (ab (pv 1) aD)) aD)) (bR (i:=2) nd rfl (by trivial)) (aI (bU (i:=3) nd rfl (by trivial) (cP eh (pv 1) (pv 2) (λ_ _=>rfl))) (aI (gq (sO (kb (oh (bL jx (by rfl) T.fL Boot.«isinstance» (ab (pv 3) (ab (kH (by rfl) T.ix Boot.«tuple» (show RelV (.ty "tuple") _ from rfl)) aD))))) (uQ (cL AI (bL cR (by rfl) T.gf Boot.«len» (ab (pv 3) aD)) aJ (de _)))).pt (aW (c4 sQ)) eY) (aI (gq (sO (kb (oh (a8 T.F4 (wQ T) hr (ab (cP eh (pv 3) aJ (λ_ _=>rfl)) aD)))) (sO (kb (oh (a8 T.F4 (wQ T) hr (ab (cP eh (pv 3) aJ (λ_ _=>rfl)) aD)))) (uQ (kb (Fd wM wM aJ (cP eh (pv 3) aJ (λ_ _=>rfl)) (pv 0)))))).pt (aW (c4 sQ)) eY) (aW (gq (yQ (cL sR (pv 2) aJ (de _)) (uR (cL wN (cP eh (cP eh (pv 1) (bH gH (pv 2) aJ) (λ_ _=>rfl)) aJ (λ_ _=>rfl)) (cP eh (pv 3) aJ (λ_ _=>rfl)) (de _)))).pt (aW (c4 sQ)) eY)))))) (aW (c4 sQ)))),?_];try dsimp only[fg]
 refine#[_,inferInstance,?_];rintro vs M q ⟨p,pat,rfl,⟨h1,h2⟩,hl,k⟩;have k7:(pat.map cQ).length=pat.length:=aa _;simp? [↓cG,fG,k7];refine#[#[by omega,by omega],ip (λi ρ M'=> ∃o1 o2:Option W,ρ= [some (wi p),some (fG pat),o1,o2] /\ M'=M) #[none,none,rfl,rfl] (λ_ _ _ _ _=>trivial) ?_ ?_]
 .rintro i x ρ M' hx ⟨o1,o2,rfl,rfl⟩ N hN;let⟨hi,rfl⟩:=ka hx;have ly:i<pat.length:=by omega
  have ha:iY (pat.map cQ) (0+(i:Int))=some (cQ pat[i]):=by rw[bB];exact gz (by rw[ay,ae ly];rfl)
  have hz:=h1 pat[i] (bK ly);simp? [↓cG,fG,ha,cQ];refine#[_,rfl,?_];simp? [↓cG];refine#[_,rfl,?_];simp? [↓cG,hz.1,hz.2,decide_true];refine d8 (λh=> ?_) λh=>hN _ _ #[_,_,rfl,rfl];have hi1:i - 1<pat.length:=by omega
  have OG:iY (pat.map cQ) (0+(i:Int) - 1)=some (cQ pat[i - 1]):=by
   have:(0+(i:Int) - 1)=((i - 1:Nat):Int):=by omega
   rw[this];exact gz (by rw[ay,ae hi1];rfl)
  have fM:=bw.mp h2 (i - 1) i hi1 ly (by omega);simp? [↓cG,OG,cQ];exact d8 (λh=>by omega) λ_=>hN _ _ #[_,_,rfl,rfl]
 .rintro ρ M' ⟨o1,o2,rfl,rfl⟩;simp? [↓cG];exact pM k
def FE (T:Txt K mg A):d3 P w K mg base i0 2 A.A8 A.Bn ["_law_p_here","_law_one","_law_other","_law_by","_law_many"] (kX K VG):=by
 refine mU T.Lr.fn we (by left) λeI A' outer s H E hr=> ?_;have nd:=we.nd;refine#[_,(aW (c4 (a8 T.u9 (oi T) hr (ab (pv 0) (ab (bH FA (dE jM (by rfl) T.hV Boot.«list» (ab (pv 1) aD)) (eZ rfl (dG.of (sc:=aP pV) (N:= ["_law_p_here","_law_one","_law_other","_law_by","_law_many"]) (own:= ["_law_place","_law_setting"]) (fr:= [3,4]) (N':= ["_law_place","_law_setting","_law_by","_law_many"]) rfl rfl rfl (by right) rfl (by right) (by right) (by right) (by right) (by right)) (uW (pv 2)) (λ_ _ _ _=>(lS (n:=2) rfl (eD (bR (i:=0) (by show(["_law_place","_law_setting","_law_by","_law_many"]:List Str).Nodup;decide+kernel) rfl (by trivial)) (eD (bR (i:=1) (by show(["_law_place","_law_setting","_law_by","_law_many"]:List Str).Nodup;decide+kernel) rfl (by trivial)) jE)))) He (λ_ _ _ _=>fq) (λ_ _ _ _=>(gr (ab (bH eN (pv 0) (pv 2)) (ab (bH e9 (pv 1) (pv 3)) aD)))))) aD))))),?_];try dsimp only[fg]
 refine#[_,inferInstance,?_];rintro vs M q ⟨p,a,b,y,n,rfl,p0,hf,ha,hb,hz,k⟩;simp? [↓cG,fG];intro u hu;simp? [↓cG];refine jK (λx=>match x with | .tup [.v (.int x), .v (.int s)]=>some (.tup [wi (x+y),wi (s*n)]) | _=>none) (by rw[aa];exact big (by omega)) (λ_ _=>trivial) ?_ λt ht=> ?_
 .intro i x hx M3 N s3 hN;let⟨z,jT,rfl⟩:=pairs_at hx;have:=hz z (au jT);have cm:gM z.2 n=True:=aY (.inl #[by omega,by omega]);simp? [↓cG,cQ,cm];exact hN
 .have e:(b.map cQ).filterMap (λx=>match x with | .tup [.v (.int x), .v (.int s)]=>some (.tup [wi (x+y),wi (s*n)]) | _=>none)=(wW y n b).map cQ:=by rw[List.filterMap_map,wW,aE];exact List.filterMap_eq_map.symm▸rfl
  rw[e];have Wo:u≠t:=dM um_same ht;have hs:((a.map cQ).length+((wW y n b).map cQ).length<=sizeLine)=True:=aY (big (by rw[aa,aa,wW,aa];omega));simp? [↓cG,aN Wo,hs];intro c hc;simp? [↓cG];refine#[c,p,a++wW y n b,rfl,by rw[um_same,aM],p0,hf,by rw[aH,wW,aa];omega,?_];exact#[M,((cu hu).trans (cu ht)).trans (cu hc),k]
def yV (T:Txt K mg A):d3 P w K mg base i0 5 A.tL A.tU ["p","stride","held","row"] (kX K (Jc A.fk A.dI)):=by
 have C3:=aY T.Row.cl;have Dw:=aY T.n_Row_lamps;have Um:=aY T.n_Row_parts;have HQ:=aY T.Stair.cl;have V3:=aY T.n_Stair_lamps;have V2:=aY T.n_Stair_parts;refine mU T.take_in.fn qu (by left) λeI A' outer s H E hr=> ?_;have nd:=qu.nd;refine#[_,(aI (bU (i:=4) nd rfl (by trivial) (a8 T.first_column (hU T) hr (ab (dE (iQ rfl) (by rfl) T.hV Boot.«list» (ab (d9 (pv 3) rfl) aD)) (ab (pv 1) aD)))) (aW (mN bO (cL Fz (pv 4) Fm (de _)) (aI (gq (Nv (B9 (fw hr) (pv 4) (pv 2))) (aI (mO (fw hr) (pv 2) (pv 4) (a8 T.stood (wO T) hr (ab (pv 0) (ab (pv 1) (ab (pv 3) aD)))) rfl) (aW IP)) eY) (aI (bU (i:=5) nd rfl (by trivial) (fu (fw hr) (pv 2) (pv 4) (λ_ _=>rfl))) (aI (fV (a8 T.cut (FG T) hr (ab (pv 0) (ab (pv 1) (ab (pv 3) (ab (pv 5) aD)))))) (aI (bU (i:=6) nd rfl (by trivial) (a8 T.first_column (hU T) hr (ab (dE (iQ rfl) (by rfl) T.hV Boot.«list» (ab (d9 (pv 3) rfl) aD)) (ab (pv 1) aD)))) (aI (gq (cL kc (pv 6) (pv 4) (de _)) (aI (mO (fw hr) (pv 2) (pv 4) (a8 T.stood (wO T) hr (ab (pv 0) (ab (pv 1) (ab (pv 3) aD)))) rfl) (aW (bU (i:=3) nd rfl (by trivial) (mQ T.Row (yY T) (hr.mono (by decide)) (by rfl) (ab (d9 (pv 5) rfl) (ab (d9 (pv 5) rfl) aD)))))) eY) (aW (bU (i:=4) nd rfl (by trivial) (pv 6))))))))))),?_];try dsimp only[fg]
 refine#[_,inferInstance,?_];rintro vs M q ⟨hd,r,dr,rl,rp,p,s,Z,K',w',KP,pats,a,P,L,rfl,hp,s0,s8,jY,z0,k0,w0,RP,vM,Y5,Y4,Sj,hL,bxa,bxp,lz,k⟩;have P0:rD s Z K' w' KP:=#[s0,k0,w0,RP,vM]
 have GV: ∀l q:Addr,[(("lamps" :Str),wr l),(("parts" :Str),wr q)].lookup ("lamps" :Str)=some (wr l):=λ_ _=>rfl;have YO: ∀ (l q:Addr) (f g e:W),[(("lamps" :Str),wr l),(("parts" :Str),wr q),(("first" :Str),f),(("length" :Str),g),(("foot" :Str),e)].lookup ("lamps" :Str)=some (wr l):=λ_ _ _ _ _=>rfl;have YN: ∀ (l q:Addr) (f g e:W),[(("lamps" :Str),wr l),(("parts" :Str),wr q),(("first" :Str),f),(("length" :Str),g),(("foot" :Str),e)].lookup ("parts" :Str)=some (wr q):=λ_ _ _ _ _=>rfl;have yn:=jY.ins;have xt:=jY.row.lam;have p0:0<p:=by lia
 have hE0:=P0.E0;have hE8:2*K'*s<=16*K':=by have:=a6 s8 (show 0<=2*K' by lia);lia
 have Ri: ∀ {M':Mp} {rl rp:Addr} {a:Pt} {P:Pq} {E:Int},c6 p M' rl rp a P ->nT s Z E E a ->0<=E ->E<=2*(w'+16*K')+2*K' ->(eC a).length<=16000000:=λ{_ _ _ _ _ E} row bx e0 e1=>by have:=(bx.wt s0 s8 z0 (aT E) (aT E) e0).len row.ga (by lia);unfold eC;rw[aa];lia
 dsimp? [yn,C3,Dw,GV];refine#[rl,fP a,rfl,xt,λu hu=> ?_];rw[m8];have rP:Sm M (um M u (.lst ((eC a).map wi))):=cu hu;have tc0:TC A.fk A.dI s p pats M (xA hd L rl rp P) (L.map (·.b)++ [a]) L hd (um M u (.lst ((eC a).map wi))) r dr rl rp a P L:=by let⟨i1,i2,i3,i4,i5,i6,i7⟩:=jY;refine#[#[rP _ _ i1,#[rP _ _ i2.tT,λt ht=>(i2.each t ht).keep (fo.sm rP []) (λh=>by cases h) (λ_ _ h=>by cases h),i2.nd,i2.pe,i2.tH],i3.keep (fo.sm rP []) (λ_ _ h=>by cases h),i4,i5,i6,i7],fo.sm rP _,λt ht x hx=> .inl (aw _ (ax.mpr (.inl (List.mem_flatMap.mpr #[t,ht,hx])))),λx hx=> .inl (aw _ (ax.mpr (.inr hx))),λf hf=>hf,rfl,rfl]
 have PU:hd∈xA hd L rl rp P:=aA;have VE: ∃m,Ph s Z K' w' KP m a P L:=by
  refine#[mz s Z K' (fE ((eC a).map (bZ s))) (K'.toNat+1),λ_ t ht=>(lz t ht).up P0.KY P0.TK,λdw=>#[_,rfl, .inl #[?_,rfl]]];have rY:s≠0 ->0<=fE ((eC a).map (bZ s)):=λz=>by
   let⟨x,_,e⟩:=ag.mp (fT (l:=(eC a).map (bZ s)) (by simpa using dw)).1;rw[<- e];rcases rn (x:=x) s0 with h | h
   .exact absurd h z
   .exact h.1
  have h1:=P0.low rY;have h2:=P0.lowP rY;exact#[bxa.up h1 h1,bxp.up h2 h2,λt ht _=>lz t ht,λt ht _=>(lz t ht).up P0.KY P0.TK]
 let⟨m0,VE⟩:=VE;refine qU um_same (Ri jY.row bxa w0 (by lia)) s0 s8 ?_;dsimp? [];refine pS (λm ρ M'=>HU λ(o5 o6:Option W) (r dr rl' rp':Addr) (a':Pt) (P':Pq)=> ∃ (L':List eV),O6 (ρ= [some (wi p),some (wi s),some (wr hd),some (wr r),some (fW s a'),o5,o6]) (TC A.fk A.dI s p pats M (xA hd L rl rp P) (L.map (·.b)++ [a]) L hd M' r dr rl' rp' a' P' L') (Ph s Z K' w' KP m a' P' L')) m0 #[none,none,r,dr,rl,rp,a,P,L,rfl,tc0,VE] ?_;rintro m ρ M' ⟨o5,o6,r1,U6,Pj,Q3,a1,P1,L1,rfl,tc,ph⟩ N hN;have hE:w'+2*K'*s<=2*(w'+2*K'*s):=by lia
 have hEP:KP+s*(w'+2*K'*s+2*K') <=KP+(s+1)*(w'+2*K'*s+2*K'):=by rw[Int.add_mul,Int.one_mul];lia
 by_cases dw:eC a1= []
 .have e1:fW s a1=wn:=aj dw;have n1:NR wn=true:=rfl;dsimp? [e1];refine#[rfl,?_];dsimp? [n1,Bool.not_true];refine pM (k M' L1 tc.jY.held tc.kp tc.fr (λf hf=>(tc.sp f hf).trans λb hb=> ?_) tc.jY.sX (λt ht=>(ph.1 dw t ht).up hE hEP) (by have:=tc.len;lia) (by rw[tc.key];exact λc hc=>hc));rcases ax.mp hb with hb | hb
  .exact dq.of hb
  .rw[af.mp hb,IW dw];exact dq.zero
 .obtain ⟨c,hc,ph⟩:=ph.2 dw;have e1:fW s a1=wi c:=by rw[hc];exact ah dw
  have n1:NR (wi c)=false:=by show decide (V.int c=V.dY)=false;exact c7 (λh=>by cases h)
  have CD:=fT (l:=(eC a1).map (bZ s)) (by simpa using dw);rw[<- hc] at CD;have Jh:jB s c:=by let⟨x,_,e⟩:=ag.mp CD.1;rw[<- e];exact rn s0
  have vk:s≠0 ->0<=c:=λz=>by rcases Jh with h | h;(· exact absurd h z);(· exact h.1)
  have GH:s≠0 ->c+1<=s:=λz=>by rcases Jh with h | h;(· exact absurd h z);(· lia)
  have pJ:=tc.jY.held.tT;have pH:=tc.jY.row;have Gq:=P0.low vk;have aac:=P0.lowP vk;have Og:=P0.top GH;have aab:=P0.Vq GH;dsimp? [e1];refine#[rfl,?_];dsimp? [n1,Bool.not_false,pJ];rw[yy];have hs8:s*(w'+2*K'*s+2*K') <=8*(w'+18*K'):=by have h1:=bf s8 (show 0<=w'+2*K'*s+2*K' by lia);lia
  have hPl:P1.length<=100:=by have:=tc.jY.md.len pH.nV;lia
  have hsz:((k8 L1).length<sizeLine)=True:=by unfold k8;rw[aa];exact aY (yb (by have:=tc.len;lia))
  have Zf:a1≠ []:=λe=>dw (by rw[e];rfl);cases hf:L1.find? (λt=>decide (t.c=c)) with
  | none=>
   have PV:=qt hf;let⟨Li,hm⟩:Tw s Z K' w' KP c a1 P1 L1 /\ m=mz s Z K' c (K'.toNat+1):=by
    rcases ph with h | ⟨t,d,h,_⟩
    .exact h
    .exact absurd (ag.mpr #[t,h.mem,h.at_]) PV
   have Xf:=tc.jY.ins;have Vj:=Li.bp.wt pH.nV (aT _) (aT _);dsimp? [Option.map_none,Option.isSome_none,Bool.not_false];refine#[r1,U6,Pj,Q3,p,s,a1,P1,(2*eP s K' w' KP c+1).toNat,Z+8*(eA s K' w' c+1),rfl,Xf,hp,s0,s8,pH,Zf,Li.bx.wt s0 s8 z0 (aT _) (aT _) (by lia),by lia,by lia,λt ht=>(Vj t ht).len (pH.gp t ht) (by lia),by lia,by lia,λM3 o ds ol op b Q f mm tt foot tn ho iW mw mn QB Pd Dy eb eq Du JS V9 Od=> ?_];obtain rfl:f=c:=iT.uniq mn.mn CD;have OB:=Du _ _ pJ;dsimp? [OB,hsz];let⟨g1,g2,g3,g4,g5⟩:=tc.new (t':=#[f,o,ds,ol,op,tt - mm,foot,b,Q]) hp PU PV Du ho iW mw QB Pd eb eq JS Od (IL rfl PV);refine pM (k _ _ g1 g2 g3 g4 g5 (λu hu=> ?_) (by rw[aH,cC,tc.len];exact ao _) (λc hc=>by rw[aM];exact ax.mpr (.inl (by rw[tc.key];exact hc))));rcases ax.mp hu with hu | hu
   .rcases Int.lt_or_le u.c f with q | q
    .exact(Li.lt u hu q).up hE hEP
    .exact(Li.ge u hu q).up (by have:=P0.KY;lia) (by have:=P0.TK;lia)
   .rw[af.mp hu];have b1:=Gj Li.bx pH.ga mn.lo;have b2:=Gj Li.bx pH.ga mn.hi;exact#[(Li.bx.stood eb λz=>LC mn.lo z).up (by lia) (by lia),by show tt - mm<=_;lia,(Li.bp.stood (s:=s) eq).up (by lia) (by lia)]
  | some t=>
   let⟨pG,zu⟩:=lM hf;have st:=tc.jY.held.each t pG;have stI:=st.ins;have l0:=st.mw.l0;have mw:=st.mw;rw[zu] at mw;let⟨tK,Y8,Y7,bpr,Za,pI,fM,hmm⟩:t.len<=K' /\ nT s Z (eA s K' w' c+2*K') (eA s K' w' c+2*K') a1 /\ nT s Z (eA s K' w' c+2*K' - t.len) (eA s K' w' c+2*K' - t.len) t.b /\ oP s (eP s K' w' KP c+(w'+2*K'*s)+2*K') (eP s K' w' KP c+(w'+2*K'*s)+2*K') P1 /\ oP s (eP s K' w' KP c+(w'+2*K'*s)+2*K' - t.len) (eP s K' w' KP c+(w'+2*K'*s)+2*K' - t.len) t.Q /\ (∀u∈L1,c<u.c ->pQ s Z K' KP u) /\ (∀u∈L1,u.c<c ->pQ s Z (w'+2*K'*s) (KP+s*(w'+2*K'*s+2*K')) u) /\ ∃q:Nat,m=mz s Z K' c q /\ t.len.toNat<=q:=by
    rcases ph with⟨h,e⟩ | ⟨t2,d,h,e⟩
    .have f:=h.ge t pG (by lia);have:=f.len;exact#[this,h.bx.up (by lia) (by lia),f.bx.up (by lia) (by lia),h.bp.up (by lia) (by lia),f.bp.up (by lia) (by lia),λu hu q=>h.ge u hu (by lia),h.lt,_,e,by lia]
    .obtain rfl:t2=t:=gI tc.jY.held.nd h.mem pG (h.at_.trans zu.symm);have h1:=h.shr;have h2:=h.dk;exact#[by lia,h.bx.up (by lia) (by lia),h.bt.up (by lia) (by lia),h.bp.up (by lia) (by lia),h.bq.up (by lia) (by lia),h.gt,h.lt,_,e,ao _]
   let⟨q0,hm,hq0⟩:=hmm;have Vj:=bpr.wt pH.nV (aT _) (aT _);have Vh:=Za.wt st.row.nV (show _<=eP s K' w' KP c+(w'+2*K'*s)+2*K' by lia) (by lia);have hQl:t.Q.length<=100:=by have:=(tc.jY.sX t pG).len st.row.nV;lia
   dsimp? [Option.map_some,Option.isSome_some,Bool.not_true];have hv:fh (k8 L1) (.inl c)=some (wr t.o):=by rw[yy,hf];rfl
   dsimp? [pJ,hv];have wa:=Y8.wt s0 s8 z0 (aT _) (aT _) (by lia);have TV:=Y7.wt s0 s8 z0 (show _<=eA s K' w' c+2*K' by lia) (show _<=eA s K' w' c+2*K' by lia) (by lia);refine#[r1,Pj,Q3,t.o,t.ds,t.ol,t.op,p,s,t.c,t.len,t.foot,a1,t.b,P1,t.Q,eP s K' w' KP c+(w'+2*K'*s)+2*K',eP s K' w' KP c+(w'+2*K'*s)+2*K',Z+8*(eA s K' w' c+2*K'+1),Z+8*(eA s K' w' c+2*K'+1),rfl, .inl #[_,tc.jY.ins],stI,hp,s0,s8,by lia,st.mw,pH,st.row,λx hx=>tc.jY.pe t pG x hx,wa,TV,by lia,by lia,by lia,by lia,Vj,Vh,by lia,by lia,by lia,by lia,by lia,λM2 c1 P2 js kY ec ep ej CQ tQ ew Jx JT MZ SG Gu DB PK=> ?_];rw[zu] at CQ tQ;let⟨ms,lx,LG,DB,LQ⟩:=DB;rw[zu] at lx;have vJ:=tc.cut pG kY ec ep Jx JT Gu;let⟨la,lp,d,Gs,W3⟩: ∃la lp,zO s Z K' w' KP c c1 P2 t la lp /\ la<=eA s K' w' c+2*K' - t.len /\ lp<=eP s K' w' KP c+(w'+2*K'*s)+2*K' - t.len:=by
    rcases ph with⟨h,e⟩ | ⟨t2,d,h,e⟩
    .exact#[_,_,h.cut P0 vk GH pG zu l0 pH.ga lx LG LQ ej ec ep CQ,by lia,by lia]
    .obtain rfl:t2=t:=gI tc.jY.held.nd h.mem pG (h.at_.trans zu.symm);exact#[_,_,h.cut P0 l0 pH.ga lx LG LQ ej ec ep CQ,aT _,aT _]
   have tJ: ∀u∈L1,u.c=c ->pQ s Z (w'+2*K'*s) (KP+s*(w'+2*K'*s+2*K')) u:=λu hu e=>by obtain rfl:u=t:=gI tc.jY.held.nd hu pG (e.trans zu.symm);exact#[Y7.up (by lia) (by lia),by lia,Za.up (by lia) (by lia)]
   have ge2: ∀x∈eC c1,c<=bZ s x:=λx hx=>by have h1:=eG kY.ga hx;refine ar λhn=> ?_;rw[tQ x (by lia)] at h1;have:=CD.2 _ (ag.mpr #[x,cI (show look a1 x≠0 by lia),rfl]);lia
   have Gm:=vJ.jY.ins;have Sy:=kY.lam;have hd2:=vJ.jY.held.tT;dsimp? [Gm,C3,Dw,GV];refine#[Pj,fP c1,rfl,Sy,λu hu=> ?_];rw[m8];refine qU um_same (Ri kY (d.bx.up (show la<=eA s K' w' c+2*K' by lia) (show la<=eA s K' w' c+2*K' by lia)) (by lia) (by lia)) s0 s8 ?_;have HC:=vJ.sm (cu (o:= .lst ((eC c1).map wi)) hu);have rR:=HC.jY.row;have V4:0<m:=by
    rw[hm];unfold mz;have h1:0<rS s Z c:=by
     unfold rS;by_cases z:s=0
     .let⟨x,hx,e⟩:=ag.mp CD.1;have h2:=Y8.2 z x (by have:=eG pH.ga hx;lia);have h3:bZ s x=x:=by unfold bZ;rw[aj z]
      rw[aj z];lia
     .have:=GH z;rw[ah z];lia
    have:=Nat.mul_pos h1 (show 0<K'.toNat+2 by lia);lia
   generalize um M2 u (.lst ((eC c1).map wi))=M3 at HC rR ⊢;have UC:=HC.jY.ins;have OB:=HC.jY.held.tT;by_cases CC:eC c1= []
   .have e2:fW s c1=wn:=aj CC;dsimp? [e2];refine#[V.dY,V.int c,rfl,rfl,rfl,?_];have e3:decide (V.dY=V.int c)=false:=c7 (λh=>by cases h);dsimp? [e3];exact hN 0 _ _ V4 #[_,_,r1,U6,Pj,Q3,c1,P2,L1,by rw[e2],HC,λ_=>Kc P0 pI fM tJ,λh=>absurd CC h]
   .have e2:fW s c1=wi (fE ((eC c1).map (bZ s))):=ah CC;have Gp:=fT (l:=(eC c1).map (bZ s)) (by simpa using CC);let⟨c2,PX⟩: ∃c2,c2=fE ((eC c1).map (bZ s)):=#[_,rfl]
    rw[<- PX] at e2 Gp;have hle:c<=c2:=by let⟨x,hx,e⟩:=ag.mp Gp.1;rw[<- e];exact ge2 x hx
    dsimp? [e2];refine d8 (λe3=> ?_) λe3=> ?_
    .have Y6:c1≠ []:=λe=>CC (by rw[e];rfl);have Vi:=d.bp.wt rR.nV (show lp<=eP s K' w' KP c+(w'+2*K'*s)+2*K' by lia) (show lp<=eP s K' w' KP c+(w'+2*K'*s)+2*K' by lia);have aaz:P2.length<=100:=by have:=HC.jY.md.len rR.nV;lia
     dsimp? [];refine#[r1,U6,Pj,Q3,p,s,c1,P2,(2*(eP s K' w' KP c+(w'+2*K'*s)+2*K')+1).toNat,Z+8*(eA s K' w' c+2*K'+1),rfl,UC,hp,s0,s8,rR,Y6,d.bx.wt s0 s8 z0 (show la<=eA s K' w' c+2*K' by lia) (by lia) (by lia),by lia,by lia,λt ht=>(Vi t ht).len (rR.gp t ht) (by lia),by lia,by lia,λM4 o ds ol op b Q f mm tt foot tn ho iW QQ mn QB Pd Dy eb eq QY OP V9 Od=> ?_];obtain rfl:f=c:=(iT.uniq mn.mn Gp).trans e3;have hd4:=QY _ _ OB;dsimp? [hd4,hsz];rw[IK (t:=#[f,o,ds,ol,op,tt - mm,foot,b,Q]) (ag.mpr #[t,pG,zu])];have oR:=(HC.jY.held.each t pG).ins;have nth:t.o≠hd:=λe=>by rw[e,OB] at oR;cases oR
     have f6:=QY _ _ oR;rw[uv];dsimp? [aN nth,f6,HQ,V3,V2,YO,YN];intro r' dx oB PN Xs;refine#[r',dx,wr t.ol,wr t.op,rfl,um_same,rfl,?_];rw[um_um];have tc5:=HC.turn (t:=t) (t':=#[f,o,ds,ol,op,tt - mm,foot,b,Q]) (r':=r') (dx:=dx) hp PU pG zu.symm QY ho iW QQ QB Pd eb eq OP Od rfl oB;dsimp? [];have Xm:=OT (s:=s) (p:=p) mw (by lia) (HC.jY.held.each t pG).row.ga;have CF:(#[f,o,ds,ol,op,tt - mm,foot,b,Q]:eV)∈gR L1 #[f,o,ds,ol,op,tt - mm,foot,b,Q]:=mD (ag.mpr #[t,pG,zu]);have ZX:=d.turn (L:=L1) (t':=#[f,o,ds,ol,op,tt - mm,foot,b,Q]) Gs W3 tK mn rR.ga rfl rfl mw (λz=>LC mn.lo z) Y7 Za eb eq pI fM CF;refine hN (mz s Z K' f (tt - mm).toNat) _ _ ?_ #[_,_,r',dx,t.ol,t.op,t.b,t.Q,gR L1 #[f,o,ds,ol,op,tt - mm,foot,b,Q],by rw[Xm.1,e3],tc5,λh=>absurd h Xm.2.1,λ_=>#[f,Xm.2.2, .inr #[_,_,ZX,rfl]]];rw[hm];have h1:tt - mm<t.len:=ZX.shr;have h2:=QQ.l0;unfold mz;lia
    .dsimp? [];have xq:c<c2:=by lia
     refine hN (mz s Z K' c2 (K'.toNat+1)) _ _ ?_ #[_,_,r1,U6,Pj,Q3,c1,P2,L1,by rw[e2],HC,λh=>absurd h CC,λ_=>#[c2,PX, .inl #[d.on P0 (by lia) (by lia) xq pI fM tJ,rfl]]];rw[hm];refine RG (IH xq GH λz=> ?_) (ao _);let⟨x,hx,e⟩:=ag.mp CD.1;have h2:=Y8.2 z x (by have:=eG pH.ga hx;lia);have h3:bZ s x=x:=by unfold bZ;rw[aj z]
     lia
def yW (T:Txt K mg A):d3 P w K mg base i0 4 A.tM A.tV ["p","stride","held"] (kX K (Jd A.fk A.dI)):=by
 refine mU T.lie_low.fn qv (by left) λeI A' outer s H E hr=> ?_;have nd:=qv.nd;refine#[_,(aI (bU (i:=3) nd rfl (by trivial) (bL (fJ rfl) (by rfl) T.iR Boot.«sorted» (ab (pv 2) aD))) (aW (fX bO rfl (B7 (by rfl) T.fK (ab (bH gH (bL cR (by rfl) T.gf Boot.«len» (ab (pv 3) aD)) aJ) (ab (hW fN aJ) (ab (hW fN aJ) aD)))) (bR (i:=4) nd rfl (by trivial)) (aW (fX bO rfl (eR (mP pT (pv 3) (pY (bH eN (pv 4) aJ)) pZ)) (bR (i:=5) nd rfl (by trivial)) (aW (fV (a8 T.cut (FG T) hr (ab (pv 0) (ab (pv 1) (ab (fu (fw hr) (pv 2) (cP cY (pv 3) (pv 4) (λ_ _=>rfl)) (λ_ _=>rfl)) (ab (fu (fw hr) (pv 2) (pv 5) (λ_ _=>rfl)) aD)))))))))))),?_];try dsimp only[fg]
 refine#[_,inferInstance,?_];rintro vs M q ⟨hd,p,s,Z,E',EP,Λ,pats,L,rfl,hp,s0,s8,fS,sX,lz,z0,e0,ep0,Sj,hL,hΛ,Y5,Y4,k⟩;have pJ:=fS.tT;dsimp? [pJ];refine#[hd,k8 L,L.map (·.c),rfl,pJ,by unfold k8;rw[aE,aE];rfl,big (by rw[aa];lia),λu cs hu du ik=> ?_];have oE:cs.length=L.length:=by rw[du.length_eq,aa]
 have fM:=sC ik (du.nodup_iff.mpr fS.nd);have rP:Sm M (um M u (.lst (cs.map wi))):=cu hu;have ll0:LL A.dI s p pats M L hd (um M u (.lst (cs.map wi))) L:=(LL.init fS sX).sm rP;have JO: ∀c,0<=gv L c:=λc=>by
  unfold gv;cases e:L.find? (λt=>decide (t.c=c)) with
  | none=>exact aT _
  | some t=>exact((fS.each t (lM e).1).mw).l0
 have JN: ∀l:List Int, ∀x∈l.map (gv L),0<=x:=λl x hx=>by let⟨c,_,rfl⟩:=ag.mp hx;exact JO c
 have aal:jC (cs.map (gv L)) <=Λ:=by rw[v9 (du.map (gv L)),FU fS.nd];exact hΛ
 have hΛ0:0<=Λ:=by have:=mC (JN cs) 0;lia
 have e0Λ:0<=E'+Λ:=by lia
 have TF: ∀i:Nat,i<=13 ->0<=(i:Int)*(E'+Λ) /\ (i:Int)*(E'+Λ) <=13*(E'+Λ):=λi hi=>#[dy (by lia) e0Λ,bf (by lia) e0Λ]
 have Tz: ∀i:Nat,((i+1:Nat):Int)*(E'+Λ)=i*(E'+Λ)+(E'+Λ):=λi=>by push_cast;rw[Int.add_mul,Int.one_mul]
 have qT: ∀ {c:Int},c∈cs ->c∈L.map (·.c):=λh=>du.mem_iff.mp h;have Gw: ∀ {c:Int},c∈L.map (·.c) -> ∃j,cs[j]? =some c:=λh=>cg.mp (du.mem_iff.mpr h);dsimp? [um_same,aa,jRng3_e];refine#[(cs.length:Int) - 1, -1, -1,rfl,#[by decide,by decide,by lia,by decide],?_];rw[wx];refine ip (λi ρ M'=>oM λ(o4 o5:Option W) (L':List eV)=>vD (ρ= [some (wi p),some (wi s),some (wr hd),some (wr u),o4,o5]) (M' u=some (.lst (cs.map wi))) (LL A.dI s p pats M L hd M' L') (∀t∈L', ∀j:Nat,cs[j]? =some t.c ->(j+i<cs.length ->pQ s Z E' EP t) /\ (cs.length<=j+i ->nT s Z (E'+i*(E'+Λ)) (E'+i*(E'+Λ)) t.b /\ oP s (EP+i*(E'+Λ)) (EP+i*(E'+Λ)) t.Q /\ ∀v∈L',t.c<v.c ->rF s v.c v.len t.b))) #[none,none,L,rfl,um_same,ll0,λt ht j hj=>#[λ_=>lz t ht,λh=>by have:=(ai.mp hj).1;lia]] (λ_ _ _ _ _=>trivial) ?_ ?_
 .rintro i x ρ M' hx ⟨o4,o5,L',rfl,LZ,ll,L3⟩ N hN;let⟨hi,rfl⟩:=step_at hx;let⟨j0,HK⟩: ∃j0:Nat,(j0:Int)=(cs.length:Int) - 1+(i:Int)* -1:=#[cs.length - 1 - i,by lia]
  rw[<- HK];have hj1:j0+i+1=cs.length:=by lia
  let⟨c0,vk⟩: ∃c0,cs[j0]? =some c0:=#[_,ae (by lia)]
  have YV:pO (cs.map wi) (some ((j0:Int)+1)) none=(cs.drop (j0+1)).map wi:=by rw[show(j0:Int)+1=((j0+1:Nat):Int) by push_cast;rfl,G9,List.map_drop]
  let⟨u0,hu0,Sa⟩:=ll.get (qT (au vk));have OS:=(L3 u0 hu0 j0 (by rw[Sa];exact vk)).1 (by lia);have Ni:=TF i (by lia);have Ni1:=Tz i;dsimp? [LZ];intro v hv;rw[YV];dsimp? [];have VR:u≠v:=dM LZ hv;have K1:Sm M' (um M' v (.lst ((cs.drop (j0+1)).map wi))):=cu hv;refine ip (λk ρ M2=>oM λ(o5:Option W) (L1:List eV) (uu:eV)=>uk (ρ= [some (wi p),some (wi s),some (wr hd),some (wr u),some (wi j0),o5]) (M2 u=some (.lst (cs.map wi))) (M2 v=some (.lst ((cs.drop (j0+1)).map wi))) (LL A.dI s p pats M L hd M2 L1) (uu∈L1) (uu.c=c0) (∀t∈L1,t.c≠c0 ->t∈L') (BJ (∀t∈L',t.c≠c0 ->t∈L1) (∀ (q:Nat) d,q<k ->(cs.drop (j0+1))[q]? =some d ->rF s d (gv L d) uu.b) (∀ (q:Nat) d,k<=q ->(cs.drop (j0+1))[q]? =some d ->Kp s d (E'+jC (((cs.drop (j0+1)).take k).map (gv L))+gv L d) uu.b) (nT s Z (E'+i*(E'+Λ)+(E'+Λ)) (E'+i*(E'+Λ)+(E'+Λ)) uu.b) (oP s (EP+i*(E'+Λ)+(E'+Λ)) (EP+i*(E'+Λ)+(E'+Λ)) uu.Q))) #[_,L',u0,rfl,by rw[aN VR];exact LZ,um_same,ll.sm K1,hu0,Sa,λt ht _=>ht,λt ht _=>ht,λq d h=>absurd h (Nat.not_lt_zero q),λq d _ k9 x hx dw=> ?_,OS.bx.up (by lia) (by lia),OS.bp.up (by lia) (by lia)] ?_ ?_ ?_
  .have h1:=OS.bx.1 x dw;have h2:=JO d;show -(E'+0+gv L d) <=_ /\ _<=E'+0+gv L d;lia
  .rintro k ρ M2 _ ⟨o5,L1,uu,rfl,h1,h2,_⟩;exact h2
  .rintro k x ρ M2 hx ⟨o5,L1,uu,rfl,h1,h2,ym,LB,PF,PH,LS,Gq,rY,OC,UO⟩ N2 LY;let⟨d,SO,rfl⟩:=nj hx;have PR:cs[j0+1+k]? =some d:=by rw[List.getElem?_drop] at SO;exact SO
   have aav:=(ai.mp PR).1;have CJ:c0<d:=iC fM vk PR (by lia);let⟨t,pG,zu⟩:=ym.get (qT (au PR));have Wq:=PH t pG (by lia);have Sb:=(L3 t Wq (j0+1+k) (by rw[zu];exact PR)).2 (by lia);have su:=ym.held.each uu LB;have st:=ym.held.each t pG;have UN:=ym.held.tT;have GJ:iY (cs.map wi) (j0:Int)=some (wi c0):=gz (by rw[ay,vk];rfl);have R':fh (k8 L1) (.inl c0)=some (wr uu.o):=by rw[<- PF];exact yx ym.held.nd LB
   have R9:fh (k8 L1) (.inl d)=some (wr t.o):=by rw[<- zu];exact yx ym.held.nd pG
   have tln:t.len=gv L d:=by rw[<- zu];exact ym.gv fS.nd pG
   have hS:=mC (JN (cs.drop (j0+1))) (k+1);have hSk:jC (((cs.drop (j0+1)).take (k+1)).map (gv L))=jC (((cs.drop (j0+1)).take k).map (gv L))+gv L d:=by rw[bC,SO];show jC (((cs.drop (j0+1)).take k++ [d]).map (gv L))=_;rw[aM];exact EE _ _
   have hS0:=mC (JN (cs.drop (j0+1))) k;rw[<- List.map_take] at hS hS0;have hSd:jC ((cs.drop (j0+1)).map (gv L)) <=Λ:=by have:=EF (JN cs) (j0+1);rw[<- List.map_drop] at this;lia
   have aat:=JO d;generalize hSS:jC (((cs.drop (j0+1)).take k).map (gv L))=Sk at hSk hS0 rY;have hQ1:uu.Q.length<=100:=by have:=(ym.sX uu LB).len su.row.nV;lia
   have hQ2:t.Q.length<=100:=by have:=(ym.sX t pG).len st.row.nV;lia
   dsimp? [h1,GJ,UN,R',R9];refine#[uu.o,uu.ol,uu.op,t.o,t.ds,t.ol,t.op,p,s,t.c,t.len,t.foot,uu.b,t.b,uu.Q,t.Q,EP+i*(E'+Λ)+(E'+Λ),EP+i*(E'+Λ)+(E'+Λ),Z+8*(E'+i*(E'+Λ)+(E'+Λ)+1),Z+8*(E'+i*(E'+Λ)+(E'+Λ)+1),rfl, .inr #[_,_,_,_,su.ins],st.ins,hp,s0,s8,by lia,st.mw,su.row,st.row,vq ym.held LB pG (by lia),OC.wt s0 s8 z0 (aT _) (aT _) (by lia),Sb.1.wt s0 s8 z0 (by lia) (by lia) (by lia),by lia,by lia,by lia,by lia,UO.wt su.row.nV (aT _) (aT _),Sb.2.1.wt st.row.nV (by lia) (by lia),by lia,by lia,by lia,by lia,by lia,λM3 c1 P2 js kY ec ep ej CQ tQ ew Jx JT MZ SG Gu DB PK=> ?_];let⟨ms,lx,LG,DB,LQ⟩:=DB;have ll2:=ym.cut LB pG (by lia) kY ec ep tQ Jx JT Gu;rw[zu] at CQ tQ lx;have SV:=rY k d (ao _) SO;have hj:=yF (f:=d) (bl:= -(E'+Sk+gv L d)) (bh:=E'+Sk+gv L d) st.mw.l0 LG (lx.nodup_iff.mpr (kO su.row.ga.1 s0)) (λm hm=>by let⟨x,hx,e1⟩:=ag.mp (lx.mem_iff.mp hm);have:=SV x (by simpa using(aQ.mp hx).2) (by have:=eG su.row.ga (aQ.mp hx).1;lia);lia) LQ;have HJ: ∀j∈js, -(E'+Sk+gv L d) <=j.1 /\ j.1<=E'+Sk:=λj iX=>by have:=hj j iX;lia
   have nl: ∀ {y:Addr} {l:List W},M2 y=some (.lst l) ->M3 y=some (.lst l):=λe=>Jx _ _ e λhx=>by let⟨kvs,e2⟩:=su.row.mem hx;rw[e] at e2;cases e2
   have iV:uu.c∈L1.map (·.c):=ag.mpr #[uu,LB,rfl];refine LY _ _ #[_,gR L1 (uu.DI c1 P2),uu.DI c1 P2,rfl,nl h1,nl h2,ll2,mD iV,PF,λt' nW ne=> ?_,λt' nW ne=>kF (LS t' nW ne) (λz=>ne (z.trans PF)),λq d' hq k9 x hx dw=> ?_,λq d' hq k9=> ?_,OC.cut Sb.1 ec HJ ej (by lia) (by lia) (by lia) (by lia),UO.cut Sb.2.1 ep HJ (by lia) (by lia) (by lia) (by lia)]
   .rcases eT nW with e | ⟨e,_⟩
    .exact absurd (by rw[e];exact PF) ne
    .exact PH t' e ne
   .rcases Nat.lt_or_ge q k with z | z
    .have h3:d'<d:=iC fM (by rw[List.getElem?_drop] at k9;exact k9) PR (by lia);have Ss:look c1 x≠0:=dw;rw[tQ x (by lia)] at Ss;exact Gq q d' z k9 x hx Ss
    .have:q=k:=by lia
     subst this;rw[SO] at k9;cases k9;rw[<- tln];exact CQ x hx dw
   .have SR:cs[j0+1+q]? =some d':=by rw[List.getElem?_drop] at k9;exact k9
    have h3:d<d':=iC fM PR SR (by lia);let⟨v',vg,hvc⟩:=ll.get (qT (au SR));have h4:=Sb.2.2 v' vg (by lia);rw[hvc,show v'.len=gv L d' by rw[<- hvc];exact ll.gv fS.nd vg] at h4;have:=JO d';rw[hSk];exact(rY q d' (by lia) k9).cut h4 ec HJ ej (by lia) (by lia) (by lia)
  .rintro ρ M2 ⟨o5,L1,uu,rfl,h1,h2,ym,LB,PF,PH,LS,Gq,_,OC,UO⟩;rw[aa] at Gq;refine hN _ _ #[_,_,L1,rfl,h1,ym,λt ht j hj=>#[λh=> ?_,λh=> ?_]]
   .have ne:t.c≠c0:=λe=>by rw[e] at hj;have:=iC fM hj vk (by lia);lia
    exact(L3 t (PH t ht ne) j hj).1 (by lia)
   .rw[Ni1];by_cases e:t.c=c0
    .have:t=uu:=gI ym.held.nd ht LB (e.trans PF.symm);subst this;refine#[OC.up (by lia) (by lia),UO.up (by lia) (by lia),λv' vg Sw=> ?_];let⟨j',iX⟩:=Gw (show v'.c∈L.map (·.c) by rw[<- ym.key];exact ag.mpr #[v',vg,rfl]);have h4:=Cz fM vk iX (by lia);have h5:=(ai.mp iX).1;rw[ym.gv fS.nd vg];exact Gq (j' - (j0+1)) v'.c (by rw[List.length_drop];lia) (by rw[List.getElem?_drop,show j0+1+(j' - (j0+1))=j' by lia];exact iX)
    .have HJ:j≠j0:=λz=>e (by rw[z,vk] at hj;cases hj;rfl);have h4:=(L3 t (PH t ht e) j hj).2 (by lia);refine#[h4.1.up (by lia) (by lia),h4.2.1.up (by lia) (by lia),λv' vg Sw=> ?_];have pI:=iC fM vk hj (by lia);exact h4.2.2 v' (PH v' vg (by lia)) Sw
 .rintro ρ M' ⟨o4,o5,L',rfl,LZ,ll,L3⟩;rw[vY,show((cs.length:Int) - 1 - -1).toNat=cs.length by lia] at L3;refine pM (k M' L' ll (λt ht v hv h=> ?_) λt ht=> ?_)
  .let⟨j,hj⟩:=Gw (show t.c∈L.map (·.c) by rw[<- ll.key];exact ag.mpr #[t,ht,rfl]);exact((L3 t ht j hj).2 (by lia)).2.2 v hv h
  .let⟨j,hj⟩:=Gw (show t.c∈L.map (·.c) by rw[<- ll.key];exact ag.mpr #[t,ht,rfl]);have:=(L3 t ht j hj).2 (by lia);rw[oE] at this;exact#[this.1,this.2.1]
def FH (T:Txt K mg A):d3 P w K mg base i0 6 A.Bb A.Bq ["p","stride","patterns"] (kX K NH):=by
 have HQ:=aY T.Stair.cl;have V3:=aY T.n_Stair_lamps;have V2:=aY T.n_Stair_parts;refine mU T.built.fn wo (by left) λeI A' outer s H E hr=> ?_;have nd:=wo.nd;refine#[_,(aI (bU (i:=3) nd rfl (by trivial) jt) (aI (fX bO rfl (Fi rfl (by rfl) T.yc (ab (pv 2) aD)) (lS (n:=2) rfl (eD (bR (i:=4) nd rfl (by trivial)) (eD (bR (i:=5) nd rfl (by trivial)) jE))) (aI (fV (a8 T.take_in (yV T) hr (ab (pv 0) (ab (pv 1) (ab (pv 3) (ab (mQ T.Row (yY T) (hr.mono (by decide)) (by rfl) (ab (dE (l5 rfl) (by rfl) T.O3 Boot.«dict» (ab (pv 5) aD)) (ab (wH (pv 4) (wH aJ aJ)) aD))) aD)))))) (aW (fV (a8 T.lie_low (yW T) hr (ab (pv 0) (ab (pv 1) (ab (pv 3) aD)))))))) (aI (bU (i:=6) nd rfl (by trivial) (bL (fJ rfl) (by rfl) T.iR Boot.«sorted» (ab (pv 3) aD))) (aI (bU (i:=7) nd rfl (by trivial) (dE gT (by rfl) T.ix Boot.«tuple» (ab (eZ rfl (dG.of (sc:=aP mK) (N:= ["p","stride","patterns","held","which","pattern","firsts","stairs"]) (own:= ["first"]) (fr:= [0,3]) (N':= ["first","p","held"]) rfl rfl rfl (by right) rfl (by right) (by right) (by right) (by right) (by right)) (eR (pv 6)) (λ_ _ _ _=>(bR (i:=0) (by show(["first","p","held"]:List Str).Nodup;decide+kernel) rfl (by trivial))) di (λ_ _ _ _=>fq) (λ_ _ _ _=>(a8 T.tidy (Ji T) hr (ab (pv 1) (ab (B8 (by rfl) T.hV rfl (AE (K:=K) rfl (fu (fw hr) (pv 2) (pv 0) (λ_ _=>rfl)) rfl)) aD))))) aD))) (aW (c4 (gr (ab (pv 7) (ab (eZ rfl (dG.of (sc:=aP mK) (N:= ["p","stride","patterns","held","which","pattern","firsts","stairs"]) (own:= ["first"]) (fr:= [0,3]) (N':= ["first","p","held"]) rfl rfl rfl (by right) rfl (by right) (by right) (by right) (by right) (by right)) (eR (pv 6)) (λ_ _ _ _=>(bR (i:=0) (by show(["first","p","held"]:List Str).Nodup;decide+kernel) rfl (by trivial))) di (λ_ _ _ _=>fq) (λ_ _ _ _=>(a8 T.told_parts (rV T) hr (ab (pv 1) (ab (AE (K:=K) rfl (fu (fw hr) (pv 2) (pv 0) (λ_ _=>rfl)) rfl) (ab aJ aD)))))) aD))))))))),?_];try dsimp only[fg]
 refine#[_,inferInstance,?_];rintro vs M q ⟨u,p,s,Z,w',pats,rfl,hu,PP,k⟩;have hp:=PP.hp;have p0:0<p:=by lia
 have s0:=PP.s0;have s8:=PP.s8;have hp8:=PP.len;have aaj:=PP.w60;have Px:=PP.z1;have vL:=PP.z0;dsimp? [];intro hd UM;have nuh:u≠hd:=dM hu UM;dsimp? [aN nuh,hu,Ga];rw[show MO.dK []=MO.dK (k8 []) from rfl];refine ip (λi ρ M'=>Mo λ(o4 o5:Option W) (L:List eV) (bs:List Pt)=>vD (ρ= [some (wi p),some (wi s),some (wr u),some (wr hd),o4,o5,none,none]) (Vf A.dI s p Z w' pats i M' hd L bs) (Sm M M') (∀t∈L, ∀x∈t.adr,M x=none)) #[none,none,[],[],rfl,#[#[um_same,(λt h=>by cases h),List.nodup_nil,List.Pairwise.nil,(λt h=>by cases h)],(λt h=>by cases h),(λt h=>by cases h),(λt h=>by cases h),#[rfl,λ_ J _ i hi=>absurd hi (Nat.not_lt_zero i),(λt h=>by cases h)],(λ_ t h=>by cases h),(λt h=>by cases h),(λt h=>by cases h),ao _],cu UM,(λt h=>by cases h)] ?_ ?_ ?_
 .rintro i ρ M' _ ⟨o4,o5,L,bs,rfl,_,sm,_⟩;exact sm _ _ hu
 .rintro i x ρ M' hx ⟨o4,o5,L,bs,rfl,B,sm,YJ⟩ N hN;let⟨y,hy,rfl⟩:=J0 hx;let⟨st,kP,rfl⟩:=lW hy;let⟨xp,OC⟩:=PP.pat st (au kP);have XM:=qD xp;have Gy:=(ai.mp kP).1;have hsl:=(OC.wt s0 s8 vL (aT _) (aT _) (by lia)).len XM (by lia);have pJ:=B.held.tT;dsimp? [];rw[uv];dsimp? [];refine#[Nw st,by rw[Jb],by rw[Nw,aa];lia,λe1 SN=> ?_];rw[J5 st XM.1];dsimp? [DW];intro q1 Wz q2 UD;have Dx:e1≠q1:=dM um_same Wz;have Up:e1≠q2:=dM (by rw[aN Dx];exact um_same) UD;have RE:q1≠q2:=dM um_same UD;have f1:M' q1=none:=by rw[aN (a9 Dx)] at Wz;exact Wz
  have f2:M' q2=none:=by rw[aN (a9 RE),aN (a9 Up)] at UD;exact UD
  refine#[.inl 0,rfl,by rw[aN RE];exact um_same, .inl i,rfl,?_];intro x dx gY PN Xq;have RF:e1≠x:=dM (by rw[aN Dx,aN Up,aN Dx];exact um_same) gY;have Pl:q1≠x:=dM um_same gY;have n3x:q2≠x:=dM (by rw[aN (a9 RE)];exact um_same) gY;have f3:M' x=none:=by rw[aN (a9 Pl),aN (a9 n3x),aN (a9 Pl),aN (a9 RF)] at gY;exact gY
  refine#[x,dx,wr e1,wr q1,rfl,um_same,rfl,?_];rw[um_um];have ID:c6 p (um (um (um (um (um M' e1 (.dK (fP st))) q1 (.dK [])) q2 (.dK [(.inl 0,W.v (V.int 1))])) q1 (.dK [(.inl (i:Int),wr q2)])) x (.ins A.fk dx [("lamps",wr e1),("parts",wr q1)])) e1 q1 st [((i:Int),q2,[(0,1)])]:=#[by rw[aN RF,aN Dx,aN Up,aN Dx];exact um_same,by rw[aN Pl];exact um_same,(λt ht=>by rw[af.mp ht,aN n3x,aN (a9 RE)];exact um_same),XM,(λt ht=>by rw[af.mp ht];exact#[by simp,λz hz=>by rw[af.mp hz];exact#[by decide,by show(1:Int) <p;lia]]),by simp,by simp[bY,Dx,Up,RE]]
  have Pz:um (um (um (um (um M' e1 (.dK (fP st))) q1 (.dK [])) q2 (.dK [(.inl 0,W.v (V.int 1))])) q1 (.dK [(.inl (i:Int),wr q2)])) x (.ins A.fk dx [("lamps",wr e1),("parts",wr q1)]) x=some (.ins A.fk dx [("lamps",wr e1),("parts",wr q1)]):=um_same;have rP:Sm M' (um (um (um (um (um M' e1 (.dK (fP st))) q1 (.dK [])) q2 (.dK [(.inl 0,W.v (V.int 1))])) q1 (.dK [(.inl (i:Int),wr q2)])) x (.ins A.fk dx [("lamps",wr e1),("parts",wr q1)])):=λd o e=>by rw[aN (dM e f3),aN (dM e f1),aN (dM e f2),aN (dM e f1),aN (dM e SN)];exact e
  generalize um (um (um (um (um M' e1 (.dK (fP st))) q1 (.dK [])) q2 (.dK [(.inl 0,W.v (V.int 1))])) q1 (.dK [(.inl (i:Int),wr q2)])) x (.ins A.fk dx [("lamps",wr e1),("parts",wr q1)])=M2 at ID Pz rP ⊢;have U1: ∀y∈bY e1 q1 [((i:Int),q2,[((0:Int),(1:Int))])],M' y=none:=λy hy=>by
   simp![bY,av,aK,List.map_nil,List.not_mem_nil,or_false] at hy;rcases hy with rfl | rfl | rfl
   .exact SN
   .exact f1
   .exact f2
  have frN: ∀ {y},M' y=none ->M y=none:=λ{y} e=>by
   cases e2:M y with
   | none=>rfl
   | some o=>rw[sm _ _ e2] at e;cases e
  let⟨mI,Oq⟩: ∃mI:Int,mI=(L.length:Int)*w':=#[_,rfl]
  have aar:=B.len;have lx:s≠0 ->(L.length:Int) <=s:=λz=>vx B.held (by lia);have aas:mI<=68:=by rw[Oq];exact Lo PP lx
  have W2:0<=mI:=by rw[Oq];exact dy (by lia) (by lia)
  have lz:=B.lz PP;rw[<- Oq] at lz;have Gv:=F5 s i (by lia);have l2:(pats.take (i+1)).length=i+1:=by rw[bu];lia
  have aap:mI*s<=68*i:=by
   rw[Oq,dz];have h1:(w':Int)*s<=68:=by rw[bN];exact PP.sw
   have h2:=a6 h1 (show 0<=(L.length:Int) by lia);have h3:=bf (show(L.length:Int) <=i by lia) (show(0:Int) <=68 by decide);lia
  have aaq:0<=mI*s:=dy W2 s0;have eK:2*(2*mI)*s=4*(mI*s):=by rw[<- dz];exact dz _ _ _
  have tG:=B.held;have jY:Zk A.fk A.dI s p M2 hd x dx e1 q1 (pats.take (i+1)) st [((i:Int),q2,[(0,1)])] L:=by
   refine#[Pz,#[rP _ _ tG.tT,λt ht=>(tG.each t ht).keep (fo.sm rP []) (λh=>by cases h) (λ_ _ h=>by cases h),tG.nd,tG.pe,tG.tH],ID,λt ht y hy Py=> ?_,λhy=> ?_,oO.first p0 kP,λt ht=>(B.md t ht).more Gy]
   .let⟨kvs,e⟩:=(tG.each t ht).row.mem Py;rw[U1 y hy] at e;cases e
   .have:=U1 hd hy;rw[pJ] at this;cases this
  have bp0:oP s (vK s i) (vK s i) [((i:Int),q2,[((0:Int),(1:Int))])]:=λw y hy=>by
   by_cases z:w=(i:Int)
   .have e:pf [((i:Int),q2,[((0:Int),(1:Int))])] w= [(0,1)]:=by rw[z];simp[pf]
    rw[e] at hy;have:y=0:=ar λhn=>hy (eU λq hq e=>hn (by rw[af.mp hq] at e;exact e.symm));lia
   .have:pf [((i:Int),q2,[((0:Int),(1:Int))])] w= []:=p6 λhm=>by rw[List.map_singleton,af] at hm;exact z hm
    rw[this] at hy;exact absurd rfl hy
  refine#[hd,x,dx,e1,q1,p,s,Z,2*mI,w',vK s i,pats.take (i+1),st,[((i:Int),q2,[(0,1)])],L,rfl,hp,s0,s8,jY,vL,by lia,by lia,Gv.1,λz=> ?_,by lia,by lia,by lia,by lia,OC,bp0,lz,λM3 L1 nr Wb U2 sp1 Us JV Jw Jy=> ?_]
  .have e:=PP.T' z;rw[e] at Oq;exact#[by rw[Oq];simp,by rw[e];rfl]
  rw[eK] at JV;have hs9:(s+1)*(w'+4*(mI*s)+2*(2*mI)) <=9*(332+272*i):=by have h1:=bf (show s+1<=9 by lia) (show 0<=w'+4*(mI*s)+2*(2*mI) by lia);lia
  have aam:0<=(s+1)*(w'+4*(mI*s)+2*(2*mI)):=dy (by lia) (by lia);have zA: ∀t∈L1,Wt 1000000 t.b /\ t.len<3000000:=λt ht=>#[((JV t ht).bx.wt s0 s8 vL (aT _) (aT _) (by lia)).up (by lia),by have:=(JV t ht).len;lia]
  let⟨Y',uh⟩:=Dc PP B kP nr zA Us Jw Jy;have W0:s≠0 ->(L1.length:Int) <=s:=λz=>vx nr (by lia);have LF: ∀pt∈pats.take (i+1),dq s p (L1.map (·.b)) (look pt):=λpt oC=>by
   refine sp1 _ ?_;rw[bC,kP] at oC;rcases ax.mp oC with h | h
   .exact(B.sp pt h).trans λb hb=>dq.of (ax.mpr (.inl hb))
   .rw[af.mp h];exact dq.of (ax.mpr (.inr (af.mpr rfl)))
  let⟨nI,UH⟩: ∃nI:Int,nI=(L1.length:Int)*w':=#[_,rfl]
  have aao:nI<=68:=by rw[UH];exact Lo PP W0
  have hn0:0<=nI:=by rw[UH];exact dy (by lia) (by lia)
  have hΛ:jC (L1.map (·.len)) <=2*nI:=by
   by_cases z:s=0
   .have:L1.map (·.len)=List.replicate L1.length 0:=List.eq_replicate_iff.mpr #[by simp,λb hb=>by let⟨t,ht,rfl⟩:=ag.mp hb;exact((nr.each t ht).mw).s0 z];rw[this];have: ∀n:Nat,jC (List.replicate n 0)=0:=λn=>by induction n with | zero=>rfl | succ n ih=>rw[cT];show 0+jC _=0;rw[ih];rfl
    rw[this];lia
   .have:=FW (D:=1000000) hp (by lia) nr (λt ht=>(zA t ht).1) (λt ht=>(zA t ht).2) uh (λb hb=>LF b (uh.of b hb)) (λb hb y hy=>(PP.pat b (List.mem_of_mem_take (uh.of b hb))).2.1 y hy);rw[show((2*L1.length*w':Nat):Int)=2*nI by rw[UH];push_cast;rw[dz]] at this;exact this
  dsimp? [];refine#[hd,p,s,Z,2*(w'+4*(mI*s)),vK s i+(s+1)*(w'+4*(mI*s)+2*(2*mI)),2*nI,pats.take (i+1),L1,rfl,hp,s0,s8,nr,Us,JV,vL,by lia,by lia,by lia,by lia,hΛ,by lia,by lia,λM4 L2 ll V6 Y9=> ?_];have LO:L2.length=L1.length:=by have:=congrArg List.length ll.key;rwa [aa,aa] at this
  have hgr:(L1.length:Int)*(2*(w'+4*(mI*s))+2*nI) <=(i+1)*(256+544*i):=by have h1:=bf (show(L1.length:Int) <=i+1 by lia) (show 0<=2*(w'+4*(mI*s))+2*nI by lia);have h2:=a6 (show 2*(w'+4*(mI*s))+2*nI<=256+544*i by lia) (show 0<=(i:Int)+1 by lia);lia
  have aax:0<=(L1.length:Int)*(2*(w'+4*(mI*s))+2*nI):=dy (by lia) (by lia);have aaw:(L1.length:Int)*(2*(w'+4*(mI*s))+2*nI) <=8*(256+544*7):=by have h1:=Int.mul_le_mul (show(L1.length:Int) <=8 by lia) (show 2*(w'+4*(mI*s))+2*nI<=256+544*7 by lia) (by lia) (by decide);exact h1
  have ekp:vK s i+((s+1)*(w'+4*(mI*s)+2*(2*mI))+(L1.length:Int)*(2*(w'+4*(mI*s))+2*nI)) <=vK s (i+1):=by
   by_cases z:s=0
   .have ew:=PP.T' z;have em:mI=0:=by rw[Oq,ew];simp
    have en:nI=0:=by rw[UH,ew];simp
    rw[vK,vK,aj z,aj z,em,en,ew];simp
   .rw[vK,vK,ah z,ah z,RO];lia
  have Du:Sm M M3:=Ao (sm.trans rP) Wb λy hy=>by
   rcases av.mp hy with e | e
   .rw[e];exact UM
   .rcases ax.mp e with e | e
    .let⟨t,ht,e⟩:=List.mem_flatMap.mp e;exact YJ t ht y e
    .exact frN (U1 y e)
  have JS: ∀t∈L1, ∀y∈t.adr,M y=none:=λt ht y hy=>by
   rcases U2 t ht y hy with e | e
   .rcases av.mp e with e | e
    .rw[e];exact UM
    .rcases ax.mp e with e | e
     .let⟨t,ht,e⟩:=List.mem_flatMap.mp e;exact YJ t ht y e
     .exact frN (U1 y e)
   .cases e2:M y with
    | none=>rfl
    | some o=>rw[(sm.trans rP) _ _ e2] at e;cases e
  have QY:Sm M M4:=Ao Du ll.kp λy hy=>by let⟨t,ht,e⟩:=List.mem_flatMap.mp hy;exact JS t ht y e
  refine hN _ _ #[_,_,L2,Y',rfl,#[ll.held,ll.sX,V6,λpt oC=>ll.sp _ (LF pt oC),#[by rw[uh.len,LO],uh.ind,uh.of],λz t ht=>(Y9 t ht).1.2 z,λt ht=>(Y9 t ht).2.up (by lia) (by lia),λt ht=>#[((Y9 t ht).1.wt s0 s8 vL (aT _) (aT _) (by lia)).up (by lia),?_],by rw[LO];lia],QY,λt ht y hy=> ?_]
  .let⟨v,hv,e⟩:=ag.mp (show t.c∈L1.map (·.c) by rw[<- ll.key];exact ag.mpr #[t,ht,rfl]);rw[ll.ln t ht v hv e.symm];exact(zA v hv).2
  .rcases ll.fr t ht y hy with e | e
   .let⟨v,hv,e⟩:=List.mem_flatMap.mp e;exact JS v hv y e
   .cases e2:M y with
    | none=>rfl
    | some o=>rw[Du _ _ e2] at e;cases e
 .rintro ρ M' ⟨o4,o5,L,bs,rfl,B,sm,YJ⟩;have YT:(iO (pats.map fG)).length=pats.length:=by unfold iO;rw[aa,bI,aa]
  rw[YT] at B;let⟨Ls,o⟩:=qE L B.held.nd;have XH:Ls.length=L.length:=o.perm.length_eq;have hL8:=B.len;have pJ:=B.held.tT;have YO: ∀ (l q:Addr) (f g e:W),[(("lamps" :Str),wr l),(("parts" :Str),wr q),(("first" :Str),f),(("length" :Str),g),(("foot" :Str),e)].lookup ("lamps" :Str)=some (wr l):=λ_ _ _ _ _=>rfl;have YN: ∀ (l q:Addr) (f g e:W),[(("lamps" :Str),wr l),(("parts" :Str),wr q),(("first" :Str),f),(("length" :Str),g),(("foot" :Str),e)].lookup ("parts" :Str)=some (wr q):=λ_ _ _ _ _=>rfl;dsimp? [pJ];refine#[hd,k8 L,L.map (·.c),rfl,pJ,by unfold k8;rw[aE,aE];rfl,big (by rw[aa];lia),λv cs hv du ik=> ?_];have ecs:cs=Ls.map (·.c):=AK ik (cx.mpr (o.Ar.imp λh=>by lia)) (du.trans (o.perm.map (·.c)).symm);have eW1:cs.map wi=Ls.map λt=>wi t.c:=by rw[ecs,aE];rfl
  have K1:Sm M' (um M' v (.lst (cs.map wi))):=cu hv;have UQ:um M' v (.lst (cs.map wi)) v=some (.lst (Ls.map λt=>wi t.c)):=by rw[um_same,eW1]
  generalize um M' v (.lst (cs.map wi))=M1 at K1 UQ ⊢;have mem: ∀ {t},t∈Ls ->t∈L:=λh=>o.perm.mem_iff.mp h;have at1: ∀ {M3},Sm M1 M3 -> ∀t∈Ls,M3 hd=some (.dK (k8 L)) /\ fh (k8 L) (.inl t.c)=some (wr t.o) /\ M3 t.o=some (.ins A.dI t.ds [("lamps",wr t.ol),("parts",wr t.op),("first",wi t.c),("length",wi t.len),("foot",wi t.foot)]) /\ c6 p M3 t.ol t.op t.b t.Q:=λ{M3} Du t ht=>by have st:=B.held.each t (mem ht);exact#[Du _ _ (K1 _ _ pJ),yx B.held.nd (mem ht),Du _ _ (K1 _ _ st.ins),st.row.keep (fo.sm (K1.trans Du) []) (λ_ _ h=>by cases h)]
  dsimp? [UQ];refine Ha (λt:eV=>fG (iU p t.b)) (big (by lia)) (λM3 s3=>s3 _ _ UQ) ?_ λc1 M2 GH EG UU=> ?_
  .intro t ht M3 N s3 hN;let⟨g1,g2,g3,g4⟩:=at1 s3 t ht;have g5:=g4.lam;dsimp? [g1,g2,g3,HQ,V3,YO,g5];intro y hy;have CG:(fP t.b).map (λkv=>W.tup [fQ kv.1,kv.2])=t.b.map cQ:=by unfold fP;rw[aE];rfl
   rw[CG];have GI:=(B.fin t (mem ht)).1.len g4.ga (by decide);refine#[y,p,t.b,rfl,um_same,p0,OR,by lia,?_];dsimp? [];exact hN _ (cu hy)
  have OI:=EG _ _ UQ;have Gv:=F5 s pats.length hp8;dsimp? [UU,OI];refine zE (by rw[aa];exact big (by lia)) λr hr=> ?_;have nrv:v≠r:=dM OI hr;have S4: ∀ {y o},M2 y=some o ->y≠r:=λe=>dM e hr;refine#[λi ys M3=> ∃as:List Addr,BJ (ys=as.map wr) (as.length=i) (∀ (k:Nat) a,as[k]? =some a ->a≠r /\ ∃ (t:eV) (tl:List Part),Ls[k]? =some t /\ tl.Perm (vU p 1 t.Q) /\ M3 a=some (.lst (tl.map mS))) (M3 r=some (.lst ys)) (Sm M2 M3),#[[],rfl,rfl,(λk a h=>by simp at h),um_same,cu hr],?_,?_,?_]
  .rintro i ys M3 hi ⟨as,rfl,hl,_,h3,s3⟩;exact#[s3 _ _ OI,h3,by rw[aa];lia]
  .rintro i x ys M3 hx ⟨as,rfl,hl,has,h3,s3⟩ N hN;let⟨t,ht,rfl⟩: ∃t,Ls[i]? =some t /\ x=wi t.c:=by
    rw[ay] at hx;cases e:Ls[i]? with
    | none=>rw[e] at hx;cases hx
    | some q=>rw[e] at hx;cases hx;exact#[q,rfl,rfl]
   have A1:=au ht;let⟨g1,g2,g3,g4⟩:=at1 (EG.trans s3) t A1;have Vh:=(B.bp t (mem A1)).wt g4.nV (aT _) (aT _);have hQl:t.Q.length<=8:=by have:=(B.md t (mem A1)).len g4.nV;rw[bu] at this;lia
   have hlen: ∀z∈t.Q,z.2.2.length<=400000:=λz hz=>by have:=(Vh z hz).len (g4.gp z hz) Gv.1;lia
   simp? [↓cy,g1,g2,g3,HQ,V2,YN];refine#[t.ol,t.op,p,1,t.b,t.Q,400000,rfl,p0,by lia,by decide,by decide,g4,by lia,hlen,by decide,aZ (Nat.mul_le_mul_right _ hQl) (by decide),λa M4 tl s4 ha US du=> ?_];have Z6:a≠r:=a9 (dM h3 ha);simp? [↓cy];refine#[s4 _ _ h3,hN _ _ #[as++ [a],by rw[aM];rfl,by rw[aH,hl];rfl,λk b hb=> ?_,um_same,λy o' e=>by rw[aN (S4 e)];exact s4 _ _ (s3 _ _ e)]];rw[List.getElem?_append] at hb;split at hb
   .let⟨h5,t',tl',h6,h7,h8⟩:=has k b hb;exact#[h5,t',tl',h6,h7,by rw[aN h5];exact s4 _ _ h8]
   .rename_i hk;have SE:k=i:=by let⟨q1,_⟩:=ai.mp hb;simp at q1;lia
    subst SE;rw[hl,Nat.sub_self] at hb;cases hb;exact#[Z6,t,tl,ht,du,by rw[aN Z6];exact US]
  .rintro ys M3 ⟨as,rfl,hl,has,h3,s3⟩;rw[aa] at hl;have lz:=B.lz PP;have fin:=B.fin;have smM:Sm M M3:=((sm.trans K1).trans EG).trans s3;have RI:M r=none:=by
    cases e:M r with
    | none=>rfl
    | some o=>rw[((sm.trans K1).trans EG) _ _ e] at hr;cases hr
   have Tc:(fB p Ls).length=L.length:=by unfold fB;rw[aa];exact XH
   have gF:=qp (by lia) B.held o (λt ht=>(fin t ht).1) λt ht=>(fin t ht).2;have etk:pats.take pats.length=pats:=cb;refine pM ?_;have e7:(Ls.map λt=>fG (iU p t.b))=(fB p Ls).map fG:=by unfold fB;rw[aE];rfl
   rw[e7];refine k M3 r as (fB p Ls) (Ls.map (·.Q)) #[gF,z4 (by lia) B.held o (λt ht=>(fin t ht).1) B.low,λpt oC=>nq p0 B.held o (B.sp pt (by rw[etk];exact oC)),by rw[aa,Tc,XH],by rw[Tc];exact B.len,λk st P hk hP=> ?_,λst kP=> ?_,λz=>by rw[Tc];exact vx B.held (by lia)] smM RI h3 (by rw[hl,Tc,XH]) λk a P ha hP=> ?_
   .unfold fB at hk;rw[ay] at hk hP;cases e:Ls[k]? with
    | none=>rw[e] at hk;cases hk
    | some t=>rw[e] at hk hP;cases hk;cases hP;have A1:=mem (au e);have row:=(B.held.each t A1).row;have m:=B.md t A1;rw[etk] at m;exact#[#[λx=>by rw[f' p0 row.ga];exact m.is x,m.key],row.nV,row.gp,B.bp t A1]
   .let⟨t,ht,rfl⟩:=ag.mp kP;have A1:=mem ht;have row:=(B.held.each t A1).row;have sr:=Ah (by lia) row.ga (B.held.each t A1).mw (fin t A1).1;rw[sr.ja,Tc];refine#[#[λx hx=>(lz t A1).bx.1 x (by rw[<- f' p0 row.ga];exact hx),λz x hx=>(lz t A1).bx.2 z x (by rw[<- f' p0 row.ga];exact hx)],(lz t A1).len]
   .let⟨_,t,tl,h6,h7,h8⟩:=has k a ha;rw[ay,h6] at hP;cases hP;exact#[tl,h7,h8]
def G8 (xs:List W)(y:W):pO (xs++ [y]) none (some (-1))=xs:=by
 unfold pO;have e1:HT.mL (xs++ [y]).length 0 none=0:=rfl;have e2:HT.mL (xs++ [y]).length (xs++ [y]).length (some (-1))=xs.length:=by unfold HT.mL;simp;lia
 rw[e1,e2];simp
def Cb (T:Txt K mg A):d3 P w K mg base i0 2 A.xF A.xS ["_law_p_here","_law_one","_law_other"] (kX K ND):=by
 refine mU T.F3.fn sL (by left) λeI A' outer s H E hr=> ?_;have nd:=sL.nd;refine#[_,(aI (bU (i:=3) nd rfl (by trivial) (dE jM (by rfl) T.hV Boot.«list» (ab (pv 1) aD))) (aI (bU (i:=4) nd rfl (by trivial) (cP cY (eZ rfl (dG.of (sc:=aP jm) (N:= ["_law_p_here","_law_one","_law_other","_law_left","_law_turn","_law_many","_law_gap"]) (own:= ["_law_k"]) (fr:= [0,2]) (N':= ["_law_k","_law_p_here","_law_other"]) rfl rfl rfl (by right) rfl (by right) (by right) (by right) (by right) (by right)) (sP (by rfl) T.fK (ab aJ (ab (pv 0) aD))) (λ_ _ _ _=>(bR (i:=0) (by show(["_law_k","_law_p_here","_law_other"]:List Str).Nodup;decide+kernel) rfl (by trivial))) di (λ_ _ _ _=>(kG (cL kc (bH fO (bH e9 (pv 0) (cP (show BK _ (wB K) from eh) (pv 2) (hW fN aJ) (λ_ _=>rfl))) (pv 1)) aJ (de _)))) (λ_ _ _ _=>(pv 0))) aJ (λ_ _=>rfl))) (aI (mN bO (cL wN (bL cR (by rfl) T.gf Boot.«len» (ab (pv 3) aD)) (bL cR (by rfl) T.gf Boot.«len» (ab (pv 2) aD)) (de _)) (aI (bU (i:=5) nd rfl (by trivial) (bH e9 (cP cY (pv 3) (hW fN aJ) (λ_ _=>rfl)) (pv 4))) (aI (bU (i:=6) nd rfl (by trivial) (bH gH (bL cR (by rfl) T.gf Boot.«len» (ab (pv 3) aD)) (bL cR (by rfl) T.gf Boot.«len» (ab (pv 2) aD)))) (aI (bU (i:=3) nd rfl (by trivial) (eZ rfl (dG.of (sc:=aP jm) (N:= ["_law_p_here","_law_one","_law_other","_law_left","_law_turn","_law_many","_law_gap"]) (own:= ["_law_k"]) (fr:= [3,5,2,6]) (N':= ["_law_k","_law_left","_law_many","_law_other","_law_gap"]) rfl rfl rfl (by right) rfl (by right) (by right) (by right) (by right) (by right)) (f9 (by rfl) T.fK (ab (bL cR (by rfl) T.gf Boot.«len» (ab (pv 3) aD)) aD)) (λ_ _ _ _=>(bR (i:=0) (by show(["_law_k","_law_left","_law_many","_law_other","_law_gap"]:List Str).Nodup;decide+kernel) rfl (by trivial))) di (λ_ _ _ _=>fq) (λ_ _ _ _=>(bH gH (cP (show BK _ (E5 K) from cY) (pv 1) (pv 0) (λ_ _=>rfl)) (bH e9 (bH e9 (pv 2) (cP (show BK _ (wB K) from eh) (gr (ab aJ (ab aJ aD))) (dE C6 (by rfl) T.Mj Boot.«int» (ab (AF wN (pv 0) (pv 4) (de _)) aD)) (λ_ _=>rfl))) (cP (show BK _ (wB K) from eh) (pv 3) (bL (zH rfl) (by rfl) T.Tn Boot.«max» (ab aJ (ab (bH gH (pv 0) (pv 4)) aD))) (λ_ _=>rfl))))))) (aW (bU (i:=3) nd rfl (by trivial) (eZ rfl (dG.of (sc:=aP jm) (N:= ["_law_p_here","_law_one","_law_other","_law_left","_law_turn","_law_many","_law_gap"]) (own:= ["_law_number"]) (fr:= [0]) (N':= ["_law_number","_law_p_here"]) rfl rfl rfl (by right) rfl (by right) (by right) (by right) (by right) (by right)) (eR (mP pT (pv 3) pZ (pY (hW fN aJ)))) (λ_ _ _ _=>(bR (i:=0) (by show(["_law_number","_law_p_here"]:List Str).Nodup;decide+kernel) rfl (by trivial))) di (λ_ _ _ _=>fq) (λ_ _ _ _=>(bH fO (pv 0) (pv 1)))))))))) (aW (c4 (a8 T.zf (sS T) hr (ab (pv 0) (ab (pv 3) aD)))))))),?_];try dsimp only[fg]
 refine#[_,inferInstance,?_];rintro vs M q ⟨p,a,g,rfl,hp,ha,hg,la,lg,g0,k⟩;have p0:0<p:=by lia
 have hL:0<g.length:=cU.mpr g0;have HG:(0<p)=True:=aY p0;let⟨c,hc⟩: ∃c,g.getD (g.length - 1) 0=c:=#[_,rfl]
 have Gs:iY (g.map wi) (-1)=some (wi c):=by rw[oJ g0,hc]
 have Xv:c∈g:=by rw[<- hc,aC,ae (by lia)];exact bK (by lia)
 have GH:=hg.1 c Xv;have vk:0<c:=by have:=hg.last g0;rw[hc] at this;lia
 let⟨tn,Dy,t1,t2,t3⟩:=zY hp vk GH.2;dsimp? [gQ];intro u hu;dsimp? [];refine#[#[by decide,by decide,by lia,by lia],?_];unfold eM;refine comp_map (λk:Nat=>decide ((1+(k:Int))*c % p=1)) (λk:Nat=>wi (1+(k:Int))) (by rw[bI];exact big (by lia)) (λ_ _=>trivial) ?_ λt ht=> ?_
 .intro z LA M3 N3 s3 oF;have hz:=cc.mp LA;have cm:gM (1+(z:Int)) c=True:=aY (.inl #[by lia,by lia]);simp? [↓cG,Gs,cm,HG];refine d8 (λh=> ?_) λh=> ?_
  .rw[aj (by simpa using h)] at oF;exact oF
  .rw[ah (by simpa using h)] at oF;exact oF
 dsimp? [Dy];have Wo:u≠t:=dM um_same ht;refine pS (λm ρ M'=>Mo λ(l:List Int) (u:Addr) (o5 o6:Option W)=>Ke (ρ= [some (wi p),some (.tup (a.map wi)),some (.tup (g.map wi)),some (wr u),some (wi tn),o5,o6]) (M' u=some (.lst (l.map wi))) (Sm M M') (m=l.length) (∀x∈l,0<=x /\ x<1000) (l.length<=1000) (lG 1 p [lp a,lp g] [lp l,lp g])) a.length #[a,u,none,none,rfl,by rw[aN Wo,um_same],(cu hu).trans (cu ht),rfl,λx hx=>by have:=ha.1 x hx;lia,la,lG.refl] ?_;rintro m ρ M' ⟨l,u,o5,o6,rfl,hu,sM,rfl,hx,ll,HH⟩ N hN;simp? [↓cy,hu,aa];refine d8 (λh=> ?_) λh=> ?_
 .have W8:l≠ []:=λe=>by rw[e] at h;simp![List.length_nil] at h;lia
  have hll:=oJ W8;have cm1: ∀x,gM x 1=True:=λx=>aY (.inr #[by decide,by decide]);have cmt: ∀x,gM x tn=True:=λx=>aY (.inr #[by lia,by lia]);dsimp? [hu,hll,cmt,aa];let⟨gap,aay⟩: ∃gap:Nat,l.length=gap+g.length:=#[l.length - g.length,by lia]
  have eg:(l.length:Int) - (g.length:Int)=(gap:Int):=by lia
  have Uy:l.getD (l.length - 1) 0∈l:=by rw[aC,ae (by lia)];exact bK (by lia)
  have hx1:=hx _ Uy;rw[eg];let⟨x,Mc⟩: ∃x,l.getD (l.length - 1) 0=x:=#[_,rfl]
  rw[Mc] at hx1 ⊢;have JM:0<=x*tn /\ x*tn<=999*7:=#[dy (by lia) (by lia),Int.le_trans (bf (show x<=999 by lia) (by lia)) (by lia)]
  have WY:=Ec (x:=x) p0 t3;revert JM WY;generalize x*tn=mm;intro JM WY;refine#[#[by lia,by lia],?_];unfold eM;rw[Int.toNat_natCast];refine iP (λk:Nat=>wi (l.getD k 0 - mm*(if gap<=k then 1 else 0)*g.getD (k - gap) 0)) (by rw[bI];exact big (by lia)) (λ_ _=>trivial) ?_ λw hw=> ?_
  .intro k hk M3 N3 s3 oF;have PJ:k<l.length:=cc.mp hk;have h3:=s3 _ _ hu;have ek:(0:Int)+(k:Int)=k:=bB _;have h4:=gV (l:=l) PJ;have cm0: ∀y,gM mm y=True:=λy=>aY (.inl #[by lia,by lia]);by_cases c:gap<=k
   .have h5:=gV (l:=g) (i:=k - gap) (by lia);have hd:decide ((gap:Int) <=(k:Int))=true:=c5 (by lia);have emax:(if(k:Int) - (gap:Int) >0 then(k:Int) - (gap:Int) else 0)=((k - gap:Nat):Int):=by split<;>lia
    simp? [↓cG,h3,ek,h4,hd,zT,emax,h5,cm0,cm1,dm,bW];simp![c,bW,dm] at oF;exact oF
   .have h5:=gV (l:=g) (i:=0) hL;have hd:decide ((gap:Int) <=(k:Int))=false:=c7 (by lia);have emax:(if(k:Int) - (gap:Int) >0 then(k:Int) - (gap:Int) else 0)=((0:Nat):Int):=by split<;>lia
    have cmz: ∀y,gM 0 y=True:=λy=>aY (.inl #[by lia,by lia]);simp? [↓cG,h3,ek,h4,hd,zT,emax,h5,cm0,cmz,cW,bg,bj,az];simp![c,bj,cW,bg] at oF;exact oF
  .dsimp? [];have Xu:pO ((List.range l.length).map λk:Nat=>wi (l.getD k 0 - mm*(if gap<=k then 1 else 0)*g.getD (k - gap) 0)) none (some (-1))=((List.range (l.length - 1)).map λk:Nat=>l.getD k 0 - mm*(if gap<=k then 1 else 0)*g.getD (k - gap) 0).map wi:=by
    let⟨L,hLL⟩: ∃L,l.length=L+1:=#[l.length - 1,by lia]
    rw[hLL,List.range_succ,aM,Nat.add_sub_cancel,aE];exact G8 _ _
   rw[Xu];have lx: ∀n:Nat,(((List.range (l.length - 1)).map λk:Nat=>l.getD k 0 - mm*(if gap<=k then 1 else 0)*g.getD (k - gap) 0).map (· % p)).getD n 0 % p=(l.getD n 0 - if gap<=n then mm*g.getD (n - gap) 0 else 0) % p:=λn=>by
    by_cases c1:n<l.length - 1
    .have e:(((List.range (l.length - 1)).map λk:Nat=>l.getD k 0 - mm*(if gap<=k then 1 else 0)*g.getD (k - gap) 0).map (· % p)).getD n 0=(l.getD n 0 - mm*(if gap<=n then 1 else 0)*g.getD (n - gap) 0) % p:=by rw[aE,aC,ay,List.getElem?_range c1];rfl
     rw[e,Int.emod_emod_of_dvd _ (Int.dvd_refl p)];by_cases c2:gap<=n
     .rw[aj c2,aj c2,dm]
     .rw[ah c2,ah c2,cW,bg]
    .rw[kl (by rw[aa,aa,bI];lia),aj (by lia)];by_cases c2:n=l.length - 1
     .rw[c2,Mc,show l.length - 1 - gap=g.length - 1 by lia,hc,WY];rfl
     .rw[kl (by lia),kl (by lia),cW];rfl
   have Sv:(((List.range (l.length - 1)).map λk:Nat=>l.getD k 0 - mm*(if gap<=k then 1 else 0)*g.getD (k - gap) 0)).length=l.length - 1:=by rw[aa,bI]
   revert lx Sv;generalize ((List.range (l.length - 1)).map λk:Nat=>l.getD k 0 - mm*(if gap<=k then 1 else 0)*g.getD (k - gap) 0)=ms;intro lx Sv;intro v hv;refine iP (λy=>wi (y % p)) (big (by lia)) (λM4 s4=>s4 _ _ um_same) ?_ λy hy=> ?_
   .intro z LA M3 N3 s3 oF;simp? [↓cG,HG];exact oF
   .refine hN (ms.map (· % p)).length _ _ (by rw[aa];lia) #[ms.map (· % p),y,_,_,rfl,by rw[um_same,aE];rfl,((sM.trans (cu hw)).trans (cu hv)).trans (cu hy),rfl,λz hz=> ?_,by rw[aa];lia,HH.trans (Ca lx)];let⟨z',_,rfl⟩:=ag.mp hz;have h1:=cF z' (show p≠0 by lia);have h2:=cf z' p0;show 0<=z' % p /\ z' % p<1000;lia
 .dsimp? [hu];refine#[p,u,l,rfl,hu,p0,by lia,?_];exact#[M,sM,k _ (Ik p0 l) (Nat.lt_of_le_of_lt (z3 p l) (by lia)) (HH.trans JW)]
def ke (T:Txt K mg A):d3 P w K mg base i0 1 A.qV A.qZ ["_law_pattern_here"] (kX K NI):=by
 refine mU T.m7.fn oS (by left) λeI A' outer s H E hr=> ?_;have nd:=oS.nd;refine#[_,(aI (bU (i:=1) nd rfl (by trivial) (qC aD)) (aI (fX bO rfl (uW (pv 0)) (lS (n:=2) rfl (eD (bR (i:=2) nd rfl (by trivial)) (eD (bR (i:=3) nd rfl (by trivial)) jE))) (aI (fV (Fp PySem.F.plainAttrs_list PySem.F.slot_list_extend PySem.F.type_list_extend Cg (pv 1) (ab (bH Fy (qC (ab aJ aD)) (bH gH (bH gH (pv 2) (cP eh (cP eh (pv 0) aJ (λ_ _=>rfl)) aJ (λ_ _=>rfl))) (bL cR (by rfl) T.gf Boot.«len» (ab (pv 1) aD)))) aD))) (aW (fV (Fp PySem.F.plainAttrs_list PySem.F.slot_list_append PySem.F.type_list_append kI (pv 1) (ab (pv 3) aD)))))) (aW (c4 (dE gT (by rfl) T.ix Boot.«tuple» (ab (pv 1) aD)))))),?_];try dsimp only[fg]
 refine#[_,inferInstance,?_];rintro vs M q ⟨p,Z,pat,rfl,hp,xp,hw,z0,z1,k⟩;have p0:0<p:=by lia
 dsimp? [fG];intro t ht;dsimp? [];cases pat with
 | nil=>refine ip (λi ρ M'=>ρ= [some (.tup []),some (wr t),none,none] /\ M'=um M t (.lst [])) #[rfl,rfl] (λ_ _ _ _ _=>trivial) (λi x ρ M' hx _=>by simp at hx) ?_;rintro ρ M' ⟨rfl,rfl⟩;have UR:um M t (.lst []) t=some (.lst []):=um_same;dsimp? [UR];refine#[M,cu ht,k [] (kM p) (by simp;lia) lG.refl]
 | cons c0 rest=>
  let⟨pat,CP⟩: ∃pat,pat=c0::rest:=#[_,rfl]
  rw[<- CP] at xp hw k ⊢;let⟨r1,r2,r3⟩:=Dd p0 CP xp hw;have tJ:iY (pat.map cQ) 0=some (cQ c0):=gz (j:=0) (by rw[CP];rfl);refine ip (λi ρ M'=> ∃o2 o3:Option W,ρ= [some (.tup (pat.map cQ)),some (wr t),o2,o3] /\ M' t=some (.lst (((pat.take i).foldl (fC c0.1) []).map wi)) /\ Sm M M') #[none,none,rfl,um_same,cu ht] (λ_ _ _ _ _=>trivial) ?_ ?_
  .rintro i x ρ M' hx ⟨o2,o3,rfl,hM,sM⟩ N hN;let⟨z,hz,rfl⟩: ∃z,pat[i]? =some z /\ x=cQ z:=by rw[ay] at hx;let⟨z,h1,h2⟩:=Option.map_eq_some_iff.mp hx;exact#[z,h1,h2.symm]
   have et:(pat.take (i+1)).foldl (fC c0.1) []=fC c0.1 ((pat.take i).foldl (fC c0.1) []) z:=by rw[bC,hz,List.foldl_append];rfl
   have vm:=Kb CP xp hw z1 i;have Pw:c0.1<=z.1 /\ z.1 - c0.1<=200:=by
    have hm: ∀z∈pat, -Z<=z.1 /\ z.1<=Z:=λz hz=>hw z.1 (by rw[ju xp.2 hz];have:=xp.1 z hz;lia);have h1:=hm z (au hz);have h2:=hm c0 (by rw[CP];exact aA);refine#[?_,by lia];have hs:=xp.2;have LA:=au hz;rw[CP] at hs LA;rcases av.mp LA with rfl | q
    .exact aT _
    .have:=(a4.mp hs).1 z q;lia
   revert hM et vm;generalize (pat.take i).foldl (fC c0.1) []=acc;intro hM et vm;have GJ:iY [wi c0.1,wi c0.2] 0=some (wi c0.1):=rfl;dsimp? [cQ,hM,tJ,GJ];intro r1 HF;have DD:um M' r1 (.lst [.v (.int 0)]) t=some (.lst (acc.map wi)):=by rw[aN (dM hM HF)];exact hM
   have s1:=sM.trans (cu (o:= .lst [.v (.int 0)]) HF);generalize um M' r1 (.lst [.v (.int 0)])=M1 at DD s1 ⊢;dsimp? [DD,aa,List.flatten_replicate_singleton];refine#[#[by lia,by lia,by rw[Nat.one_mul];exact big (by lia)],?_];intro r2 Gm;let⟨n,hn⟩: ∃n,(z.1 - c0.1 - (acc.length:Int)).toNat=n:=#[_,rfl]
   rw[hn];have UU:um M1 r2 (.lst (List.replicate n (.v (.int 0)))) t=some (.lst (acc.map wi)):=by rw[aN (dM DD Gm)];exact DD
   have s2:=s1.trans (cu (o:= .lst (List.replicate n (.v (.int 0)))) Gm);generalize um M1 r2 (.lst (List.replicate n (.v (.int 0))))=M2 at UU s2 ⊢;dsimp? [UU,aa];refine#[by rw[cj];exact big (by lia),?_];have UT:um M2 t (.lst (acc.map wi++List.replicate n (.v (.int 0)))) t=some (.lst (acc.map wi++List.replicate n (.v (.int 0)))):=um_same;dsimp? [UT];refine#[by rw[aH,aa,cj];exact yb (by lia),?_];refine hN _ _ #[_,_,rfl,?_,Nj s2 ht];rw[um_same,et];unfold fC;rw[hn,aM,aM,List.map_replicate];rfl
  .rintro ρ M' ⟨o2,o3,rfl,hM,sM⟩;rw[aa,cb] at hM;dsimp? [hM];exact#[M,sM,k _ r1 r2 r3]
def jR (T:Txt K mg A):d3 P w K mg base i0 2 A.kn A.kr ["_law_p_here","_law_row"] (kX K NJ):=by
 refine mU T.jH.fn jO (by left) λeI A' outer s H E hr=> ?_;have nd:=jO.nd;refine#[_,(aW (c4 (a8 T.u9 (oi T) hr (ab (pv 0) (ab (eZ rfl (dG.of (sc:=aP gk) (N:= ["_law_p_here","_law_row"]) (own:= ["_law_k"]) (fr:= [1]) (N':= ["_law_k","_law_row"]) rfl rfl rfl (by right) rfl (by right) (by right) (by right) (by right) (by right)) (f9 (by rfl) T.fK (ab (bL cR (by rfl) T.gf Boot.«len» (ab (pv 1) aD)) aD)) (λ_ _ _ _=>(bR (i:=0) (by show(["_law_k","_law_row"]:List Str).Nodup;decide+kernel) rfl (by trivial))) di (λ_ _ _ _=>fq) (λ_ _ _ _=>(gr (ab (pv 0) (ab (cP (show BK _ (Nt K) from Jz) (pv 1) (pv 0) (λ_ _=>rfl)) aD))))) aD))))),?_];try dsimp only[fg]
 refine#[_,inferInstance,?_];rintro vs M q ⟨p,x,l,rfl,hx,p0,p1,hl,k⟩;rcases hx with rfl | ⟨u,rfl,hu⟩
 .dsimp? [gQ];refine#[by rw[aa];lia,?_];unfold eM;rw[aa,Int.toNat_natCast];refine iP (λk:Nat=>cQ ((k:Int),l.getD k 0)) (by rw[bI];exact big (by lia)) (λ_ _=>trivial) ?_ λt ht=> ?_
  .intro z hz M3 N s3 hN;have h4:=gV (l:=l) (cc.mp hz);have ez:(0:Int)+(z:Int)=z:=bB _;dsimp? [ez];exact .inr #[_,_,_,rfl,rfl,h4,hN]
  .refine#[t,p,lp l,rfl,by rw[um_same,w6],p0,trivial,by unfold lp;rw[p8];lia,#[M,cu ht,k]]
 .dsimp? [hu];refine#[by rw[aa];lia,?_];unfold eM;rw[aa,Int.toNat_natCast];refine iP (λk:Nat=>cQ ((k:Int),l.getD k 0)) (by rw[bI];exact big (by lia)) (λ_ _=>trivial) ?_ λt ht=> ?_
  .intro z hz M3 N s3 hN;have h4:=gV (l:=l) (cc.mp hz);have ez:(0:Int)+(z:Int)=z:=bB _;dsimp? [ez];exact .inl #[u,_,_,_,rfl,rfl,s3 _ _ hu,h4,hN]
  .refine#[t,p,lp l,rfl,by rw[um_same,w6],p0,trivial,by unfold lp;rw[p8];lia,#[M,cu ht,k]]
def uZ (T:Txt K mg A):d3 P w K mg base i0 3 A.oZ A.pk ["_law_p_here","_law_patterns"] (kX K Fx):=by
 refine mU T.tq.fn mF (by left) λeI A' outer s H E hr=> ?_;have nd:=mF.nd;refine#[_,(aI (bU (i:=2) nd rfl (by trivial) (gr aD)) (aI (fX bO rfl (eR (pv 1)) (bR (i:=3) nd rfl (by trivial)) (aI (bU (i:=4) nd rfl (by trivial) (a8 T.m7 (ke T) hr (ab (pv 3) aD))) (aW (mN bO (cL sR (bL cR (by rfl) T.gf Boot.«len» (ab (pv 4) aD)) aJ (de _)) (aI (bU (i:=5) nd rfl (by trivial) (pv 4)) (aI (gq (cL sR (bL cR (by rfl) T.gf Boot.«len» (ab (pv 2) aD)) aJ (de _)) (aW (bU (i:=5) nd rfl (by trivial) (a8 T.F3 (Cb T) hr (ab (pv 0) (ab (pv 2) (ab (pv 4) aD)))))) (aW (bU (i:=5) nd rfl (by trivial) (gr aD)))) (aI (bU (i:=2) nd rfl (by trivial) (pv 4)) (aW (bU (i:=4) nd rfl (by trivial) (pv 5)))))))))) (aW (c4 (pv 2))))),?_];try dsimp only[fg]
 refine#[_,inferInstance,?_];rintro vs M q ⟨p,u,pats,rfl,hu,hp,Dz,hn,k⟩;dsimp? [hu];refine ip (λi ρ M'=>Mo λ(h:List Int) (o3 o4 o5:Option W)=>BJ (ρ= [some (wi p),some (wr u),some (gQ h),o3,o4,o5]) (M'=M) (gX p h) (h.length<=1000) (lG 1 p (pats.take i) [lp h])) #[[],none,none,none,rfl,rfl,kM p,by simp,#[λa ha=>by simp at ha,λb hb=>by rw[af.mp hb];exact vd]] (λi ρ M' _ h=>by let⟨_,_,_,_,_,rfl,_⟩:=h;exact hu) ?_ ?_
 .rintro i x ρ M' hx ⟨h,o3,o4,o5,rfl,rfl,hh,hl,es⟩ N hN;let⟨pt,oC,rfl⟩: ∃pt,pats[i]? =some pt /\ x=fG pt:=by rw[ay] at hx;let⟨pt,h1,h2⟩:=Option.map_eq_some_iff.mp hx;exact#[pt,h1,h2.symm]
  have Si:=Dz pt (au oC);dsimp? [];refine#[p,100,pt,rfl,hp,Si.1,Si.2,by decide,by decide,λone so lo eo=> ?_];have es1:lG 1 p (pats.take (i+1)) [lp h,lp one]:=by rw[bC,oC];exact GX es eo
  dsimp? [];refine pS (λm ρ M''=>oM λ(h one:List Int) (o5:Option W)=>uk (ρ= [some (wi p),some (wr u),some (gQ h),some (fG pt),some (gQ one),o5]) (M''=M') (m=one.length) (gX p h) (gX p one) (h.length<=1000) (one.length<=1000) (lG 1 p (pats.take (i+1)) [lp h,lp one])) one.length #[h,one,o5,rfl,rfl,rfl,hh,so,hl,by lia,es1] ?_;clear hh so hl lo eo es1 es;rintro m ρ M'' ⟨h,one,o5,rfl,rfl,rfl,sh,so,lh,lo,es⟩ N2 LY;dsimp? [gQ];refine d8 (λh0=> ?_) λh0=> ?_
  .have Rt:one≠ []:=λe=>by rw[e] at h0;simp at h0
   dsimp? [];refine d8 (λh1=> ?_) λh1=> ?_
   .dsimp? [];refine#[p,h,one,rfl,hp,sh,so,lh,lo,Rt,λr sr lr er=> ?_];dsimp? [];exact LY r.length _ _ (by lia) #[one,r,_,rfl,rfl,rfl,so,sr,lo,by lia,es.trans er]
   .have e:h= []:=by
     cases h with
     | nil=>rfl
     | cons a b=>rw[aK,aG] at h1;lia
    subst e;dsimp? [];exact LY 0 _ _ (cU.mpr Rt) #[one,[],_,rfl,rfl,rfl,so,kM p,lo,by simp,es.trans xI]
  .have e:one= []:=by
    cases one with
    | nil=>rfl
    | cons a b=>rw[aK,aG] at h0;lia
   subst e;exact hN _ _ #[h,_,_,_,rfl,rfl,sh,lh,es.trans JY]
 .rintro ρ M' ⟨h,o3,o4,o5,rfl,rfl,hh,hl,es⟩;rw[aa,cb] at es;dsimp? [];exact pM (k h hh hl es)
def J1 (l:List Pt):yo (.tup (l.map Fs)) <=50:=by rw[yo];have:=xJ (n:=2) (g:=Fs) (λa=>by unfold Fs;rw[yo];have:=qX a;lia) l;lia
def NO (T:Txt K mg A):d3 P w K mg base i0 8 A.L8 A.Md ["_law_script"] (vZ K):=by
 refine Rv T.law.fn EK (by decide) λeI A' outer s H E hr=> ?_;have nd:=EK.nd;refine#[_,(aI (bU (i:=1) nd rfl (by trivial) (a8 T.AS (yX T) hr (ab (pv 0) aD))) (aI (bU (i:=2) nd rfl (by trivial) (a8 T.l_p (NP T) hr (ab (pv 1) aD))) (aI (lP (i:=3) rfl nd rfl (Or.inl rfl) (dG.of (sc:=aP oT) (N:= ["_law_script","_law_draw","_law_p_here","_law_patterns","_law_both","_law_due","_law_row","_law_turn","_law_pattern_here","_law_found"]) (own:= ["_law_k"]) (fr:= [1,2]) (N':= ["_law_k","_law_draw","_law_p_here"]) rfl rfl rfl (by right) rfl (by right) (by right) (by right) (by right) (by right)) (f9 (by rfl) T.fK (ab (a8 T.lX (iz T) hr (ab (pv 1) (ab aJ aD))) aD)) (λ_ _ _ _=>(bR (i:=0) (by show(["_law_k","_law_draw","_law_p_here"]:List Str).Nodup;decide+kernel) rfl (by trivial))) di (λ_ _ _ _=>fq) (λ_ _ _ _=>(a8 T.ox (mT T) hr (ab (pv 1) (ab (pv 2) (ab aJ (ab aJ aD)))))) rfl) (aI (gq (cL kc (a8 T.lX (iz T) hr (ab (pv 1) (ab aJ aD))) aJ (de _)) (aI (bU (i:=4) nd rfl (by trivial) (a8 T.m7 (ke T) hr (ab (a8 T.ox (mT T) hr (ab (pv 1) (ab (pv 2) (ab aJ (ab aJ aD))))) aD))) (aW (lP (i:=3) rfl nd rfl (Or.inl rfl) (dG.of (sc:=aP oT) (N:= ["_law_script","_law_draw","_law_p_here","_law_patterns","_law_both","_law_due","_law_row","_law_turn","_law_pattern_here","_law_found"]) (own:= ["_law_one"]) (fr:= [2,4]) (N':= ["_law_one","_law_p_here","_law_both"]) rfl rfl rfl (by right) rfl (by right) (by right) (by right) (by right) (by right)) (eR (pv 3)) (λ_ _ _ _=>(bR (i:=0) (by show(["_law_one","_law_p_here","_law_both"]:List Str).Nodup;decide+kernel) rfl (by trivial))) di (λ_ _ _ _=>fq) (λ_ _ _ _=>(a8 T.jH (jR T) hr (ab (pv 1) (ab (a8 T.Lu (FF T) hr (ab (pv 1) (ab (a8 T.m7 (ke T) hr (ab (pv 0) aD)) (ab (pv 2) aD)))) aD)))) rfl))) eY) (aI (bU (i:=5) nd rfl (by trivial) (gr aD)) (aI (bU (i:=6) nd rfl (by trivial) (a8 T.tq (uZ T) hr (ab (pv 2) (ab (pv 3) aD)))) (aI (gq (cL sR (bL cR (by rfl) T.gf Boot.«len» (ab (pv 6) aD)) aJ (de _)) (aI (bU (i:=7) nd rfl (by trivial) (cP cY (eZ rfl (dG.of (sc:=aP oT) (N:= ["_law_script","_law_draw","_law_p_here","_law_patterns","_law_both","_law_due","_law_row","_law_turn","_law_pattern_here","_law_found"]) (own:= ["_law_k"]) (fr:= [2,6]) (N':= ["_law_k","_law_p_here","_law_row"]) rfl rfl rfl (by right) rfl (by right) (by right) (by right) (by right) (by right)) (sP (by rfl) T.fK (ab aJ (ab (pv 2) aD))) (λ_ _ _ _=>(bR (i:=0) (by show(["_law_k","_law_p_here","_law_row"]:List Str).Nodup;decide+kernel) rfl (by trivial))) di (λ_ _ _ _=>(kG (cL kc (bH fO (bH e9 (pv 0) (cP (show BK _ (wB K) from eh) (pv 2) (hW fN aJ) (λ_ _=>rfl))) (pv 1)) aJ (de _)))) (λ_ _ _ _=>(pv 0))) aJ (λ_ _=>rfl))) (aI (bU (i:=8) nd rfl (by trivial) (a8 T.jH (jR T) hr (ab (pv 2) (ab (eZ rfl (dG.of (sc:=aP oT) (N:= ["_law_script","_law_draw","_law_p_here","_law_patterns","_law_both","_law_due","_law_row","_law_turn","_law_pattern_here","_law_found"]) (own:= ["_law_number"]) (fr:= [7]) (N':= ["_law_number","_law_turn"]) rfl rfl rfl (by right) rfl (by right) (by right) (by right) (by right) (by right)) (uW (pv 6)) (λ_ _ _ _=>(bR (i:=0) (by show(["_law_number","_law_turn"]:List Str).Nodup;decide+kernel) rfl (by trivial))) di (λ_ _ _ _=>fq) (λ_ _ _ _=>(bH e9 (pv 0) (pv 1)))) aD)))) (aW (bU (i:=5) nd rfl (by trivial) (gr (ab (a8 T.Lr (FE T) hr (ab (pv 2) (ab (gr aD) (ab (pv 8) (ab (hW fN (cP eh (cP eh (pv 8) aJ (λ_ _=>rfl)) aJ (λ_ _=>rfl))) (ab aJ aD)))))) aD)))))) eY) (aI (bU (i:=9) nd rfl (by trivial) (a8 T.built (FH T) hr (ab (pv 2) (ab aJ (ab (dE jM (by rfl) T.hV Boot.«list» (ab (pv 3) aD)) aD))))) (aI (gq (sO (kb (oh (bL jx (by rfl) T.fL Boot.«isinstance» (ab (pv 9) (ab (kH (by rfl) T.ix Boot.«tuple» (show RelV (.ty "tuple") _ from rfl)) aD))))) (sO (cL AI (bL cR (by rfl) T.gf Boot.«len» (ab (pv 9) aD)) aJ (de _)) (uQ (kb (oh (bL jx (by rfl) T.fL Boot.«isinstance» (ab (cP eh (pv 9) aJ (λ_ _=>rfl)) (ab (kH (by rfl) T.ix Boot.«tuple» (show RelV (.ty "tuple") _ from rfl)) aD)))))))).pt (aW (c4 sQ)) eY) (aW (c4 (Fq (bL (C8 rfl) (by rfl) T.To Boot.«all» (ab (eZ rfl (dG.of (sc:=aP oT) (N:= ["_law_script","_law_draw","_law_p_here","_law_patterns","_law_both","_law_due","_law_row","_law_turn","_law_pattern_here","_law_found"]) (own:= ["_law_stair"]) (fr:= [2]) (N':= ["_law_stair","_law_p_here"]) rfl rfl rfl (by right) rfl (by right) (by right) (by right) (by right) (by right)) (uW (cP eh (pv 9) aJ (λ_ _=>rfl))) (λ_ _ _ _=>(bR (i:=0) (by show(["_law_stair","_law_p_here"]:List Str).Nodup;decide+kernel) rfl (by trivial))) di (λ_ _ _ _=>fq) (λ_ _ _ _=>(a8 T.mZ (pC T) hr (ab (pv 1) (ab (pv 0) aD))))) aD)) (Fl (AF (NL hr.u60) (cP eh (pv 9) aJ (λ_ _=>rfl)) (pv 5) (de _))))))))))))))),?_];try dsimp only[fg]
 refine#[_,inferInstance,?_];intro d l M hD;dsimp? [];refine#[d,l,rfl,hD,λp M1 hp D1 _=> ?_];have p0:0<p:=by lia
 have p7:p<=7:=by lia
 have p2:2<=p:=by lia
 dsimp? [];refine#[d,l,4,rfl,D1,by decide,by decide,λn M2 n0 n1 D2 _=> ?_];dsimp? [];refine#[#[by lia,by lia],zE (by rw[iy];exact big (by lia)) λt ht=> ?_];let⟨Rx,Z1⟩:=D2.ne ht;refine#[λi ys M'=> ∃pats:List Pt,BJ (ys=pats.map fG) (pats.length=i) (∀pt∈pats,d7 p pt /\ Wt 6 pt) (Dr M' d l) (M' t=some (.lst ys)),#[[],rfl,rfl,by simp,D2.put ht,um_same],?_,?_,?_]
 .rintro i ys M' hi ⟨pats,rfl,hl,_,_,hM⟩;exact#[trivial,hM,by rw[aa];lia]
 .rintro i x ys M' hx ⟨pats,rfl,hl,hk,D5,hM⟩ N2 LY;simp? [↓cy];refine#[d,l,p,5,6,rfl,D5,p2,by lia,by decide,by decide,by decide,by decide,λps M6 rX Dz D6 b6=> ?_];simp? [↓cy];refine#[by rw[b6 t Rx];exact hM,LY _ _ #[pats++ [iU p ps],by rw[aM];rfl,by simp[hl],λpt oC=> ?_,D6.Rh Rx Z1,um_same]];rcases ax.mp oC with h | h
  .exact hk pt h
  .rw[af.mp h];refine#[gN (by lia) ps,λx hx=> ?_];let⟨z,hz,e⟩:=ag.mp (cI hx);let⟨y,hy,e2⟩:=FJ hz;have:=Dz y hy;lia
 rintro ys M3 ⟨pats,rfl,hl,hk,D3,UT⟩;rw[iy] at hl;simp? [↓cy];refine gw (zt (λρ M'=>oM λ(o:Option W) (u:Addr) (pats:List Pt)=>vD (ρ= [none,some (wr d),some (wi p),some (wr u),o,none,none,none,none,none]) (∀pt∈pats,d7 p pt /\ Wt 60 pt) (pats.length<=3) (M' u=some (.lst (pats.map fG)))) ?_ λN hN=> ?_);rotate_left
 .dsimp? [];refine#[d,l,2,rfl,D3,by decide,by decide,λg M4 g0 g1 D4 b4=> ?_];have US:=(b4 t Rx).trans UT;dsimp? [];refine d8 (λh=> ?_) λh=>hN _ _ #[none,t,pats,rfl,λpt oC=>#[(hk pt oC).1,(hk pt oC).2.up (by decide)],by lia,US];dsimp? [];refine#[d,l,p,3,4,rfl,D4,p2,by lia,by decide,by decide,by decide,by decide,λps M5 rX Dz D5 b5=> ?_];have P8:=(b5 t Rx).trans US;dsimp? [];refine#[p,4,iU p ps,rfl,hp,gN p0 ps,λx hx=> ?_,by decide,by decide,λboth sb lb _=> ?_]
  .let⟨z,hz,e⟩:=ag.mp (cI hx);let⟨y,hy,e2⟩:=FJ hz;have:=Dz y hy;lia
  dsimp? [P8];refine zE (by rw[aa];exact big (by lia)) λv hv=> ?_;have Z0:t≠v:=dM P8 hv;refine#[λi ys M'=> ∃pats:List Pt,BJ (ys=pats.map fG) (pats.length=i) (∀pt∈pats,d7 p pt /\ Wt 60 pt) (M' t=M5 t) (M' v=some (.lst ys)),#[[],rfl,rfl,by simp,aN Z0,um_same],?_,?_,?_]
  .rintro i ys M' hi ⟨AG,rfl,k7,_,e,hM⟩;rw[aa] at hi;exact#[e.trans P8,hM,by rw[aa];lia]
  .rintro i x ys M' hx ⟨AG,rfl,k7,rL,et,hM⟩ N2 LY;let⟨pt,oC,rfl⟩: ∃pt,pats[i]? =some pt /\ x=fG pt:=by rw[ay] at hx;let⟨pt,h1,h2⟩:=Option.map_eq_some_iff.mp hx;exact#[pt,h1,h2.symm]
   have Si:=hk pt (au oC);simp? [↓cy];refine#[p,6,pt,rfl,hp,Si.1,Si.2,by decide,by decide,λa sa la _=> ?_];simp? [↓cy];refine#[p,a,both,rfl,p0,by lia,by lia,λx hx=>by have:=sa.1 x hx;lia,?_];have hlen:(D9 p (mulL a both)).length<=60:=by have h1:=z3 p (mulL a both);have h2:(mulL a both).length=a.length+both.length:=mW a both _;lia
   simp? [↓cy];refine#[p,_,D9 p (mulL a both),rfl, .inl rfl,p0,by lia,by lia,?_];simp? [↓cy];refine#[hM,LY _ _ #[AG++ [iU p (lp (D9 p (mulL a both)))],by rw[aM];rfl,by simp[k7],λq hq=> ?_,(aN Z0).trans et,um_same]];rcases ax.mp hq with h | h
   .exact rL q h
   .rw[af.mp h];exact#[gN p0 _,Qd p0 hlen]
  .rintro ys M' ⟨AG,rfl,k7,rL,_,hM⟩;rw[aa] at k7;exact hN _ _ #[_,v,AG,rfl,rL,by lia,hM]
 clear hl hk D3 UT ht Rx Z1 t pats;rintro ρ M4 ⟨o,u,pats,rfl,Dz,hn,LZ⟩;dsimp? [];refine#[p,u,pats,rfl,LZ,hp,λpt oC=>#[(Dz pt oC).1,(Dz pt oC).2.up (by decide)],by lia,λr sr lr er=> ?_];simp? [↓cy];refine gw (zt (λρ M'=>oM λ(o7 o8:Option W) (ds:List Pt)=>BJ (ρ= [none,some (wr d),some (wi p),some (wr u),o,some (.tup (ds.map fG)),some (gQ r),o7,o8,none]) (M' u=some (.lst (pats.map fG))) (qe 1 p ds 1000000) (Trim 1 p ds 1000000) (lG 1 p pats ds)) ?_ λN hN=> ?_);rotate_left
 .dsimp? [gQ];refine d8 (λh=> ?_) λh=> ?_
  .have r0:r≠ []:=λe=>by rw[e] at h;simp at h
   have hL:0<r.length:=cU.mpr r0;have HG:(0<p)=True:=aY p0;let⟨c,hc⟩: ∃c,r.getD (r.length - 1) 0=c:=#[_,rfl]
   have Gs:iY (r.map wi) (-1)=some (wi c):=by rw[oJ r0,hc]
   have Xv:c∈r:=by rw[<- hc,aC,ae (by lia)];exact bK (by lia)
   have GH:=sr.1 c Xv;have vk:0<c:=by have:=sr.last r0;rw[hc] at this;lia
   let⟨tn,Dy,t1,t2,t3⟩:=zY hp vk GH.2;dsimp? [];refine#[#[by decide,by decide,by lia,by lia],?_];unfold eM;refine comp_map (λk:Nat=>decide ((1+(k:Int))*c % p=1)) (λk:Nat=>wi (1+(k:Int))) (by rw[bI];exact big (by lia)) (λ_ _=>trivial) ?_ λt ht=> ?_
   .intro z LA M3 N3 s3 oF;have hz:=cc.mp LA;have cm:gM (1+(z:Int)) c=True:=aY (.inl #[by lia,by lia]);simp? [↓cG,Gs,cm,HG];refine d8 (λh=> ?_) λh=> ?_
    .rw[aj (by simpa using h)] at oF;exact oF
    .rw[ah (by simpa using h)] at oF;exact oF
   have SY:=cu (o:= .lst (((List.range (p - 1).toNat).filter λk:Nat=>decide ((1+(k:Int))*c % p=1)).map λk:Nat=>wi (1+(k:Int)))) ht u _ LZ;have S0:um M4 t (.lst (((List.range (p - 1).toNat).filter λk:Nat=>decide ((1+(k:Int))*c % p=1)).map λk:Nat=>wi (1+(k:Int)))) t=some (.lst (((List.range (p - 1).toNat).filter λk:Nat=>decide ((1+(k:Int))*c % p=1)).map λk:Nat=>wi (1+(k:Int)))):=um_same;generalize um M4 t (.lst (((List.range (p - 1).toNat).filter λk:Nat=>decide ((1+(k:Int))*c % p=1)).map λk:Nat=>wi (1+(k:Int))))=M5 at SY S0 ⊢;dsimp? [S0,Dy];refine iP (λv:Int=>wi (v*tn)) (big (by lia)) (λ_ _=>trivial) ?_ λv hv=> ?_
   .intro z LA M3 N3 s3 oF;have cm: ∀x,gM x tn=True:=λx=>aY (.inr #[by lia,by lia]);simp? [↓cG,cm];exact oF
   have XF:=cu (o:= .lst (r.map λv:Int=>wi (v*tn))) hv u _ SY;let⟨z0,rest,eB⟩:=FP (t:=tn) p0 r0 hc t3;refine#[p,wr v,r.map (· *tn),rfl, .inr #[v,rfl,by rw[um_same,aE];rfl],p0,by lia,by rw[aa];lia,?_];have mono:=Ci p0 p2 r0 lr hc t3 rfl eB;have iB:d7 p (iU p (lp (r.map (· *tn)))):=gN p0 _;have W7:(iU p (lp (r.map (· *tn)))).length<=8000000:=aZ (Jl _ _) (by unfold lp;rw[p8,aa];lia);revert eB mono iB W7;generalize iU p (lp (r.map (· *tn)))=B;intro eB mono iB W7;have tJ:iY (B.map cQ) 0=some (cQ z0):=gz (j:=0) (by rw[eB];rfl);have GJ:iY [wi z0.1,wi z0.2] 0=some (wi z0.1):=rfl;have eP:fG B= .tup (B.map cQ):=rfl;dsimp? [eP,tJ,cQ,GJ];refine#[p,[],B, -z0.1,1,rfl,p0,trivial,by decide,W7,λz hz=>by have:=iB.1 z hz;lia,?_];dsimp? [];exact hN _ _ #[_,_,[_],rfl,XF,mono.gF,mono.trim,er.trans mono.eqs]
  .have e:r= []:=by
    cases r with
    | nil=>rfl
    | cons a b=>rw[aK,aG] at h;lia
   subst e;exact hN _ _ #[none,none,[],rfl,LZ,Ir,Ea,er.trans GY]
 rintro ρ M5 ⟨o7,o8,ds,rfl,XE,iF,QA,ed⟩;dsimp? [XE];intro t1 ht1;dsimp? [];have hP:Hq 1 p 60 60 pats:=#[λpt oC=>#[(Dz pt oC).1,OZ (Dz pt oC).2],by lia,hp,by decide,by decide,by decide,by decide,λz=>absurd z (by decide),by decide,by decide]
 refine#[t1,p,1,60,60,pats,rfl,um_same,hP,λM8 v1 as1 sts Ps O0 sm8 _ _ _ _=> ?_];obtain rfl:=FC hp (by decide) O0.gF iF O0.trim QA (O0.own.trans ed);dsimp? [];refine zo (λh=>absurd rfl h) λ_=> ?_;dsimp? [];have hn3:sts.length<=3:=aZ O0.OR hn;have hE:2*((sts.length:Int)*((60:Nat):Int)) <=960:=by lia
 have hL: ∀st∈sts,st.length<=16000000:=λst h=>by have:=Wt.len (qD (O0.gF.of h).pat) ((O0.bx st h).1.wt (by decide) (by decide) (by decide) hE hE (by decide)) (by decide);exact aZ this (by decide)
 refine iP (λ_:Pt=>wb true) (big (by lia)) (λ_ _=>trivial) ?_ λr2 Gm=> ?_
 .intro pt oC M3 N s3 hN;dsimp? [];refine#[p,pt,rfl,(O0.gF.of oC).pat,hL pt oC,?_];dsimp? [];exact hN
 have YX: ∀l:List Pt,((l.map λ_=>true).all id)=true:=λl=>by rw[List.all_eq_true];intro b hb;let⟨_,_,rfl⟩:=ag.mp hb;rfl
 refine Mz (bs:=sts.map λ_=>true) (by rw[um_same,aE];rfl) ?_;rw[YX];dsimp? [];have hd:CY (.tup (sts.map fG))=some (.tup (sts.map Fs)):=by rw[CY,xU J7];rfl
 refine OU (.inl hd) (.inl hd) (J1 sts) rfl ?_;first | done | dsimp? []
end
end jX
namespace jX
open PySem L2 WL WQ PyProof.Rows
theorem walk {l:PySem.W.OpenLaw}{d:DefRec}{K:Params ->PySem.W.Frag}(hn:l.most=some 63)(SQ:d.params.defaults= [])(hY: ∀ (w:World) (h:Heap),YP w h ->(K w.params).In h)(nm:d.name= "law")(F: ∀ (w:World) (mg:Str ->Option Value) (h:Heap),(K w.params).In h ->h.Ns mainGlobals mg -> ∃A,Txt (K w.params) mg A): PySem.W.WalkO q loose XP YP l.row.toRowW d [] (λf vs=>PySem.call f vs):=L2.HZ (n:=63) (k:=8) (x:= "_law_script") (CX:=λ_=>i0) (sp:=λw=>vZ (K w.params)) hn (by decide) SQ #[rfl,by decide,by decide] hY (λw mg fa h X G e=>(F w mg h X G).elim λ_ T=>N7 T.law (nm▸e) (λ_ _ _ _ _ _ _=>rfl) λ_=>NO T) (λ_ _ a ns hl _ hS=>#[a,ns,rfl,hS,λ_=>rfl]) λ_ _ _ _ _ z=>z
end jX
def PySem.W.Fast.tw15180163033690761291:Nat:=0
def PySem.W.Fast.tw3015750874988066032:Nat:=0
def PySem.W.Fast.tw5046572458470624016:Nat:=0
def PySem.W.Fast.tw15459022149820747556:Nat:=0
def PySem.W.Fast.tw17926617005761029610:Nat:=0
def PySem.W.Fast.tw5048986761123752864:Nat:=0
def PySem.W.Fast.tw11181082183136968336:Nat:=0
def PySem.W.Fast.tw5150973094340409290:Nat:=0
def PySem.W.Fast.tw14044349669682690765:Nat:=0
def PySem.W.Fast.tw2771126885975542127:Nat:=0
def PySem.W.Fast.tw2093050114992761500:Nat:=0
def PySem.W.Fast.tw13229590914097462700:Nat:=0
def PySem.W.Fast.tw9588774787586202216:Nat:=0
def PySem.W.Fast.tw10881219224431771832:Nat:=0
def PySem.W.Fast.tw4408041068583976993:Nat:=0
def PySem.W.Fast.tw16403020838995955387:Nat:=0
def PySem.W.Fast.tw9320978022450145381:Nat:=0
def PySem.W.Fast.tw17368248707087730241:Nat:=0
def PySem.W.Fast.tw8315061438473631755:Nat:=0
def PySem.W.Fast.tw13719141323865301526:Nat:=0
def PySem.W.Fast.tw12924813078473884252:Nat:=0
def PySem.W.Fast.tw13063307033362940806:Nat:=0
def PySem.W.Fast.tw6905473139332210450:Nat:=0
def PySem.W.Fast.tw7902889645503316235:Nat:=0
def PySem.W.Fast.tw15448402481846748364:Nat:=0
def PySem.W.Fast.tw1584660810723201537:Nat:=0
def PySem.W.Fast.tw8816826785586349095:Nat:=0
def PySem.W.Fast.tw3035566992049763910:Nat:=0
def PySem.W.Fast.tw13586692316787571859:Nat:=0
def PySem.W.Fast.tw16709367820639528381:Nat:=0
def PySem.W.Fast.tw8053692750788188685:Nat:=0
def PySem.W.Fast.tw1999837618065273038:Nat:=0
def PySem.W.Fast.tw1146799790705795690:Nat:=0
def PySem.W.Fast.tw3740568454865339109:Nat:=0
def PySem.W.Fast.tw17035362109427541050:Nat:=0
def PySem.W.Fast.tw12086483232012694704:Nat:=0
def PySem.W.Fast.tw10808545097876766638:Nat:=0
def PySem.W.Fast.tw1305071979144288728:Nat:=0
def PySem.W.Fast.tw2836415660582086794:Nat:=0
def PySem.W.Fast.tw3317608748207503551:Nat:=0
def PySem.W.Fast.tw17008900767024523796:Nat:=0
def PySem.W.Fast.tw6690652459778806504:Nat:=0
def PySem.W.Fast.tw12335830814887879959:Nat:=0
def PySem.W.Fast.tw2906858061343440752:Nat:=0
def PySem.W.Fast.tw13367269892653590919:Nat:=0
def PySem.W.Fast.tw9429196824066091336:Nat:=0
def PySem.W.Fast.tw2794336988991051504:Nat:=0
def PySem.W.Fast.tw4543265436981879267:Nat:=0
def PySem.W.Fast.tw4187005870793851517:Nat:=0
def PySem.W.Fast.tw12213993950492239485:Nat:=0
def PySem.W.Fast.tw10499383928346888947:Nat:=0
def PySem.W.Fast.tw10944681349878773160:Nat:=0
def PySem.W.Fast.tw8331475345565895789:Nat:=0
def PySem.W.Fast.tw6747993109068719298:Nat:=0
def PySem.W.Fast.tw17373154300808992237:Nat:=0
def PySem.W.Fast.tw4802833099436878202:Nat:=0
def PySem.W.Fast.tw13441863763155210805:Nat:=0
def PySem.W.Fast.tw12526810828462179693:Nat:=0
def PySem.W.Fast.tw12767388699047544383:Nat:=0
def PySem.W.Fast.tw6028728462323465878:Nat:=0
def PySem.W.Fast.tw3745332817143366337:Nat:=0
def PySem.W.Fast.tw8310159795910174669:Nat:=0
def PySem.W.Fast.tw15661962960822700054:Nat:=0
def PySem.W.Fast.tw8661868477288997443:Nat:=0
def PySem.W.Fast.tw4834880183898369797:Nat:=0
def PySem.W.Fast.tw18126633080891267789:Nat:=0
def PySem.W.Fast.tw17893200955986491916:Nat:=0
open PySem PySem.W PyProof.Rows L2
set_option maxRecDepth 100000 in
set_option maxHeartbeats 0 in
theorem PySem.Challenge.cw_duskround_k23_stairs_of_one_column_holds : PySem.Challenge.rw_duskround_k23_stairs_of_one_column.Holds := by
 w_on;o_law;k_head;(case hw=>w_witness2)
 k_fill
 refine jX.walk (l:=PySem.Challenge.rw_duskround_k23_stairs_of_one_column) rfl rfl (λw h Y=>PySem.W.kIn_of Y) rfl λw mg h X G=> ?_
 have' O9:=dD (x:= "tidy") (ps:= ["p","pairs"]) (st:=jX.uH) X G ?g15 ?g16 ?g17 ?g18 (λ_ _ _ _ _ _ _ _=>rfl);(case g15=>k_is);(case g16=>k_is);(case g17=>k_is);(case g18=>k_is);have' Dp:=dD (x:= "inverse") (ps:= ["p","setting"]) (st:=jX.oe) X G ?g19 ?g20 ?g21 ?g22 (λ_ _ _ _ _ _ _ _=>rfl);(case g19=>k_is);(case g20=>k_is);(case g21=>k_is);(case g22=>k_is);have' Hy:=Hc (x:= "Row") (ps:= ["self","lamps","parts"]) (st:=jX.ET) X G ?g23 ?g24 ?g25 ?g26 ?g27 ?g28 ?g29 ?g30 ?g31 ?g32 ?g33 ?g34 (λ_ _ _ _ _ _ _ _ _=>rfl);(case g23=>k_is);(case g24=>k_is);(case g25=>k_is);(case g26=>k_is);(case g27=>k_is);(case g28=>k_is);(case g29=>k_is);(case g30=>k_is);(case g31=>k_is);(case g32=>k_is);(case g33=>k_is);(case g34=>k_is);have' kW:=Hc (x:= "Stair") (ps:= ["self","row","first","length","foot"]) (st:=jX.uL) X G ?g35 ?g36 ?g37 ?g38 ?g39 ?g40 ?g41 ?g42 ?g43 ?g44 ?g45 ?g46 (λ_ _ _ _ _ _ _ _ _ _ _=>rfl);(case g35=>k_is);(case g36=>k_is);(case g37=>k_is);(case g38=>k_is);(case g39=>k_is);(case g40=>k_is);(case g41=>k_is);(case g42=>k_is);(case g43=>k_is);(case g44=>k_is);(case g45=>k_is);(case g46=>k_is);have' Hx:=dD (x:= "column") (ps:= ["place","stride"]) (st:=jX.qA) X G ?g47 ?g48 ?g49 ?g50 (λ_ _ _ _ _ _ _ _=>rfl);(case g47=>k_is);(case g48=>k_is);(case g49=>k_is);(case g50=>k_is);have' rK:=dD (x:= "first_column") (ps:= ["places","stride"]) (st:=jX.gm) X G ?g51 ?g52 ?g53 ?g54 (λ_ _ _ _ _ _ _ _=>rfl);(case g51=>k_is);(case g52=>k_is);(case g53=>k_is);(case g54=>k_is);have' Dq:=dD (x:= "heights") (ps:= ["places","stride","first"]) (st:=jX.jo) X G ?g55 ?g56 ?g57 ?g58 (λ_ _ _ _ _ _ _ _ _=>rfl);(case g55=>k_is);(case g56=>k_is);(case g57=>k_is);(case g58=>k_is);have' si:=dD (x:= "add_shifted") (ps:= ["p","held","others","by","n"]) (st:=jX.jg) X G ?g59 ?g60 ?g61 ?g62 (λ_ _ _ _ _ _ _ _ _ _ _=>rfl);(case g59=>k_is);(case g60=>k_is);(case g61=>k_is);(case g62=>k_is);have' yk:=dD (x:= "add_moved") (ps:= ["p","stride","row","other","shift","n"]) (st:=jX.j9) X G ?g63 ?g64 ?g65 ?g66 (λ_ _ _ _ _ _ _ _ _ _ _ _=>rfl);(case g63=>k_is);(case g64=>k_is);(case g65=>k_is);(case g66=>k_is);have' nR:=dD (x:= "too_high_or_low") (ps:= ["found","length"]) (st:=jX.gj) X G ?g67 ?g68 ?g69 ?g70 (λ_ _ _ _ _ _ _ _=>rfl);(case g67=>k_is);(case g68=>k_is);(case g69=>k_is);(case g70=>k_is);have' TR:=dD (x:= "cut") (ps:= ["p","stride","row","stair"]) (st:=jX.ES) X G ?g71 ?g72 ?g73 ?g74 (λ_ _ _ _ _ _ _ _ _ _=>rfl);(case g71=>k_is);(case g72=>k_is);(case g73=>k_is);(case g74=>k_is);have' Kk:=dD (x:= "stood") (ps:= ["p","stride","row"]) (st:=jX.uI) X G ?g75 ?g76 ?g77 ?g78 (λ_ _ _ _ _ _ _ _ _=>rfl);(case g75=>k_is);(case g76=>k_is);(case g77=>k_is);(case g78=>k_is);have' vG:=dD (x:= "told_parts") (ps:= ["p","parts","n"]) (st:=jX.iq) X G ?g79 ?g80 ?g81 ?g82 (λ_ _ _ _ _ _ _ _ _=>rfl);(case g79=>k_is);(case g80=>k_is);(case g81=>k_is);(case g82=>k_is);have' Dl:=dD (x:= "take_in") (ps:= ["p","stride","held","row"]) (st:=jX.n6) X G ?g83 ?g84 ?g85 ?g86 (λ_ _ _ _ _ _ _ _ _ _=>rfl);(case g83=>k_is);(case g84=>k_is);(case g85=>k_is);(case g86=>k_is);have' Dm:=dD (x:= "lie_low") (ps:= ["p","stride","held"]) (st:=jX.n8) X G ?g87 ?g88 ?g89 ?g90 (λ_ _ _ _ _ _ _ _ _=>rfl);(case g87=>k_is);(case g88=>k_is);(case g89=>k_is);(case g90=>k_is);have' Ko:=dD (x:= "built") (ps:= ["p","stride","patterns"]) (st:=jX.mK) X G ?g91 ?g92 ?g93 ?g94 (λ_ _ _ _ _ _ _ _ _=>rfl);(case g91=>k_is);(case g92=>k_is);(case g93=>k_is);(case g94=>k_is);have' Dn:=dD (x:= "_law_begin") (ps:= ["_law_script"]) (st:=jX.n9) X G ?g95 ?g96 ?g97 ?g98 (λ_ _ _ _ _ _ _=>rfl);(case g95=>k_is);(case g96=>k_is);(case g97=>k_is);(case g98=>k_is);have' Hv:=dD (x:= "_law_take") (ps:= ["_law_draw","_law_many"]) (st:=jX.qz) X G ?g99 ?g100 ?g101 ?g102 (λ_ _ _ _ _ _ _ _=>rfl);(case g99=>k_is);(case g100=>k_is);(case g101=>k_is);(case g102=>k_is);have' TQ:=dD (x:= "_law_p") (ps:= ["_law_draw"]) (st:=jX.ER) X G ?g103 ?g104 ?g105 ?g106 (λ_ _ _ _ _ _ _=>rfl);(case g103=>k_is);(case g104=>k_is);(case g105=>k_is);(case g106=>k_is);have' Hu:=dD (x:= "_law_tidy") (ps:= ["_law_p_here","_law_pairs"]) (st:=jX.mJ) X G ?g107 ?g108 ?g109 ?g110 (λ_ _ _ _ _ _ _ _=>rfl);(case g107=>k_is);(case g108=>k_is);(case g109=>k_is);(case g110=>k_is);have' yi:=dD (x:= "_law_pattern") (ps:= ["_law_draw","_law_p_here","_law_most","_law_far"]) (st:=jX.j7) X G ?g111 ?g112 ?g113 ?g114 (λ_ _ _ _ _ _ _ _ _ _=>rfl);(case g111=>k_is);(case g112=>k_is);(case g113=>k_is);(case g114=>k_is);have' Kl:=dD (x:= "_law_sum") (ps:= ["_law_p_here","_law_one","_law_other","_law_by","_law_many"]) (st:=jX.pV) X G ?g115 ?g116 ?g117 ?g118 (λ_ _ _ _ _ _ _ _ _ _ _=>rfl);(case g115=>k_is);(case g116=>k_is);(case g117=>k_is);(case g118=>k_is);have' Kn:=dD (x:= "_law_int") (ps:= ["_law_thing"]) (st:=jX.uK) X G ?g119 ?g120 ?g121 ?g122 (λ_ _ _ _ _ _ _=>rfl);(case g119=>k_is);(case g120=>k_is);(case g121=>k_is);(case g122=>k_is);have' rH:=dD (x:= "_law_is_pattern") (ps:= ["_law_p_here","_law_thing"]) (st:=jX.iH) X G ?g123 ?g124 ?g125 ?g126 (λ_ _ _ _ _ _ _ _=>rfl);(case g123=>k_is);(case g124=>k_is);(case g125=>k_is);(case g126=>k_is);have' Ht:=dD (x:= "_law_trim") (ps:= ["_law_p_here","_law_row"]) (st:=jX.mH) X G ?g127 ?g128 ?g129 ?g130 (λ_ _ _ _ _ _ _ _=>rfl);(case g127=>k_is);(case g128=>k_is);(case g129=>k_is);(case g130=>k_is);have' Km:=dD (x:= "_law_mul") (ps:= ["_law_p_here","_law_one","_law_other"]) (st:=jX.uJ) X G ?g131 ?g132 ?g133 ?g134 (λ_ _ _ _ _ _ _ _ _=>rfl);(case g131=>k_is);(case g132=>k_is);(case g133=>k_is);(case g134=>k_is);have' Hw:=dD (x:= "_law_over") (ps:= ["_law_p_here","_law_one","_law_other"]) (st:=jX.jm) X G ?g135 ?g136 ?g137 ?g138 (λ_ _ _ _ _ _ _ _ _=>rfl);(case g135=>k_is);(case g136=>k_is);(case g137=>k_is);(case g138=>k_is);have' zM:=dD (x:= "_law_as_sum") (ps:= ["_law_pattern_here"]) (st:=jX.lO) X G ?g139 ?g140 ?g141 ?g142 (λ_ _ _ _ _ _ _=>rfl);(case g139=>k_is);(case g140=>k_is);(case g141=>k_is);(case g142=>k_is);have' rJ:=dD (x:= "_law_as_pattern") (ps:= ["_law_p_here","_law_row"]) (st:=jX.gk) X G ?g143 ?g144 ?g145 ?g146 (λ_ _ _ _ _ _ _ _=>rfl);(case g143=>k_is);(case g144=>k_is);(case g145=>k_is);(case g146=>k_is);have' yj:=dD (x:= "_law_divisor") (ps:= ["_law_p_here","_law_patterns"]) (st:=jX.j8) X G ?g147 ?g148 ?g149 ?g150 (λ_ _ _ _ _ _ _ _=>rfl);(case g147=>k_is);(case g148=>k_is);(case g149=>k_is);(case g150=>k_is);have' TN:=dD (x:= "law") (ps:= ["_law_script"]) (st:=jX.oT) X G ?g151 ?g152 ?g153 ?g154 (λ_ _ _ _ _ _ _=>rfl);(case g151=>k_is);(case g152=>k_is);(case g153=>k_is);(case g154=>k_is);have' yh:=qI Hy "lamps" ?n_Row_lamps;(case n_Row_lamps=>k_is);have' yg:=qI Hy "parts" ?n_Row_parts;(case n_Row_parts=>k_is);have' sf:=qI kW "first" ?n_Stair_first;(case n_Stair_first=>k_is);have' vE:=qI kW "foot" ?n_Stair_foot;(case n_Stair_foot=>k_is);have' se:=qI kW "lamps" ?n_Stair_lamps;(case n_Stair_lamps=>k_is);have' rE:=qI kW "length" ?n_Stair_length;(case n_Stair_length=>k_is);have' r9:=qI kW "parts" ?n_Stair_parts;(case n_Stair_parts=>k_is)
 refine' #[#[_,_,_,_,_,_,_,_,_,_,_,_,_,_,_,_,_,_,_,_,_,_,_,_,_,_,_,_,_,_,_,_,_,_,_,_,_,_,_,_,_,_,_,_,_,_,_,_,_,_,_,_,_,_,_,_,_,_,_,_,_,_,_,_],bX X G ?g1,bX X G ?g2,bX X G ?g3,bX X G ?g4,bX X G ?g5,bX X G ?g6,bX X G ?g7,bX X G ?g8,bX X G ?g9,bX X G ?g10,bX X G ?g11,bX X G ?g12,bX X G ?g13,bX X G ?g14,O9,Dp,Hy,kW,Hx,rK,Dq,si,yk,nR,TR,Kk,vG,Dl,Dm,Ko,Dn,Hv,TQ,Hu,yi,Kl,Kn,rH,Ht,Km,Hw,zM,rJ,yj,TN,yh,yg,sf,vE,se,rE,r9]
 (case g1=>k_is);(case g2=>k_is);(case g3=>k_is);(case g4=>k_is);(case g5=>k_is);(case g6=>k_is);(case g7=>k_is);(case g8=>k_is);(case g9=>k_is);(case g10=>k_is);(case g11=>k_is);(case g12=>k_is);(case g13=>k_is);(case g14=>k_is)
