import PyProof.Rows.All
import Wide.All
import OpenK.AllK
import Wide.FinOn
import Lean
import PyProof.EqAt
import PyProof.EqKinds
import PyProof.TupleCall
import PyProof.NeKinds
import PyProof.SumAny
import PyProof.ConsumeS
import PyProof.WalkInts
import PyProof.Draws
import PyProof.EnumMake
import PyProof.Rows.Range3
import PyProof.MeetsStr
import KE.KDictLaws
import PyProof.Rows.CallKwBuiltin
import PyProof.DictItems
import KE.KPairComp
import PyProof.AttrMissHeap
import KE.KDictOf
import KE.KItemsList
import PySem.Challenge.RW_duskround_k24_whole_stairs_without_strid
set_option linter.all false
set_option genSizeOf false
set_option genInjectivity false
abbrev d3:=@List
abbrev d4:=@PySem.Value
abbrev d5:=@PySem.Shared
abbrev eB:=@Option
abbrev gi:=@PySem.Addr
abbrev gE:=@PyProof.Rows.Keyed
abbrev gX:=@Array
abbrev RZ:=@PySem.W.Frag
abbrev R1:=@PySem.Program
abbrev R8:=@PyProof.Rows.SortSt
def aa:=@List.length_map
def ae:=@PySem.wpAny_bind
def ag:=@List.mem_map
def ah:=@List.mem_singleton
def ai:=@if_neg
def ak:=@List.getElem?_eq_some_iff
def am:=@List.getElem?_eq_getElem
def ao:=@Nat.le_refl
def ap:=@if_pos
def aq:=@PySem.Heap.get?_push_of_some
def ar:=@List.mem_cons
def au:=@Decidable.byContradiction
def av:=@List.mem_cons_of_mem
def aw:=@List.mem_of_getElem?
def ax:=@PySem.wpAny_pure
def ay:=@Bool.false_eq_true
def aA:=@List.mem_append
def aB:=@List.getElem?_map
def aC:=@PyProof.Rows.wpS_bind
def aE:=@List.map_cons
def aF:=@PySem.Heap.lt_size
def aG:=@List.length_append
def aH:=@List.map_map
def aI:=@List.mem_cons_self
def aJ:=@PyProof.Rows.wpS_pure
def aK:=@List.length_cons
def aM:=@PySem.Heap.get?_push_size
def aP:=@List.mem_filter
def aR:=@List.map_append
def aS:=@Nat.le_trans
def aT:=@Ne.symm
def aU:=@List.size_toArray
def aV:=@Int.emod_eq_emod_iff_emod_sub_eq_zero
def aW:=@Bool.false_ne_true
def aX:=@List.mem_append_right
def aY:=@List.getElem?_append_right
def a4:=@Int.le_refl
def a5:=@Nat.ne_of_lt
def a6:=@Int.add_emod
def a7:=@List.length_take
def a8:=@eq_true
def a9:=@Int.mul_le_mul_of_nonneg_left
def be:=@if_false
def bf:=@Int.mul_le_mul_of_nonneg_right
def bg:=@List.getElem?_append_left
def bj:=@Int.add_zero
def bm:=@Option.some.inj
def bn:=@List.take_append_drop
def bo:=@List.take_add_one
def br:=@List.find?_cons
def bu:=@List.map_congr_left
def bv:=@List.pairwise_iff_getElem
def bw:=@List.nodup_cons
def bB:=@List.getD_eq_getElem?_getD
def bE:=@Int.zero_mul
def bF:=@List.length_singleton
def bG:=@PyProof.Rows.callWith_type1
def bH:=@Nat.lt_of_lt_of_le
def bK:=@PySem.PassesOwn.never
def bM:=@PySem.wpAny_mono
def bN:=@List.take_length
def bO:=@Int.zero_add
def bP:=@Int.mul_comm
def bQ:=@Int.emod_eq_of_lt
def bR:=@if_true
def bS:=@List.mem_range
def bT:=@Int.mul_emod
def bV:=@decide_eq_false
def bW:=@List.append_assoc
def bY:=@PySem.W.mg_none_of
def bZ:=@List.mem_iff_getElem?
def cb:=@decide_eq_true
def cc:=@List.pairwise_map
def cg:=@Nat.lt_irrefl
def ci:=@List.pairwise_cons
def cj:=@Int.emod_lt_of_pos
def cr:=@Array.toList_append
def cu:=@Array.length_toList
def cw:=@Int.emod_nonneg
def cx:=@List.getElem_mem
def cz:=@List.length_range
def cA:=@Int.emod_emod
def cB:=@Nat.zero_le
def cC:=@List.pairwise_append
def cE:=@PyProof.Rows.wpS_forRange
def cH:=@PySem.W.kia_one
def cI:=@Int.mul_nonneg
def cP:=@PySem.sizeLine_eq
def cQ:=@List.length_eq_zero_iff
def cR:=@List.getElem?_cons_succ
def cS:=@Int.emod_emod_of_dvd
def c7:=@decide_eq_true_eq
def c9:=@Int.mul_zero
def c_:=@PySem.wpAny_truthy_bool
def dg:=@PySem.wpAny_holding
def dq:=@PySem.Calls.spliced_cons
def dz:=@Nat.lt_or_ge
def dB:=@List.map_nil
def dC:=@Int.lt_or_le
def dD:=@PySem.mem_of_lookup
def dI:=@List.drop_eq_getElem_cons
def dL:=@List.perm_append_comm
def dM:=@PySem.Heap.size_push
def dP:=@PySem.Heap.get?_update_other
inductive cJ {T0 T1:Type}(P:T0 ->T1 ->Prop):Prop | mk (x0:T0) (x1:T1) (h:P x0 x1):cJ P
inductive gv {T0 T1 T2:Type}(P:T0 ->T1 ->T2 ->Prop):Prop | mk (x0:T0) (x1:T1) (x2:T2) (h:P x0 x1 x2):gv P
inductive jQ {T0 T1 T2 T3:Type}(P:T0 ->T1 ->T2 ->T3 ->Prop):Prop | mk (x0:T0) (x1:T1) (x2:T2) (x3:T3) (h:P x0 x1 x2 x3):jQ P
inductive J1 {T0 T1 T2 T3 T4:Type}(P:T0 ->T1 ->T2 ->T3 ->T4 ->Prop):Prop | mk (x0:T0) (x1:T1) (x2:T2) (x3:T3) (x4:T4) (h:P x0 x1 x2 x3 x4):J1 P
inductive XE6 {T0 T1 T2 T3 T4 T5:Type}(P:T0 ->T1 ->T2 ->T3 ->T4 ->T5 ->Prop):Prop | mk (x0:T0) (x1:T1) (x2:T2) (x3:T3) (x4:T4) (x5:T5) (h:P x0 x1 x2 x3 x4 x5):XE6 P
inductive Mj {T0 T1 T2 T3 T4 T5 T6:Type}(P:T0 ->T1 ->T2 ->T3 ->T4 ->T5 ->T6 ->Prop):Prop | mk (x0:T0) (x1:T1) (x2:T2) (x3:T3) (x4:T4) (x5:T5) (x6:T6) (h:P x0 x1 x2 x3 x4 x5 x6):Mj P
inductive Gy {T0 T1 T2 T3 T4 T5 T6 T7:Type}(P:T0 ->T1 ->T2 ->T3 ->T4 ->T5 ->T6 ->T7 ->Prop):Prop | mk (x0:T0) (x1:T1) (x2:T2) (x3:T3) (x4:T4) (x5:T5) (x6:T6) (x7:T7) (h:P x0 x1 x2 x3 x4 x5 x6 x7):Gy P
inductive dh (P0 P1 P2:Prop):Prop | mk (S3:P0) (Hc:P1) (BZ:P2):dh P0 P1 P2
inductive fh (P0 P1 P2 P3:Prop):Prop | mk (S3:P0) (Hc:P1) (BZ:P2) (Ve:P3):fh P0 P1 P2 P3
inductive ja (P0 P1 P2 P3 P4:Prop):Prop | mk (S3:P0) (Hc:P1) (BZ:P2) (Ve:P3) (YB:P4):ja P0 P1 P2 P3 P4
inductive nh (P0 P1 P2 P3 P4 P5:Prop):Prop | mk (S3:P0) (Hc:P1) (BZ:P2) (Ve:P3) (YB:P4) (hP5:P5):nh P0 P1 P2 P3 P4 P5
inductive CO (P0 P1 P2 P3 P4 P5 P6:Prop):Prop | mk (S3:P0) (Hc:P1) (BZ:P2) (Ve:P3) (YB:P4) (hP5:P5) (hP6:P6):CO P0 P1 P2 P3 P4 P5 P6
inductive qW (P0 P1 P2 P3 P4 P5 P6 P7:Prop):Prop | mk (S3:P0) (Hc:P1) (BZ:P2) (Ve:P3) (YB:P4) (hP5:P5) (hP6:P6) (hP7:P7):qW P0 P1 P2 P3 P4 P5 P6 P7
set_option Elab.async false
set_option maxRecDepth 100000
set_option genSizeOf false
set_option genInjectivity false
local macro_rules | `(∅) => `(by lia)
local macro_rules | `(⇑$x) => `(by simpa using $x)
set_option compiler.extract_closed false
noncomputable section
local macro_rules|`(⋯)=>`(by decide)
local macro_rules|`(tactic|symm)=>`(tactic|constructor)
local macro_rules|`(tactic|exact $e)=>`(tactic|refine $e)
local macro_rules|`(tactic|show $e)=>`(tactic|refine $e)
local macro_rules|`(def $i $s:optDeclSig:=by $v)=>do let d:=Lean.mkNode ``Lean.Parser.Command.declSig #[s.raw[0],s.raw[1][0]];`(theorem $i $(⟨d⟩):declSig:=by $v)|`(def $i $s:optDeclSig $v:declVal)=>`(noncomputable def $i $s:optDeclSig $v:declVal)|`(abbrev $i $s:optDeclSig $v:declVal)=>`(noncomputable abbrev $i $s:optDeclSig $v:declVal)
local macro_rules|`(tactic|let $p:term$[:$t]?:=$e)=>do let r:=p.raw.rewriteBottomUp (λs=>let k:=s.getKind;if s.isIdent then Lean.mkNode `Lean.Parser.Tactic.rcasesPat.one #[s] else if k==`Lean.Parser.Term.hole then Lean.mkNode `Lean.Parser.Tactic.rcasesPat.ignore s.getArgs else if k==`Lean.Parser.Term.anonymousCtor then Lean.mkNode `Lean.Parser.Tactic.rcasesPat.tuple (s.getArgs.modify 1 λa=>.node .none `null (a.getArgs.map λq=>if q.isAtom then q else Lean.mkNode `Lean.Parser.Tactic.rcasesPatLo #[Lean.mkNode `Lean.Parser.Tactic.rcasesPatMed #[Lean.mkNullNode #[q]],Lean.mkNullNode])) else s);`(tactic|obtain $(⟨Lean.mkNode `Lean.Parser.Tactic.rcasesPatMed #[Lean.mkNullNode #[r]]⟩):rcasesPatMed$[:$t]?:=$e)
local macro_rules|`(tactic|simp![$x,*]$[$l]?)=>`(tactic|simp only[$x,*]$[$l]?)
local macro_rules|`(#[$x,$y])=>`(⟨$x,$y⟩)|`(#[$x,$y,$z,*])=>`(⟨$x,$y,$z,*⟩)
namespace TS
open PySem PyProof.Rows
def LE (less:gE ->gE ->Bool)(x y:gE):Prop:=less y x=false
structure Ord (less:Keyed ->Keyed ->Bool):Prop where
 Tu: ∀x y,less x y=true ->less y x=false
 trans: ∀x y z,LE less x y ->LE less y z ->LE less x z
def Ord.refl (O:Ord less)(x:gE):LE less x x:=by
 unfold LE;cases h:less x x with
 | false=>rfl
 | true=>show(O.Tu x x h).symm.trans h▸rfl
theorem Ord.le (O:Ord less)(h:less x y=true):LE less x y:=O.Tu x y h
def Ord.RQ (O:Ord less)(h:LE less x y)(h':less y z=true):less x z=true:=by
 cases e:less x z with
 | true=>rfl
 | false=>have:=O.trans z x y e h;unfold LE at this;rw[h'] at this;cases this
def cN (xs:gX gE)(i:Nat):gE:=(xs[i]?).getD (.none, .none)
def Gu (h:i<xs.size):xs[i]? =some (cN xs i):=by unfold cN;rw[getElem?_pos xs i h];rfl
def jo (h:xs[i]? =ys[j]?):cN xs i=cN ys j:=by unfold cN;rw[h]
def uQ (h:i<xs.size):cN xs i∈xs.toList:=by unfold cN;rw[getElem?_pos xs i h];simp
def Sg (less:gE ->gE ->Bool)(xs:gX gE)(lo hi:Nat):Prop:= ∀i j,lo<=i ->i<=j ->j<hi ->LE less (cN xs i) (cN xs j)
def Ng (less:gE ->gE ->Bool)(xs:gX gE)(lo hi:Nat):Prop:= ∀i j,lo<=i ->i<=j ->j<hi ->LE less (cN xs j) (cN xs i)
structure SB (kd:SortKind)(a₀:Array Keyed)(st:SortSt):Prop where
 perm:(arrOf st).Perm a₀
 kd:kindOf st=kd
 fl:failedOf st=none
theorem SB.size {kd:SortKind}{st:R8}(h:SB kd a₀ st):(arrOf st).size=a₀.size:=h.perm.size_eq
theorem SB.mem {kd:SortKind}{st:R8}(h:SB kd a₀ st)(hi:i<a₀.size):cN (arrOf st) i∈a₀.toList:=(Array.perm_iff_toList_perm.mp h.perm).mem_iff.mp (uQ (by rw[h.size];show hi))
theorem SB.arr {kd:SortKind}{st:R8}(h:SB kd a₀ st)(hp:xs.Perm (arrOf st)):SB kd a₀ (setArr st xs):=#[hp.trans h.perm,h.kd,h.fl]
def iI (prog:R1)(w:World)(A:Around)(E:d4 ->d5 ->Prop)(s:d5)(kd:SortKind)(a₀:gX gE)(less:gE ->gE ->Bool):Prop:=∀ (x y:gE) (st:R8) (Q:eB Bool ->R8 ->Prop),x∈a₀.toList ->y∈a₀.toList ->kindOf st=kd ->Q (some (less x y)) st ->wpS (model prog w) A E s (lt' x y) Q st
def wp_elem {st:R8}(hi:i<xs.size)(h:Q (cN xs i) st):wpS (model prog w) A E s (elem' xs i) Q st:=by rw[elem'_eq,Gu hi];show aJ h
def wp_lt (L:iI prog w A E s kd a₀ less){st:R8}(B:SB kd a₀ st)(hi:i<a₀.size)(hj:j<a₀.size)(h:Q (some (less (cN (arrOf st) i) (cN (arrOf st) j))) st):wpS (model prog w) A E s (ltAt' i j) Q st:=by rw[ltAt'_eq];exact aC (wpS_get ?_);show aC (wp_elem (by rw[B.size];show hi) (aC (wp_elem (by rw[B.size];show hj) (L _ _ _ _ (B.mem hi) (B.mem hj) B.kd h))))
def wp_rev {st:R8}(h:Q () (setArr st (mirror (arrOf st) i j ((j - i) / 2)))):wpS (model prog w) A E s (reverseSlice' i j) Q st:=by rw[reverseSlice'_eq];show wpS_modify h
def eG (hj:j<=xs.size)(k:Nat):cN (mirror xs i j ((j - i) / 2)) k=if i<=k /\ k<j then cN xs (i+j - 1 - k) else cN xs k:=by have e:=getElem?_mirror_all (i:=i) hj k;by_cases c:i<=k /\ k<j;rw[ap c] at e ⊢;show jo e;rw[ai c] at e ⊢;show jo e
def lW (hs:GU<xs.size)(hd:d<=GU)(k:Nat):cN (bubble xs GU d) k=if k=GU - d then cN xs GU else if GU - d<k /\ k<=GU then cN xs (k - 1) else cN xs k:=by have e:=getElem?_bubble hs d hd k;by_cases c:k=GU - d;rw[ap c] at e ⊢;show jo e;rw[ai c] at e ⊢;by_cases c':GU - d<k /\ k<=GU;rw[ap c'] at e ⊢;show jo e;rw[ai c'] at e ⊢;show jo e
def Gw (lo a dF:Nat):StateT R8 Sem AscSt:=forIn [a:dF] ((none,a):AscSt) λ_ c=>do
 let x <- ltAt' (lo+c.snd) (lo+c.snd - 1)
 match x with
 | some b=>if b=true then pure (ForInStep.done (none,c.snd)) else pure (ForInStep.yield (none,c.snd+1))
 | _=>pure (ForInStep.done (some none,c.snd))
def vk (lo n dF:Nat):StateT R8 Sem (eB Nat):=do
 reverseSlice' lo (lo+n)
 let c <- Gw lo n dF
 match c.fst with
 | some r=>pure r
 | none=>pure (some c.snd)
def AL (lo n dF:Nat):StateT R8 Sem DescSt:=forIn [n:dF] ((none,n,0):DescSt) λ_ c=>do
 let x <- ltAt' (lo+c.snd.fst) (lo+c.snd.fst - 1)
 match x with
 | some b=>
  if b=true then
   if c.snd.snd >0 then do
    reverseSlice' (lo+c.snd.fst - (c.snd.snd+1)) (lo+c.snd.fst)
    pure (ForInStep.yield (none,c.snd.fst+1,0))
   else pure (ForInStep.yield (none,c.snd.fst+1,0))
  else do
   let y <- ltAt' (lo+c.snd.fst - 1) (lo+c.snd.fst)
   match y with
   | some d=>
    if d=true then pure (ForInStep.done (none,c.snd.fst,c.snd.snd))
    else pure (ForInStep.yield (none,c.snd.fst+1,c.snd.snd+1))
   | _=>pure (ForInStep.done (some none,c.snd.fst,c.snd.snd))
 | _=>pure (ForInStep.done (some none,c.snd.fst,c.snd.snd))
def vK (lo n dF:Nat):StateT R8 Sem (eB Nat):=do
 liftM (rule "list.sort.descending-run")
 let c <- AL lo (n+1) dF
 match c.fst with
 | some r=>pure r
 | none=>
  if c.snd.snd >0 then do
   reverseSlice' (lo+c.snd.fst - (c.snd.snd+1)) (lo+c.snd.fst)
   vk lo c.snd.fst dF
  else vk lo c.snd.fst dF
theorem HP (lo dF:Nat):countRun' lo dF=(do
  let c <- Gw lo 1 dF
  match c.fst with
  | some r=>pure r
  | none =>
   if(c.snd==dF)=true then pure (some c.snd)
   else if c.snd >1 then do
    let x <- ltAt' lo (lo+c.snd - 1)
    match x with
    | some b=>if b=true then pure (some c.snd) else do
     reverseSlice' lo (lo+c.snd)
     vK lo c.snd dF
    | _=>pure none
   else vK lo c.snd dF):=by
 rw[countRun'_eq]
 dsimp only
 unfold vK vk AL Gw
 congr 1
 funext c
 let⟨r,n⟩:=c
 cases r with
 | some r=>rfl
 | none =>
  dsimp only;split;rfl;split;congr 1;funext x;cases x with
  | none=>rfl
  | some b=>
   dsimp only;split;rfl;congr 1;funext _r;congr 1;funext _u;congr 1;congr 1;funext s2;let⟨r2,n2,q2⟩:=s2;cases r2 with
   | some r2=>rfl
   | none=>dsimp only;split;congr 1;funext _v;congr 1;funext _w;congr 1;funext s3;let⟨r3,n3⟩:=s3;cases r3<;>rfl;congr 1;funext _w;congr 1;funext s3;let⟨r3,n3⟩:=s3;cases r3<;>rfl
  congr 1;funext _u;congr 1;congr 1;funext s2;let⟨r2,n2,q2⟩:=s2;cases r2 with
  | some r2=>rfl
  | none=>dsimp only;split;congr 1;funext _v;congr 1;funext _w;congr 1;funext s3;let⟨r3,n3⟩:=s3;cases r3<;>rfl;congr 1;funext _w;congr 1;funext s3;let⟨r3,n3⟩:=s3;cases r3<;>rfl
def oR (lo hi:Nat)(xs ys:gX gE):Prop:= ∀k,k<lo \/ hi<=k ->cN ys k=cN xs k
theorem oR.refl {lo hi:Nat}:oR lo hi xs xs:=λ_ _=>rfl
theorem oR.trans {lo hi:Nat}(a:oR lo hi xs ys)(b:oR lo hi ys zs):oR lo hi xs zs:=λk h=>(b k h).trans (a k h)
def wp_ascL (O:Ord less)(L:iI prog w A E s kd a₀ less){st:R8}{lo a dF:Nat}(hn:lo+dF<=a₀.size)(ha:1<=a)(han:a<=dF)(B:SB kd a₀ st)(hs:Sg less (arrOf st) lo (lo+a))(h: ∀n,a<=n ->n<=dF ->Sg less (arrOf st) lo (lo+n) ->(n=dF \/ less (cN (arrOf st) (lo+n)) (cN (arrOf st) (lo+n - 1))=true) ->Q (none,n) st): wpS (model prog w) A E s (Gw lo a dF) Q st:=by
 unfold Gw;exact cE (I:=λx c bA=>bA=st /\ c=(none,x) /\ Sg less (arrOf st) lo (lo+x)) ?step ?fin #[rfl,rfl,hs];case fin=>
  rintro c bA ⟨rfl,rfl,gk⟩
  rw[show max a dF=dF by lia] at gk ⊢
  show h dF han (ao _) gk (.inl rfl)
 case step=>
  rintro x c bA Yv hxn ⟨rfl,rfl,gk⟩
  dsimp only
  exact aC (wp_lt L B ∅ ∅ ?_)
  cases e:less (cN (arrOf bA) (lo+x)) (cN (arrOf bA) (lo+x - 1)) with
  | true=>simp![bR];show aJ (h x Yv ∅ gk (.inr e))
  | false=>simp![ay,be];exact aJ #[rfl,rfl,λi j hi gU hj=> ?_];by_cases c:j<lo+x;show gk i j hi gU c;have:j=lo+x:= ∅;subst this;by_cases c2:i=lo+x;subst c2;show O.refl _;show O.trans _ _ _ (gk i (lo+x - 1) hi ∅ ∅) e
def wp_tailL (O:Ord less)(L:iI prog w A E s kd a₀ less){st:R8}{lo n dF:Nat}(hn:lo+dF<=a₀.size)(h1:1<=n)(G7:n<=dF)(B:SB kd a₀ st)(hs:Ng less (arrOf st) lo (lo+n))(h: ∀m bA,SB kd a₀ bA ->1<=m ->m<=dF ->Sg less (arrOf bA) lo (lo+m) ->pendingOf bA=pendingOf st ->oR lo (lo+dF) (arrOf st) (arrOf bA) ->Q (some m) bA): wpS (model prog w) A E s (vk lo n dF) Q st:=by
 unfold vk;have hsz:lo+n<=(arrOf st).size:=by rw[B.size];lia
 exact aC (wp_rev ?_);have B':SB kd a₀ (setArr st (mirror (arrOf st) lo (lo+n) ((lo+n - lo) / 2))):=B.arr (mirror_perm _ _ _ _);exact aC (wp_ascL O L hn h1 G7 B' ?_ λm X2 G8 hsm _=>aJ (h m _ B' ∅ G8 hsm rfl ?_));intro i j hi gU hj;change LE less (cN (mirror (arrOf st) lo (lo+n) ((lo+n - lo) / 2)) i) (cN (mirror (arrOf st) lo (lo+n) ((lo+n - lo) / 2)) j);rw[eG hsz,eG hsz,ap ∅,ap ∅];show hs _ _ ∅ ∅ ∅;intro k hk;change cN (mirror (arrOf st) lo (lo+n) ((lo+n - lo) / 2)) k=_;rw[eG hsz,ai ∅]
def nL (O:Ord less){lo i m:Nat}(hj:m<=xs.size)(hli:lo<=i)(hs:Ng less xs lo m)(he: ∀k,i<=k ->k<m ->LE less (cN xs k) (cN xs (m - 1))):Ng less (mirror xs i m ((m - i) / 2)) lo m:=by intro a b ha wu hb;rw[eG hj,eG hj];by_cases c1:i<=a;rw[ap ∅,ap ∅];exact O.trans _ _ _ (he (i+m - 1 - b) ∅ ∅) (hs _ _ ∅ ∅ ∅);rw[ai (show ¬(i<=a /\ a<m) by lia)];by_cases c2:i<=b;rw[ap ∅];show hs _ _ ∅ ∅ ∅;rw[ai ∅];show hs _ _ ∅ ∅ ∅
theorem lK {lo hi i j:Nat}(hj:j<=xs.size)(h1:lo<=i)(h2:j<=hi):oR lo hi xs (mirror xs i j ((j - i) / 2)):=λk hk=>by rw[eG hj,ai ∅]
def wp_descL (O:Ord less)(L:iI prog w A E s kd a₀ less){st:R8}{lo n dF:Nat}(hn:lo+dF<=a₀.size)(h1:1<=n)(G7:n<=dF)(B:SB kd a₀ st)(hs:Ng less (arrOf st) lo (lo+n))(h: ∀m sf bA,SB kd a₀ bA ->n<=m ->m<=dF ->Ng less (arrOf bA) lo (lo+m) ->sf+1<=m ->(∀i,lo+m - (sf+1) <=i ->i<lo+m ->LE less (cN (arrOf bA) i) (cN (arrOf bA) (lo+m - 1))) ->pendingOf bA=pendingOf st ->oR lo (lo+dF) (arrOf st) (arrOf bA) ->Q (none,m,sf) bA): wpS (model prog w) A E s (AL lo n dF) Q st:=by
 unfold AL;exact cE (I:=λx c bA=> ∃sf,CO (c=(none,x,sf)) (SB kd a₀ bA) (Ng less (arrOf bA) lo (lo+x)) (sf+1<=x) (∀i,lo+x - (sf+1) <=i ->i<lo+x ->LE less (cN (arrOf bA) i) (cN (arrOf bA) (lo+x - 1))) (pendingOf bA=pendingOf st) (oR lo (lo+dF) (arrOf st) (arrOf bA))) ?step ?fin #[0,rfl,B,hs, ∅,λi h1 h2=>by rw[show i=lo+n - 1 by lia];show O.refl _,rfl,oR.refl];case fin=>
  rintro c bA ⟨sf,rfl,B',gk,hq,he,hp,ho⟩
  rw[show max n dF=dF by lia] at gk hq he ⊢
  show h dF sf bA B' G7 (ao _) gk hq he hp ho
 case step =>
  rintro x c bA Yv hxn ⟨sf,rfl,B',gk,hq,he,hp,ho⟩
  dsimp only
  have hsz:lo+x<=(arrOf bA).size:=by rw[B'.size];lia
  exact aC (wp_lt L B' ∅ ∅ ?_)
  cases e:less (cN (arrOf bA) (lo+x)) (cN (arrOf bA) (lo+x - 1)) with
  | true =>simp![bR];by_cases FP:sf >0;rw [ap FP];exact aC (wp_rev (aJ #[0,rfl,B'.arr (mirror_perm _ _ _ _),?_, ∅,λi h1 h2=>by rw[show i=lo+(x+1) - 1 by lia];show O.refl _,hp,ho.trans (lK hsz ∅ ∅)]));have hm:=nL O (i:=lo+x - (sf+1)) hsz ∅ gk he;intro i j hi gU hj;by_cases c:j<lo+x;show hm i j hi gU c;have:j=lo+x:= ∅;subst this;by_cases c2:i=lo+x;subst c2;show O.refl _;exact O.trans _ _ _ ?_ (hm i (lo+x - 1) hi ∅ ∅);change LE less (cN (mirror (arrOf bA) (lo+x - (sf+1)) (lo+x) ((lo+x - (lo+x - (sf+1))) / 2)) (lo+x)) (cN (mirror (arrOf bA) (lo+x - (sf+1)) (lo+x) ((lo+x - (lo+x - (sf+1))) / 2)) (lo+x - 1));rw[eG hsz,eG hsz,ai ∅,ap ∅];show O.trans _ _ _ (O.le e) (gk _ _ ∅ ∅ ∅);rw[ai FP];exact aJ #[0,rfl,B',λi j hi gU hj=> ?_, ∅,λi h1 h2=>by rw[show i=lo+(x+1) - 1 by lia];show O.refl _,hp,ho];by_cases c:j<lo+x;show gk i j hi gU c;have:j=lo+x:= ∅;subst this;by_cases c2:i=lo+x;subst c2;show O.refl _;show O.trans _ _ _ (O.le e) (gk i (lo+x - 1) hi ∅ ∅)
  | false =>
   simp![ay,be];exact aC (wp_lt L B' ∅ ∅ ?_);cases e2:less (cN (arrOf bA) (lo+x - 1)) (cN (arrOf bA) (lo+x)) with
   | true=>simp![bR];show aJ (h x sf bA B' Yv ∅ gk hq he hp ho)
   | false=>simp![ay,be];exact aJ #[sf+1,rfl,B',λi j hi gU hj=> ?_, ∅,λi h1 h2=> ?_,hp,ho];by_cases c:j<lo+x;show gk i j hi gU c;have:j=lo+x:= ∅;subst this;by_cases c2:i=lo+x;subst c2;show O.refl _;show O.trans _ _ _ e2 (gk i (lo+x - 1) hi ∅ ∅);rw[show lo+(x+1) - 1=lo+x by lia];by_cases c:i=lo+x;subst c;show O.refl _;show O.trans _ _ _ (he i ∅ ∅) e
def wp_partL (O:Ord less)(L:iI prog w A E s kd a₀ less){st:R8}{lo n dF:Nat}(hn:lo+dF<=a₀.size)(G7:n+1<=dF)(B:SB kd a₀ st)(hs:Ng less (arrOf st) lo (lo+(n+1)))(h: ∀m bA,SB kd a₀ bA ->1<=m ->m<=dF ->Sg less (arrOf bA) lo (lo+m) ->pendingOf bA=pendingOf st ->oR lo (lo+dF) (arrOf st) (arrOf bA) ->Q (some m) bA): wpS (model prog w) A E s (vK lo n dF) Q st:=by
 unfold vK;exact aC (wpS_lift (wpAny_rule #[rfl,?_]));exact aC (wp_descL O L hn ∅ G7 B hs λm sf bA B' X2 G8 gk hq he hp ho=> ?_);dsimp only;have hsz:lo+m<=(arrOf bA).size:=by rw[B'.size];lia
 by_cases FP:sf >0;rw[ap FP];exact aC (wp_rev (wp_tailL O L hn ∅ G8 (B'.arr (mirror_perm _ _ _ _)) (nL O hsz ∅ gk he) λm2 lf b1 b2 b3 b4 b5 b6=>h m2 lf b1 b2 b3 b4 (b5.trans hp) (ho.trans ((lK hsz ∅ ∅).trans b6))));rw[ai FP];show wp_tailL O L hn ∅ G8 B' gk λm2 lf b1 b2 b3 b4 b5 b6=>h m2 lf b1 b2 b3 b4 (b5.trans hp) (ho.trans b6)
def wp_run (O:Ord less)(L:iI prog w A E s kd a₀ less){st:R8}{lo dF:Nat}(hn:lo+dF<=a₀.size)(h1:1<=dF)(B:SB kd a₀ st)(h: ∀m bA,SB kd a₀ bA ->1<=m ->m<=dF ->Sg less (arrOf bA) lo (lo+m) ->pendingOf bA=pendingOf st ->oR lo (lo+dF) (arrOf st) (arrOf bA) ->Q (some m) bA): wpS (model prog w) A E s (countRun' lo dF) Q st:=by
 rw[HP];exact aC (wp_ascL O L hn (ao 1) h1 B (λi j hi gU hj=>by rw[show i=j by lia];show O.refl _) λn Sy Od Si hor=> ?_);dsimp only;by_cases G7:n=dF;rw[ap ⇑G7];show aJ (h n st B Sy Od Si rfl oR.refl);rw [ai ⇑G7];have fE:=hor.resolve_left G7;have hsz:lo+n<=(arrOf st).size:=by rw[B.size];lia
 by_cases qg:n >1;rw [ap qg];exact aC (wp_lt L B ∅ ∅ ?_);cases e:less (cN (arrOf st) lo) (cN (arrOf st) (lo+n - 1)) with
 | true=>simp![bR];show aJ (h n st B Sy Od Si rfl oR.refl)
 | false=>simp![ay,be];have hng:Ng less (arrOf st) lo (lo+n):=λi j hi gU hj=>O.trans _ _ _ (O.trans _ _ _ (Si j (lo+n - 1) ∅ ∅ ∅) e) (Si lo i (ao _) hi ∅);exact aC (wp_rev (wp_partL O L hn ∅ (B.arr (mirror_perm _ _ _ _)) ?_ λm2 lf b1 b2 b3 b4 b5 b6=>h m2 lf b1 b2 b3 b4 b5 ((lK hsz ∅ ∅).trans b6)));have hm:=nL O (i:=lo) hsz (ao _) hng λk _ _=>Si k (lo+n - 1) ∅ ∅ ∅;intro i j hi gU hj;by_cases c:j<lo+n;show hm i j hi gU c;have:j=lo+n:= ∅;subst this;by_cases c2:i=lo+n;subst c2;show O.refl _;exact O.trans _ _ _ ?_ (hm i (lo+n - 1) hi ∅ ∅);change LE less (cN (mirror (arrOf st) lo (lo+n) ((lo+n - lo) / 2)) (lo+n)) (cN (mirror (arrOf st) lo (lo+n) ((lo+n - lo) / 2)) (lo+n - 1));rw[eG hsz,eG hsz,ai ∅,ap ∅];show O.trans _ _ _ (O.le fE) (hng _ _ ∅ ∅ ∅)
 rw[ai qg];have XZ:n=1:= ∅;subst XZ;exact wp_partL O L hn ∅ B (λi j hi gU hj=> ?_) h;by_cases c:i=j;subst c;show O.refl _;rw[show i=lo+1 - 1 by lia,show j=lo+1 by lia];show O.le fE
def wp_bin (O:Ord less)(L:iI prog w A E s kd a₀ less){st:R8}{lo n ok:Nat}(hn:lo+n<=a₀.size)(cT:ok<=n)(B:SB kd a₀ st)(hs:Sg less (arrOf st) lo (lo+ok))(h: ∀bA,SB kd a₀ bA ->Sg less (arrOf bA) lo (lo+n) ->pendingOf bA=pendingOf st ->oR lo (lo+n) (arrOf st) (arrOf bA) ->Q true bA):wpS (model prog w) A E s (binarySort' lo n ok) Q st:=by
 rw[binarySort'_eq];exact aC (wpS_mono (cE (I:=λk c bA=>c=(none,()) /\ SB kd a₀ bA /\ Sg less (arrOf bA) lo (lo+min k n) /\ pendingOf bA=pendingOf st /\ oR lo (lo+n) (arrOf st) (arrOf bA)) (Q:=λc bA=>c=(none,()) /\ SB kd a₀ bA /\ Sg less (arrOf bA) lo (lo+n) /\ pendingOf bA=pendingOf st /\ oR lo (lo+n) (arrOf st) (arrOf bA)) ?step ?fin ?init) ?post);case post=>
  rintro c bA ⟨rfl,B',gk,hp,ho⟩
  show aJ (h bA B' gk hp ho)
 case init=>
  exact#[rfl,B,λi j hi gU hj=> ?_,rfl,oR.refl]
  by_cases c:ok=0
  rw[show i=j by lia];show O.refl _
  show hs i j hi gU ∅
 case fin=>
  rintro c bA ⟨hc,B',gk,hp,ho⟩
  exact#[hc,B',?_,hp,ho]
  rwa [show min (max (max ok 1) n) n=n by lia] at gk
 case step=>
  rintro k c bA hak hkn ⟨rfl,B',gk,hp,ho⟩
  rw[show min k n=k by lia] at gk
  have hk:lo+k<a₀.size:= ∅
  exact aC (wpS_mono (cE (I:=λx c f8=>f8=bA /\ cJ λl r=>nh (c=(none,l,r)) (l<=r) (r<=k) (r - l<=k - x) (∀i,i<l ->LE less (cN (arrOf bA) (lo+i)) (cN (arrOf bA) (lo+k))) (∀i,r<=i ->i<k ->LE less (cN (arrOf bA) (lo+k)) (cN (arrOf bA) (lo+i)))) (Q:=λc f8=>f8=bA /\ cJ λl r=>fh (c=(none,l,r)) (l<=k) (∀i,i<l ->LE less (cN (arrOf bA) (lo+i)) (cN (arrOf bA) (lo+k))) (∀i,l<=i ->i<k ->LE less (cN (arrOf bA) (lo+k)) (cN (arrOf bA) (lo+i)))) ?istep ?ifin ?iinit) ?ipost)
  case iinit=>show#[rfl,0,k,rfl, ∅, ∅, ∅,λi hi=> ∅,λi h1 h2=> ∅]
  case ifin=>
   rintro c f8 ⟨rfl,l,r,rfl,hlr,XJ,hm,Og,PH⟩
   have:l=r:= ∅
   subst this
   show#[rfl,l,l,rfl,XJ,Og,PH]
  case istep=>
   rintro x c f8 _ hxk ⟨rfl,l,r,rfl,hlr,XJ,hm,Og,PH⟩
   dsimp only
   by_cases CK:l≥r
   rw[ap CK]
   have:l=r:= ∅
   subst this
   show aJ #[rfl,l,l,rfl,XJ,Og,PH]
   rw[ai CK]
   exact aC (wp_lt L B' hk ∅ ?_)
   cases e:less (cN (arrOf f8) (lo+k)) (cN (arrOf f8) (lo+(l+r) / 2)) with
   | true=>simp![bR];exact aJ #[rfl,l,(l+r) / 2,rfl, ∅, ∅, ∅,Og,λi h1 h2=> ?_];show O.trans _ _ _ (O.le e) (gk _ _ ∅ ∅ ∅)
   | false=>simp![ay,be];exact aJ #[rfl,(l+r) / 2+1,r,rfl, ∅, ∅, ∅,λi h1=> ?_,PH];show O.trans _ _ _ (gk (lo+i) (lo+(l+r) / 2) ∅ ∅ ∅) e
  case ipost=>
   rintro c f8 ⟨rfl,l,r,rfl,JA,Og,PH⟩
   change wpS _ _ _ _ (do moveDown' (lo+k) (lo+l);pure (ForInStep.yield (none,()))) _ _
   rw[moveDown'_eq]
   have X':lo+k< (arrOf f8).size:=by rw[B'.size];show hk
   exact aC (wpS_modify (aJ #[rfl,B'.arr (bubble_perm _ _ _),?_,hp,ho.trans λj hj=> ?_]))
   .rw[show min (k+1) n=k+1 by lia];intro i j hi gU hj;change LE less (cN (bubble (arrOf f8) (lo+k) (lo+k - (lo+l))) i) (cN (bubble (arrOf f8) (lo+k) (lo+k - (lo+l))) j);rw[lW X' ∅,lW X' ∅,show lo+k - (lo+k - (lo+l))=lo+l by lia];have X5: ∀i,lo<=i ->i<lo+l ->LE less (cN (arrOf f8) i) (cN (arrOf f8) (lo+k)):=λi h1 h2=>by have:=Og (i - lo) ∅;rwa [show lo+(i - lo)=i by lia] at this
    have Yk: ∀i,lo+l<=i ->i<lo+k ->LE less (cN (arrOf f8) (lo+k)) (cN (arrOf f8) i):=λi h1 h2=>by have:=PH (i - lo) ∅ ∅;rwa [show lo+(i - lo)=i by lia] at this
    repeat' split
    all_goals first
    | (exfalso;lia)
    | show O.refl _
    | show X5 _ ∅ ∅
    | show Yk _ ∅ ∅
    | show gk _ _ ∅ ∅ ∅
   change cN (bubble (arrOf f8) (lo+k) (lo+k - (lo+l))) j=_
   rw[lW X' ∅,ai ∅,ai ∅]
def JN:Bool ->gE ->gX gE ->Nat ->Nat ->Nat ->StateT R8 Sem (eB Nat):=sortPriv% PySem.Builtin.gallop
def Xd:gX gE ->gX gE ->StateT R8 Sem (gX gE):=sortPriv% PySem.Builtin.mergeLo
def Xe:gX gE ->gX gE ->StateT R8 Sem (gX gE):=sortPriv% PySem.Builtin.mergeHi
abbrev cZ (st:R8)(g:Nat):R8:=SortSt.mk' (kindOf st) (arrOf st) (pendingOf st) g (failedOf st)
def ZU (left:Bool)(key:gE)(arr:gX gE)(base i:Nat):StateT R8 Sem (eB Bool):=do
 let x <- elem' arr (base+i)
 if left then lt' x key else return(<- lt' key x).map (!·)
def wp_gal0 {st:R8}(Bf:Nat ->Bool)(hh:fS<n)(hb: ∀i,i<n -> ∀Q':eB Bool ->R8 ->Prop,Q' (some (Bf i)) st ->wpS (model prog w) A E s (ZU left key arr base i) Q' st)(mono: ∀i j,i<=j ->j<n ->Bf j=true ->Bf i=true)(h: ∀k,k<=n ->(∀i,i<k ->Bf i=true) ->(∀i,k<=i ->i<n ->Bf i=false) ->Q (some k) st): wpS (model prog w) A E s (JN left key arr base n fS) Q st:=by
 have Ad: ∀i j,i<=j ->j<n ->Bf i=false ->Bf j=false:=λi j gU hj e=>by
  cases e2:Bf j with
  | false=>rfl
  | true=>rw[mono i j gU hj e2] at e;cases e
 exact aC (hb fS hh _ ?_);dsimp only;cases hB:Bf fS with
 | true =>
  simp![bR];exact aC (wpS_mono (cE (I:=λi c bA=>bA=st /\ cJ λla f=>ja (c=(none,la,f)) (i+1<=f) (la<f) (fS+la<n) (Bf (fS+la)=true)) (Q:=λc bA=>bA=st /\ cJ λla f=>ja (c=(none,la,f)) (la<f) (fS+la<n) (Bf (fS+la)=true) (n - fS<=f \/ (fS+f<n /\ Bf (fS+f)=false))) ?_ ?_ #[rfl,0,1,rfl,by omega,by omega,by omega,hB]) ?_);rintro i c bA _ hi ⟨rfl,la,f,rfl,h1,h2,h3,h4⟩;dsimp only;by_cases c1:f≥n - fS;rw[ap c1];show aJ #[rfl,la,f,rfl,h2,h3,h4, .inl c1];rw[ai c1];exact aC (hb _ (by omega) _ ?_);cases e:Bf (fS+f) with
  | true=>simp![Bool.not_true,ay,be];show aJ #[rfl,f,2*f+1,rfl,by omega,by omega,by omega,e]
  | false=>simp![Bool.not_false,bR];show aJ #[rfl,la,f,rfl,h2,h3,h4, .inr #[by omega,e]]
  rintro c bA ⟨rfl,la,f,rfl,h1,h2,h3,h4⟩;show#[rfl,la,f,rfl,h2,h3,h4, .inl (by omega)];rintro c bA ⟨rfl,la,f,rfl,h2,h3,h4,h5⟩;dsimp only;exact aC (wpS_mono (cE (I:=λi c f8=>f8=bA /\ cJ λlo hi=>nh (c=(none,lo,hi)) (lo<=hi) (hi<=n) (hi - lo<=n - i) (∀i,i<lo ->Bf i=true) (∀i,hi<=i ->i<n ->Bf i=false)) (Q:=λc f8=>f8=bA /\ cJ λlo hi=>fh (c=(none,lo,hi)) (hi<=n) (∀i,i<hi ->Bf i=true) (∀i,hi<=i ->i<n ->Bf i=false)) ?_ ?_ #[rfl,_,_,rfl,by omega,by omega,by omega,λi hi=>mono i (fS+la) (by omega) h3 h4,λi hi gM=> ?_]) ?_);rintro i c f8 _ hi ⟨rfl,lo,oh,rfl,g1,g2,g3,g4,g5⟩;dsimp only;by_cases c1:lo≥oh;rw[ap c1];have:lo=oh:=by omega
  subst this;show aJ #[rfl,_,_,rfl,g2,g4,g5];rw[ai c1];exact aC (hb _ (by omega) _ ?_);cases e:Bf (lo+(oh - lo) / 2) with
  | true=>simp![bR];show aJ #[rfl,_,_,rfl,by omega,g2,by omega,λj hj=>mono j _ (by omega) (by omega) e,g5]
  | false=>simp![ay,be];show aJ #[rfl,_,_,rfl,by omega,by omega,by omega,g4,λj hj Yc=>Ad _ j hj Yc e]
  rintro c f8 ⟨rfl,lo,oh,rfl,g1,g2,g3,g4,g5⟩;have:lo=oh:=by omega
  subst this;show#[rfl,_,_,rfl,g2,g4,g5];obtain h5 | ⟨h5,h6⟩:=h5;omega;show Ad (fS+f) i (by omega) gM h6;rintro c f8 ⟨rfl,lo,oh,rfl,g2,g4,g5⟩;show aJ (h _ g2 g4 g5)
 | false =>
  simp![ay,be];exact aC (wpS_mono (cE (I:=λi c bA=>bA=st /\ cJ λla f=>ja (c=(none,la,f)) (i+1<=f) (la<f) (la<=fS) (Bf (fS - la)=false)) (Q:=λc bA=>bA=st /\ cJ λla f=>ja (c=(none,la,f)) (la<f) (la<=fS) (Bf (fS - la)=false) (fS+1<=f \/ (f<=fS /\ Bf (fS - f)=true))) ?_ ?_ #[rfl,0,1,rfl,by omega,by omega,by omega,hB]) ?_);rintro i c bA _ hi ⟨rfl,la,f,rfl,h1,h2,h3,h4⟩;dsimp only;by_cases c1:f≥fS+1;rw[ap c1];show aJ #[rfl,la,f,rfl,h2,h3,h4, .inl c1];rw[ai c1];exact aC (hb _ (by omega) _ ?_);cases e:Bf (fS - f) with
  | false=>simp![ay,be];show aJ #[rfl,f,2*f+1,rfl,by omega,by omega,by omega,e]
  | true=>simp![bR];show aJ #[rfl,la,f,rfl,h2,h3,h4, .inr #[by omega,e]]
  rintro c bA ⟨rfl,la,f,rfl,h1,h2,h3,h4⟩;show#[rfl,la,f,rfl,h2,h3,h4, .inl (by omega)];rintro c bA ⟨rfl,la,f,rfl,h2,h3,h4,h5⟩;dsimp only;exact aC (wpS_mono (cE (I:=λi c f8=>f8=bA /\ cJ λlo hi=>nh (c=(none,lo,hi)) (lo<=hi) (hi<=n) (hi - lo<=n - i) (∀i,i<lo ->Bf i=true) (∀i,hi<=i ->i<n ->Bf i=false)) (Q:=λc f8=>f8=bA /\ cJ λlo hi=>fh (c=(none,lo,hi)) (hi<=n) (∀i,i<hi ->Bf i=true) (∀i,hi<=i ->i<n ->Bf i=false)) ?_ ?_ #[rfl,_,_,rfl,by omega,by omega,by omega,λi hi=> ?_,λi hi gM=>Ad (fS - la) i (by omega) gM h4]) ?_);rintro i c f8 _ hi ⟨rfl,lo,oh,rfl,g1,g2,g3,g4,g5⟩;dsimp only;by_cases c1:lo≥oh;rw[ap c1];have:lo=oh:=by omega
  subst this;show aJ #[rfl,_,_,rfl,g2,g4,g5];rw[ai c1];exact aC (hb _ (by omega) _ ?_);cases e:Bf (lo+(oh - lo) / 2) with
  | true=>simp![bR];show aJ #[rfl,_,_,rfl,by omega,g2,by omega,λj hj=>mono j _ (by omega) (by omega) e,g5]
  | false=>simp![ay,be];show aJ #[rfl,_,_,rfl,by omega,by omega,by omega,g4,λj hj Yc=>Ad _ j hj Yc e]
  rintro c f8 ⟨rfl,lo,oh,rfl,g1,g2,g3,g4,g5⟩;have:lo=oh:=by omega
  subst this;show#[rfl,_,_,rfl,g2,g4,g5];obtain h5 | ⟨h5,h6⟩:=h5;omega;show mono i (fS - f) (by omega) (by omega) h6;rintro c f8 ⟨rfl,lo,oh,rfl,g2,g4,g5⟩;show aJ (h _ g2 g4 g5)
def wp_galL (O:Ord less)(L:iI prog w A E s kd a₀ less){st:R8}(B:kindOf st=kd)(hk:key∈a₀.toList)(hm: ∀i,i<n ->base+i<arr.size /\ cN arr (base+i)∈a₀.toList)(hh:fS<n)(hs:Sg less arr base (base+n))(h: ∀k,k<=n ->(∀i,i<k ->less (cN arr (base+i)) key=true) ->(∀i,k<=i ->i<n ->LE less key (cN arr (base+i))) ->Q (some k) st): wpS (model prog w) A E s (JN true key arr base n fS) Q st:=by exact wp_gal0 (λi=>less (cN arr (base+i)) key) hh (λi hi Q' hq=> ?_) (λi j gU hj e=>O.RQ (hs (base+i) (base+j) (by omega) (by omega) (by omega)) e) h;unfold ZU;exact aC (wp_elem (hm i hi).1 ?_);simp![bR];show L _ _ _ _ (hm i hi).2 hk B hq
def wp_galR (O:Ord less)(L:iI prog w A E s kd a₀ less){st:R8}(B:kindOf st=kd)(hk:key∈a₀.toList)(hm: ∀i,i<n ->base+i<arr.size /\ cN arr (base+i)∈a₀.toList)(hh:fS<n)(hs:Sg less arr base (base+n))(h: ∀k,k<=n ->(∀i,i<k ->LE less (cN arr (base+i)) key) ->(∀i,k<=i ->i<n ->less key (cN arr (base+i))=true) ->Q (some k) st): wpS (model prog w) A E s (JN false key arr base n fS) Q st:=by exact wp_gal0 (λi=> !less key (cN arr (base+i))) hh (λi hi Q' hq=> ?_) (λi j gU hj e=> ?_) (λk h1 h2 h3=>h k h1 (λi hi=> ?_) λi h4 h5=> ?_);unfold ZU;exact aC (wp_elem (hm i hi).1 ?_);simp![ay,be];show aC (L _ _ _ _ hk (hm i hi).2 B (aJ hq));simp![Bool.not_eq_true'] at e ⊢;show O.trans _ _ _ (hs (base+i) (base+j) (by omega) (by omega) (by omega)) e;have:=h2 i hi;simp![Bool.not_eq_true'] at this;show this;have:=h3 i h4 h5;simpa using this
structure MI (less:Keyed ->Keyed ->Bool)(al bl o:List Keyed)(i j:Nat):Prop where
 pm:o.Perm (al.take i++bl.take j)
 so:o.Pairwise (LE less)
 ba: ∀x∈o, ∀y∈al.drop i,LE less x y
 bb: ∀x∈o, ∀y∈bl.drop j,LE less x y
section
variable {less:gE ->gE ->Bool}{al bl o:d3 gE}{i j:Nat}
theorem MI.swap (h:MI less al bl o i j):MI less bl al o j i:=#[h.pm.trans dL,h.so,h.bb,h.ba]
def take_add {α:Type}(l:d3 α)(i k:Nat):l.take (i+k)=l.take i++(l.drop i).take k:=by rw[List.take_add]
def MI.qF (h:MI less al bl o i j)(sa:al.Pairwise (LE less))(k:Nat)(hk: ∀x∈(al.drop i).take k, ∀y∈bl.drop j,LE less x y):MI less al bl (o++(al.drop i).take k) (i+k) j:=by
 have sd:(al.drop i).Pairwise (LE less):=sa.sublist (List.drop_sublist _ _);have e:(al.drop i).take k++al.drop (i+k)=al.drop i:=by rw[<- List.drop_drop,bn]
 have Nc:=sd;rw[<- e,cC] at Nc;exact#[?_,?_,?_,?_];rw[take_add,bW];exact(h.pm.append_right _).trans ?_;rw[bW];show List.Perm.append_left _ dL;rw[cC];show#[h.so,Nc.1,λx hx y hy=>h.ba x hx y (List.mem_of_mem_take hy)];intro x hx y hy;obtain hx | hx:=aA.mp hx;show h.ba x hx y (by rw[<- e];show aX _ hy);show Nc.2.2 x hx y hy;intro x hx y hy;obtain hx | hx:=aA.mp hx;show h.bb x hx y hy;show hk x hx y hy
def MI.fin (h:MI less al bl o i j)(sa:al.Pairwise (LE less))(sb:bl.Pairwise (LE less))(hk: ∀x∈bl.drop j, ∀y∈al.drop i,LE less x y):(o++bl.drop j++al.drop i).Perm (al++bl) /\ (o++bl.drop j++al.drop i).Pairwise (LE less):=by
 symm;rw[bW];exact(h.pm.append_right _).trans ?_;have e1:(al++bl).Perm ((al.take i++al.drop i)++(bl.take j++bl.drop j)):=by rw[bn,bn]
 exact List.Perm.trans ?_ e1.symm;rw[bW,bW];exact List.Perm.append_left _ ?_;rw[<- bW];show dL;rw[cC,cC];exact#[#[h.so,sb.sublist (List.drop_sublist _ _),h.bb],sa.sublist (List.drop_sublist _ _),λx hx y hy=> ?_];obtain hx | hx:=aA.mp hx;show h.ba x hx y hy;show hk x hx y hy
structure MH (less:Keyed ->Keyed ->Bool)(al bl t:List Keyed)(i j:Nat):Prop where
 pm:t.Perm (al.drop i++bl.drop j)
 so:t.Pairwise (LE less)
 ba: ∀x∈t, ∀y∈al.take i,LE less y x
 bb: ∀x∈t, ∀y∈bl.take j,LE less y x
theorem MH.swap (h:MH less al bl t i j):MH less bl al t j i:=#[h.pm.trans dL,h.so,h.bb,h.ba]
def MH.qF (h:MH less al bl t i j)(sa:al.Pairwise (LE less))(SJ:k<=i)(hk: ∀x∈(al.take i).drop k, ∀y∈bl.take j,LE less y x):MH less al bl ((al.take i).drop k++t) k j:=by
 have sd:(al.take i).Pairwise (LE less):=sa.sublist (List.take_sublist _ _);have e0:(al.take i).take k=al.take k:=by rw[List.take_take,Nat.min_eq_left SJ]
 have e:al.take k++(al.take i).drop k=al.take i:=by rw[<- e0,bn]
 have Nc:=sd;rw[<- e,cC] at Nc;have e3:al.drop k=(al.take i).drop k++al.drop i:=by
  have:=bn i al;have e4:al.drop k=(al.take i++al.drop i).drop k:=by rw[this]
  rw[e4];by_cases c:i<=al.length;rw[List.drop_append_of_le_length (by rw[a7];lia)];have z:al.drop i= []:=List.drop_eq_nil_of_le ∅;rw[z,List.append_nil,List.append_nil]
 exact#[?_,?_,?_,?_];rw[e3,bW];show List.Perm.append_left _ h.pm;rw[cC];show#[Nc.2.1,h.so,λx hx y hy=>h.ba y hy x (by rw[<- e];show aX _ hx)];intro x hx y hy;obtain hx | hx:=aA.mp hx;show Nc.2.2 y hy x hx;show h.ba x hx y (by rw[<- e];show List.mem_append_left _ hy);intro x hx y hy;obtain hx | hx:=aA.mp hx;show hk x hx y hy;show h.bb x hx y hy
def MH.fin (h:MH less al bl t i j)(sa:al.Pairwise (LE less))(sb:bl.Pairwise (LE less))(hk: ∀x∈al.take i, ∀y∈bl.take j,LE less x y):(al.take i++bl.take j++t).Perm (al++bl) /\ (al.take i++bl.take j++t).Pairwise (LE less):=by
 symm;exact(List.Perm.append_left _ h.pm).trans ?_;have e1:(al++bl).Perm ((al.take i++al.drop i)++(bl.take j++bl.drop j)):=by rw[bn,bn]
 exact List.Perm.trans ?_ e1.symm;rw[bW,bW];exact List.Perm.append_left _ ?_;rw[<- bW, <- bW];show List.Perm.append_right _ dL;rw[cC,cC];exact#[#[sa.sublist (List.take_sublist _ _),sb.sublist (List.take_sublist _ _),hk],h.so,λx hx y hy=> ?_];obtain hx | hx:=aA.mp hx;show h.ba y hy x hx;show h.bb y hy x hx
end
abbrev R5:=eB (gX gE)×gX gE×Nat×Nat×Nat
abbrev R6:=eB (gX gE)×gX gE×Nat×Nat×Nat×Nat
abbrev R7:=eB (gX gE)×gX gE×Nat×Nat×Nat×Nat×Nat
section
variable (a b:gX gE)
abbrev Hd (o:gX gE)(i j:Nat):gX gE:=o++a.extract i a.size++b.extract j b.size
abbrev Pp (o:gX gE)(i j:Nat):gX gE:=o++b.extract j b.size++a.extract i a.size
def NC (mg:Nat)(o:gX gE)(i j ac bc:Nat):StateT R8 Sem (ForInStep R6):=do
 let x <- elem' b j
 let y <- elem' a i
 let g <- lt' x y
 match g with
 | some g=>
  if g=true then do
   let x <- elem' b j
   if(j+1==b.size)=true then pure (.done (some (Hd a b (o.push x) i (j+1)),o.push x,i,j+1,0,bc+1))
   else if bc+1≥mg then pure (.done (none,o.push x,i,j+1,0,bc+1))
   else pure (.yield (none,o.push x,i,j+1,0,bc+1))
  else do
   let x <- elem' a i
   if(i+1+1==a.size)=true then pure (.done (some (Pp a b (o.push x) (i+1) j),o.push x,i+1,j,ac+1,0))
   else if ac+1≥mg then pure (.done (none,o.push x,i+1,j,ac+1,0))
   else pure (.yield (none,o.push x,i+1,j,ac+1,0))
 | _=>pure (.done (some (Hd a b o i j),o,i,j,ac,bc))
def UG (mg ac bc:Nat)(o:gX gE)(i j:Nat):StateT R8 Sem (ForInStep R7):=do
 let x <- elem' a i
 if(i+1+1==a.size)=true then pure (.done (some (Pp a b (o.push x) (i+1) j),o.push x,i+1,j,mg,ac,bc))
 else if(decide (ac<7) && decide (bc<7))=true then pure (.done (none,o.push x,i+1,j,mg,ac,bc))
 else pure (.yield (none,o.push x,i+1,j,mg,ac,bc))
def UI (mg ac bc:Nat)(o:gX gE)(i j:Nat):StateT R8 Sem (ForInStep R7):=do
 let x <- elem' b j
 if(j+1==b.size)=true then pure (.done (some (Hd a b (o.push x) i (j+1)),o.push x,i,j+1,mg,ac,bc))
 else do
  let y <- elem' a i
  let r <- JN true y b (j+1) (b.size - (j+1)) 0
  match r with
  | some k=>
   if k >0 then
    if(j+1+k==b.size)=true then pure (.done (some (Hd a b (o.push x++b.extract (j+1) (j+1+k)) i (j+1+k)),o.push x++b.extract (j+1) (j+1+k),i,j+1+k,mg,ac,k))
    else UG a b mg ac k (o.push x++b.extract (j+1) (j+1+k)) i (j+1+k)
   else UG a b mg ac k (o.push x) i (j+1)
  | _=>pure (.done (some (Hd a b (o.push x) i (j+1)),o.push x,i,j+1,mg,ac,bc))
def UK (mg ac bc:Nat)(o:gX gE)(i j:Nat):StateT R8 Sem (ForInStep R7):=do
 modify λs=>cZ s mg
 let x <- elem' b j
 let r <- JN false x a i (a.size - i) 0
 match r with
 | some k=>
  if k >0 then
   if(i+k+1==a.size)=true then pure (.done (some (Pp a b (o++a.extract i (i+k)) (i+k) j),o++a.extract i (i+k),i+k,j,mg,k,bc))
   else if(i+k==a.size)=true then pure (.done (some (Hd a b (o++a.extract i (i+k)) (i+k) j),o++a.extract i (i+k),i+k,j,mg,k,bc))
   else UI a b mg k bc (o++a.extract i (i+k)) (i+k) j
  else UI a b mg k bc o i j
 | _=>pure (.done (some (Hd a b o i j),o,i,j,mg,ac,bc))
def Rv (c:R5):StateT R8 Sem (ForInStep R5):=do
 let d <- forIn [:a.size+b.size] ((none,c.2.1,c.2.2.1,c.2.2.2.1,0,0):R6) λ_ d=>NC a b c.2.2.2.2 d.2.1 d.2.2.1 d.2.2.2.1 d.2.2.2.2.1 d.2.2.2.2.2
 match d.1 with
 | some r=>pure (.done (some r,d.2.1,d.2.2.1,d.2.2.2.1,c.2.2.2.2))
 | none=>do
  liftM (rule "list.sort.gallop")
  let e <- forIn [:a.size+b.size] ((none,d.2.1,d.2.2.1,d.2.2.2.1,c.2.2.2.2+1,d.2.2.2.2.1,d.2.2.2.2.2):R7) λ_ e=>if e.2.2.2.2.1 >1 then UK a b (e.2.2.2.2.1 - 1) e.2.2.2.2.2.1 e.2.2.2.2.2.2 e.2.1 e.2.2.1 e.2.2.2.1 else UK a b e.2.2.2.2.1 e.2.2.2.2.2.1 e.2.2.2.2.2.2 e.2.1 e.2.2.1 e.2.2.2.1
  match e.1 with
  | some r=>pure (.done (some r,e.2.1,e.2.2.1,e.2.2.2.1,e.2.2.2.2.1))
  | none=>do
   modify λs=>cZ s (e.2.2.2.2.1+1)
   pure (.yield (none,e.2.1,e.2.2.1,e.2.2.2.1,e.2.2.2.2.1+1))
end
def qE {f g:α ->StateT σ Sem β}(h: ∀x,f x=g x):(m >>=f)=(m >>=g):=by rw[funext h]
def Cs {f g:α ->StateT σ Sem β}(e:m=m')(h: ∀x,f x=g x):(m >>=f)=(m' >>=g):=by rw[e,funext h]
def BN [Decidable c]{x y x' y':α}(h:x=x')(h':y=y'):(if c then x else y)=(if c then x' else y'):=by rw[h,h']
def B6 {r:Std.Legacy.Range}{f g:Nat ->β ->StateT σ Sem (ForInStep β)}(h: ∀i c,f i c=g i c):forIn r c f=forIn r c g:=by rw[funext λi=>funext (h i)]
section
variable (a b:gX gE)
theorem BA:Xd a b=(do
  liftM (rule "list.sort.merge-lo")
  let x <- elem' b 0
  if(1==b.size)=true then pure (Hd a b #[x] 0 1)
  else if(0+1==a.size)=true then pure (Pp a b #[x] 0 1)
  else do
   let g <- get
   let c <- forIn [:a.size+b.size] ((none, #[x],0,1,gallopOf g):R5) λ_ c=>Rv a b c
   match c.1 with
   | some r=>pure r
   | none=>unsupported "internal:list.sort.merge-bound"):=by
 exact qE λ_=>qE λx=> ?_
 exact BN rfl (BN rfl (qE λg=>Cs (B6 λ_ c=> ?_) λc=> ?_))
 exact Cs (B6 λ_ d=>rfl) λd=> ?_
 let⟨r,d⟩:=d
 cases r with
 | some r=>rfl
 | none =>
  exact qE λ_=>Cs (B6 λ_ e=> ?_) λe=> ?_;exact BN ?_ ?_<;>
  .refine qE λ_=>qE λx=>qE λr=> ?_;cases r with
   | none=>rfl
   | some k=>
    exact BN (BN rfl (BN rfl ?_)) ?_<;>
    .exact qE λy=>BN rfl (qE λz=>qE λr=> ?_);cases r<;>rfl
  let⟨r,e⟩:=e;cases r<;>rfl
 let⟨r,c⟩:=c
 cases r<;>rfl
abbrev He (o:gX gE)(i j:Nat):gX gE:=a.extract 0 i++b.extract 0 j++o.reverse
abbrev PV (o:gX gE)(i j:Nat):gX gE:=b.extract 0 j++a.extract 0 i++o.reverse
def MJ (mg:Nat)(i j:Nat)(o:gX gE)(ac bc:Nat):StateT R8 Sem (ForInStep (eB (gX gE)×Nat×Nat×gX gE×Nat×Nat)):=do
 let x <- elem' b (j - 1)
 let y <- elem' a (i - 1)
 let g <- lt' x y
 match g with
 | some g=>
  if g=true then do
   let x <- elem' a (i - 1)
   if(i - 1==0)=true then pure (.done (some (He a b (o.push x) (i - 1) j),i - 1,j,o.push x,ac+1,0))
   else if ac+1≥mg then pure (.done (none,i - 1,j,o.push x,ac+1,0))
   else pure (.yield (none,i - 1,j,o.push x,ac+1,0))
  else do
   let x <- elem' b (j - 1)
   if(j - 1==1)=true then pure (.done (some (PV a b (o.push x) i (j - 1)),i,j - 1,o.push x,0,bc+1))
   else if bc+1≥mg then pure (.done (none,i,j - 1,o.push x,0,bc+1))
   else pure (.yield (none,i,j - 1,o.push x,0,bc+1))
 | _=>pure (.done (some (He a b o i j),i,j,o,ac,bc))
abbrev S7:=eB (gX gE)×Nat×Nat×gX gE×Nat×Nat×Nat
def UH (mg ac bc:Nat)(i j:Nat)(o:gX gE):StateT R8 Sem (ForInStep S7):=do
 let x <- elem' a (i - 1)
 if(i - 1==0)=true then pure (.done (some (He a b (o.push x) (i - 1) j),i - 1,j,o.push x,mg,ac,bc))
 else if(decide (ac<7) && decide (bc<7))=true then pure (.done (none,i - 1,j,o.push x,mg,ac,bc))
 else pure (.yield (none,i - 1,j,o.push x,mg,ac,bc))
def UJ (mg ac bc:Nat)(i j:Nat)(o:gX gE):StateT R8 Sem (ForInStep S7):=do
 let x <- elem' b (j - 1)
 if(j - 1==1)=true then pure (.done (some (PV a b (o.push x) i (j - 1)),i,j - 1,o.push x,mg,ac,bc))
 else do
  let y <- elem' a (i - 1)
  let r <- JN true y b 0 (j - 1) (j - 1 - 1)
  match r with
  | some k=>
   if j - 1 - k >0 then
    if(k==1)=true then pure (.done (some (PV a b (o.push x++(b.extract k (j - 1)).reverse) i k),i,k,o.push x++(b.extract k (j - 1)).reverse,mg,ac,j - 1 - k))
    else if(k==0)=true then pure (.done (some (He a b (o.push x++(b.extract k (j - 1)).reverse) i k),i,k,o.push x++(b.extract k (j - 1)).reverse,mg,ac,j - 1 - k))
    else UH a b mg ac (j - 1 - k) i k (o.push x++(b.extract k (j - 1)).reverse)
   else UH a b mg ac (j - 1 - k) i (j - 1) (o.push x)
  | _=>pure (.done (some (He a b (o.push x) i (j - 1)),i,j - 1,o.push x,mg,ac,bc))
def UL (mg ac bc:Nat)(i j:Nat)(o:gX gE):StateT R8 Sem (ForInStep S7):=do
 modify λs=>cZ s mg
 let x <- elem' b (j - 1)
 let r <- JN false x a 0 i (i - 1)
 match r with
 | some k=>
  if i - k >0 then
   if(k==0)=true then pure (.done (some (He a b (o++(a.extract k i).reverse) k j),k,j,o++(a.extract k i).reverse,mg,i - k,bc))
   else UJ a b mg (i - k) bc k j (o++(a.extract k i).reverse)
  else UJ a b mg (i - k) bc i j o
 | _=>pure (.done (some (He a b o i j),i,j,o,mg,ac,bc))
abbrev S5:=eB (gX gE)×Nat×Nat×gX gE×Nat
def Iv (c:S5):StateT R8 Sem (ForInStep S5):=do
 let d <- forIn [:a.size+b.size] ((none,c.2.1,c.2.2.1,c.2.2.2.1,0,0):eB (gX gE)×Nat×Nat×gX gE×Nat×Nat) λ_ d=>MJ a b c.2.2.2.2 d.2.1 d.2.2.1 d.2.2.2.1 d.2.2.2.2.1 d.2.2.2.2.2
 match d.1 with
 | some r=>pure (.done (some r,d.2.1,d.2.2.1,d.2.2.2.1,c.2.2.2.2))
 | none=>do
  liftM (rule "list.sort.gallop")
  let e <- forIn [:a.size+b.size] ((none,d.2.1,d.2.2.1,d.2.2.2.1,c.2.2.2.2+1,d.2.2.2.2.1,d.2.2.2.2.2):S7) λ_ e=>if e.2.2.2.2.1 >1 then UL a b (e.2.2.2.2.1 - 1) e.2.2.2.2.2.1 e.2.2.2.2.2.2 e.2.1 e.2.2.1 e.2.2.2.1 else UL a b e.2.2.2.2.1 e.2.2.2.2.2.1 e.2.2.2.2.2.2 e.2.1 e.2.2.1 e.2.2.2.1
  match e.1 with
  | some r=>pure (.done (some r,e.2.1,e.2.2.1,e.2.2.2.1,e.2.2.2.2.1))
  | none=>do
   modify λs=>cZ s (e.2.2.2.2.1+1)
   pure (.yield (none,e.2.1,e.2.2.1,e.2.2.2.1,e.2.2.2.2.1+1))
theorem BB:Xe a b=(do
  liftM (rule "list.sort.merge-hi")
  let x <- elem' a (a.size - 1)
  if(a.size - 1==0)=true then pure (He a b #[x] (a.size - 1) b.size)
  else if(b.size==1)=true then pure (PV a b #[x] (a.size - 1) b.size)
  else do
   let g <- get
   let c <- forIn [:a.size+b.size] ((none,a.size - 1,b.size, #[x],gallopOf g):S5) λ_ c=>Iv a b c
   match c.1 with
   | some r=>pure r
   | none=>unsupported "internal:list.sort.merge-bound"):=by
 exact qE λ_=>qE λx=> ?_
 exact BN rfl (BN rfl (qE λg=>Cs (B6 λ_ c=> ?_) λc=> ?_))
 exact Cs (B6 λ_ d=>rfl) λd=> ?_
 let⟨r,d⟩:=d
 cases r with
 | some r=>rfl
 | none =>
  exact qE λ_=>Cs (B6 λ_ e=> ?_) λe=> ?_;exact BN ?_ ?_<;>
  .refine qE λ_=>qE λx=>qE λr=> ?_;cases r with
   | none=>rfl
   | some k=>
    exact BN (BN rfl ?_) ?_<;>
    .exact qE λy=>BN rfl (qE λz=>qE λr=> ?_);cases r<;>rfl
  let⟨r,e⟩:=e;cases r<;>rfl
 let⟨r,c⟩:=c
 cases r<;>rfl
end
def gK (h:i<xs.size):xs.toList[i]? =some (cN xs i):=by rw[<- Gu h];simp
def Cd (h:i<xs.size):xs.toList.drop i=cN xs i::xs.toList.drop (i+1):=by have h':i<xs.toList.length:= ⇑h;have e:=gK h;rw[am h'] at e;rw[dI h',bm e]
def vj (h:i<xs.size):(xs.toList.drop i).take 1= [cN xs i]:=by rw[Cd h];rfl
def iP (h:y∈xs.toList.drop i): ∃k,dh (i<=k) (k<xs.size) (y=cN xs k):=by let⟨n,hn⟩:=bZ.mp h;rw[List.getElem?_drop] at hn;have hl:=(ak.mp hn).1;have qe:i+n<xs.size:= ⇑hl;rw[gK qe] at hn;show#[i+n, ∅,qe,(bm hn).symm]
def tR (h:y∈(xs.toList.drop i).take k): ∃n,fh (i<=n) (n<i+k) (n<xs.size) (y=cN xs n):=by let⟨n,hn⟩:=bZ.mp h;rw[List.getElem?_take] at hn;split at hn;rename_i hk;rw[List.getElem?_drop] at hn;have hl:=(ak.mp hn).1;have qe:i+n<xs.size:= ⇑hl;rw[gK qe] at hn;show#[i+n, ∅, ∅,qe,(bm hn).symm];cases hn
def li (O:Ord less)(h:xs.toList.Pairwise (LE less))(gU:i<=j)(hj:j<xs.size):LE less (cN xs i) (cN xs j):=by
 by_cases c:i=j;subst c;show O.refl _;rw[bv] at h;have oh:i<xs.toList.length:=by simp;lia
 have iH:j<xs.toList.length:= ⇑hj;have:=h i j oh iH ∅;have e1:=gK (xs:=xs) (i:=i) ∅;have e2:=gK hj;rw[am oh] at e1;rw[am iH] at e2;rwa [bm e1,bm e2] at this
theorem tV (O:Ord less)(h:xs.toList.Pairwise (LE less))(hn:i+n<=xs.size):Sg less xs i (i+n):=λx y _ hxy hy=>li O h hxy ∅
def wF (xs:gX gE)(i k:Nat):(xs.extract i (i+k)).toList=(xs.toList.drop i).take k:=by rw[Array.toList_extract,List.extract_eq_take_drop];congr 1;lia
def pk (xs:gX gE)(i:Nat):(xs.extract i xs.size).toList=xs.toList.drop i:=by rw[Array.toList_extract,List.extract_eq_take_drop];show List.take_of_length_le (by simp)
section
variable {prog:R1}{w:World}{A:Around}{E:d4 ->d5 ->Prop}{s:d5}{kd:SortKind}{a₀:gX gE}{less:gE ->gE ->Bool}
structure tF (less:Keyed ->Keyed ->Bool)(a₀ a b:Array Keyed):Prop where
 sa:a.toList.Pairwise (LE less)
 sb:b.toList.Pairwise (LE less)
 ma: ∀i,i<a.size ->cN a i∈a₀.toList
 mb: ∀i,i<b.size ->cN b i∈a₀.toList
 na:1<=a.size
 nb:1<=b.size
 h0:less (cN b 0) (cN a 0)=true
 hl: ∀j,j<b.size ->less (cN b j) (cN a (a.size - 1))=true
def qL (less:gE ->gE ->Bool)(a b r:gX gE):Prop:=r.toList.Perm (a.toList++b.toList) /\ r.toList.Pairwise (LE less)
structure JL (less:Keyed ->Keyed ->Bool)(a b o:Array Keyed)(i j:Nat):Prop where
 mi:MI less a.toList b.toList o.toList i j
 hi:i+1<a.size
 hj:j<b.size
variable {a b:gX gE}
def t7 (T:tF less a₀ a b)(h:MI less a.toList b.toList o.toList i j)(hj:b.size<=j \/ a.size<=i):qL less a b (Hd a b o i j):=by
 unfold qL Hd;rw[cr,cr,pk,pk];have:=h.swap.fin T.sb T.sa λx hx y hy=>by obtain hj | hj:=hj;let⟨k,h1,h2,_⟩:=iP hy;lia;let⟨k,h1,h2,_⟩:=iP hx;lia
 show#[this.1.trans dL,this.2]
def tZ (O:Ord less)(T:tF less a₀ a b)(h:MI less a.toList b.toList o.toList i j)(hi:i+1=a.size):qL less a b (Pp a b o i j):=by unfold qL Pp;rw[cr,cr,pk,pk];exact h.fin T.sa T.sb λx hx y hy=> ?_;let⟨k,h1,h2,rfl⟩:=iP hx;let⟨k',JJ,CM,rfl⟩:=iP hy;rw[show k'=a.size - 1 by lia];show O.le (T.hl k h2)
def xW (O:Ord less)(T:tF less a₀ a b){o:gX gE}(h:MI less a.toList b.toList o.toList i j)(hj:j<b.size)(hc:i<a.size ->LE less (cN b j) (cN a i)):MI less a.toList b.toList (o.push (cN b j)).toList i (j+1):=by have:=(h.swap.qF T.sb 1 λx hx y hy=>by rw[vj hj] at hx;rw[ah.mp hx];let⟨k,h1,h2,rfl⟩:=iP hy;show O.trans _ _ _ (hc ∅) (li O T.sa h1 h2)).swap;rw[vj hj] at this;rwa [Array.toList_push]
def Ej (O:Ord less)(T:tF less a₀ a b){o:gX gE}(h:MI less a.toList b.toList o.toList i j)(hi:i<a.size)(hc:j<b.size ->LE less (cN a i) (cN b j)):MI less a.toList b.toList (o.push (cN a i)).toList (i+1) j:=by
 have:=h.qF T.sa 1 λx hx y hy=>by rw[vj hi] at hx;rw[ah.mp hx];let⟨k,h1,h2,rfl⟩:=iP hy;show O.trans _ _ _ (hc ∅) (li O T.sb h1 h2)
 rw[vj hi] at this;rwa [Array.toList_push]
def O3 (less:gE ->gE ->Bool)(a b:gX gE)(st:R8)(N:Nat)(r:ForInStep R7)(bA:R8):Prop:=(∃g,bA=cZ st g) /\ ((cJ λx c=>r= .done (some x,c) /\ qL less a b x) \/ (jQ λo i j c=>dh (r= .done (none,o,i,j,c) \/ r= .yield (none,o,i,j,c)) (JL less a b o i j) (N<=i+j)))
def wp_p3L (O:Ord less)(T:tF less a₀ a b){st bA:R8}(hg: ∃g,bA=cZ st g)(J:JL less a b o i j)(hc:LE less (cN a i) (cN b j))(hN:N<=i+j):wpS (model prog w) A E s (UG a b mg ac bc o i j) (O3 less a b st N) bA:=by
 unfold UG;have hi:=J.hi;exact aC (wp_elem ∅ ?_);have m:=Ej O T J.mi ∅ λ_=>hc;by_cases c:i+1+1=a.size;rw[ap ⇑c];show aJ #[hg, .inl #[_,_,rfl,tZ O T m c]];rw[ai ⇑c];have J':JL less a b (o.push (cN a i)) (i+1) j:=#[m, ∅,J.hj]
 split;show aJ #[hg, .inr #[_,_,_,_, .inl rfl,J', ∅]];show aJ #[hg, .inr #[_,_,_,_, .inr rfl,J', ∅]]
def wp_p2L (O:Ord less)(L:iI prog w A E s kd a₀ less)(T:tF less a₀ a b){st bA:R8}(hk:kindOf bA=kd)(hg: ∃g,bA=cZ st g)(J:JL less a b o i j)(hc:less (cN b j) (cN a i)=true)(hN:N<=i+j):wpS (model prog w) A E s (UI a b mg ac bc o i j) (O3 less a b st N) bA:=by
 unfold UI;have hi:=J.hi;have hj:=J.hj;exact aC (wp_elem hj ?_);have m:=xW O T J.mi hj λ_=>O.le hc;by_cases c:j+1=b.size;rw[ap ⇑c];show aJ #[hg, .inl #[_,_,rfl,t7 T m (.inl ∅)]];rw [ai ⇑c];exact aC (wp_elem ∅ ?_);exact aC (wp_galL O L hk (T.ma i ∅) (λk hk=>#[∅,T.mb _ ∅]) ∅ (tV O T.sb ∅) λk h1 h2 h3=> ?_);dsimp only;by_cases ck:k >0;rw[ap ck];have m2:MI less a.toList b.toList (o.push (cN b j)++b.extract (j+1) (j+1+k)).toList i (j+1+k):=by rw[cr,wF];exact(m.swap.qF T.sb k λx hx y hy=> ?_).swap;let⟨n,n1,n2,n3,rfl⟩:=tR hx;let⟨k',k1,k2,rfl⟩:=iP hy;have:=h2 (n - (j+1)) ∅;rw[show j+1+(n - (j+1))=n by lia] at this;show O.trans _ _ _ (O.le this) (li O T.sa k1 k2)
 by_cases c2:j+1+k=b.size;rw[ap ⇑c2];show aJ #[hg, .inl #[_,_,rfl,t7 T m2 (.inl ∅)]];rw[ai ⇑c2];show wp_p3L O T hg #[m2,hi, ∅] (h3 k (ao _) ∅) ∅;rw[ai ck];have:k=0:= ∅;subst this;show wp_p3L O T hg #[m,hi, ∅] (h3 0 (ao _) ∅) ∅
def wp_p1L (O:Ord less)(L:iI prog w A E s kd a₀ less)(T:tF less a₀ a b){st bA:R8}(hk:kindOf st=kd)(hg: ∃g,bA=cZ st g)(J:JL less a b o i j)(hN:N<=i+j):wpS (model prog w) A E s (UK a b mg ac bc o i j) (O3 less a b st N) bA:=by
 unfold UK;have hi:=J.hi;have hj:=J.hj;exact aC (wpS_modify ?_);have FZ: ∃g,cZ bA mg=cZ st g:=by let⟨g,rfl⟩:=hg;show#[mg,rfl]
 have u8:kindOf (cZ bA mg)=kd:=by let⟨g,rfl⟩:=hg;show hk
 exact aC (wp_elem hj ?_);exact aC (wp_galR O L u8 (T.mb j hj) (λk hk=>#[∅,T.ma _ ∅]) ∅ (tV O T.sa ∅) λk h1 h2 h3=> ?_);dsimp only;have U8:i+k<a.size:=by by_cases c:i+k<a.size;show c;have:=h2 (a.size - 1 - i) ∅;rw[show i+(a.size - 1 - i)=a.size - 1 by lia] at this;unfold LE at this;rw[T.hl j hj] at this;cases this
 have LP:=h3 k (ao _) ∅;by_cases ck:k >0;rw[ap ck];have m2:MI less a.toList b.toList (o++a.extract i (i+k)).toList (i+k) j:=by rw[cr,wF];exact J.mi.qF T.sa k λx hx y hy=> ?_;let⟨n,n1,n2,n3,rfl⟩:=tR hx;let⟨k',k1,k2,rfl⟩:=iP hy;have:=h2 (n - i) ∅;rw[show i+(n - i)=n by lia] at this;show O.trans _ _ _ this (li O T.sb k1 k2)
 by_cases c2:i+k+1=a.size;rw[ap ⇑c2];show aJ #[FZ, .inl #[_,_,rfl,tZ O T m2 c2]];rw[ai ⇑c2,ai (by simp;lia)];show wp_p2L O L T u8 FZ #[m2, ∅,hj] LP ∅;rw[ai ck];have:k=0:= ∅;subst this;show wp_p2L O L T u8 FZ J LP hN
def wp_one1 (O:Ord less)(L:iI prog w A E s kd a₀ less)(T:tF less a₀ a b)(hk:kindOf bA=kd)(J:JL less a b o i j)(h1: ∀x c,qL less a b x ->Q (.done (some x,c)) bA)(h2: ∀o i' j' c,JL less a b o i' j' ->i'+j'=i+j+1 ->Q (.done (none,o,i',j',c)) bA /\ Q (.yield (none,o,i',j',c)) bA): wpS (model prog w) A E s (NC a b mg o i j ac bc) Q bA:=by
 unfold NC;have hi:=J.hi;have hj:=J.hj;exact aC (wp_elem hj (aC (wp_elem ∅ (aC (L _ _ _ _ (T.mb j hj) (T.ma i ∅) hk ?_)))));dsimp only;cases e:less (cN b j) (cN a i) with
 | true=>simp![bR];exact aC (wp_elem hj ?_);have m:=xW O T J.mi hj λ_=>O.le e;by_cases c:j+1=b.size;rw[ap ⇑c];show aJ (h1 _ _ (t7 T m (.inl ∅)));rw[ai ⇑c];have:=h2 _ i (j+1) (0,bc+1) #[m,hi, ∅] ∅;split;show aJ this.1;show aJ this.2
 | false=>simp![ay,be];exact aC (wp_elem ∅ ?_);have m:=Ej O T J.mi ∅ λ_=>e;by_cases c:i+1+1=a.size;rw[ap ⇑c];show aJ (h1 _ _ (tZ O T m c));rw[ai ⇑c];have:=h2 _ (i+1) j (ac+1,0) #[m, ∅,hj] ∅;split;show aJ this.1;show aJ this.2
def wp_mLo (O:Ord less)(L:iI prog w A E s kd a₀ less)(T:tF less a₀ a b){st:R8}(hk:kindOf st=kd)(h: ∀r g,qL less a b r ->Q r (cZ st g)):wpS (model prog w) A E s (Xd a b) Q st:=by
 rw[BA];have na:=T.na;have nb:=T.nb;exact aC (wpS_lift (wpAny_rule #[rfl,?_]));exact aC (wp_elem ∅ ?_);have h': ∀r,qL less a b r ->Q r st:=λr hr=>h r (gallopOf st) hr;have m:MI less a.toList b.toList (#[cN b 0]:gX gE).toList 0 1:=by
  have m0:MI less a.toList b.toList (#[]:gX gE).toList 0 0:=#[by simp,by simp,by simp,by simp]
  show xW O T m0 ∅ λ_=>O.le T.h0
 by_cases c:1=b.size;rw[ap ⇑c];show aJ (h' _ (t7 T m (.inl ∅)));rw[ai ⇑c];by_cases c2:0+1=a.size;rw[ap ⇑c2];show aJ (h' _ (tZ O T m c2));rw[ai ⇑c2];exact aC (wpS_get ?_);exact aC (wpS_mono (cE (I:=λn c bA=>(∃g,bA=cZ st g) /\ jQ λo i j mg=>dh (c=(none,o,i,j,mg)) (JL less a b o i j) (n+1<=i+j)) (Q:=λc bA=>(∃g,bA=cZ st g) /\ cJ λx d=>c=(some x,d) /\ qL less a b x) ?_ ?_ #[#[gallopOf st,rfl],_,0,1,_,rfl,#[m, ∅, ∅], ∅]) ?_)
 .rintro n c bA _ hn ⟨hg,o,i,j,mg,rfl,J,hN⟩;unfold Rv;dsimp only;have u8:kindOf bA=kd:=by let⟨g,rfl⟩:=hg;show hk
  exact aC (wpS_mono (cE (I:=λx c lf=>lf=bA /\ jQ λo' i' j' d=>dh (c=(none,o',i',j',d)) (JL less a b o' i' j') (i'+j'=i+j+x)) (Q:=λc lf=>lf=bA /\ ((cJ λx d=>c=(some x,d) /\ qL less a b x) \/ jQ λo' i' j' d=>dh (c=(none,o',i',j',d)) (JL less a b o' i' j') (i+j+1<=i'+j'))) ?_ ?_ #[rfl,o,i,j,_,rfl,J,rfl]) ?_);rintro x c lf _ hx ⟨rfl,o',i',j',⟨ac,bc⟩,rfl,J',OB⟩;dsimp only;exact wp_one1 O L T u8 J' (λx c hr=>#[rfl, .inl #[x,c,rfl,hr]]) λo2 i2 j2 c J2 h2=>#[#[rfl, .inr #[o2,i2,j2,c,rfl,J2, ∅]],#[rfl,o2,i2,j2,c,rfl,J2, ∅]]
  rintro c lf ⟨rfl,o',i',j',d,rfl,J',OB⟩;show#[rfl, .inr #[o',i',j',d,rfl,J', ∅]]
  .rintro c lf ⟨rfl,⟨x,d,rfl,hr⟩ | ⟨o',i',j',⟨ac,bc⟩,rfl,J',OB⟩⟩;show aJ #[hg,x,_,rfl,hr]
   .dsimp only;exact aC (wpS_lift (wpAny_rule #[rfl,?_]));exact aC (wpS_mono (cE (I:=λx c n6=>(∃g,n6=cZ st g) /\ jQ λo' i' j' d=>dh (c=(none,o',i',j',d)) (JL less a b o' i' j') (i+j+1<=i'+j')) (Q:=λc n6=>(∃g,n6=cZ st g) /\ ((cJ λx d=>c=(some x,d) /\ qL less a b x) \/ jQ λo' i' j' d=>dh (c=(none,o',i',j',d)) (JL less a b o' i' j') (i+j+1<=i'+j'))) ?_ ?_ #[hg,o',i',j',_,rfl,J',OB]) ?_)
    .rintro x c n6 _ hx ⟨BV,o3,i3,j3,⟨Xc,ZY,ZV⟩,rfl,J3,CL⟩;dsimp only;split;all_goals
      exact wpS_mono (wp_p1L O L T hk BV J3 CL) ?_
      rintro r fV ⟨Ol,⟨x,c,rfl,hr⟩ | ⟨o,i,j,c,rfl | rfl,J4,h4⟩⟩
      show#[Ol, .inl #[x,c,rfl,hr]]
      show#[Ol, .inr #[o,i,j,c,rfl,J4,h4]]
      show#[Ol,o,i,j,c,rfl,J4,h4]
    rintro c n6 ⟨BV,o3,i3,j3,d,rfl,J3,CL⟩;show#[BV, .inr #[o3,i3,j3,d,rfl,J3,CL]];rintro c n6 ⟨BV,⟨x,d,rfl,hr⟩ | ⟨o3,i3,j3,⟨Xc,ZY,ZV⟩,rfl,J3,CL⟩⟩;show aJ #[BV,x,_,rfl,hr];dsimp only;exact aC (wpS_modify (aJ #[?_,o3,i3,j3,_,rfl,J3, ∅]));let⟨g,rfl⟩:=BV;show#[_,rfl]
 rintro c bA ⟨hg,o,i,j,mg,rfl,J,hN⟩;have:=J.hi;have:=J.hj;lia;rintro c bA ⟨⟨g,rfl⟩,x,d,rfl,hr⟩;show aJ (h x g hr)
end
def rO (h:y∈xs.toList.take i): ∃n,dh (n<i) (n<xs.size) (y=cN xs n):=by let⟨n,hn⟩:=bZ.mp h;rw[List.getElem?_take] at hn;split at hn;have hl:=(ak.mp hn).1;have qe:n<xs.size:= ⇑hl;rw[gK qe] at hn;show#[n, ∅,qe,(bm hn).symm];cases hn
def zw (h:y∈(xs.toList.take i).drop k): ∃n,fh (k<=n) (n<i) (n<xs.size) (y=cN xs n):=by rw[List.drop_take] at h;let⟨n,h1,h2,h3,e⟩:=tR h;show#[n,h1, ∅,h3,e]
def Uw (h0:1<=i)(h:i<=xs.size):(xs.toList.take i).drop (i - 1)= [cN xs (i - 1)]:=by rw[List.drop_take,show i - (i - 1)=1 by lia,vj ∅]
def lP (xs:gX gE)(k i:Nat):(xs.extract k i).toList=(xs.toList.take i).drop k:=by rw[Array.toList_extract,List.extract_eq_take_drop,List.drop_take]
def AH (xs:gX gE)(i:Nat):(xs.extract 0 i).toList=xs.toList.take i:=by rw[lP,List.drop_zero]
section
variable {prog:R1}{w:World}{A:Around}{E:d4 ->d5 ->Prop}{s:d5}{kd:SortKind}{a₀:gX gE}{less:gE ->gE ->Bool}
structure JH (less:Keyed ->Keyed ->Bool)(a b o:Array Keyed)(i j:Nat):Prop where
 mi:MH less a.toList b.toList o.toList.reverse i j
 hi:1<=i
 hj:2<=j
 ia:i<=a.size
 jb:j<=b.size
variable {a b:gX gE}
def me (T:tF less a₀ a b)(h:MH less a.toList b.toList o.toList.reverse i j)(hj:i=0 \/ j=0):qL less a b (He a b o i j):=by unfold qL He;rw[cr,cr,AH,AH,Array.toList_reverse];exact h.fin T.sa T.sb λx hx y hy=> ?_;obtain hj | hj:=hj;subst hj;simp at hx;subst hj;simp at hy
def oW (O:Ord less)(T:tF less a₀ a b)(h:MH less a.toList b.toList o.toList.reverse i j)(hj:j=1):qL less a b (PV a b o i j):=by
 unfold qL PV;rw[cr,cr,AH,AH,Array.toList_reverse];have:=h.swap.fin T.sb T.sa λx hx y hy=>by let⟨n,n1,n2,rfl⟩:=rO hx;let⟨k,k1,k2,rfl⟩:=rO hy;rw[show n=0 by lia];show O.trans _ _ _ (O.le T.h0) (li O T.sa (cB _) k2)
 show#[this.1.trans dL,this.2]
def uc (O:Ord less)(T:tF less a₀ a b){o:gX gE}(h:MH less a.toList b.toList o.toList.reverse i j)(h1:1<=i)(hi:i<=a.size)(hj:j<=b.size)(hc:1<=j ->LE less (cN b (j - 1)) (cN a (i - 1))):MH less a.toList b.toList (o.push (cN a (i - 1))).toList.reverse (i - 1) j:=by
 have:=h.qF T.sa (k:=i - 1) ∅ λx hx y hy=>by rw[Uw h1 hi] at hx;rw[ah.mp hx];let⟨k,k1,k2,rfl⟩:=rO hy;show O.trans _ _ _ (li O T.sb (show k<=j - 1 by lia) ∅) (hc ∅)
 rw[Uw h1 hi] at this;rw[Array.toList_push,List.reverse_append];show this
def zT (O:Ord less)(T:tF less a₀ a b){o:gX gE}(h:MH less a.toList b.toList o.toList.reverse i j)(h1:1<=j)(hi:i<=a.size)(hj:j<=b.size)(hc:1<=i ->LE less (cN a (i - 1)) (cN b (j - 1))):MH less a.toList b.toList (o.push (cN b (j - 1))).toList.reverse i (j - 1):=by have:=(h.swap.qF T.sb (k:=j - 1) ∅ λx hx y hy=>by rw[Uw h1 hj] at hx;rw[ah.mp hx];let⟨k,k1,k2,rfl⟩:=rO hy;show O.trans _ _ _ (li O T.sa (show k<=i - 1 by lia) ∅) (hc ∅)).swap;rw[Uw h1 hj] at this;rw[Array.toList_push,List.reverse_append];show this
def zQ (o x:gX gE):(o++x.reverse).toList.reverse=x.toList++o.toList.reverse:=by rw[cr,Array.toList_reverse,List.reverse_append,List.reverse_reverse]
def O2 (less:gE ->gE ->Bool)(a b:gX gE)(st:R8)(N:Nat)(r:ForInStep S7)(bA:R8):Prop:=(∃g,bA=cZ st g) /\ ((cJ λx c=>r= .done (some x,c) /\ qL less a b x) \/ (jQ λi j o c=>dh (r= .done (none,i,j,o,c) \/ r= .yield (none,i,j,o,c)) (JH less a b o i j) (i+j<=N)))
def wp_p3H (O:Ord less)(T:tF less a₀ a b){st bA:R8}(hg: ∃g,bA=cZ st g)(J:JH less a b o i j)(hc:LE less (cN b (j - 1)) (cN a (i - 1)))(hN:i+j<=N):wpS (model prog w) A E s (UH a b mg ac bc i j o) (O2 less a b st N) bA:=by
 unfold UH;have hi:=J.hi;have ia:=J.ia;exact aC (wp_elem ∅ ?_);have m:=uc O T J.mi J.hi J.ia J.jb λ_=>hc;by_cases c:i - 1=0;rw[ap ⇑c];show aJ #[hg, .inl #[_,_,rfl,me T m (.inl c)]];rw[ai ⇑c];have J':JH less a b (o.push (cN a (i - 1))) (i - 1) j:=#[m, ∅,J.hj, ∅,J.jb]
 split;show aJ #[hg, .inr #[_,_,_,_, .inl rfl,J', ∅]];show aJ #[hg, .inr #[_,_,_,_, .inr rfl,J', ∅]]
def wp_p2H (O:Ord less)(L:iI prog w A E s kd a₀ less)(T:tF less a₀ a b){st bA:R8}(hk:kindOf bA=kd)(hg: ∃g,bA=cZ st g)(J:JH less a b o i j)(hc:LE less (cN a (i - 1)) (cN b (j - 1)))(hN:i+j<=N):wpS (model prog w) A E s (UJ a b mg ac bc i j o) (O2 less a b st N) bA:=by
 unfold UJ;have hi:=J.hi;have hj:=J.hj;have ia:=J.ia;have jb:=J.jb;exact aC (wp_elem ∅ ?_);have m:=zT O T J.mi ∅ ia jb λ_=>hc;by_cases c:j - 1=1;rw[ap ⇑c];show aJ #[hg, .inl #[_,_,rfl,oW O T m c]];rw [ai ⇑c];exact aC (wp_elem ∅ ?_);have sg:=tV O T.sb (i:=0) (n:=j - 1) ∅;exact aC (wp_galL O L hk (T.ma (i - 1) ∅) (λk hk=>#[∅,T.mb _ ∅]) ∅ sg λk h1 h2 h3=> ?_);dsimp only;simp![Nat.zero_add] at h2 h3;by_cases ck:j - 1 - k >0;rw[ap ck];have m2:MH less a.toList b.toList (o.push (cN b (j - 1))++(b.extract k (j - 1)).reverse).toList.reverse i k:=by rw[zQ,lP];exact(m.swap.qF T.sb ∅ λx hx y hy=> ?_).swap;let⟨n,n1,n2,n3,rfl⟩:=zw hx;let⟨k',k1,k2,rfl⟩:=rO hy;show O.trans _ _ _ (li O T.sa (show k'<=i - 1 by lia) ∅) (h3 n n1 n2)
 by_cases c2:k=1;rw[ap ⇑c2];show aJ #[hg, .inl #[_,_,rfl,oW O T m2 c2]];rw[ai ⇑c2];by_cases c3:k=0;rw[ap ⇑c3];show aJ #[hg, .inl #[_,_,rfl,me T m2 (.inr c3)]];rw[ai ⇑c3];show wp_p3H O T hg #[m2,hi, ∅,ia, ∅] (O.le (h2 (k - 1) ∅)) ∅;rw[ai ck];show wp_p3H O T hg #[m,hi, ∅,ia, ∅] (O.le (h2 (j - 1 - 1) ∅)) ∅
def wp_p1H (O:Ord less)(L:iI prog w A E s kd a₀ less)(T:tF less a₀ a b){st bA:R8}(hk:kindOf st=kd)(hg: ∃g,bA=cZ st g)(J:JH less a b o i j)(hN:i+j<=N):wpS (model prog w) A E s (UL a b mg ac bc i j o) (O2 less a b st N) bA:=by
 unfold UL;have hi:=J.hi;have hj:=J.hj;have ia:=J.ia;have jb:=J.jb;exact aC (wpS_modify ?_);have FZ: ∃g,cZ bA mg=cZ st g:=by let⟨g,rfl⟩:=hg;show#[mg,rfl]
 have u8:kindOf (cZ bA mg)=kd:=by let⟨g,rfl⟩:=hg;show hk
 exact aC (wp_elem ∅ ?_);have sg:=tV O T.sa (i:=0) (n:=i) ∅;exact aC (wp_galR O L u8 (T.mb (j - 1) ∅) (λk hk=>#[∅,T.ma _ ∅]) ∅ sg λk h1 h2 h3=> ?_);dsimp only;simp![Nat.zero_add] at h2 h3;by_cases ck:i - k >0;rw[ap ck];have m2:MH less a.toList b.toList (o++(a.extract k i).reverse).toList.reverse k j:=by rw[zQ,lP];exact J.mi.qF T.sa ∅ λx hx y hy=> ?_;let⟨n,n1,n2,n3,rfl⟩:=zw hx;let⟨k',k1,k2,rfl⟩:=rO hy;show O.trans _ _ _ (li O T.sb (show k'<=j - 1 by lia) ∅) (O.le (h3 n n1 n2))
 by_cases c2:k=0;rw[ap ⇑c2];show aJ #[FZ, .inl #[_,_,rfl,me T m2 (.inl c2)]];rw[ai ⇑c2];show wp_p2H O L T u8 FZ #[m2, ∅,hj, ∅,jb] (h2 (k - 1) ∅) ∅;rw[ai ck];show wp_p2H O L T u8 FZ J (h2 (i - 1) ∅) hN
def wp_two1 (O:Ord less)(L:iI prog w A E s kd a₀ less)(T:tF less a₀ a b)(hk:kindOf bA=kd)(J:JH less a b o i j)(h1: ∀x c,qL less a b x ->Q (.done (some x,c)) bA)(h2: ∀i' j' o c,JH less a b o i' j' ->i'+j'+1=i+j ->Q (.done (none,i',j',o,c)) bA /\ Q (.yield (none,i',j',o,c)) bA): wpS (model prog w) A E s (MJ a b mg i j o ac bc) Q bA:=by
 unfold MJ;have hi:=J.hi;have hj:=J.hj;have ia:=J.ia;have jb:=J.jb;exact aC (wp_elem ∅ (aC (wp_elem ∅ (aC (L _ _ _ _ (T.mb (j - 1) ∅) (T.ma (i - 1) ∅) hk ?_)))));dsimp only;cases e:less (cN b (j - 1)) (cN a (i - 1)) with
 | true=>simp![bR];exact aC (wp_elem ∅ ?_);have m:=uc O T J.mi hi ia jb λ_=>O.le e;by_cases c:i - 1=0;rw[ap ⇑c];show aJ (h1 _ _ (me T m (.inl c)));rw[ai ⇑c];have:=h2 (i - 1) j _ (ac+1,0) #[m, ∅,hj, ∅,jb] ∅;split;show aJ this.1;show aJ this.2
 | false=>simp![ay,be];exact aC (wp_elem ∅ ?_);have m:=zT O T J.mi ∅ ia jb λ_=>e;by_cases c:j - 1=1;rw[ap ⇑c];show aJ (h1 _ _ (oW O T m c));rw[ai ⇑c];have:=h2 i (j - 1) _ (0,bc+1) #[m,hi, ∅,ia, ∅] ∅;split;show aJ this.1;show aJ this.2
def wp_mHi (O:Ord less)(L:iI prog w A E s kd a₀ less)(T:tF less a₀ a b){st:R8}(hk:kindOf st=kd)(h: ∀r g,qL less a b r ->Q r (cZ st g)):wpS (model prog w) A E s (Xe a b) Q st:=by
 rw[BB];have na:=T.na;have nb:=T.nb;exact aC (wpS_lift (wpAny_rule #[rfl,?_]));exact aC (wp_elem ∅ ?_);have h': ∀r,qL less a b r ->Q r st:=λr hr=>h r (gallopOf st) hr;have m:MH less a.toList b.toList (#[cN a (a.size - 1)]:gX gE).toList.reverse (a.size - 1) b.size:=by
  have m0:MH less a.toList b.toList (#[]:gX gE).toList.reverse a.size b.size:=#[by simp,by simp,by simp,by simp]
  show uc O T m0 ∅ (ao _) (ao _) λ_=>O.le (T.hl _ ∅)
 by_cases c:a.size - 1=0;rw[ap ⇑c];show aJ (h' _ (me T m (.inl c)));rw[ai ⇑c];by_cases c2:b.size=1;rw[ap ⇑c2];show aJ (h' _ (oW O T m c2));rw[ai ⇑c2];exact aC (wpS_get ?_);exact aC (wpS_mono (cE (I:=λn c bA=>(∃g,bA=cZ st g) /\ jQ λi j o mg=>dh (c=(none,i,j,o,mg)) (JH less a b o i j) (i+j+n<a.size+b.size)) (Q:=λc bA=>(∃g,bA=cZ st g) /\ cJ λx d=>c=(some x,d) /\ qL less a b x) ?_ ?_ #[#[gallopOf st,rfl],_,_,_,_,rfl,#[m, ∅, ∅, ∅, ∅], ∅]) ?_)
 .rintro n c bA _ hn ⟨hg,i,j,o,mg,rfl,J,hN⟩;unfold Iv;dsimp only;have u8:kindOf bA=kd:=by let⟨g,rfl⟩:=hg;show hk
  exact aC (wpS_mono (cE (I:=λx c lf=>lf=bA /\ jQ λi' j' o' d=>dh (c=(none,i',j',o',d)) (JH less a b o' i' j') (i'+j'+x=i+j)) (Q:=λc lf=>lf=bA /\ ((cJ λx d=>c=(some x,d) /\ qL less a b x) \/ jQ λi' j' o' d=>dh (c=(none,i',j',o',d)) (JH less a b o' i' j') (i'+j'+1<=i+j))) ?_ ?_ #[rfl,i,j,o,_,rfl,J,rfl]) ?_);rintro x c lf _ hx ⟨rfl,i',j',o',⟨ac,bc⟩,rfl,J',OB⟩;dsimp only;exact wp_two1 O L T u8 J' (λx c hr=>#[rfl, .inl #[x,c,rfl,hr]]) λi2 j2 o2 c J2 h2=>#[#[rfl, .inr #[i2,j2,o2,c,rfl,J2, ∅]],#[rfl,i2,j2,o2,c,rfl,J2, ∅]]
  rintro c lf ⟨rfl,i',j',o',d,rfl,J',OB⟩;show#[rfl, .inr #[i',j',o',d,rfl,J', ∅]]
  .rintro c lf ⟨rfl,⟨x,d,rfl,hr⟩ | ⟨i',j',o',⟨ac,bc⟩,rfl,J',OB⟩⟩;show aJ #[hg,x,_,rfl,hr]
   .dsimp only;exact aC (wpS_lift (wpAny_rule #[rfl,?_]));exact aC (wpS_mono (cE (I:=λx c n6=>(∃g,n6=cZ st g) /\ jQ λi' j' o' d=>dh (c=(none,i',j',o',d)) (JH less a b o' i' j') (i'+j'+1<=i+j)) (Q:=λc n6=>(∃g,n6=cZ st g) /\ ((cJ λx d=>c=(some x,d) /\ qL less a b x) \/ jQ λi' j' o' d=>dh (c=(none,i',j',o',d)) (JH less a b o' i' j') (i'+j'+1<=i+j))) ?_ ?_ #[hg,i',j',o',_,rfl,J',OB]) ?_)
    .rintro x c n6 _ hx ⟨BV,i3,j3,o3,⟨Xc,ZY,ZV⟩,rfl,J3,CL⟩;dsimp only;split;all_goals
      exact wpS_mono (wp_p1H O L T (N:=i+j - 1) hk BV J3 ∅) ?_
      rintro r fV ⟨Ol,⟨x,c,rfl,hr⟩ | ⟨i4,j4,o4,c,rfl | rfl,J4,h4⟩⟩
      show#[Ol, .inl #[x,c,rfl,hr]]
      show#[Ol, .inr #[i4,j4,o4,c,rfl,J4, ∅]]
      show#[Ol,i4,j4,o4,c,rfl,J4, ∅]
    rintro c n6 ⟨BV,i3,j3,o3,d,rfl,J3,CL⟩;show#[BV, .inr #[i3,j3,o3,d,rfl,J3,CL]];rintro c n6 ⟨BV,⟨x,d,rfl,hr⟩ | ⟨i3,j3,o3,⟨Xc,ZY,ZV⟩,rfl,J3,CL⟩⟩;show aJ #[BV,x,_,rfl,hr];dsimp only;exact aC (wpS_modify (aJ #[?_,i3,j3,o3,_,rfl,J3, ∅]));let⟨g,rfl⟩:=BV;show#[_,rfl]
 rintro c bA ⟨hg,i,j,o,mg,rfl,J,hN⟩;have:=J.hi;have:=J.hj;lia;rintro c bA ⟨⟨g,rfl⟩,x,d,rfl,hr⟩;show aJ (h x g hr)
end
def zk (xs:gX gE)(at_:Nat)(l:d3 (gE×Nat)):gX gE:=l.foldl (λa (p,j)=>a.setIfInBounds (at_+j) p) xs
theorem xr (at_ n:Nat): ∀ (ms:d3 gE) (k:Nat) (xs:gX gE),at_+k+ms.length<=xs.size ->(zk xs at_ (ms.zipIdx k))[n]? =if at_+k<=n /\ n<at_+k+ms.length then ms[n - (at_+k)]? else xs[n]?
 | [],k,xs,h=>by rw[ai (by simp)];rfl
 | p ::ms,k,xs,h=>by rw[aK] at h;change(zk (xs.setIfInBounds (at_+k) p) at_ (ms.zipIdx (k+1)))[n]? =_;rw[xr at_ n ms (k+1) _ (by rw[Array.size_setIfInBounds];lia)];rw[aK];by_cases c:n=at_+k;subst c;rw[ai ∅,ap ∅,Array.getElem?_setIfInBounds_self_of_lt ∅];simp;rw[Array.getElem?_setIfInBounds_ne (aT c)];by_cases c2:at_+(k+1) <=n /\ n<at_+(k+1)+ms.length;rw[ap c2,ap ∅,show n - (at_+k)=(n - (at_+(k+1)))+1 by lia,cR];rw[ai c2,ai ∅]
def CU (h:at_+ms.length<=xs.size):(zk xs at_ ms.zipIdx).toList=xs.toList.take at_++(ms++xs.toList.drop (at_+ms.length)):=by
 apply List.ext_getElem?;intro n;have e:=xr at_ n ms 0 xs ∅;rw[Nat.add_zero] at e;have e':(zk xs at_ ms.zipIdx).toList[n]? =(zk xs at_ ms.zipIdx)[n]? :=by simp
 rw[e',e];have hx: ∀k:Nat,xs.toList[k]? =xs[k]? :=λk=>Array.getElem?_toList ..;by_cases c1:n<at_;rw[ai ∅,bg (by rw[a7];simp;lia),List.getElem?_take,ap c1,hx];have lt:(xs.toList.take at_).length=at_:=by rw[a7];simp;lia
 rw[aY ∅,lt];by_cases c2:n<at_+ms.length;rw[ap ∅,bg ∅];rw[ai ∅,aY ∅,List.getElem?_drop,hx];congr 1;lia
def three (l:d3 gE)(i j k:Nat)(gU:i<=j)(hjk:j<=k)(hk:k<=l.length):l=l.take i++((l.take j).drop i++((l.take k).drop j++l.drop k)):=by
 have e1:(l.take k).drop j++l.drop k=l.drop j:=by rw[List.drop_take];have:=bn (k - j) (l.drop j);rw[List.drop_drop,show j+(k - j)=k by lia] at this;show this
 have e2:(l.take j).drop i++l.drop j=l.drop i:=by rw[List.drop_take];have:=bn (j - i) (l.drop i);rw[List.drop_drop,show i+(j - i)=j by lia] at this;show this
 rw[e1,e2,bn]
def F_ (O:Ord less){i j lo hi:Nat}(h:Sg less xs lo hi)(h1:lo<=i)(h2:j<=hi)(h3:hi<=xs.size):(xs.extract i j).toList.Pairwise (LE less):=by
 rw[bv];intro x y hx hy hxy;have e: ∀n (hn:n< (xs.extract i j).toList.length),(xs.extract i j).toList[n]=cN xs (i+n):=λn hn=>by
  have Jx:n< (xs.extract i j).size:=by rw[cu] at hn;show hn
  rw[Array.size_extract] at Jx;unfold cN;rw[getElem?_pos xs (i+n) ∅];simp
 rw[e x hx,e y hy];have Xz:y< (xs.extract i j).size:=by rw[cu] at hy;show hy
 rw[Array.size_extract] at Xz;show h _ _ ∅ ∅ ∅
def kQ (h:n< (xs.extract i j).size):cN (xs.extract i j) n=cN xs (i+n):=by unfold cN;rw[Array.size_extract] at h;rw[Array.getElem?_extract,ap ∅]
abbrev Rn:=Nat×Nat×Nat
theorem NO (i:Nat):mergeAt' i=(do
 let s <- get
 let (some (sa,na,pw),some (sb,nb,_)):=((pendingOf s)[i]?,(pendingOf s)[i+1]?) | unsupported "internal:list.sort.pending"
 set (setPending s (((pendingOf s).setIfInBounds i (sa,na+nb,pw)).eraseIdxIfInBounds (i+1)))
 let some k <- JN false (<- elem' (arrOf s) sb) (arrOf s) sa na 0 | return false
 let (sa,na):=(sa+k,na - k)
 if na==0 then return true
 let some nb <- JN true (<- elem' (arrOf s) (sa+na - 1)) (arrOf s) sb nb (nb - 1) | return false
 if nb==0 then return true
 let x:=(arrOf s).extract sa sb
 let y:=(arrOf s).extract sb (sb+nb)
 let r <- if na<=nb then Xd x y else Xe x y
 modify λs=>setArr s (zk (arrOf s) sa r.toList.zipIdx)
 return(failedOf (<- get)).isNone):=rfl
def Hm {st:σ}(h:Q ⟨⟩ v):wpS M A E s (set v:StateT σ Sem PUnit) Q st:=by unfold wpS;rw[StateT.run_set];show ax #[rfl,h]
def wp_mAt (O:Ord less)(L:iI prog w A E s kd a₀ less){st:R8}{l1 l2:d3 Rn}(B:SB kd a₀ st)(hp:pendingOf st=(l1++(sa,na,pw)::(sb,nb,Ws)::l2).toArray)(hi:i=l1.length)(Sn:sb=sa+na)(h1:1<=na)(h2:1<=nb)(hz:sb+nb<=a₀.size)(s1:Sg less (arrOf st) sa sb)(s2:Sg less (arrOf st) sb (sb+nb))(h: ∀bA,SB kd a₀ bA ->pendingOf bA=(l1++(sa,na+nb,pw)::l2).toArray ->Sg less (arrOf bA) sa (sb+nb) ->oR sa (sb+nb) (arrOf st) (arrOf bA) ->Q true bA):wpS (model prog w) A E s (mergeAt' i) Q st:=by
 subst hi;rw[NO];exact aC (wpS_get ?_);have p1:(pendingOf st)[l1.length]? =some (sa,na,pw):=by rw[hp];simp
 have p2:(pendingOf st)[l1.length+1]? =some (sb,nb,Ws):=by rw[hp];simp[aY]
 rw[p1,p2];dsimp only;exact aC (Hm ?_);have hpd:((pendingOf st).setIfInBounds l1.length (sa,na+nb,pw)).eraseIdxIfInBounds (l1.length+1)=(l1++(sa,na+nb,pw)::l2).toArray:=by rw[hp];simp![List.setIfInBounds_toArray,List.eraseIdxIfInBounds_toArray];congr 1;rw[List.set_append_right _ _ (ao _),Nat.sub_self,List.set_cons_zero];rw[List.eraseIdx_append_of_length_le ∅,show l1.length+1 - l1.length=1 by lia];rfl
 rw[hpd];let Bi:R8:=setPending st (l1++(sa,na+nb,pw)::l2).toArray
 have B1:SB kd a₀ Bi:=#[B.perm,B.kd,B.fl]
 have hsz:=B.size;change wpS _ _ _ _ _ Q Bi;exact aC (wp_elem ∅ ?_);exact aC (wp_galR O L B.kd (B.mem ∅) (λk hk=>#[∅,B.mem ∅]) ∅ (by rw[<- Sn];show s1) λk g1 g2 g3=> ?_);dsimp only;by_cases c1:na - k=0;rw [ap ⇑c1];exact aJ (h Bi B1 rfl (λi j hi gU hj=> ?_) oR.refl);change LE less (cN (arrOf st) i) (cN (arrOf st) j);by_cases c2:j<sb;show s1 i j hi gU c2;by_cases c3:sb<=i;show s2 i j c3 gU hj;have:=g2 (i - sa) ∅;rw[show sa+(i - sa)=i by lia] at this;show O.trans _ _ _ this (s2 sb j (ao _) ∅ hj);rw [ai ⇑c1];exact aC (wp_elem ∅ ?_);rw[show sa+k+(na - k) - 1=sb - 1 by lia];exact aC (wp_galL O L B.kd (B.mem ∅) (λk hk=>#[∅,B.mem ∅]) ∅ s2 λm f1 f2 f3=> ?_);dsimp only;by_cases c2:m=0;rw [ap ⇑c2];exact aJ (h Bi B1 rfl (λi j hi gU hj=> ?_) oR.refl);change LE less (cN (arrOf st) i) (cN (arrOf st) j);by_cases c2:j<sb;show s1 i j hi gU c2;by_cases c3:sb<=i;show s2 i j c3 gU hj;have:=f3 (j - sb) ∅ ∅;rw[show sb+(j - sb)=j by lia] at this;show O.trans _ _ _ (s1 i (sb - 1) hi ∅ ∅) this;rw [ai ⇑c2];have Jl:((arrOf st).extract (sa+k) sb).size=na - k:=by rw[Array.size_extract];lia
 have FG:((arrOf st).extract sb (sb+m)).size=m:=by rw[Array.size_extract];lia
 have T:tF less a₀ ((arrOf st).extract (sa+k) sb) ((arrOf st).extract sb (sb+m)):=by exact#[F_ O s1 ∅ (ao _) ∅,F_ O s2 (ao _) ∅ ∅,λi hi=> ?_,λi hi=> ?_, ∅, ∅,?_,λj hj=> ?_];rw[kQ hi];rw[Jl] at hi;show B.mem ∅;rw[kQ hi];rw[FG] at hi;show B.mem ∅;rw[kQ ∅,kQ ∅];show g3 k (ao _) ∅;rw[kQ hj,kQ ∅];rw[FG] at hj;rw[Jl,show sa+k+(na - k - 1)=sb - 1 by lia];show f2 j hj
 have fin : ∀ (r:gX gE) (g:Nat),qL less ((arrOf st).extract (sa+k) sb) ((arrOf st).extract sb (sb+m)) r ->wpS (model prog w) A E s (do modify λs=>setArr s (zk (arrOf s) (sa+k) r.toList.zipIdx);return(failedOf (<- get)).isNone) Q (cZ Bi g):=by
  rintro r g ⟨rp,rs⟩;have rl:r.toList.length=sb+m - (sa+k):=by
   rw[rp.length_eq,aG];have e1:((arrOf st).extract (sa+k) sb).toList.length=na - k:=by rw[cu];show Jl
   have e2:((arrOf st).extract sb (sb+m)).toList.length=m:=by rw[cu];show FG
   rw[e1,e2];lia
  have wl:=CU (xs:=arrOf st) (at_:=sa+k) (ms:=r.toList) (by rw[rl,hsz];lia);rw[rl,show sa+k+(sb+m - (sa+k))=sb+m by lia] at wl;have wa: ∀n,cN (zk (arrOf st) (sa+k) r.toList.zipIdx) n=if sa+k<=n /\ n<sb+m then(r.toList[n - (sa+k)]?).getD (.none, .none) else cN (arrOf st) n:=λn=>by have e:=xr (sa+k) n r.toList 0 (arrOf st) (by rw[rl,hsz];lia);rw[Nat.add_zero,rl,show sa+k+(sb+m - (sa+k))=sb+m by lia] at e;unfold cN;rw[e];split<;>rfl
  have wm: ∀n,sa+k<=n ->n<sb+m -> ∃n',dh (sa+k<=n') (n'<sb+m) (cN (zk (arrOf st) (sa+k) r.toList.zipIdx) n=cN (arrOf st) n'):=λn n1 n2=>by rw[wa,ap #[n1,n2],am ∅];have hm:=rp.mem_iff.mp (cx (l:=r.toList) (n:=n - (sa+k)) ∅);obtain hm | hm:=aA.mp hm;rw[lP] at hm;let⟨q,q1,q2,q3,e⟩:=zw hm;show#[q,q1, ∅,e];rw[lP] at hm;let⟨q,q1,q2,q3,e⟩:=zw hm;show#[q, ∅,q2,e]
  exact aC (wpS_modify ?_);exact aC (wpS_get (aJ ?_));have ef:(failedOf (setArr (cZ Bi g) (zk (arrOf (cZ Bi g)) (sa+k) r.toList.zipIdx))).isNone=true:=by change(failedOf st).isNone=true;rw[B.fl];rfl
  rw[ef];exact h _ #[?_,B.kd,B.fl] rfl (λi j hi gU hj=> ?_) (λn hn=> ?_);change(zk (arrOf st) (sa+k) r.toList.zipIdx).Perm a₀;exact Array.Perm.trans ?_ B.perm;rw[Array.perm_iff_toList_perm,wl];have e3:=three (arrOf st).toList (sa+k) sb (sb+m) ∅ ∅ (by simp;lia);exact List.Perm.trans ?_ (List.Perm.of_eq e3.symm);exact List.Perm.append_left _ ?_;rw[<- bW];exact List.Perm.append_right _ ?_;rw[lP,lP] at rp;show rp;change LE less (cN (zk (arrOf st) (sa+k) r.toList.zipIdx) i) (cN (zk (arrOf st) (sa+k) r.toList.zipIdx) j);have Jg: ∀x y,sa<=x ->x<sa+k ->sa+k<=y ->y<sb+nb ->LE less (cN (arrOf st) x) (cN (arrOf st) y):=λx y x1 x2 y1 y2=>by by_cases c:y<sb;show s1 x y x1 ∅ c;have:=g2 (x - sa) ∅;rw[show sa+(x - sa)=x by lia] at this;show O.trans _ _ _ this (s2 sb y (ao _) ∅ y2)
  have Xo: ∀x y,sa+k<=x ->x<sb+m ->sb+m<=y ->y<sb+nb ->LE less (cN (arrOf st) x) (cN (arrOf st) y):=λx y x1 x2 y1 y2=>by by_cases c:x<sb;have:=f3 (y - sb) ∅ ∅;rw[show sb+(y - sb)=y by lia] at this;show O.trans _ _ _ (s1 x (sb - 1) ∅ ∅ ∅) this;show s2 x y ∅ ∅ y2
  by_cases i1:i<sa+k;have ei:=wa i;rw[ai ∅] at ei;rw[ei];by_cases j1:j<sa+k;have ej:=wa j;rw[ai ∅] at ej;rw[ej];show s1 i j hi gU ∅;by_cases j2:j<sb+m;let⟨n',n1,n2,e⟩:=wm j ∅ j2;rw[e];show Jg i n' hi i1 n1 ∅;have ej:=wa j;rw[ai ∅] at ej;rw[ej];show Jg i j hi i1 ∅ hj;by_cases i2:i<sb+m;by_cases j2:j<sb+m;rw[wa i,wa j,ap ∅,ap ∅,am ∅,am ∅];by_cases cij:i=j;subst cij;show O.refl _;show bv.mp rs _ _ ∅ ∅ ∅;let⟨n',n1,n2,e⟩:=wm i ∅ i2;have ej:=wa j;rw[ai ∅] at ej;rw[e,ej];show Xo n' j n1 n2 ∅ hj;have ei:=wa i;have ej:=wa j;rw[ai ∅] at ei ej;rw[ei,ej];show s2 i j ∅ gU hj;change cN (zk (arrOf st) (sa+k) r.toList.zipIdx) n=_;rw[wa n,ai ∅]
 by_cases c3:na - k<=m;rw[ap c3];show aC (wp_mLo O L T B.kd λr g hr=>fin r g hr);rw[ai c3];show aC (wp_mHi O L T B.kd λr g hr=>fin r g hr)
def Runs (less:gE ->gE ->Bool)(xs:gX gE):d3 Rn ->Nat ->Nat ->Prop
 | [],lo,hi=>lo=hi
 | (a,n,_)::r,lo,hi=>a=lo /\ 1<=n /\ Sg less xs lo (lo+n) /\ Runs less xs r (lo+n) hi
theorem Runs.le {less:gE ->gE ->Bool}{xs:gX gE}: ∀ {l:d3 Rn} {lo hi:Nat},Runs less xs l lo hi ->lo+l.length<=hi
 | [],lo,hi,h=>Nat.le_of_eq h
 | (a,n,p)::r,lo,hi,h=>by have:=Runs.le h.2.2.2;have:=h.2.1;rw[aK];lia
theorem Runs.app {less:gE ->gE ->Bool}{xs:gX gE}: ∀ {l1 l2:d3 Rn} {lo hi:Nat},Runs less xs (l1++l2) lo hi↔ ∃m,Runs less xs l1 lo m /\ Runs less xs l2 m hi
 | [],l2,lo,hi=>#[λh=>#[lo,rfl,h],λ⟨m,e,h⟩=>by cases e;show h]
 | (a,n,p)::r,l2,lo,hi=>by symm;rintro⟨h1,h2,h3,h4⟩;let⟨m,a1,a2⟩:=Runs.app.mp h4;show#[m,#[h1,h2,h3,a1],a2];rintro⟨m,⟨h1,h2,h3,a1⟩,a2⟩;show#[h1,h2,h3,Runs.app.mpr #[m,a1,a2]]
theorem Runs.out {less:gE ->gE ->Bool}{xs ys:gX gE}{e1 e2:Nat}(o:oR e1 e2 xs ys): ∀ {l:d3 Rn} {lo hi:Nat},(hi<=e1 \/ e2<=lo) ->Runs less xs l lo hi ->Runs less ys l lo hi
 | [],lo,hi,_,h=>h
 | (a,n,p)::r,lo,hi,hc,⟨h1,h2,h3,h4⟩=>by have:=Runs.le h4;exact#[h1,h2,λi j hi gU hj=> ?_,Runs.out o ∅ h4];rw[o i ∅,o j ∅];show h3 i j hi gU hj
theorem DM {e1 e2 lo hi:Nat}(o:oR e1 e2 xs ys)(hc:hi<=e1 \/ e2<=lo)(h:Sg less xs lo hi):Sg less ys lo hi:=λi j hi gU hj=>by rw[o i ∅,o j ∅];show h i j hi gU hj
def Dd {l:d3 α}(h:2<=l.length):gv λl1 x y=>l=l1++ [x,y]:=by exact#[l.take (l.length - 2),l[l.length - 2],l[l.length - 1],?_];have:=bn (l.length - 2) l;rw[dI ∅,dI ∅,List.drop_eq_nil_of_le ∅] at this;have e:l.length - 2+1=l.length - 1:= ∅;simp![e] at this;show this.symm
theorem zH {α:Type}{l:d3 α}(h:l≠ []): ∃l1 x,l=l1++ [x]:=#[l.dropLast,l.getLast h,(List.dropLast_concat_getLast h).symm]
def vT (l1:d3 Rn)(x:Rn)(f:Rn ->Rn):(l1++ [x]).modify l1.length f=l1++ [f x]:=by
 induction l1 with
 | nil=>rfl
 | cons a l ih=>rw[List.cons_append,aK,List.modify_succ_cons,ih];rfl
def wp_mR (O:Ord less)(L:iI prog w A E s kd a₀ less){st:R8}{x y:Rn}{i lo:Nat}(B:SB kd a₀ st)(hp:pendingOf st=(l1++x::y::l2).toArray)(hi:i=l1.length)(hz:lo<=a₀.size)(R:Runs less (arrOf st) (l1++x::y::l2) 0 lo)(h: ∀bA z,SB kd a₀ bA ->pendingOf bA=(l1++z::l2).toArray ->Runs less (arrOf bA) (l1++z::l2) 0 lo ->oR 0 lo (arrOf st) (arrOf bA) ->Q true bA):wpS (model prog w) A E s (mergeAt' i) Q st:=by let⟨sa,na,pw⟩:=x;let⟨sb,nb,Ws⟩:=y;let⟨m,r1,rfl,h1,s1,rfl,h2,s2,r2⟩:=Runs.app.mp R;have U7:=r2.le;exact wp_mAt O L B hp hi rfl h1 h2 ∅ s1 s2 λbA B' LK s' o'=>h bA _ B' LK ?_ λk hk=>o' k ∅;exact Runs.app.mpr #[_,r1.out o' (.inl (ao _)),rfl, ∅,?_,?_];rw[<- Nat.add_assoc];show s';rw[<- Nat.add_assoc];show r2.out o' (.inr (ao _))
def vz {a n p q lo hi:Nat}(h:Runs less xs (l1++ [(a,n,p)]) lo hi):Runs less xs (l1++ [(a,n,q)]) lo hi:=by let⟨m,r1,h1,h2,h3,h4⟩:=Runs.app.mp h;show Runs.app.mpr #[m,r1,h1,h2,h3,h4]
def wp_sort (O:Ord less)(L:iI prog w A E s kd a₀ less){st:R8}(B:SB kd a₀ st)(XS:pendingOf st= #[])(h2:2<=a₀.size)(h: ∀bA,(arrOf bA).Perm a₀ ->failedOf bA=none ->Sg less (arrOf bA) 0 a₀.size ->Q () bA):wpS (model prog w) A E s sortRuns' Q st:=by
 rw[sortRuns'_eq];exact aC (wpS_get ?_);dsimp only;simp![B.size];generalize minRun' a₀.size a₀.size 0=mr;exact aC (wpS_mono (cE (I:=λx c bA=>cJ λlo pl=>nh (c=(none,lo)) (x<=lo) (lo<=a₀.size) (SB kd a₀ bA) (pendingOf bA=pl.toArray) (Runs less (arrOf bA) pl 0 lo)) (Q:=λc bA=> ∃pl,fh (c=(none,a₀.size)) (SB kd a₀ bA) (pendingOf bA=pl.toArray) (Runs less (arrOf bA) pl 0 a₀.size)) ?step ?fin #[0,[],rfl,ao _,cB _,B,XS,rfl]) ?post);case fin=>
  rintro c bA ⟨lo,pl,rfl,h1,CM,B',hp,R⟩
  have:lo=a₀.size:= ∅
  subst this
  show#[pl,rfl,B',hp,R]
 case step =>
  rintro x c bA _ hx ⟨lo,pl,rfl,h1,CM,B',hp,R⟩
  dsimp only
  by_cases c1:lo≥a₀.size
  rw[ap c1]
  have:lo=a₀.size:= ∅
  subst this
  show aJ #[pl,rfl,B',hp,R]
  rw[ai c1]
  exact aC (wp_run O L ∅ ∅ B' λm lf B2 m1 m2 s2 p2 o2=> ?_)
  dsimp only
  have R2:Runs less (arrOf lf) pl 0 lo:=R.out o2 (.inl (ao _))
  by_cases c2:m<mr
  rw [ap c2]
  exact aC (wpS_lift (wpAny_rule #[rfl,?_]))
  exact aC (wp_bin O L ∅ ∅ B2 s2 λn6 B3 s3 p3 o3=> ?_)
  simp![Bool.not_true,ay,be]
  have R3:=R2.out o3 (.inl (ao _))
  have n1:1<=min (a₀.size - lo) mr:= ∅
  have n2:lo+min (a₀.size - lo) mr<=a₀.size:= ∅
  rw[p2,hp] at p3
  clear o3
  revert s3 n1 n2
  generalize min (a₀.size - lo) mr=n
  intro s3 n1 n2
  exact aC (wpS_get ?_)
  cases hb:(pendingOf n6).back? with
  | none=>dsimp only;exact aC (wpS_modify (aJ #[lo+n,pl++ [(lo,n,0)],rfl, ∅,n2,#[B3.perm,B3.kd,B3.fl],?_,Runs.app.mpr #[lo,R3,rfl,n1,s3,rfl]]));change(pendingOf n6).push (lo,n,0)=_;rw[p3];simp
  | some q=>
   let⟨s1,NL,p1⟩:=q;dsimp only;have c6:pl≠ []:=λe=>by subst e;rw[p3] at hb;simp at hb
   exact aC (wpS_mono (cE (I:=λ_ c fV=>c=(none,()) /\ ∃pl,ja (pl≠ []) (SB kd a₀ fV) (Sg less (arrOf fV) lo (lo+n)) (pendingOf fV=pl.toArray) (Runs less (arrOf fV) pl 0 lo)) (Q:=λc fV=>c=(none,()) /\ ∃pl,ja (pl≠ []) (SB kd a₀ fV) (Sg less (arrOf fV) lo (lo+n)) (pendingOf fV=pl.toArray) (Runs less (arrOf fV) pl 0 lo)) ?_ (λc fV h=>h) #[rfl,pl,c6,B3,s3,p3,R3]) ?_);rintro y c fV _ hy ⟨rfl,uf,ne4,B4,s4,p4,R4⟩;exact aC (wpS_get ?_);by_cases c2:(pendingOf fV).size >1;rw[ap c2];have hl:2<=uf.length:=by rw[p4] at c2;simp at c2;lia
   let⟨l1,u,v,e4⟩:=Dd hl;have e5:(pendingOf fV).size - 2=l1.length:=by rw[p4,e4];simp
   have e6:(pendingOf fV)[(pendingOf fV).size - 2]? =some u:=by rw[e5,p4,e4];simp
   rw[e6];let⟨u1,u2,u3⟩:=u;dsimp only;split;show aJ #[rfl,uf,ne4,B4,s4,p4,R4];subst e4;exact aC (wp_mR O L (l2:= []) B4 p4 e5 ∅ R4 λPe z B5 p5 R5 o5=> ?_);simp![Bool.not_true,ay,be];show aJ #[rfl,_,by simp,B5,DM o5 (.inr (ao _)) s4,p5,R5];rw[ai c2];show aJ #[rfl,uf,ne4,B4,s4,p4,R4];rintro c fV ⟨rfl,uf,ne4,B4,s4,p4,R4⟩;dsimp only;exact aC (wpS_modify (aC (wpS_modify (aJ ?_))));let⟨l1,⟨u1,u2,u3⟩,rfl⟩:=zH ne4;exact#[lo+n,(l1++ [(u1,u2,power' a₀.size (2*s1+NL) (2*s1+NL+NL+n) a₀.size)])++ [(lo,n,0)],rfl, ∅,n2,#[B4.perm,B4.kd,B4.fl],?_,Runs.app.mpr #[lo,vz R4,rfl,n1,s4,rfl]];change((pendingOf fV).modify ((pendingOf fV).size - 1) _).push (lo,n,0)=_;rw[p4];simp![List.modify_toArray,List.push_toArray,aU];congr 2;rw[aG,bF,Nat.add_sub_cancel];show vT l1 _ _
  rw [ai c2]
  have s3:=s2
  have n1:=m1
  have n2:lo+m<=a₀.size:= ∅
  have p3:pendingOf lf=pl.toArray:=by rw[p2,hp]
  have B3:=B2
  have R3:=R2
  clear p2 o2 B2 R2 s2 m1 m2 c2
  revert s3 n1 n2
  generalize m=n
  intro s3 n1 n2
  revert p3 B3 R3 s3
  generalize lf=n6
  intro p3 B3 R3 s3
  exact aC (wpS_get ?_)
  cases hb:(pendingOf n6).back? with
  | none=>dsimp only;exact aC (wpS_modify (aJ #[lo+n,pl++ [(lo,n,0)],rfl, ∅,n2,#[B3.perm,B3.kd,B3.fl],?_,Runs.app.mpr #[lo,R3,rfl,n1,s3,rfl]]));change(pendingOf n6).push (lo,n,0)=_;rw[p3];simp
  | some q=>
   let⟨s1,NL,p1⟩:=q;dsimp only;have c6:pl≠ []:=λe=>by subst e;rw[p3] at hb;simp at hb
   exact aC (wpS_mono (cE (I:=λ_ c fV=>c=(none,()) /\ ∃pl,ja (pl≠ []) (SB kd a₀ fV) (Sg less (arrOf fV) lo (lo+n)) (pendingOf fV=pl.toArray) (Runs less (arrOf fV) pl 0 lo)) (Q:=λc fV=>c=(none,()) /\ ∃pl,ja (pl≠ []) (SB kd a₀ fV) (Sg less (arrOf fV) lo (lo+n)) (pendingOf fV=pl.toArray) (Runs less (arrOf fV) pl 0 lo)) ?_ (λc fV h=>h) #[rfl,pl,c6,B3,s3,p3,R3]) ?_);rintro y c fV _ hy ⟨rfl,uf,ne4,B4,s4,p4,R4⟩;exact aC (wpS_get ?_);by_cases c2:(pendingOf fV).size >1;rw[ap c2];have hl:2<=uf.length:=by rw[p4] at c2;simp at c2;lia
   let⟨l1,u,v,e4⟩:=Dd hl;have e5:(pendingOf fV).size - 2=l1.length:=by rw[p4,e4];simp
   have e6:(pendingOf fV)[(pendingOf fV).size - 2]? =some u:=by rw[e5,p4,e4];simp
   rw[e6];let⟨u1,u2,u3⟩:=u;dsimp only;split;show aJ #[rfl,uf,ne4,B4,s4,p4,R4];subst e4;exact aC (wp_mR O L (l2:= []) B4 p4 e5 ∅ R4 λPe z B5 p5 R5 o5=> ?_);simp![Bool.not_true,ay,be];show aJ #[rfl,_,by simp,B5,DM o5 (.inr (ao _)) s4,p5,R5];rw[ai c2];show aJ #[rfl,uf,ne4,B4,s4,p4,R4];rintro c fV ⟨rfl,uf,ne4,B4,s4,p4,R4⟩;dsimp only;exact aC (wpS_modify (aC (wpS_modify (aJ ?_))));let⟨l1,⟨u1,u2,u3⟩,rfl⟩:=zH ne4;exact#[lo+n,(l1++ [(u1,u2,power' a₀.size (2*s1+NL) (2*s1+NL+NL+n) a₀.size)])++ [(lo,n,0)],rfl, ∅,n2,#[B4.perm,B4.kd,B4.fl],?_,Runs.app.mpr #[lo,vz R4,rfl,n1,s4,rfl]];change((pendingOf fV).modify ((pendingOf fV).size - 1) _).push (lo,n,0)=_;rw[p4];simp![List.modify_toArray,List.push_toArray,aU];congr 2;rw[aG,bF,Nat.add_sub_cancel];show vT l1 _ _
 case post =>
  rintro c bA ⟨pl,rfl,B',hp,R⟩
  dsimp only
  have U7:=R.le
  exact aC (wpS_mono (cE (I:=λx c fV=>c=(none,()) /\ ∃pl,fh (SB kd a₀ fV) (pendingOf fV=pl.toArray) (Runs less (arrOf fV) pl 0 a₀.size) (pl.length<=1 \/ pl.length+x<=a₀.size)) (Q:=λc fV=>c=(none,()) /\ ∃pl,dh (SB kd a₀ fV) (Runs less (arrOf fV) pl 0 a₀.size) (pl.length<=1)) ?_ ?_ #[rfl,pl,B',hp,R, .inr ∅]) ?_)
  rintro x c fV _ hx ⟨rfl,uf,B4,p4,R4,hl⟩
  exact aC (wpS_get ?_)
  have esz:(pendingOf fV).size=uf.length:=by rw[p4];simp
  by_cases c1:(pendingOf fV).size<=1
  rw[ap c1]
  show aJ #[rfl,uf,B4,R4, ∅]
  rw [ai c1]
  generalize aah:Option.any _ _=cnd
  have mk: ∀k,k+2<=uf.length -> ∀ (Q':ForInStep (eB Unit×Unit) ->R8 ->Prop),(∀bA pl,SB kd a₀ bA ->pendingOf bA=pl.toArray ->Runs less (arrOf bA) pl 0 a₀.size ->(pl.length<=1 \/ pl.length+(x+1) <=a₀.size) ->Q' (.yield (none,())) bA) ->wpS (model prog w) A E s (do
    let b <- mergeAt' k
    if(!b)=true then pure (ForInStep.done ((some (),()):eB Unit×Unit)) else pure (ForInStep.yield (none,()))) Q' fV:=by
   intro k hk Q' hQ
   have e:=bn k uf
   rw[dI ∅,dI ∅] at e
   have u8:(uf.take k).length=k:=by rw[a7];lia
   rw[<- e] at p4 R4
   exact aC (wp_mR O L B4 p4 u8.symm (ao _) R4 λPe z B5 p5 R5 o5=> ?_)
   simp![Bool.not_true,ay,be]
   exact aJ (hQ _ _ B5 p5 R5 (.inr ?_))
   rw[aG,u8,aK,List.length_drop]
   lia
  cases cnd with
  | true=>simp![bR];show mk ((pendingOf fV).size - 2 - 1) ∅ _ λbA pl b1 b2 b3 b4=>#[rfl,pl,b1,b2,b3,b4]
  | false=>simp![ay,be];show mk ((pendingOf fV).size - 2) ∅ _ λbA pl b1 b2 b3 b4=>#[rfl,pl,b1,b2,b3,b4]
  rintro c fV ⟨rfl,uf,B4,p4,R4,hl⟩
  show#[rfl,uf,B4,R4, ∅]
  rintro c fV ⟨rfl,uf,B4,R4,hl⟩
  exact aJ (h _ B4.perm B4.fl ?_)
  match uf,R4,hl with
  | [],R4,_=>show absurd R4 (by change ¬(0=a₀.size);lia)
  | [(u1,u2,u3)],⟨_,_,h3,h4⟩,_=>have h4:0+u2=a₀.size:=h4;rw[h4] at h3;show h3
  | _::_::_,_,hl=>simp at hl
def Bz (h:Heap)(a:gi)(vs:d3 d4):Heap:=((h.update a (Obj.mapSeq λ_=> #[])).push (seqObj "tuple" vs.toArray 0)).push (seqObj "list" #[] 0)
def IP (ho:h.get? a=some (seqObj "list" vs.toArray n)):(Bz h a vs).get? a=some (seqObj "list" #[] (if((#[]:gX d4)).size==vs.toArray.size then n else n+1)):=by have ha:=aF ho;unfold Bz;rw[Heap.get?_push_ne _ _ _ (by rw[size_push',Heap.size_update];show a5 (Nat.lt_succ_of_lt ha)),Heap.get?_push_ne _ _ _ (by rw[Heap.size_update];show a5 ha)];show get?_update_seq ho (λ_=> #[])
def DJ (O:Ord less)(ho:s.heap.get? a=some (seqObj "list" vs.toArray n))(hsz:vs.length<=sizeLine)(hk:2<=vs.length -> ∀ (Q:SortKind ->d5 ->Prop),Q kd {s with heap:=Bz s.heap a vs} ->wpAny (model prog w) A (keyKind' vs.toArray) Q E {s with heap:=Bz s.heap a vs})(L:iI prog w A E {s with heap:=Bz s.heap a vs} kd (pairsOf vs) less)(h: ∀ (us:d3 d4),us.Perm vs ->us.Pairwise (λx y=>less (y,y) (x,x)=false) ->P (.done (.ret .none)) {s with heap:=sortedHeap s.heap a vs us.toArray}): wpAny (model prog w) A (Builtin.«list.sort» #[[.ref a],[]]) P E s:=by
 rw[list_sort_plain];exact ae (listItems_at ho rfl ?_);exact ae (listUpdate_at ho rfl ?_ (hsz:= ⇑hsz));exact ae (seqEpoch_at (get?_update_seq ho (λ_=> #[])) rfl ?_);exact ae (wpAny_newTuple ?_);exact ae (wpAny_newList ?_);exact dg ?_;have U3:=IP ho;change wpAny (model prog w) A _ P E {s with heap:=Bz s.heap a vs};dsimp only;have fin: ∀xs:gX gE,xs.Perm (pairsOf vs) ->Sg less xs 0 (pairsOf vs).size ->P (.done (.ret .none)) {s with heap:=sortedHeap s.heap a vs (xs.map (·.2))}:=by
  intro xs hp hs;have hl:xs.toList.Perm (vs.zip vs):=by rw[<- pairsOf_toList];show Array.perm_iff_toList_perm.mp hp
  have BS: ∀p,p∈xs.toList ->p.1=p.2 /\ p.1∈vs:=λp LK=>mem_zip_self (hl.mem_iff.mp LK);have:=h (xs.toList.map (·.2)) ?_ ?_;have e:(xs.toList.map (·.2)).toArray=xs.map (·.2):=by apply Array.toList_inj.mp;simp
  rwa [e] at this;have h1:=hl.map (λp:gE=>p.2);rwa [List.map_snd_zip (ao _)] at h1;rw[bv];intro i j hi hj gU;have oh:i<xs.size:= ⇑hi;have iH:j<xs.size:= ⇑hj;have h1:=hs i j (cB _) (Nat.le_of_lt gU) (by rw[<- hp.size_eq];show iH);have e1:cN xs i=((xs.toList.map (·.2))[i],(xs.toList.map (·.2))[i]):=by rw[List.getElem_map];have hm:=uQ oh;have e:=gK oh;rw[am ⇑oh] at e;have e:=bm e;rw[e];show Prod.ext (BS _ hm).1 rfl
  have e2:cN xs j=((xs.toList.map (·.2))[j],(xs.toList.map (·.2))[j]):=by rw[List.getElem_map];have hm:=uQ iH;have e:=gK iH;rw[am ⇑iH] at e;have e:=bm e;rw[e];show Prod.ext (BS _ hm).1 rfl
  rw[e1,e2] at h1;show h1
 have aav:vs.toArray.size=vs.length:=by simp
 by_cases h2:vs.toArray.size<2;rw[ap h2,ap h2];exact ae (ax ?_);rw[StateT.run_pure];exact ae (ax ?_);dsimp only;exact ae (seqEpoch_at U3 rfl ?_);exact ae (listUpdate_at U3 rfl ?_ (hsz2:=by rw[Array.size_map];change(pairsOf vs).size<=_;rw[pairsOf_size];lia));simp![bne_self_eq_false,ay,be];exact ax (fin (pairsOf vs) (Array.Perm.refl _) ?_);intro i j _ gU hj;have:i=j:=by rw[pairsOf_size] at hj;lia
 subst this;show O.refl _;rw[ai h2,ai h2];exact ae (hk ∅ _ ?_);exact ae (bM (wp_sort O L (st:=SortSt.mk' kd (vs.toArray.zip vs.toArray) #[] 7 none) (Q:=λ_ bA=>(arrOf bA).Perm (pairsOf vs) /\ failedOf bA=none /\ Sg less (arrOf bA) 0 (pairsOf vs).size) #[Array.Perm.refl _,rfl,rfl] rfl (by rw[pairsOf_size];lia) λbA a1 a2 a3=>#[a1,a2,a3]) ?_ λ_ _ e=>e);rintro⟨⟨⟩,bA⟩ s' ⟨rfl,hp,hf,hs⟩;dsimp only;exact ae (seqEpoch_at U3 rfl ?_);exact ae (listUpdate_at U3 rfl ?_ (hsz2:=by exact aS (Nat.le_of_eq ((Array.size_map ..).trans (hp.size_eq.trans (pairsOf_size _)))) ?_;lia));rw[hf];simp![bne_self_eq_false,ay,be];show ax (fin _ hp hs)
def pZ (x y:gE):Bool:=decide (numOf x.1<numOf y.1)
def WF:Ord pZ:=by exact#[λx y h=> ?_,λx y z h1 h2=> ?_];unfold pZ at*;rw[c7] at h;show bV ∅;unfold LE pZ at*;rw[decide_eq_false_iff_not] at*;lia
def ltI {a₀:gX gE}(h0:IntKeys a₀):iI prog w A E s oneType' a₀ pZ:=by
 intro x y st Q hx hy hk hq;let⟨n,t,e1⟩:=h0 x hx;let⟨m,u,e2⟩:=h0 y hy;rw[lt'_eq];exact aC (wpS_get ?_);rw[hk,keyLt'_oneType,e1,e2];exact aC (wpS_lift (wpAny_attempt (oneLt_int #[rfl,?_])));have e:pZ x y=decide (n<m):=by unfold pZ;rw[e1,e2];rfl
 rw[e] at hq;show aJ hq
def rR (ho:s.heap.get? a=some (seqObj "list" vs.toArray n))(hI:IntsAre vs ns)(hsz:vs.length<=sizeLine)(h: ∀ (out:gX d4) (ID:d3 Int),IntsAre out.toList ID ->ID.Perm ns ->ID.Pairwise (· <= ·) ->P (.done (.ret .none)) {s with heap:=sortedHeap s.heap a vs out}): wpAny (model prog w) A (Builtin.«list.sort» #[[.ref a],[]]) P E s:=by
 exact DJ WF ho hsz (kd:=oneType') (λh2 Q hq=> ?_) (ltI hI.intKeys) λus hp hs=> ?_;let⟨v₁,v₂,dU,rfl⟩:gv λv₁ v₂ dU=>vs=v₁::v₂::dU:=by
  match vs,h2 with
  | [],h2=>simp at h2
  | [_],h2=>simp at h2
  | v₁::v₂::dU,_=>show#[v₁,v₂,dU,rfl]
 rw[keyKind_ints hI];show ax hq;have yN: ∀v,v∈us -> ∃n t,v= .int n t:=λv hv=>hI.all v (hp.mem_iff.mp hv);exact h us.toArray (us.map numOf) ⇑(intsAre_map us yN) ?_ ?_;have:=hp.map numOf;rwa [hI.nums] at this;rw[cc];exact hs.imp λ{x y} e=> ?_;unfold pZ at e;rw[decide_eq_false_iff_not] at e;simp only at e;lia
end TS
namespace L2
open PySem PySem.Spec PyProof.Rows
abbrev cf:=Sum Int Str
def lw:cf ->d4 ->Bool
 | .inl k,v=>Value.isInt k v
 | .inr x,v=>Value.isStrOf x v
def RU (w:World):cf ->Int
 | .inl k=>hashInt k
 | .inr x=>hashStr w x
theorem ca: ∀ {k:cf} {v:d4},lw k v=true ->(cJ λi t=>k=Sum.inl i /\ v=Value.int i t) \/ (cJ λx t=>k=Sum.inr x /\ v=Value.str x t)
 | .inl i,v,h=>by let⟨t,e⟩:=Value.isInt_shape (k:=i) (v:=v) h;show .inl #[i,t,rfl,e]
 | .inr x,v,h=>by let⟨t,e⟩:=Value.isStrOf_shape (x:=x) (v:=v) h;show .inr #[x,t,rfl,e]
def BH (i:Int)(t:Tok):lw (.inl i) (.int i t)=true:=by simp[lw,Value.isInt]
def BG (x:Str)(t:Tok):lw (.inr x) (.str x t)=true:=by simp[lw,Value.isStrOf]
def NY (a b:Int):decide ((Sum.inl a:cf)=Sum.inl b)=(a==b):=by by_cases e:a=b;subst e;simp;have h:¬(Sum.inl a:cf)=Sum.inl b:=λq=>e (Sum.inl.inj q);rw[bV h];show(beq_eq_false_iff_ne.mpr e).symm
def NV (a b:Str):decide ((Sum.inr a:cf)=Sum.inr b)=decide (a=b):=by by_cases e:a=b;subst e;simp;have h:¬(Sum.inr a:cf)=Sum.inr b:=λq=>e (Sum.inr.inj q);rw[bV h,bV e]
theorem NX (a:Int)(b:Str):decide ((Sum.inl a:cf)=Sum.inr b)=false:=bV (λq=>nomatch q)
theorem NW (a:Str)(b:Int):decide ((Sum.inr a:cf)=Sum.inl b)=false:=bV (λq=>nomatch q)
def ce (prog:R1)(w:World):PySem.KeyKind prog w cf where
 is:=lw
 hash:=RU w
 inj :=λv a b ha hb=>by
  rcases ca ha with⟨i,t,rfl,rfl⟩ | ⟨x,t,rfl,rfl⟩
  rcases ca hb with⟨j,u,rfl,e⟩ | ⟨y,u,rfl,e⟩
  injection e with e1 _;rw[e1];show nomatch e
  rcases ca hb with⟨j,u,rfl,e⟩ | ⟨y,u,rfl,e⟩
  show nomatch e
  injection e with e1 _;rw[e1]
 byValue:=λk v h=>by rcases ca h with⟨i,t,rfl,rfl⟩ | ⟨x,t,rfl,rfl⟩ <;>rfl
 pyHash:=λhv h=>by
  rcases ca hv with⟨i,t,rfl,rfl⟩ | ⟨x,t,rfl,rfl⟩
  show wpAny_pyHash_int h;show wpAny_pyHash_str h
 eqBool:=λhu hv h=>by
  rcases ca hu with⟨i,t,rfl,rfl⟩ | ⟨x,t,rfl,rfl⟩
  rcases ca hv with⟨j,u,rfl,rfl⟩ | ⟨y,u,rfl,rfl⟩
  rw[NY] at h;show wpAny_eqBool_int h;rw[NX] at h;show SeqAt.EqAt.int_str i t y u _ _ _ _ h;rcases ca hv with⟨j,u,rfl,rfl⟩ | ⟨y,u,rfl,rfl⟩
  rw[NW] at h;show SeqAt.EqAt.str_int x t j u _ _ _ _ h;rw[NV] at h;show wpAny_eqBool_str h
 «strs» :=λk x t v h=>by
  rcases ca h with⟨i,u,rfl,e⟩ | ⟨y,u,rfl,e⟩
  show nomatch e
  injection e with e1 _;subst e1;cases v<;>rfl
theorem vV (prog:R1)(w:World)(i:Int)(t:Tok):(ce prog w).is (.inl i) (.int i t)=true:=BH i t
theorem vU (prog:R1)(w:World)(x:Str)(t:Tok):(ce prog w).is (.inr x) (.str x t)=true:=BG x t
set_option genInjectivity true in
inductive V where
  | dY | bl (b:Bool) | int (i:Int) | str (x:Str) | y_ (b:Array UInt8) | AA (b:UInt64) | ref (a:Addr) | ty (n:String)
 deriving DecidableEq
def RelV:V ->d4 ->Prop
 | .dY,u=>u=Value.none
 | .bl b,u=>u=Value.bool b
 | .int i,u=> ∃t,u=Value.int i t
 | .str x,u=> ∃t,u=Value.str x t
 | .y_ b,u=> ∃t,u=Value.bytes b t
 | .AA b,u=> ∃t,u=Value.float b t
 | .ref a,u=>u=Value.ref a
 | .ty n,u=>u=Value.type n
abbrev cD:d3 V ->d3 d4 ->Prop:=Paired RelV
theorem cD.length (r:cD xs us):xs.length=us.length:=Paired.length r
theorem cD.get: ∀ {xs:d3 V} {us:d3 d4} {i:Nat} {x:V},cD xs us ->xs[i]? =some x -> ∃u,us[i]? =some u /\ RelV x u
 | _,_,_,_, .nil,e=>by simp at e
 | _,_,0,_, .cons r _,e=>by simp at e;subst e;show#[_,rfl,r]
 | _,_,i+1,x, .cons _ t,e=>by let⟨u,h1,h2⟩:=cD.get (i:=i) (x:=x) t ⇑e;show#[u, ⇑h1,h2]
theorem cD.set {x:V}{u:d4}(r:RelV x u): ∀ {xs:d3 V} {us:d3 d4} (i:Nat),cD xs us ->cD (xs.set i x) (us.set i u)
 | _,_,_, .nil=> .nil
 | _,_,0, .cons _ t=> .cons r t
 | _,_,i+1, .cons q t=> .cons q (cD.set r i t)
theorem cD.append: ∀ {xs ys:d3 V} {us ws:d3 d4},cD xs us ->cD ys ws ->cD (xs++ys) (us++ws)
 | _,_,_,_, .nil,s=>s
 | _,_,_,_, .cons r t,s=> .cons r (cD.append t s)
theorem cD.take: ∀ {xs:d3 V} {us:d3 d4} (n:Nat),cD xs us ->cD (xs.take n) (us.take n)
 | _,_,0,_=> .nil
 | _,_,_+1, .nil=> .nil
 | _,_,n+1, .cons r t=> .cons r (cD.take n t)
theorem cD.drop: ∀ {xs:d3 V} {us:d3 d4} (n:Nat),cD xs us ->cD (xs.drop n) (us.drop n)
 | _,_,0,r=>r
 | _,_,_+1, .nil=> .nil
 | _,_,n+1, .cons _ t=>cD.drop n t
def k7:eB V ->eB d4 ->Prop
 | some v,some u=>RelV v u
 | none,none=>True
 | _,_=>False
def KV {κ:Type}:d3 (κ×V) ->d3 (κ×d4) ->Prop:=Paired λ(p:κ×V) (q:κ×d4)=>p.1=q.1 /\ RelV p.2 q.2
def kV:cf ->V
 | .inl i=> .int i
 | .inr x=> .str x
def k8 (h:Heap)(a:gi)(its:gX d4):Prop:= ∃o,h.get? a=some o /\ o.cls= .type "tuple" /\ ∃n,o.data= .seq its n /\ o.dict=none
theorem k8.t (x:k8 h a its):IsTup h a its:=let ⟨o,e,c,n,d,_⟩:=x;#[o,e,c,n,d]
theorem k8.lt (x:k8 h a its):a<h.objs.size:=let ⟨_,e,_⟩:=x;aF e
theorem k8.new (h:Heap)(its:gX d4):k8 (h.push {cls:= .type "tuple",data:= .seq its}) h.objs.size its:=#[_,aM _ rfl,rfl,_,rfl,rfl]
inductive NK where
 | key (k:cf) | seq (l:List NK)
noncomputable instance:DecidableEq NK:=λa b=>Classical.propDecidable (a=b)
mutual
def fM (h:Heap):NK ->d4 ->Prop
 | .key k,v=>lw k v=true
 | .seq l,v=>cJ λa its=>dh (v= .ref a) (k8 h a its) (dA h l its.toList)
def dA (h:Heap):d3 NK ->d3 d4 ->Prop
 | [],vs=>vs= []
 | k::r,vs=>cJ λv t=>dh (vs=v::t) (fM h k v) (dA h r t)
end
mutual
def fP:NK ->Nat
 | .key _=>0
 | .seq l=>lN l+1
def lN:d3 NK ->Nat
 | []=>0
 | k::r=>max (fP k) (lN r)
end
mutual
def yh (w:World):NK ->Int
 | .key k=>RU w k
 | .seq l=>reduceHash (Builtin.Tuple.tupleHashOf (iy w l))
def iy (w:World):d3 NK ->d3 Int
 | []=> []
 | k::r=>yh w k::iy w r
end
mutual
def pc:NK ->Nat
 | .key _=>1
 | .seq l=>gg l+1
def gg:d3 NK ->Nat
 | []=>0
 | k::r=>pc k+gg r
end
def k8.uniq (p:k8 h a x)(q:k8 h a y):x=y:=by let⟨o,e,_,n,d,_⟩:=p;let⟨o',e',_,n',d',_⟩:=q;rw[e] at e';cases e';rw[d] at d';cases d';rfl
def k8.keeps (p:k8 h a its)(e:h.get? d=some o)(ed:o.data= .dict es ep)(sb:Heap.SameBut d h h'):k8 h' a its:=by
 let⟨o',e',c,n,dd,z⟩:=p;have ne:a≠d:=λx=>by subst x;rw[e] at e';cases e';rw[ed] at dd;cases dd
 show#[o',by rw[sb.2 a ne];show e',c,n,dd,z]
mutual
theorem fM.inj {h:Heap}: ∀ (k m:NK) (v:d4),fM h k v ->fM h m v ->k=m
 | .key a, .key b,v,h1,h2=>by
  simp![fM] at h1 h2;rcases ca h1 with⟨i,t,rfl,rfl⟩ | ⟨x,t,rfl,rfl⟩
  rcases ca h2 with⟨j,u,rfl,e⟩ | ⟨y,u,rfl,e⟩
  injection e with e1 _;rw[e1];show nomatch e
  rcases ca h2 with⟨j,u,rfl,e⟩ | ⟨y,u,rfl,e⟩
  show nomatch e
  injection e with e1 _;rw[e1]
 | .key a, .seq m,v,h1,h2=>by simp![fM] at h1 h2;let⟨b,its,rfl,_⟩:=h2;rcases ca h1 with⟨i,t,rfl,e⟩ | ⟨x,t,rfl,e⟩ <;>cases e
 | .seq l, .key b,v,h1,h2=>by simp![fM] at h1 h2;let⟨a,its,rfl,_⟩:=h1;rcases ca h2 with⟨i,t,rfl,e⟩ | ⟨x,t,rfl,e⟩ <;>cases e
 | .seq l, .seq m,v,h1,h2=>by simp![fM] at h1 h2;let⟨a,its,rfl,t1,r1⟩:=h1;let⟨b,its',e,t2,r2⟩:=h2;cases e;cases t1.uniq t2;rw[dA.inj l m _ r1 r2]
theorem dA.inj {h:Heap}: ∀ (l m:d3 NK) (vs:d3 d4),dA h l vs ->dA h m vs ->l=m
 | [],[],_,_,_=>rfl
 | [],k::r,vs,h1,h2=>by simp![dA] at h1 h2;subst h1;let⟨_,_,e,_⟩:=h2;cases e
 | k::r,[],vs,h1,h2=>by simp![dA] at h1 h2;subst h2;let⟨_,_,e,_⟩:=h1;cases e
 | k::r,k'::r',vs,h1,h2=>by simp![dA] at h1 h2;let⟨v,t,rfl,a,b⟩:=h1;let⟨_,_,e,a',b'⟩:=h2;cases e;rw[fM.inj k k' _ a a',dA.inj r r' _ b b']
end
mutual
theorem fM.keeps {h h':Heap}{d:gi}{o:Obj}{es:gX DictEntry}{ep:Nat}(e:h.get? d=some o)(ed:o.data= .dict es ep)(sb:Heap.SameBut d h h'): ∀ (k:NK) (v:d4),fM h k v ->fM h' k v
 | .key k,v,h1=>h1
 | .seq l,v,h1=>by simp![fM] at h1 ⊢;let⟨a,its,rfl,t1,r1⟩:=h1;show#[a,its,rfl,t1.keeps e ed sb,dA.keeps e ed sb l _ r1]
theorem dA.keeps {h h':Heap}{d:gi}{o:Obj}{es:gX DictEntry}{ep:Nat}(e:h.get? d=some o)(ed:o.data= .dict es ep)(sb:Heap.SameBut d h h'): ∀ (l:d3 NK) (vs:d3 d4),dA h l vs ->dA h' l vs
 | [],_,h1=>h1
 | k::r,vs,h1=>by simp![dA] at h1 ⊢;let⟨v,t,rfl,a,b⟩:=h1;show#[v,t,rfl,fM.keeps e ed sb k v a,dA.keeps e ed sb r t b]
end
theorem dA.len {h:Heap}: ∀ {l:d3 NK} {vs:d3 d4},dA h l vs ->l.length=vs.length
 | [],_,h1=>by simp![dA] at h1;subst h1;rfl
 | k::r,vs,h1=>by simp![dA] at h1;let⟨v,t,rfl,a,b⟩:=h1;simp[dA.len b]
theorem kH: ∀ {l:d3 NK} {k:NK},k∈l ->fP k<=lN l
 | k'::r,k,h=>by simp![lN];obtain rfl | h:=ar.mp h;show Nat.le_max_left _ _;show aS (kH h) (Nat.le_max_right _ _)
theorem mB {w:World}: ∀ (a b:d3 NK),iy w (a++b)=iy w a++iy w b
 | [],_=>rfl
 | k::r,b=>by simp![List.cons_append,iy,mB r b]
theorem mC: ∀ (a b:d3 NK),gg (a++b)=gg a+gg b
 | [],_=>by simp[gg]
 | k::r,b=>by simp![List.cons_append,gg,mC r b];omega
theorem Aa {prog:R1}{w:World}: ∀ (n:Nat) (k:NK) (v:d4) (A:Around) (E:d4 ->d5 ->Prop) (s:d5) (Q:Int ->d5 ->Prop),fP k<=n ->A.units+n<cLine ->fM s.heap k v ->Q (yh w k) {s with toks:=s.toks+pc k} ->wpAny (model prog w) A (pyHash v) Q E s
 | n, .key k,v,A,E,s,Q,hn,hu,hk,h=>(ce prog w).pyHash (k:=k) hk h
 | 0, .seq l,v,A,E,s,Q,hn,hu,hk,h=>by simp![fP] at hn;omega
 | n + 1, .seq l,v,A,E,s,Q,hn,hu,hk,h=>by
  simp![fM] at hk;let⟨a,its,rfl,tu,hl⟩:=hk;simp![fP] at hn;have hT:s.TypeIs (.ref a) "tuple" :=by let⟨o,e,c,m,d,z⟩:=tu;show#[o,e,c]
  change wpAny (model prog w) A (pyHashByItsType (.ref a)) Q E s;exact W.pyHash_slot hT F.slot_tuple_hash F.entry_tuple_hash (F.args_tuple_hash_1 _) rfl (.inr (by omega)) ?_;let⟨o,e,c,m,d,z⟩:=tu;change wpAny (model prog w) A.in1 (Builtin.Tuple.tupleItemsOf (.ref a) >>=λits=>(forIn its (#[]:gX Int) λx hs=>pyHash x >>=λy=>pure (ForInStep.yield (hs.push y))) >>=λhs=>retInt (Builtin.Tuple.tupleHashOf hs.toList)) _ E s;exact ae (wpAny_tupleItemsOf e d (ae ?_));rw[<- Array.forIn_toList];exact wpAny_forIn_list _ (λdU b s'=>cJ λdone left=>fh (l=done++left) (dA s.heap left dU) (b.toList=iy w done) (s'= {s with toks:=s.toks+gg done})) _ ?_ ?_ its.toList #[] #[[],l,rfl,hl,rfl,rfl]
  .rintro x dU b s' ⟨done,left,rfl,qd,hb,rfl⟩;cases left with
   | nil=>simp![dA] at qd;cases qd
   | cons k left=>
    simp![dA] at qd;let⟨v,t,e2,hk,hr⟩:=qd;cases e2;have hd:=kH (l:=done++k::left) (k:=k) (by simp);exact ae (Aa n k x A.in1 E _ _ (by omega) (by change A.units+1+n<cLine;omega) hk ?_);exact ax #[done++ [k],left,by simp,hr,?_,?_];rw[Array.toList_push,hb,mB];rfl
    .rw[mC];change _=({s with toks:=s.toks+(gg done+(pc k+0))}:d5)
     rw[Nat.add_zero,Nat.add_assoc]
  .rintro b s' ⟨done,left,rfl,qd,hb,rfl⟩;cases left with
   | cons k left=>simp![dA] at qd;let⟨_,_,e2,_⟩:=qd;cases e2
   | nil=>exact ae (wpAny_mkInt (ax #[_,_,rfl,?_]));rw[List.append_nil] at h;rw[hb];show h
theorem dA.at {h:Heap}: ∀ {l:d3 NK} {vs:d3 d4},dA h l vs -> ∀ (j:Nat) (hj:j<vs.length),l.getD j (.key (.inl 0))∈l /\ fM h (l.getD j (.key (.inl 0))) vs[j]
 | [],vs,h1,j,hj=>by simp![dA] at h1;subst h1;simp at hj
 | k ::r,vs,h1,j,hj=>by
  simp![dA] at h1;let⟨v,t,rfl,a,b⟩:=h1;cases j with
  | zero=>show#[by simp, ⇑a]
  | succ j=>let⟨q1,q2⟩:=dA.at b j ⇑hj;show#[av _ ⇑q1, ⇑q2]
def NH (l m:d3 NK):decide (NK.seq l=NK.seq m)=((List.range (min l.length m.length)).all (λj=>decide (l.getD j (.key (.inl 0))=m.getD j (.key (.inl 0)))) && l.length==m.length):=by
 by_cases e:l=m;subst e;simp;have e1:decide (NK.seq l=NK.seq m)=false:=bV λx=>e (by cases x;rfl);rw[e1];by_cases hl:l.length=m.length;symm;rw[Bool.and_eq_false_iff];exact .inl ?_;cases hh:(List.range (min l.length m.length)).all (λj=>decide (l.getD j (.key (.inl 0))=m.getD j (.key (.inl 0)))) with
 | false=>rfl
 | true=>exact absurd ?_ e;rw[List.all_eq_true] at hh;exact List.ext_getElem hl λj h1 h2=> ?_;have:=hh j (bS.mpr (by omega));have:=of_decide_eq_true this;simpa [List.getD,h1,h2] using this
 symm;rw[Bool.and_eq_false_iff];show .inr ⇑hl
theorem Ln {s:d5}: ∀ (n:Nat) (A:Around) (k m:NK) (u v:d4),fP k<=n ->A.units+n<cLine ->fM s.heap k u ->fM s.heap m v ->SeqAt.EqAt A s u v (decide (k=m))
 | n,A, .key a, .key b,u,v,hn,hu,h1,h2=>by
  have e:decide (NK.key a=NK.key b)=decide (a=b):=by by_cases c:a=b;subst c;simp;rw[bV c];show bV λx=>c (by cases x;rfl)
  rw[e];show λprog w E Q q=>(ce prog w).eqBool (a:=a) (b:=b) h1 h2 q
 | n,A, .key a, .seq m,u,v,hn,hu,h1,h2=>by
  simp![fM] at h1 h2;let⟨b,its,rfl,tu,_⟩:=h2;rw[bV (by intro x;cases x)];rcases ca h1 with⟨i,t,rfl,rfl⟩ | ⟨x,t,rfl,rfl⟩
  show SeqAt.EqAt.int_tuple i t tu.t (by omega);show SeqAt.EqAt.str_tuple x t tu.t (by omega)
 | n,A, .seq l, .key b,u,v,hn,hu,h1,h2=>by
  simp![fM] at h1 h2;let⟨a,its,rfl,tu,_⟩:=h1;rw[bV (by intro x;cases x)];rcases ca h2 with⟨i,t,rfl,rfl⟩ | ⟨x,t,rfl,rfl⟩
  show SeqAt.EqAt.tuple_int i t tu.t (by omega);show SeqAt.EqAt.tuple_str x t tu.t (by omega)
 | 0,A, .seq l, .seq m,u,v,hn,hu,h1,h2=>by simp![fP] at hn;omega
 | n + 1,A, .seq l, .seq m,u,v,hn,hu,h1,h2=>by
  have JJ:=h1;have CM:=h2;simp![fM] at h1 h2;let⟨a,its,rfl,tu,r1⟩:=h1;let⟨b,its',rfl,tu',r2⟩:=h2;simp![fP] at hn;by_cases wu:a=b;subst wu;rw[fM.inj _ _ _ JJ CM,cb rfl];show SeqAt.EqAt.same _;exact SeqAt.EqAt.of_refs wu ?_;have z:=SeqAt.RcAt.tuples (A:=A) (s:=s) (e:=λj=>decide (l.getD j (.key (.inl 0))=m.getD j (.key (.inl 0)))) tu.t tu'.t (by omega) λj g1 g2=>by let⟨q1,q2⟩:=r1.at j ⇑g1;let⟨q3,q4⟩:=r2.at j ⇑g2;have:=kH q1;show Ln n A.in1 _ _ _ _ (by omega) (by change A.units+1+n<cLine;omega) ⇑q2 ⇑q4
  rw[NH,r1.len,r2.len];simpa using z
theorem vR {prog:R1}{w:World}: ∀ (n:Nat) (k:NK) (v:d4) (A:Around) (E:d4 ->d5 ->Prop) (s:d5) (Q:Bool ->d5 ->Prop),fP k<=n ->fM s.heap k v ->Q true s ->wpAny (model prog w) A (eqIsQuiet n v) Q E s
 | n, .key k,v,A,E,s,Q,hn,hk,h=>by rw[eqIsQuiet_byValue n ((ce prog w).byValue k v hk)];show ax h
 | 0, .seq l,v,A,E,s,Q,hn,hk,h=>by simp![fP] at hn;omega
 | n + 1, .seq l,v,A,E,s,Q,hn,hk,h=>by
  simp![fM] at hk;let⟨a,its,rfl,tu,hl⟩:=hk;simp![fP] at hn;let⟨o,e,c,m,d,z⟩:=tu;have hT:s.TypeIs (.ref a) "tuple" :=#[o,e,c]
  rw[eqIsQuiet.eq_2];exact ae (wpAny_specialOf hT F.slot_tuple_eq.lookup ?_);exact ae (wpAny_isInstance hT isSubtype_tuple_tuple ?_);simp![Bool.not_true,ay,be];exact ae (wpAny_seqItems e d (ae ?_));change wpAny _ _ (forIn its ((none,()):eB Bool×Unit) _) _ _ _;rw[<- Array.forIn_toList];exact wpAny_forIn_list _ (λdU r s'=>r.1=none /\ s'=s /\ ∃left,dA s.heap left dU /\ ∀k∈left,fP k<=n) _ ?_ ?_ its.toList (none,()) #[rfl,rfl,l,hl,λk hk=>by have:=kH hk;omega];rintro x dU r s' ⟨hr,rfl,left,h1,h2⟩;cases left with
  | nil=>simp![dA] at h1;cases h1
  | cons k left=>simp![dA] at h1;let⟨v,t,e2,hk,ht⟩:=h1;cases e2;exact ae (vR n k x A E s' _ (h2 k (by simp)) hk ?_);show ax #[rfl,rfl,left,ht,λk hk=>h2 k (by simp[hk])]
  rintro⟨r,u⟩ s' ⟨hr,rfl,_⟩;cases hr;show ax h
noncomputable def gh (prog:R1) (w:World):HeapKind prog w NK where
 is h k a:=fM h k (.ref a) /\ fP k<=7
 hash:=yh w
 draws:=pc
 room A:=A.units+7<cLine
 inj h1 h2:=fM.inj _ _ _ h1.1 h2.1
 keeps h1 e ed sb:=#[fM.keeps e ed sb _ _ h1.1,h1.2]
 pyHash hu h1 h:=Aa 7 _ _ _ _ _ _ h1.2 hu h1.1 h
 eqBool hu h1 h2 h:=Ln 7 _ _ _ _ _ h1.2 hu h1.1 h2.1 _ _ _ _ h
 quiet h1 h:=vR 8 _ _ _ _ _ _ (Nat.le_succ_of_le h1.2) h1.1 h
set_option genInjectivity true in
inductive HO where
 /-- a list -/
 | lst (xs:List V)
 /-- a tuple (never changes) -/
 | tup (xs:List V)
 /-- a dict Kj keys are ints and texts;one Kj keys are tuples of ints and texts (Pd empty one is both) -/
 | dK (kvs:List (cf×V)) | dT (kvs:List (List cf×V))
 /-- a dict Kj keys are nested tuples:key,its address,value -/
 | dN (kvs:List (NK×Addr×V))
 /-- a set of ints:its members,its size -/
 | set (S:Int ->Bool) (n:Nat)
 /-- an instance of Pd class at C,its dict at dx,its attributes -/
 | ins (C dx:Addr) (fs:List (Str×V))
 /-- Pd dict of Pd instance at x -/
 | own (x:Addr)
 /-- Pd dict of an exception -/
 | xd (fs:List (Str×V))
 /-- a bound method,f of x -/
 | met (f x:Addr)
 /-- a range object lo,lo+1, .. below hi -/
 | Pg (lo hi:Int)
 /-- a QD aap is known to Pd object (Pd Wi;a dict while a loop walks it):read,never written while it is so -/
 | jM (o:Obj) (u:HO)
 /-- a code Rz table -/
 | Ky (ps:Array Value)
 /-- any other QD,by aal is true of its one object (a def of _X own:aaM a S n:=HO.ext λh=> ..) -/
 | ext (φ:Heap ->Prop)
abbrev Hp:=gi ->eB HO
def cO (H:Hp)(a:gi)(o:HO):Hp:=λb=>if b=a then some o else H b
def bI:cO H a o a=some o:=by unfold cO;rw[ap rfl]
def bC (h:b≠a):cO H a o b=H b:=by unfold cO;rw[ai h]
def RD {H:Hp}(h:H a=some o)(h':H b=some u)(d:o≠u):a≠b:=by intro e;subst e;rw[h] at h';show d (bm h')
def dc {H:Hp}(h:H a=some o)(h':H b=none):a≠b:=by intro e;subst e;rw[h] at h';cases h'
section
variable (P:R1)(w:World)
def dn (H:Hp)(h:Heap)(a:gi):HO ->Prop
 | .lst xs=>xs.length<=sizeLine /\ cJ λ(its:d3 d4) (n:Nat)=>cD xs its /\ h.get? a=some {cls:= .type "list",data:= .seq its.toArray n}
 | .tup xs=>xs.length<=sizeLine /\ ∃its:d3 d4,cD xs its /\ k8 h a its.toArray
 | .dK kvs=>kvs.length<=sizeLine /\ (a==sysModules)=false /\ ∃vs,KV kvs vs /\ h.DictOf (ce P w) a vs
 | .dT kvs=>kvs.length<=sizeLine /\ (a==sysModules)=false /\ ∃xs:d3 (d3 cf×gi×d4),Paired (λ(p:d3 cf×V) (q:d3 cf×gi×d4)=>p.1=q.1 /\ H q.2.1=some (.tup (p.1.map kV)) /\ RelV p.2 q.2.2) kvs xs /\∃o es ep,h.get? a=some o /\ o.ExactDict /\ o.data= .dict es ep /\ es.toList=xs.map (entryOfKey (tupleKind (ce P w))) /\ (xs.map (·.1)).Nodup
 | .dN kvs=>kvs.length<=sizeLine /\ (a==sysModules)=false /\ ∃xs:d3 (NK×gi×d4),Paired (λ(p:NK×gi×V) (q:NK×gi×d4)=>p.1=q.1 /\ p.2.1=q.2.1 /\ RelV p.2.2 q.2.2) kvs xs /\gv λo es ep=>ja (h.get? a=some o) o.ExactDict (o.data= .dict es ep) (es.toList=xs.map (entryOfKey (gh P w))) ((xs.map (·.1)).Nodup)
 | .set S n=>h.SetOf (intKind P w) a S n
 | .ins C dx fs=>H dx=some (.own a) /\ fs.length<=1000 /\ dx≠a /\ h.get? a=some (W.instObj C dx) /\∃mA,h.Ns1 dx mA /\ (∀f,k7 (fs.lookup f) (mA f)) /\ PySem.Within mA (fs.map (·.1))
 | .own _=> ∃o,h.get? a=some o
 | .xd fs=> ∃mA,h.Ns1 a mA /\ ∀f,k7 (fs.lookup f) (mA f)
 | .Pg lo hi=>gv λt u v=>h.get? a=some {cls:= .type "range",data:= .fields (List.toArray [.int lo t, .int hi u, .int 1 v])}
 | .jM o u=>h.get? a=some o /\ dn H h a u
 | .Ky ps=>h.get? a=some {cls:= .none,data:= .fields ps}
 | .met f x=>h.get? a=some (W.methodObj (.ref f) (.ref x))
 | .ext φ=>φ h /\ (∃o,h.get? a=some o) /\ ∀h1 h2:Heap,φ h1 ->(∀o,h1.get? a=some o ->h2.get? a=some o) ->φ h2
def k9 (H:Hp)(h:Heap):Prop:= ∀a o,H a=some o ->dn P w H h a o
end
def dn.lt (x:dn P w H h a o):a<h.objs.size:=by
 cases o with
 | lst xs=>let⟨_,_,_,_,e⟩:=x;show aF e
 | tup xs=>let⟨_,_,_,p⟩:=x;show p.lt
 | dK kvs=>let⟨_,_,_,_,o,_,_,e,_⟩:=x;show aF e
 | dT kvs=>let⟨_,_,_,_,o,_,_,e,_⟩:=x;show aF e
 | dN kvs=>let⟨_,_,_,_,o,_,_,e,_⟩:=x;show aF e
 | set S n=>let⟨o,_,_,_,e,_⟩:=x;show aF e
 | ins C dx fs=>let⟨_,_,_,e,_⟩:=x;show aF e
 | own y=>let⟨_,e⟩:=x;show aF e
 | xd fs=>let⟨_,⟨_,_,_,e,_⟩,_⟩:=x;show aF e
 | Pg lo hi=>let⟨_,_,_,e⟩:=x;show aF e
 | jM ob u=>let⟨e,_⟩:=x;show aF e
 | Ky ps=>show aF (show h.get? a=some _ from x)
 | met f y=>show aF (show h.get? a=some _ from x)
 | ext φ=>let⟨_,⟨_,e⟩,_⟩:=x;show aF e
theorem Paired.NN {α β:Type}{F G:α ->β ->Prop}: ∀ {l₁:d3 α} {l₂:d3 β},Paired F l₁ l₂ ->(∀a b,F a b ->G a b) ->Paired G l₁ l₂
 | _,_, .nil,_=> .nil
 | _,_, .cons r t,f=> .cons (f _ _ r) (Paired.NN t f)
def dn.pE (x:dn P w H h a o)(k: ∀b u,(b=a \/ H b=some (.own a)) ->h.get? b=some u ->h'.get? b=some u)(ho: ∀b,H b=some (.own a) ->H' b=some (.own a))(ht: ∀b xs,H b=some (.tup xs) ->H' b=some (.tup xs)):dn P w H' h' a o:=by
 induction o with
 | lst xs=>let⟨z,its,n,r,e⟩:=x;show#[z,its,n,r,k _ _ (.inl rfl) e]
 | tup xs=>let⟨z,its,r,ob,e,c⟩:=x;show#[z,its,r,ob,k _ _ (.inl rfl) e,c]
 | dK kvs=>let⟨z,y,vs,r,ob,es,ep,e,c⟩:=x;show#[z,y,vs,r,ob,es,ep,k _ _ (.inl rfl) e,c]
 | dT kvs=>let⟨z,y,xs,r,ob,es,ep,e,c⟩:=x;show#[z,y,xs,Paired.NN r λp q z=>#[z.1,ht _ _ z.2.1,z.2.2],ob,es,ep,k _ _ (.inl rfl) e,c]
 | dN kvs=>let⟨z,y,xs,r,ob,es,ep,e,c1,c2,c3,c4⟩:=x;show#[z,y,xs,r,ob,es,ep,k _ _ (.inl rfl) e,c1,c2,c3,c4]
 | set S n=>let⟨ob,es,ep,t,e,c⟩:=x;show#[ob,es,ep,t,k _ _ (.inl rfl) e,c]
 | ins C dx fs=>let⟨d,z,ne,e,mA,⟨od,es,ep,e2,c⟩,r⟩:=x;show#[ho _ d,z,ne,k _ _ (.inl rfl) e,mA,#[od,es,ep,k _ _ (.inr d) e2,c],r]
 | own y=>let⟨ob,e⟩:=x;show#[ob,k _ _ (.inl rfl) e]
 | xd fs=>let⟨mA,⟨od,es,ep,e,c⟩,r⟩:=x;show#[mA,#[od,es,ep,k _ _ (.inl rfl) e,c],r]
 | Pg lo hi=>let⟨t,u,v,e⟩:=x;show#[t,u,v,k _ _ (.inl rfl) e]
 | jM ob u ih=>let⟨e,q⟩:=x;show#[k _ _ (.inl rfl) e,ih q]
 | Ky ps=>have e:h.get? a=some {cls:= .none,data:= .fields ps}:=x;change h'.get? a=some {cls:= .none,data:= .fields ps};show k a _ (.inl rfl) e
 | met f y=>have e:h.get? a=some (W.methodObj (.ref f) (.ref y)):=x;change h'.get? a=some (W.methodObj (.ref f) (.ref y));show k a _ (.inl rfl) e
 | ext φ=>let⟨p,⟨o,e⟩,st⟩:=x;show#[st _ _ p λo q=>k _ _ (.inl rfl) q,#[o,k _ _ (.inl rfl) e],st]
theorem k9.lt (x:k9 P w H h)(e:H a=some o):a<h.objs.size:=(x a o e).lt
def k9.fresh {a:gi}(x:k9 P w H h)(e:h.objs.size<=a):H a=none:=by
 cases q:H a with
 | none=>rfl
 | some u=>show absurd (bH (x.lt q) e) (cg _)
theorem k9.kept (x:k9 P w H h)(k: ∀b u,h.get? b=some u ->h'.get? b=some u):k9 P w H h':=λa o e=>(x a o e).pE (λb u _ q=>k b u q) (λ_ q=>q) λ_ _ q=>q
theorem k9.laid {a:gi}(x:k9 P w H h)(k: ∀b u,h.get? b=some u ->h'.get? b=some u)(hp:h.objs.size<=a)(new:dn P w (cO H a o) h' a o):k9 P w (cO H a o) h':=λb u e=>by have hn:=x.fresh hp;by_cases hb:b=a;subst hb;rw[bI] at e;cases e;show new;rw[bC hb] at e;show(x b u e).pE (λc v _ q=>k c v q) (λc q=>by rw[bC (dc q hn)];show q) λc xs q=>by rw[bC (dc q hn)];show q
def Rd (H:Hp)(a:gi)(u:HO):Prop:=H a=some u \/ ∃o,H a=some (.jM o u)
def Rd.ok (r:Rd H a u)(x:k9 P w H h):dn P w H h a u:=by obtain r | ⟨o,r⟩:=r;show x a u r;let⟨_,q⟩:=x a _ r;show q
def TK:eB HO ->Prop
 | some (.lst _)=>True
 | some (.dK _)=>True
 | some (.dT _)=>True
 | some (.dN _)=>True
 | some (.set _ _)=>True
 | some (.ins _ _ _)=>True
 | some (.ext _)=>True
 | _=>False
theorem k9.write (ok:k9 P w H h)(mu:TK (H x))(he:e=x \/ H e=some (.own x))(k: ∀b u,b≠e ->h.get? b=some u ->h'.get? b=some u)(PJ: ∃u,h'.get? e=some u)(new:dn P w (cO H x o') h' x o'):k9 P w (cO H x o') h':=λb u q=>by
 have RB: ∀c y,H c=some (.own y) ->c≠x:=λc y r z=>by subst z;rw[r] at mu;show mu
 have WW: ∀c xs,H c=some (.tup xs) ->c≠x:=λc xs r z=>by subst z;rw[r] at mu;show mu
 by_cases hb:b=x;subst hb;rw[bI] at q;cases q;show new;rw [bC hb] at q;by_cases Ox:b=e;have q':H b=some (.own x):=by obtain z | z:=he;show absurd (Ox.trans z) hb;rw[Ox];show z
 rw[q] at q';cases q';let⟨v,hv⟩:=PJ;show#[v,by rw[Ox];show hv];exact(ok b u q).pE (λc v hc r=>k c v ?_ r) (λc r=>by rw[bC (RB c b r)];show r) λc xs r=>by rw[bC (WW c xs r)];show r
 obtain rfl | hc:=hc;show Ox;rintro rfl;obtain z | z:=he;show RB c b hc z;rw[hc] at z;cases z;show hb rfl
structure Un (fs ex:List Addr)(H H':Hp)(h h':Heap):Prop where
 keep: ∀b o,h.get? b=some o ->H b=none ->b∉fs ->b∉ex ->h'.get? b=some o
 slot: ∀b o,h.get? b=some o ->H b=none ->b∈fs ->b∉ex -> ∃sl,h'.get? b=some {o with slots:=sl}
 free: ∀b o,h.get? b=some o ->H b=none ->b∉ex ->H' b=none
 there: ∀b o,h.get? b=some o ->b∉ex -> ∃o',h'.get? b=some o'
 qZ: ∀b xs,H b=some (.tup xs) ->H' b=some (.tup xs)
 oP: ∀b o u,H b=some (.jM o u) ->H' b=some (.jM o u)
 q_: ∀b ps,H b=some (.Ky ps) -> ∃more,H' b=some (.Ky (ps++more))
section
variable {fs B0 ex ex':d3 gi}{H H1 H2:Hp}{h h1 h2 h':Heap}{a x e:gi}{o:HO}
def Un.any (u:Un fs ex H H1 h h1)(q:h.get? b=some ob)(n:H b=none)(hx:b∉ex): ∃sl,h1.get? b=some {ob with slots:=sl}:=by by_cases hb:b∈fs;show u.slot b ob q n hb hx;show#[ob.slots,u.keep b ob q n hb hx]
theorem Un.kept (k: ∀b u,h.get? b=some u ->h'.get? b=some u):Un fs ex H H h h':=#[λb ob q _ _ _=>k b ob q,λb ob q _ _ _=>#[ob.slots,k b ob q],λ_ _ _ n _=>n,λb ob q _=>#[ob,k b ob q],λ_ _ q=>q,λ_ _ _ q=>q,λ_ ps q=>#[#[],by rw[q];simp]]
theorem Un.refl:Un fs ex H H h h:=Un.kept λ_ _ q=>q
theorem Un.laid (k: ∀b u,h.get? b=some u ->h'.get? b=some u)(hp:h.objs.size<=a)(hn:H a=none):Un fs ex H (cO H a o) h h' where
 keep:=λb u q _ _ _=>k b u q
 slot:=λb u q _ _ _=>#[u.slots,k b u q]
 free:=λb u q n _=>by rw[bC (a5 (bH (aF q) hp))];show n
 there:=λb u q _=>#[u,k b u q]
 qZ:=λb xs q=>by rw[bC (dc q hn)];show q
 oP:=λb u xs q=>by rw[bC (dc q hn)];show q
 q_:=λb ps q=>#[#[],by rw[bC (dc q hn),q];simp]
def Un.write (mu:TK (H x))(he:e=x \/ H e=some (.own x))(k: ∀b u,b≠e ->h.get? b=some u ->h'.get? b=some u)(PJ: ∃u,h'.get? e=some u):Un fs ex H (cO H x o) h h':=by
 have hx: ∀b,H b=none ->b≠x:=λb n z=>by subst z;rw[n] at mu;show mu
 have hb: ∀b,H b=none ->b≠e:=λb n z=>by subst z;obtain r | r:=he;show hx b n r;rw[n] at r;cases r
 have hm: ∀b u,H b=some u ->¬TK (some u) ->b≠x:=λb u q nm z=>by subst z;rw[q] at mu;show nm mu
 exact#[λb u q n _ _=>k b u (hb b n) q,λb u q n _ _=>#[u.slots,k b u (hb b n) q],λb u q n _=>by rw[bC (hx b n)];show n,λb u q _=> ?_,λb xs q=>by rw[bC (hm b _ q λz=>z)];show q,λb u xs q=>by rw[bC (hm b _ q λz=>z)];show q,λb ps q=>#[#[],by rw[bC (hm b _ q λz=>z),q];simp]];by_cases Ox:b=e;subst Ox;show PJ;show#[u,k b u Ox q]
end
def Uu (h:Heap)(H:Hp):d3 gi:=(List.range h.objs.size).filter λa=>(H a).isSome
def uA (h:Heap)(H:Hp):Heap:=W.hideAll h (Uu h H)
theorem BU (h:Heap)(H:Hp):(uA h H).objs.size=h.objs.size:=W.hideAll_size _ _
theorem FY (e:h.get? b=some o)(n:H b=none):(uA h H).get? b=some o:=W.hideAll_get _ e λhm=>by have q:(H b).isSome=true:=(aP.mp hm).2;rw[n] at q;simp at q
def IB (e:(uA h H).get? b=some o):h.get? b=some o /\ H b=none:=by
 have e':h.get? b=some o:=W.of_hideAll (Uu h H) e;exact#[e',?_];cases q:H b with
 | none=>rfl
 | some x=>have hm:b∈Uu h H:=aP.mpr #[bS.mpr (aF e'),by simp[q]];have z:(uA h H).get? b=none:=W.hideAll_none (Uu h H) hm;rw[z] at e;cases e
def J0 (g h:Heap)(L:gi):d3 (gi×Obj):=(List.range h.objs.size).filterMap λa=>if a=L \/ (g.get? a).isSome=true then none else(h.get? a).map λo=>(a,o)
def dU (g h:Heap)(L d:gi):d3 (gi×Obj):=(J0 g h L).filter λp=>decide (p.1≠d)
end L2
namespace L2
open PySem PySem.Spec PyProof.Rows
structure Mod (K:PySem.W.Frag)(mg:Str ->Option Value)(base:Heap):Prop where
 UX:K.In base
 glob:base.Ns mainGlobals mg
 blt: ∃mb,base.Ns builtinsNs mb /\ ∀x:Str,x≠ "__name__" ->mb x=bootBuiltins x
 nolimit:base.NoLimit
structure Cx where
 prog:Program
 w:World
 K:PySem.W.Frag
 mg:Str ->Option Value
 base:Heap
 A:Around
 N:List Str
 s₀:Shared
 H₀:Hp
 env:Env
 outer:List Env
 stack:List Env
 ex:List Addr
 fn:Str ->Bool
 calm:Bool
 pn:List (Addr×Obj)
 xe:Value ->Shared ->Prop
def yS (l:d3 Env):d3 gi:=l.filterMap (·.frame)
abbrev Cx.fs (X:Cx):d3 gi:=yS X.outer
def Vp (sc:Scope)(x:Str):Prop:=sc.names.lookup x=some .local \/ sc.names.lookup x=some .cell \/ sc.names.lookup x=some .free
def Loc (sc:Scope)(x:Str):Prop:=sc.names.lookup x=some .local \/ sc.names.lookup x=some .cell
def Look (env:Env)(h:Heap)(m:Str ->eB d4)(x:Str)(u:d4):Prop:=(env.kindOf x=some .local /\ m x=some u) \/ ((env.kindOf x=some .cell \/ env.kindOf x=some .free) /\ ∃c,env.cells.lookup x=some c /\ h.IsCell c (some u))
structure Cx.Ok (X:Cx):Prop where
 mod:Mod X.K X.mg X.base
 kind:X.env.scope.kind= .function
 glob:X.env.globals=mainGlobals
 blt:X.env.builtins=builtinsNs
 above:X.s₀.heap.objs.size<=X.env.locals
 inj: ∀x y c,X.env.cells.lookup x=some c ->X.env.cells.lookup y=some c ->x=y
 has: ∀x,(X.env.kindOf x=some .cell \/ X.env.kindOf x=some .free) -> ∃c,X.env.cells.lookup x=some c
 To: ∀x c,X.fn x=true ->X.env.cells.lookup x=some c ->X.s₀.heap.objs.size<=c
 hd:X.calm=true ->X.A.handled=none
 frames:X.A.frames=some X.stack
 Uz:X.stack=X.outer \/ (X.stack=X.env::X.outer /\ X.env.frame=some X.env.locals)
 exf: ∀b∈X.ex,b≠X.env.locals /\ ∀x c,X.env.cells.lookup x=some c ->c≠b
 bs: ∀b o,X.base.get? b=some o ->X.s₀.heap.get? b=some o /\ X.H₀ b=none
 Hh:X.base.objs.size<=X.s₀.heap.objs.size
 EY: ∀b o,X.base.get? b=some o ->b∉X.ex
 Ca: ∀b∈X.ex,b∉X.fs
 oO:X.s₀.heap.FunFrames X.base X.outer
 OK: ∀b∈X.fs,X.H₀ b=none
structure Inv (X:Cx)(aj:List (Addr×Obj))(σ:List (Option V))(H:Hp)(s:Shared):Prop where
 ok:X.Ok
 os:s.os=X.s₀.os
 bare:AllBare s.gens
 base:Un X.fs X.ex X.H₀ H X.s₀.heap s.heap
 loc: ∃m,s.heap.Ns X.env.locals m /\ ∀ (i:Nat) (x:Str) (v:V),X.N[i]? =some x ->σ[i]? =some (some v) ->Vp X.env.scope x -> ∃u,RelV v u /\ Look X.env s.heap m x u
 cell: ∀x c,X.env.cells.lookup x=some c -> ∃v,s.heap.IsCell c v
 free:H X.env.locals=none
 iC: ∀x c,X.env.cells.lookup x=some c ->H c=none
 pin: ∀p∈X.pn++aj,s.heap.get? p.1=some p.2 /\ H p.1=none /\ p.1≠X.env.locals /\ p.1∉X.fs /\ ∀v,p.2.data≠ .cell v
 cT:k9 X.prog X.w H s.heap
 len:σ.length=X.N.length
theorem Cx.Ok.W6 {X:Cx}(ok:X.Ok)(e:X.base.get? b=some o):b∉X.fs:=λhb=>by have:=(ok.oO.mem hb).1;rw[e] at this;cases this
theorem Inv.bs (I:Inv X aj σ H s): ∀b o,X.base.get? b=some o ->s.heap.get? b=some o /\ H b=none:=λb o e=>#[I.base.keep b o (I.ok.bs b o e).1 (I.ok.bs b o e).2 (I.ok.W6 e) (I.ok.EY b o e),I.base.free b o (I.ok.bs b o e).1 (I.ok.bs b o e).2 (I.ok.EY b o e)]
theorem Inv.bk (I:Inv X aj σ H s): ∀b o,X.base.get? b=some o ->s.heap.get? b=some o:=λb o e=>(I.bs b o e).1
theorem Inv.mod (I:Inv X aj σ H s):Mod X.K X.mg X.base:=I.ok.mod
theorem Inv.oH (I:Inv X aj σ H s):X.K.In s.heap:=I.ok.mod.UX.keeps I.bk
theorem Inv.fr (I:Inv X aj σ H s): ∃m,Fr X.base X.env.locals s.heap m:=
 let ⟨m,hn,_⟩:=I.loc
 #[m,hn,I.bk,aS I.ok.Hh I.ok.above]
theorem Inv.lt (I:Inv X aj σ H s):X.env.locals<s.heap.objs.size:=let ⟨_,hn,_⟩:=I.loc;hn.lt
theorem Inv.sz (I:Inv X aj σ H s):X.s₀.heap.objs.size<=s.heap.objs.size:=aS I.ok.above (Nat.le_of_lt I.lt)
theorem Inv.W5 (I:Inv X aj σ H s){a:gi}(h:s.heap.objs.size<=a):a∉X.fs:=λhb=>by let⟨_,o,ho,_⟩:=I.ok.oO.mem hb;show absurd (bH (aF ho) (aS I.sz h)) (cg _)
theorem Inv.OT (I:Inv X aj σ H s): ∀x c,X.env.cells.lookup x=some c ->c≠X.env.locals:=λx c e z=>by let⟨v,o,ho,hd⟩:=I.cell x c e;let⟨m,⟨o',es,ep,Ju,kY,_⟩,_⟩:=I.loc;rw[z,Ju] at ho;cases ho;rw[kY] at hd;cases hd
def Inv.oO (I:Inv X aj σ H s):s.heap.FunFrames X.base X.outer:=by
 have all: ∀ (l:d3 Env),(∀b∈yS l,b∈X.fs) ->X.s₀.heap.FunFrames X.base l ->s.heap.FunFrames X.base l:=by
  intro l;induction l with
  | nil=>intro _ _;trivial
  | cons env r ih=>intro hs hl;let⟨hk,⟨L,o,hf,hn,ho,hd⟩,hr⟩:=hl;have hL:L∈X.fs:=hs L (by unfold yS;rw[List.filterMap_cons,hf];show aI);let⟨sl,e⟩:=I.base.slot L o ho (I.ok.OK L hL) hL λz=>I.ok.Ca L z hL;show#[hk,#[L,_,hf,hn,e,hd],ih (λb hb=>hs b (by unfold yS;rw[List.filterMap_cons,hf];show av _ hb)) hr]
 show all X.outer (λ_ hb=>hb) I.ok.oO
def Inv.stack (I:Inv X aj σ H s):s.heap.FunFrames X.base X.stack:=by obtain e | ⟨e,hf⟩:=I.ok.Uz;rw[e];show I.oO;rw[e];let⟨m,hn,_⟩:=I.loc;exact .cons (by rw[I.ok.kind];decide) hf hn ?_ I.oO;show Heap.get?_none_of_le (aS I.ok.Hh I.ok.above)
theorem Inv.xK (I:Inv X aj σ H s): ∀b∈yS X.stack,b∈X.env.locals::X.fs:=λb hb=>by obtain e | ⟨e,hf⟩:=I.ok.Uz;rw[e] at hb;show av _ hb;rw[e] at hb;unfold yS at hb;rw[List.filterMap_cons,hf] at hb;show hb
theorem Inv.zB (I:Inv X aj σ H s): ∀b∈yS X.stack,H b=none:=λb hb=>by obtain e | hb:=ar.mp (I.xK b hb);rw[e];show I.free;let⟨_,o,ho,_⟩:=I.ok.oO.mem hb;show I.base.free b o ho (I.ok.OK b hb) λz=>I.ok.Ca b z hb
def Inv.step {ch:d3 gi}(I:Inv X aj σ H s)(Hb: ∀b∈ch,(b∈X.ex \/ X.s₀.heap.objs.size<=b) /\ b≠X.env.locals /\ (∀x c,X.env.cells.lookup x=some c ->c≠b) /\ ∀p∈X.pn++aj,p.1≠b)(keep: ∀b o,b≠X.env.locals ->b∉X.fs ->b∉ch ->s.heap.get? b=some o ->H b=none ->h'.get? b=some o)(slot: ∀b o,b≠X.env.locals ->b∈X.fs ->b∉ch ->s.heap.get? b=some o ->H b=none -> ∃sl,h'.get? b=some {o with slots:=sl})(free: ∀b o,b∉ch ->s.heap.get? b=some o ->H b=none ->H' b=none)(there: ∀b o,b∉ch ->s.heap.get? b=some o -> ∃o',h'.get? b=some o')(qZ: ∀b xs,H b=some (.tup xs) ->H' b=some (.tup xs))(oP: ∀b o u,H b=some (.jM o u) ->H' b=some (.jM o u))(q_: ∀b ps,H b=some (.Ky ps) -> ∃more,H' b=some (.Ky (ps++more)))(ns: ∀m,s.heap.Ns X.env.locals m ->h'.Ns X.env.locals m)(cT:k9 X.prog X.w H' h')(hg:AllBare g'): Inv X aj σ H' {s with heap:=h',gens:=g',drawn:=d',toks:=t'}:=by
 have neL: ∀b o,X.s₀.heap.get? b=some o ->b≠X.env.locals:=λb o e=>a5 (bH (aF e) I.ok.above);have UP: ∀b o,X.s₀.heap.get? b=some o ->b∉X.ex ->b∉ch:=λb o e hx hb=>by obtain z | z:=(Hb b hb).1;show hx z;show absurd (bH (aF e) z) (cg _)
 have cellK: ∀x c,X.env.cells.lookup x=some c -> ∀v,s.heap.IsCell c v ->h'.IsCell c v:=λx c e v ⟨o,ho,hd⟩=>by have RF:c∉ch:=λz=>(Hb c z).2.2.1 x c e rfl;by_cases hc:c∈X.fs;let⟨sl,q⟩:=slot c o (I.OT x c e) hc RF ho (I.iC x c e);show#[_,q,hd];show#[o,keep c o (I.OT x c e) hc RF ho (I.iC x c e),hd]
 exact#[I.ok,I.os,hg,#[λb o e n hb hx=> ?_,λb o e n hb hx=> ?_,λb o e n hx=> ?_,λb o e hx=> ?_,λb xs e=>qZ b xs (I.base.qZ b xs e),λb o xs e=>oP b o xs (I.base.oP b o xs e),λb ps e=> ?_],?_,λx c e=> ?_,?_,λx c e=> ?_,λp hp=> ?_,cT,I.len];show keep b o (neL b o e) hb (UP b o e hx) (I.base.keep b o e n hb hx) (I.base.free b o e n hx);let⟨sl,e1⟩:=I.base.slot b o e n hb hx;let⟨sl',e2⟩:=slot b _ (neL b o e) hb (UP b o e hx) e1 (I.base.free b o e n hx);show#[sl',e2];let⟨o',e1⟩:=I.base.there b o e hx;show free b o' (UP b o e hx) e1 (I.base.free b o e n hx);let⟨o',e1⟩:=I.base.there b o e hx;show there b o' (UP b o e hx) e1;let⟨m1,e1⟩:=I.base.q_ b ps e;let⟨m2,e2⟩:=q_ b _ e1;show#[m1++m2,by rw[e2,Array.append_assoc]];let⟨m,hn,hl⟩:=I.loc;exact#[m,ns m hn,λi x v e1 e2 e3=> ?_];let⟨u,r,l⟩:=hl i x v e1 e2 e3;exact#[u,r,?_];obtain l | ⟨k,c,e,z⟩:=l;show .inl l;show .inr #[k,c,e,cellK x c e _ z];let⟨v,z⟩:=I.cell x c e;show#[v,cellK x c e v z];let⟨m,⟨o,_,_,ho,_⟩,_⟩:=I.loc;show free _ o (λz=>(Hb _ z).2.1 rfl) ho I.free;let⟨v,o,ho,hd⟩:=I.cell x c e;show free c o (λz=>(Hb c z).2.2.1 x c e rfl) ho (I.iC x c e);let⟨e,n,ne,nf,d⟩:=I.pin p hp;have RF:p.1∉ch:=λz=>(Hb p.1 z).2.2.2 p hp rfl;show#[keep p.1 p.2 ne nf RF e n,free p.1 p.2 RF e n,ne,nf,d]
def Inv.un (I:Inv X aj σ H s)(u:Un X.fs [] H H' s.heap h')(cT:k9 X.prog X.w H' h'):Inv X aj σ H' {s with heap:=h',toks:=t'}:=by let⟨m,⟨o,es,ep,ho,r⟩,_⟩:=id I.loc;let⟨sl,hL⟩:=u.any ho I.free (by simp);show I.step (g':=s.gens) (d':=s.drawn) (ch:= []) (λ_ z=>nomatch z) (λb o _ hb _ e n=>u.keep b o e n hb (by simp)) (λb o _ hb _ e n=>u.slot b o e n hb (by simp)) (λb o _ e n=>u.free b o e n (by simp)) (λb o _ e=>u.there b o e (by simp)) u.qZ u.oP u.q_ (λm' hm=>by let⟨o',Th,Ti,Ju,r'⟩:=hm;rw[ho] at Ju;cases Ju;show#[_,Th,Ti,hL,r']) cT I.bare
def Inv.call (I:Inv X aj σ H s)(u:Un (yS X.stack) ch H H' s.heap h')(cT:k9 X.prog X.w H' h')(hg:AllBare g')(Hb: ∀b∈ch,(b∈X.ex \/ X.s₀.heap.objs.size<=b) /\ b≠X.env.locals /\ (∀x c,X.env.cells.lookup x=some c ->c≠b) /\ ∀p∈X.pn++aj,p.1≠b): Inv X aj σ H' {s with heap:=h',gens:=g',drawn:=d',toks:=t'}:=by let⟨m,⟨o,es,ep,ho,r⟩,_⟩:=id I.loc;let⟨sl,hL⟩:=u.any ho I.free λz=>(Hb _ z).2.1 rfl;show I.step (ch:=ch) Hb (λb o hL hb hc e n=>u.keep b o e n (λz=>(ar.mp (I.xK b z)).elim hL hb) hc) (λb o _ _ hc e n=>u.any e n hc) (λb o hc e n=>u.free b o e n hc) (λb o hc e=>u.there b o e hc) u.qZ u.oP u.q_ (λm' hm=>by let⟨o',Th,Ti,Ju,r'⟩:=hm;rw[ho] at Ju;cases Ju;show#[_,Th,Ti,hL,r']) cT hg
def Inv.turned (I:Inv X aj σ H s)(k: ∀b o,b≠it ->s.heap.get? b=some o ->h'.get? b=some o)(hn:H it=none)(hL:it≠X.env.locals)(h1:it∈X.ex \/ X.s₀.heap.objs.size<=it)(h2: ∀x c,X.env.cells.lookup x=some c ->c≠it)(h3: ∀p∈X.pn++aj,p.1≠it):Inv X aj σ H {s with heap:=h',toks:=t'}:=by
 have nit: ∀b u,H b=some u ->b≠it:=λb u e z=>by rw[z,hn] at e;cases e
 exact I.step (g':=s.gens) (d':=s.drawn) (ch:= [it]) (λb hb=> ?_) (λb o _ _ hc e _=>k b o (λz=>hc (by simp[z])) e) (λb o _ _ hc e _=>#[o.slots,k b o (λz=>hc (by simp[z])) e]) (λ_ _ _ _ n=>n) (λb o hc e=>#[o,k b o (λz=>hc (by simp[z])) e]) (λ_ _ e=>e) (λ_ _ _ e=>e) (λb ps e=>#[#[],by rw[e];simp]) (λm hm=> ?_) (λb u e=> ?_) I.bare;have e:b=it:=by simpa using hb
 subst e;show#[h1,hL,h2,h3];let⟨o,es,ep,ho,r⟩:=hm;show#[o,es,ep,k _ o (aT hL) ho,r];exact(I.cT b u e).pE (λc v hc q=>k c v ?_ q) (λ_ q=>q) λ_ _ q=>q;obtain z | z:=hc;rw[z];show nit b u e;show nit c _ z
theorem Inv.tok (I:Inv X aj σ H s)(t:Nat):Inv X aj σ H {s with toks:=t}:=I.un (h':=s.heap) (t':=t) Un.refl I.cT
theorem Inv.kept (I:Inv X aj σ H s)(k: ∀b u,s.heap.get? b=some u ->h'.get? b=some u):Inv X aj σ H {s with heap:=h',toks:=t'}:=I.un (Un.kept k) (I.cT.kept k)
theorem Inv.laid {a:gi}(I:Inv X aj σ H s)(k: ∀b u,s.heap.get? b=some u ->h'.get? b=some u)(hp:s.heap.objs.size<=a)(new:dn X.prog X.w (cO H a o) h' a o): Inv X aj σ (cO H a o) {s with heap:=h',toks:=t'}:=I.un (Un.laid k hp (I.cT.fresh hp)) (I.cT.laid k hp new)
theorem Inv.write (I:Inv X aj σ H s)(mu:TK (H x))(he:e=x \/ H e=some (.own x))(k: ∀b u,b≠e ->s.heap.get? b=some u ->h'.get? b=some u)(PJ: ∃u,h'.get? e=some u)(new:dn X.prog X.w (cO H x o) h' x o):Inv X aj σ (cO H x o) {s with heap:=h',toks:=t'}:=I.un (Un.write mu he k PJ) (I.cT.write mu he k PJ new)
theorem Inv.weak (I:Inv X aj σ H s)(hl:σ'.length=σ.length)(w: ∀ (i:Nat) v,σ'[i]? =some (some v) ->σ[i]? =some (some v)):Inv X aj σ' H s:=#[I.ok,I.os,I.bare,I.base,let ⟨m,hn,qe⟩:=I.loc;#[m,hn,λi x v e1 e2 e3=>qe i x v e1 (w i v e2) e3],I.cell,I.free,I.iC,I.pin,I.cT,hl.trans I.len]
theorem Inv.zY (I:Inv X aj σ H s)(h: ∀p∈zZ,s.heap.get? p.1=some p.2 /\ H p.1=none /\ p.1≠X.env.locals /\ p.1∉X.fs /\ ∀v,p.2.data≠ .cell v):Inv X zZ σ H s:=#[I.ok,I.os,I.bare,I.base,I.loc,I.cell,I.free,I.iC,λp hp=>(aA.mp hp).elim (λz=>I.pin p (List.mem_append_left _ z)) (h p),I.cT,I.len]
def vP {N:d3 Str}(hN:N.Nodup){i j:Nat}(a:N[i]? =some x)(b:N[j]? =some x):i=j:=by let⟨h1,e1⟩:=ak.mp a;let⟨h2,e2⟩:=ak.mp b;show(List.getElem_inj hN).mp (e1.trans e2.symm)
def Bg (I:Inv X aj σ H s)(hN:X.N.Nodup)(hi:X.N[i]? =some x)(hx:Loc X.env.scope x)(r:RelV v u)(h: ∀s',Inv X aj (σ.set i (some v)) H s' ->(∃a,Heap.SameBut a s.heap s'.heap /\ (a=X.env.locals \/ X.env.cells.lookup x=some a)) ->Q () s')(hf:X.fn x=true \/ X.env.scope.names.lookup x=some .local:=by first | show .inl rfl | show .inr rfl | assumption):wpAny M A (storeName X.env x u) Q E s:=by
 let⟨m,hn,hl⟩:=id I.loc;have Ys:(X.env.scope.kind== .class || (X.env.scope.kind== .module && X.env.locals !=X.env.globals))=false:=by rw[I.ok.kind];rfl
 have hiσ:i<σ.length:=by rw[I.len];show(ak.mp hi).1
 have OT:=I.OT;have tracked: ∀ {a:gi} {h':Heap},(∃o,s.heap.get? a=some o /\ H a=none) ->Heap.SameBut a s.heap h' ->k9 X.prog X.w H h':=λ{a h'} ha hs b ob e=>by let⟨_,_,LW⟩:=ha;exact(I.cT b ob e).pE (λc w' hc q=>(hs.2 c ?_).trans q) (λ_ q=>q) λ_ _ q=>q;rintro rfl;obtain rfl | hc:=hc;rw[LW] at e;cases e;rw[LW] at hc;cases hc
 obtain hk | hk:=hx;exact wpAny_storeName_local hk hn (λh' Jx hs=> ?_) Ys;let⟨oL,_,_,hoL,_⟩:=id hn;exact h _ #[I.ok,I.os,I.bare,#[λb o e n hb hx=> ?_,λb o e n hb hx=> ?_,I.base.free,λb o e hx=> ?_,I.base.qZ,I.base.oP,I.base.q_],#[_,Jx,λj y v' e1 e2 e3=> ?_],λy c e=> ?_,I.free,I.iC,λp hp=> ?_,tracked #[oL,hoL,I.free] hs, ⇑I.len] #[_,hs, .inl rfl];show(hs.2 b (a5 (bH (aF e) I.ok.above))).trans (I.base.keep b o e n hb hx);let⟨sl,e1⟩:=I.base.slot b o e n hb hx;show#[sl,(hs.2 b (a5 (bH (aF e) I.ok.above))).trans e1];let⟨o',e1⟩:=I.base.there b o e hx;show#[o',(hs.2 b (a5 (bH (aF e) I.ok.above))).trans e1];by_cases hj:j=i;subst hj;rw[hi] at e1;cases e1;rw[List.getElem?_set_self hiσ] at e2;cases e2;show#[u,r, .inl #[hk,by simp]];rw[List.getElem?_set_ne (aT hj)] at e2;let⟨u',r',q⟩:=hl j y v' e1 e2 e3;exact#[u',r',?_];rcases q with⟨k,e⟩ | ⟨k,c,e,z⟩
 exact .inl #[k,?_];have:y≠x:=λe=>hj (vP hN e1 (e▸hi));simp[this,e];show .inr #[k,c,e,z.sameBut hs (OT y c e)];let⟨w',z⟩:=I.cell y c e;show#[w',z.sameBut hs (OT y c e)];let⟨e,n,ne,nf,d⟩:=I.pin p hp;show#[(hs.2 p.1 ne).trans e,n,ne,nf,d];have Yo:X.fn x=true:=by obtain z | z:=hf;show z;rw[z] at hk;cases hk
 let⟨c,hc⟩:=I.ok.has x (.inl hk);let⟨w',z⟩:=I.cell x c hc;exact wpAny_storeName_cell I.ok.kind hk hc z (λh' JF hs=> ?_);let⟨oc,hoc,XX⟩:=id z;exact h {s with heap:=h'} #[I.ok,I.os,I.bare,#[λb o e n hb hx=> ?_,λb o e n hb hx=> ?_,I.base.free,λb o e hx=> ?_,I.base.qZ,I.base.oP,I.base.q_],#[m,hn.sameBut hs (aT (OT x c hc)),λj y v' e1 e2 e3=> ?_],λy c' e=> ?_,I.free,I.iC,λp hp=> ?_,tracked #[oc,hoc,I.iC x c hc] hs, ⇑I.len] #[c,hs, .inr hc];show(hs.2 b (a5 (bH (aF e) (I.ok.To x c Yo hc)))).trans (I.base.keep b o e n hb hx);let⟨sl,e1⟩:=I.base.slot b o e n hb hx;show#[sl,(hs.2 b (a5 (bH (aF e) (I.ok.To x c Yo hc)))).trans e1];let⟨o',e1⟩:=I.base.there b o e hx;show#[o',(hs.2 b (a5 (bH (aF e) (I.ok.To x c Yo hc)))).trans e1];by_cases hj:j=i;subst hj;rw[hi] at e1;cases e1;rw[List.getElem?_set_self hiσ] at e2;cases e2;show#[u,r, .inr #[.inl hk,c,hc,JF]];rw[List.getElem?_set_ne (aT hj)] at e2;let⟨u',r',q⟩:=hl j y v' e1 e2 e3;exact#[u',r',?_];obtain q | ⟨k,c',e,z'⟩:=q;show .inl q;exact .inr #[k,c',e,z'.sameBut hs ?_];rintro rfl;show hj (vP hN e1 (I.ok.inj _ _ _ e hc▸hi));by_cases hcc:c'=c;subst hcc;show#[_,JF];let⟨w2,z2⟩:=I.cell y c' e;show#[w2,z2.sameBut hs hcc];let⟨e,n,ne,nf,d⟩:=I.pin p hp;exact#[(hs.2 p.1 ?_).trans e,n,ne,nf,d];intro q;rw[q,hoc] at e;have q':oc=p.2:=bm e;show d w' (by rw[<- q'];show XX)
theorem vn (I:Inv X aj σ H s)(hN:X.N.Nodup)(hi:X.N[i]? =some x)(hx:Loc X.env.scope x)(r:RelV v u)(h: ∀s',Inv X aj (σ.set i (some v)) H s' ->Q () s')(hf:X.fn x=true \/ X.env.scope.names.lookup x=some .local:=by first | show .inl rfl | show .inr rfl | assumption):wpAny M A (storeName X.env x u) Q E s:=Bg I hN hi hx r (λs' I' _=>h s' I') hf
def Inv.Tn (I:Inv X aj σ H s)(ho:s'.os=s.os)(u:Un (yS X.stack) ch H H' s.heap s'.heap)(cT:k9 X.prog X.w H' s'.heap)(hg:AllBare s'.gens)(Hb: ∀b∈ch,(b∈X.ex \/ X.s₀.heap.objs.size<=b) /\ b≠X.env.locals /\ (∀x c,X.env.cells.lookup x=some c ->c≠b) /\ ∀p∈X.pn++aj,p.1≠b):Inv X aj σ H' s':=by let⟨h',g',d',t',o'⟩:=s';have e:o'=s.os:=ho;subst e;show I.call (g':=g') (t':=t') (d':=d') u cT hg Hb
abbrev XK:=d4 ->eB gi ->Hp ->Prop
abbrev St:=d3 (eB V)
abbrev VK:=V ->Hp ->Prop
abbrev TE:=St ->Hp ->VK ->Prop
abbrev TT:=St ->Hp ->(Bool ->Hp ->Prop) ->Prop
abbrev TA:=St ->Hp ->(d3 V ->Hp ->Prop) ->Prop
structure xi where
 nx:St ->Hp ->Prop
 rt:VK
 bk:St ->Hp ->Prop:=λ_ _=>False
 ct:St ->Hp ->Prop:=λ_ _=>False
abbrev TS:=xi ->St ->Hp ->Prop
def EP (X:Cx)(aj:d3 (gi×Obj))(σ:St)(Q:VK)(u:d4)(s':d5):Prop:=cJ λv H'=>dh (Inv X aj σ H' s') (RelV v u) (Q v H')
def TP (X:Cx)(aj:d3 (gi×Obj))(σ:St)(Q:Bool ->Hp ->Prop)(b:Bool)(s':d5):Prop:= ∃H',Inv X aj σ H' s' /\ Q b H'
def AP (X:Cx)(aj:d3 (gi×Obj))(σ:St)(Q:d3 V ->Hp ->Prop)(us:d3 d4)(s':d5):Prop:=cJ λvs H'=>dh (Inv X aj σ H' s') (cD vs us) (Q vs H')
def SP (X:Cx)(aj:d3 (gi×Obj))(D:xi)(f:Flow)(s':d5):Prop:=
 match f with
 | .next=>cJ λσ' H'=>Inv X aj σ' H' s' /\ D.nx σ' H'
 | .brk=>cJ λσ' H'=>Inv X aj σ' H' s' /\ D.bk σ' H'
 | .cont=>cJ λσ' H'=>Inv X aj σ' H' s' /\ D.ct σ' H'
 | .ret u=>gv λv σ' H'=>dh (Inv X aj σ' H' s') (RelV v u) (D.rt v H')
def PE (X:Cx)(e:Expr)(t:TE):Prop:=∀ (aj:d3 (gi×Obj)) (s:d5) (σ:St) (H:Hp) (Q:VK),Inv X aj σ H s ->t σ H Q ->wpAny (model X.prog X.w) X.A (eval e X.env) (EP X aj σ Q) X.xe s
def PT (X:Cx)(e:Expr)(t:TT):Prop:=∀ (aj:d3 (gi×Obj)) (s:d5) (σ:St) (H:Hp) (Q:Bool ->Hp ->Prop),Inv X aj σ H s ->t σ H Q ->wpAny (model X.prog X.w) X.A (isTrue e X.env (eval e X.env)) (TP X aj σ Q) X.xe s
def PW (X:Cx)(e:Expr)(t:TT):Prop:=∀ (k_:Sem d4) (aj:d3 (gi×Obj)) (s:d5) (σ:St) (H:Hp) (Q:Bool ->Hp ->Prop),Inv X aj σ H s ->t σ H Q ->wpAny (model X.prog X.w) X.A (isTrue e X.env k_) (TP X aj σ Q) X.xe s
theorem PW.pt (h:PW X e t):PT X e t:=h _
def PA (X:Cx)(es:d3 Expr)(t:TA):Prop:=∀ (pos:Pos) (aj:d3 (gi×Obj)) (s:d5) (σ:St) (H:Hp) (Q:d3 V ->Hp ->Prop),Inv X aj σ H s ->t σ H Q ->wpAny (model X.prog X.w) X.A (spliced (backTo pos (starEach es X.env))) (AP X aj σ Q) X.xe s
def PS (X:Cx)(st:Stmt)(t:TS):Prop:=∀ (aj:d3 (gi×Obj)) (s:d5) (σ:St) (H:Hp) (D:xi),Inv X aj σ H s ->t D σ H ->wpAny (model X.prog X.w) X.A (exec st X.env) (SP X aj D) X.xe s
def xp (X:Cx)(st:d3 Stmt)(t:TS):Prop:=∀ (aj:d3 (gi×Obj)) (s:d5) (σ:St) (H:Hp) (D:xi),Inv X aj σ H s ->t D σ H ->wpAny (model X.prog X.w) X.A (execs st X.env) (SP X aj D) X.xe s
theorem cY {Q Q':α ->d5 ->Prop}(h:wpAny M A t Q E s)(hQ: ∀a s,Q a s ->Q' a s):wpAny M A t Q' E s:=bM h hQ λ_ _ x=>x
section
variable {X:Cx}
def bin (ha:PE X a ta)(hb:PE X b tb){σ:St}{R:V ->V ->Hp ->Prop}(I:Inv X aj σ H s)(h:ta σ H λx H1=>tb σ H1 λy H2=>R x y H2){f:d4 ->d4 ->Sem α}(hf: ∀v u s2 x y H2,Inv X aj σ H2 s2 ->RelV x v ->RelV y u ->R x y H2 ->wpAny (model X.prog X.w) X.A (f v u) Q X.xe s2): wpAny (model X.prog X.w) X.A (eval a X.env) (λv s₁=>wpAny (model X.prog X.w) X.A (eval b X.env) (λu s₂=>wpAny (model X.prog X.w) X.A (f v u) Q X.xe s₂) X.xe s₁) X.xe s:=by exact cY (ha aj s σ H _ I h) λv s1 ⟨x,H1,I1,r1,q1⟩=> ?_;exact cY (hb aj s1 σ H1 _ I1 q1) λu s2 ⟨y,H2,I2,r2,q2⟩=> ?_;show hf v u s2 x y H2 I2 r1 r2 q2
def HC (i:Nat):TE:=λσ H Q=> ∃v,σ[i]? =some (some v) /\ Q v H
def tC (v:V):TE:=λ_ H Q=>Q v H
def Nn {pos:Pos}(hN:X.N[i]? =some x)(hv:Vp X.env.scope x)(hd:(x==("__debug__" :Str))=false:=by decide)(BW:(x==("__classdict__" :Str))=false:=by decide):PE X (.Name x pos) (HC i):=by
 intro aj s σ H Q I h;let⟨v,e,h⟩:=h;let⟨m,hn,hl⟩:=I.loc;let⟨u,r,l⟩:=hl i x v hN e hv;have fin:EP X aj σ Q u s:=#[v,H,I,r,h]
 rcases l with⟨hk,hm⟩ | ⟨hk,c,hc,LY⟩
 show wpAny_Name (wpAny_loadName_local I.ok.kind hk hn hm fin) hd;obtain hk | hk:=hk;show wpAny_Name (wpAny_loadName_cell I.ok.kind hk hc LY fin) hd;show wpAny_Name (wpAny_loadName_free I.ok.kind hk hc LY fin BW) hd
theorem aN {i j pos}:PE X (.Constant (.int i) j pos) (tC (.int i)):=λ_ _ _ H _ I h=>wpAny_Constant_int #[.int i,H,I.tok _,#[_,rfl],h]
theorem lm {b j pos}:PE X (.Constant (.bool b) j pos) (tC (.bl b)):=λ_ _ _ H _ I h=>Constant_bool #[.bl b,H,I,rfl,h]
theorem EA {j pos}:PE X (.Constant .none j pos) (tC .dY):=λ_ _ _ H _ I h=>Constant_none #[.dY,H,I,rfl,h]
def Gl (X:Cx)(x:Str):Prop:=X.env.kindOf x=some .globalImplicit
theorem Ag {σ:St}(I:Inv X aj σ H s)(hg:Gl X x)(hm:X.mg x=some u)(h:Q u s)(hd:(x==("__debug__" :Str))=false:=by decide):wpAny (model X.prog X.w) X.A (eval (.Name x pos) X.env) Q E s:=Calls.Name_function_global I.ok.kind hg (Calls.loadGlobal_global (by rw[I.ok.glob];show I.mod.glob.keeps I.bk) hm h) hd
def gz {E:d4 ->d5 ->Prop}{σ:St}{pos:Pos}(I:Inv X aj σ H s)(hg:Gl X x)(hm:X.mg x=none)(hv:bootBuiltins x=some u)(h:Q u s)(hn:x≠ "__name__" :=by decide)(hd:(x==("__debug__" :Str))=false:=by decide):wpAny (model X.prog X.w) X.A (eval (.Name x pos) X.env) Q E s:=by let⟨mb,h1,h2⟩:=I.mod.blt;show Calls.Name_function_global I.ok.kind hg (Calls.loadGlobal_builtin (by rw[I.ok.glob];show I.mod.glob.keeps I.bk) hm (by rw[I.ok.blt];show h1.keeps I.bk) ((h2 x hn).trans hv) h) hd
theorem kG {pos:Pos}(hg:Gl X x)(hm:X.mg x=none)(hv:bootBuiltins x=some u)(r:RelV v u)(hn:x≠ "__name__" :=by decide)(hd:(x==("__debug__" :Str))=false:=by decide):PE X (.Name x pos) (tC v):=λ_ _ _ H _ I h=>gz I hg hm hv #[v,H,I,r,h] hn hd
variable {a b:Expr}{ta tb:TE}{pos:Pos}
def PC (X:Cx)(op:CmpOp)(a b:Expr)(t:TE):Prop:=∀ (aj:d3 (gi×Obj)) (s:d5) (σ:St) (H:Hp) (Q:VK),Inv X aj σ H s ->t σ H Q ->wpAny (model X.prog X.w) X.A (eval a X.env) (λv s₁=>wpAny (model X.prog X.w) X.A (eval b X.env) (λu s₂=>wpAny (model X.prog X.w) X.A (compareOp op v u) (EP X aj σ Q) X.xe s₂) X.xe s₁) X.xe s
def vQ (b:Expr)(h:op≠ .In)(h2:op≠ .NotIn):behindInMarks op b=false:=by
 have e1:(op==CmpOp.In)=false:=by cases op<;>first | rfl | show absurd rfl h
 have e2:(op==CmpOp.NotIn)=false:=by cases op<;>first | rfl | show absurd rfl h2
 cases b<;>simp[behindInMarks,e1,e2]
def tB (t:TE):TT:=λσ H Q=>t σ H λx H1=> ∃c,x= .bl c /\ Q c H1
theorem Np (h:PC X op a b t)(h1:behindInMarks op b=false:=by first | show vQ _ ⋯ ⋯ | rfl):PE X (.Compare a [op] [b] pos) t:=λaj s σ H Q I hw=>wpAny_Compare1 (h aj s σ H Q I hw) h1
def Nl (h:PC X op a b t)(h1:behindInMarks op b=false:=by first | show vQ _ ⋯ ⋯ | rfl):PT X (.Compare a [op] [b] pos) (tB t):=by intro aj s σ H Q I hw;exact wpAny_isTrue_Compare1 (cY (h aj s σ H _ I hw) λv s1 h1=>cY h1 λu s2 h2=>cY h2 λc s3 ⟨x,H1,I1,r1,q1⟩=> ?_) h1;let⟨d,rfl,q⟩:=q1;cases r1;show c_ #[H1,I1,q]
def lF (h:PE X e t)(he: ∀k_,isTrue e X.env k_=(do let v <- k_;standAt e.pos;holding [v] (truthy v)):=by intro _;rfl):PT X e (tB t):=by intro aj s σ H Q I hw;exact isTrue_plain (cY (h aj s σ H _ I hw) λv s1 ⟨x,H1,I1,r1,q1⟩=> ?_) (he _);let⟨d,rfl,q⟩:=q1;cases r1;show c_ #[H1,I1,q]
variable {tA Ux:TT}{dU:d3 Expr}
def QP (t u:TT):TT:=λσ H Q=>t σ H λc H1=>if c=true then u σ H1 Q else Q false H1
def _J (t u:TT):TT:=λσ H Q=>t σ H λc H1=>if c=true then Q true H1 else u σ H1 Q
def QJ (t:TT):TT:=λσ H Q=>t σ H λc H1=>Q (!c) H1
def ub (ha:PT X a tA):PW X (.BoolOp .And [a] pos) tA:=by
 intro wh aj s σ H Q I h;exact isTrue_and (cY (ha aj s σ H Q I h) λc s1 e=> ?_);cases c with
 | true=>show isTrue_and_nil e
 | false=>show e
def ua (ha:PT X a tA):PW X (.BoolOp .Or [a] pos) tA:=by
 intro wh aj s σ H Q I h;exact isTrue_or (cY (ha aj s σ H Q I h) λc s1 e=> ?_);cases c with
 | false=>show isTrue_or_nil e
 | true=>show e
def xV (ha:PT X a tA)(hb:PW X (.BoolOp .And (b::dU) pos) Ux):PW X (.BoolOp .And (a::b::dU) pos) (QP tA Ux):=by
 intro wh aj s σ H Q I h;exact isTrue_and (cY (ha aj s σ H _ I h) λc s1 ⟨H1,I1,q1⟩=> ?_);cases c with
 | true=>show hb wh aj s1 σ H1 Q I1 q1
 | false=>show#[H1,I1,q1]
def rZ (ha:PT X a tA)(hb:PW X (.BoolOp .Or (b::dU) pos) Ux):PW X (.BoolOp .Or (a::b::dU) pos) (_J tA Ux):=by
 intro wh aj s σ H Q I h;exact isTrue_or (cY (ha aj s σ H _ I h) λc s1 ⟨H1,I1,q1⟩=> ?_);cases c with
 | true=>show#[H1,I1,q1]
 | false=>show hb wh aj s1 σ H1 Q I1 q1
def jv (ha:PT X a tA):PT X (.UnaryOp .Not a pos) (QJ tA):=by intro aj s σ H Q I h;show isTrue_not (ha aj s σ H (λc H1=>Q (!c) H1) I h)
def KQ (ta tb:TE):TE:=λσ H Q=>ta σ H λx H1=> ∃c,x= .bl c /\ if c=true then tb σ H1 Q else Q (.bl false) H1
def KC (ta:TE):TE:=λσ H Q=>ta σ H λx H1=> ∃c,x= .bl c /\ Q (.bl (!c)) H1
theorem Ez {op}(h:PE X a t):PE X (.BoolOp op [a] pos) t:=λaj s σ H Q I hw=>BoolOp_one (h aj s σ H Q I hw)
def EF (ha:PE X a ta)(hb:PE X (.BoolOp .And (b::dU) pos) tb):PE X (.BoolOp .And (a::b::dU) pos) (KQ ta tb):=by
 intro aj s σ H Q I h;exact BoolOp_and (cY (ha aj s σ H _ I h) λv s1 ⟨x,H1,I1,r1,q1⟩=> ?_);let⟨c,rfl,q1⟩:=q1;cases r1;exact c_ ?_;cases c with
 | true=>show hb aj s1 σ H1 Q I1 q1
 | false=>show#[.bl false,H1,I1,rfl,q1]
def No (ha:PE X a ta):PE X (.UnaryOp .Not a pos) (KC ta):=by intro aj s σ H Q I h;exact UnaryOp_ (cY (ha aj s σ H _ I h) λv s1 ⟨x,H1,I1,r1,q1⟩=> ?_);let⟨c,rfl,q1⟩:=q1;cases r1;show not_of (c_ #[.bl (!c),H1,I1,rfl,q1])
end
def gC (K:RZ)(H:Hp)(a:gi)(xs:d3 V):Prop:=Rd H a (.lst xs) \/gv λ(o:Obj) (its:gX d4) (n:Nat)=>nh (K.lookup a=some o) (o.cls= .type "list") (o.dict=none) (o.data= .seq its n) (its.size<=sizeLine) (cD xs its.toList)
def i9 (K:RZ)(H:Hp)(a:gi)(xs:d3 V):Prop:=Rd H a (.tup xs) \/gv λ(o:Obj) (its:gX d4) (n:Nat)=>nh (K.lookup a=some o) (o.cls= .type "tuple") (o.dict=none) (o.data= .seq its n) (its.size<=sizeLine) (cD xs its.toList)
def ZZ:d4 ->eB V
 | .none=>some .dY
 | .bool b=>some (.bl b)
 | .int i _=>some (.int i)
 | .str x _=>some (.str x)
 | .bytes b _=>some (.y_ b)
 | .float b _=>some (.AA b)
 | .ref a=>some (.ref a)
 | .type n=>some (.ty n)
 | _=>none
def RelV.abs (r:RelV x u):ZZ u=some x:=by
 cases x with
 | dY=>cases r;rfl
 | bl _=>cases r;rfl
 | int _=>let⟨t,rfl⟩:=r;rfl
 | str _=>let⟨t,rfl⟩:=r;rfl
 | y_ _=>let⟨t,rfl⟩:=r;rfl
 | AA _=>let⟨t,rfl⟩:=r;rfl
 | ref _=>cases r;rfl
 | ty _=>cases r;rfl
theorem RelV.inj {x y:V}{u:d4}(r:RelV x u)(q:RelV y u):x=y:=bm (r.abs.symm.trans q.abs)
theorem cD.inj: ∀ {xs ys:d3 V} {us:d3 d4},cD xs us ->cD ys us ->xs=ys
 | _,_,_, .nil, .nil=>rfl
 | _,_,_, .cons r t, .cons r' t'=>by rw[r.inj r',cD.inj t t']
theorem gC.of {K:RZ}(h:H a=some (.lst xs)):gC K H a xs:= .inl (.inl h)
theorem i9.of {K:RZ}(h:H a=some (.tup xs)):i9 K H a xs:= .inl (.inl h)
def Inv.list {σ:St}(I:Inv X aj σ H s)(h:gC X.K H a xs): ∃its:d3 d4,dh (cD xs its) (PlainL s.heap a its.toArray) (xs.length<=sizeLine):=by obtain h | ⟨o,its,n,hk,hc,hd,hs,hz,r⟩:=h;let⟨z,its,n,r,e⟩:=h.ok I.cT;show#[its,r,#[_,n,e,rfl,rfl,rfl],z];exact#[its.toList,r,#[o,n,I.oH a o hk,hc,hd, ⇑hs],?_];have e:=r.length;simp![cu] at e;lia
def Inv.tuple {σ:St}(I:Inv X aj σ H s)(h:i9 X.K H a xs): ∃its:d3 d4,dh (cD xs its) (IsTup s.heap a its.toArray) (xs.length<=sizeLine):=by obtain h | ⟨o,its,n,hk,hc,_,hs,hz,r⟩:=h;let⟨z,its,r,p⟩:=h.ok I.cT;show#[its,r,p.t,z];exact#[its.toList,r,#[o,I.oH a o hk,hc,n, ⇑hs],?_];have e:=r.length;simp![cu] at e;lia
def Inv.De {σ:St}(I:Inv X aj σ H s)(h:i9 X.K H a xs): ∃its:d3 d4,dh (cD xs its) (k8 s.heap a its.toArray) (xs.length<=sizeLine):=by obtain h | ⟨o,its,n,hk,hc,hd,hs,hz,r⟩:=h;let⟨z,its,r,p⟩:=h.ok I.cT;show#[its,r,p,z];exact#[its.toList,r,#[o,I.oH a o hk,hc,n, ⇑hs,hd],?_];have e:=r.length;simp![cu] at e;lia
def Inv.list_inj {σ:St}(I:Inv X aj σ H s)(h:gC X.K H a xs)(h':gC X.K H a ys):xs=ys:=by let⟨its,r,⟨o,n,e,_,_,d⟩,_⟩:=I.list h;let⟨its',r',⟨o',n',e',_,_,d'⟩,_⟩:=I.list h';rw[e] at e';cases e';rw[d] at d';injection d' with d1 _;have:its=its':= ⇑(congrArg Array.toList d1);subst this;show r.inj r'
def Inv.nC {σ:St}(I:Inv X aj σ H s)(h:i9 X.K H a xs)(h':i9 X.K H a ys):xs=ys:=by let⟨its,r,⟨o,e,_,n,d⟩,_⟩:=I.tuple h;let⟨its',r',⟨o',e',_,n',d'⟩,_⟩:=I.tuple h';rw[e] at e';cases e';rw[d] at d';injection d' with d1 _;have:its=its':= ⇑(congrArg Array.toList d1);subst this;show r.inj r'
abbrev Cx.qY (X:Cx)(E:d4 ->d5 ->Prop):Cx:= {X with xe:=E}
abbrev Cx.NE (X:Cx):Cx:=X.qY λ_ _=>False
theorem Cx.Ok.qY {X:Cx}(ok:X.Ok)(E:d4 ->d5 ->Prop):(X.qY E).Ok:=#[ok.mod,ok.kind,ok.glob,ok.blt,ok.above,ok.inj,ok.has,ok.To,ok.hd,ok.frames,ok.Uz,ok.exf,ok.bs,ok.Hh,ok.EY,ok.Ca,ok.oO,ok.OK]
theorem Cx.Ok.jT {X:Cx}(ok:(X.qY E).Ok):X.Ok:=#[ok.mod,ok.kind,ok.glob,ok.blt,ok.above,ok.inj,ok.has,ok.To,ok.hd,ok.frames,ok.Uz,ok.exf,ok.bs,ok.Hh,ok.EY,ok.Ca,ok.oO,ok.OK]
theorem Inv.qY {σ:St}(I:Inv X aj σ H s)(E:d4 ->d5 ->Prop):Inv (X.qY E) aj σ H s:=#[I.ok.qY E,I.os,I.bare,I.base,I.loc,I.cell,I.free,I.iC,I.pin,I.cT,I.len]
theorem Inv.jT {σ:St}(I:Inv (X.qY E) aj σ H s):Inv X aj σ H s:=#[I.ok.jT,I.os,I.bare,I.base,I.loc,I.cell,I.free,I.iC,I.pin,I.cT,I.len]
def SP.jT (h:SP (X.qY E) aj D f s'):SP X aj D f s':=by
 cases f with
 | next=>let⟨σ',H',I,q⟩:=h;show#[σ',H',I.jT,q]
 | brk=>let⟨σ',H',I,q⟩:=h;show#[σ',H',I.jT,q]
 | cont=>let⟨σ',H',I,q⟩:=h;show#[σ',H',I.jT,q]
 | ret u=>let⟨v,σ',H',I,r,q⟩:=h;show#[v,σ',H',I.jT,r,q]
theorem xp.NE {st:d3 Stmt}(h:xp X.NE st t):xp X st t:=λaj s σ H D I hw=>bM (h aj s σ H D (I.qY _) hw) (λ_ _ q=>q.jT) λ_ _ z=>False.elim z
section
variable {X:Cx}{st:Stmt}{dU:d3 Stmt}{t u:TS}{e:Expr}{te:TE}{pos:Pos}
def KD:TS:=λD σ H=>D.nx σ H
def MQ (t u:TS):TS:=λD σ H=>t {D with nx:=u D} σ H
theorem eg:xp X [] KD:=λ_ _ σ H _ I h=>wpAny_execs_nil #[σ,H,I,h]
def aO (h1:PS X st t)(h2:xp X dU u):xp X (st::dU) (MQ t u):=by
 intro aj s σ H D I h;exact wpAny_execs_cons (cY (h1 aj s σ H {D with nx:=u D} I h) λf s1 q=> ?_);cases f with
 | next=>let⟨σ',H',I',q⟩:=q;show h2 aj s1 σ' H' D I' q
 | ret v=>show q
 | brk=>show q
 | cont=>show q
def aZ (h1:PS X st t):xp X [st] t:=by
 intro aj s σ H D I h;exact wpAny_execs_cons (cY (h1 aj s σ H D I h) λf s1 q=> ?_);cases f with
 | next=>show wpAny_execs_nil q
 | ret v=>show q
 | brk=>show q
 | cont=>show q
def KL:TS:=λD σ H=>D.ct σ H
theorem vG:PS X (.Continue pos) KL:=λ_ _ σ H _ I h=>wpAny_Continue #[σ,H,I,h]
def Inv.quiet {σ:St}(I:Inv X aj σ H s):interactive X.env=false:=by simp[interactive,I.ok.kind]
def KI (te:TE):TS:=λD σ H=>te σ H λ_ H1=>D.nx σ H1
def gf (he:PE X e te)(hs:swapsWith e none pos.line X.env=pure false:=by rfl):PS X (.Expr e pos) (KI te):=by intro aj s σ H D I h;show wpAny_Expr_any (cY (he aj s σ H _ I h) λv s1 ⟨x,H1,I1,r1,q1⟩=>#[σ,H1,I1,q1]) I.quiet hs
def QH (te:TE):TS:=λD σ H=>te σ H D.rt
def cU (he:PE X e te):PS X (.Return (some e) pos) (QH te):=by intro aj s σ H D I h;show wpAny_Return_some (cY (he aj s σ H _ I h) λv s1 ⟨x,H1,I1,r1,q1⟩=>#[x,σ,H1,I1,r1,q1])
def Kz:TS:=λD _ H=>D.rt .dY H
theorem Ia:PS X (.Return none pos) Kz:=λ_ _ σ H _ I h=>wpAny_Return_none #[.dY,σ,H,I,rfl,h]
def QN (c:TT)(t u:TS):TS:=λD σ H=>c σ H λb H1=>if b=true then t D σ H1 else u D σ H1
def fX (hc:PT X c tc)(ha:xp X a t)(hb:xp X b u):PS X (.If c a b pos) (QN tc t u):=by
 intro aj s σ H D I h;exact wpAny_If (cY (hc aj s σ H _ I h) λd s1 ⟨H1,I1,q1⟩=> ?_);cases d with
 | true=>show ha aj s1 σ H1 D I1 q1
 | false=>show hb aj s1 σ H1 D I1 q1
end
abbrev TG:=V ->St ->Hp ->(St ->Hp ->Prop) ->Prop
abbrev Hj:=d3 V ->St ->Hp ->(St ->Hp ->Prop) ->Prop
def PG (X:Cx)(nE:Expr)(t:TG):Prop:=∀ (aj:d3 (gi×Obj)) (s:d5) (σ:St) (H:Hp) (v:V) (u:d4) (Q:St ->Hp ->Prop),Inv X aj σ H s ->RelV v u ->t v σ H Q ->wpAny (model X.prog X.w) X.A (assign nE X.env u) (λ_ s'=>cJ λσ' H'=>Inv X aj σ' H' s' /\ Q σ' H') X.xe s
def Vr (X:Cx)(ts:d3 Expr)(t:Hj):Prop:=∀ (aj:d3 (gi×Obj)) (s:d5) (σ:St) (H:Hp) (vs:d3 V) (us:d3 d4) (Q:St ->Hp ->Prop),Inv X aj σ H s ->cD vs us ->t vs σ H Q ->wpAny (model X.prog X.w) X.A (assignInOrder ((assignEach ts X.env).map (·.2)) us) (λ_ s'=>cJ λσ' H'=>Inv X aj σ' H' s' /\ Q σ' H') X.xe s
abbrev GA:=V ->V ->V ->Hp ->(Hp ->Prop) ->Prop
def TD (X:Cx)(t:GA):Prop:=∀ (aj:d3 (gi×Obj)) (s:d5) (σ:St) (H:Hp) (o i v:V) (ov iv u:d4) (Q:Hp ->Prop),Inv X aj σ H s ->RelV o ov ->RelV i iv ->RelV v u ->t o i v H Q ->wpAny (model X.prog X.w) X.A (setItem ov iv u) (λ_ s'=> ∃H',Inv X aj σ H' s' /\ Q H') X.xe s
def oi (i:Nat):TG:=λv σ H Q=>Q (σ.set i (some v)) H
def bX (hN:X.N.Nodup)(hi:X.N[i]? =some x)(hx:Loc X.env.scope x)(hf:X.fn x=true \/ X.env.scope.names.lookup x=some .local:=by first | show .inl rfl | show .inr rfl | assumption):PG X (.Name x pos) (oi i):=by intro aj s σ H v u Q I r h;show wpAny_assign_Name (vn I hN hi hx r (λs' I'=>#[_,H,I',h]) hf)
def OI:Hj:=λvs σ H Q=>vs= [] /\ Q σ H
def Az (t:TG)(u:Hj):Hj:=λvs σ H Q=>cJ λv r=>vs=v::r /\ t v σ H λσ' H'=>u r σ' H' Q
def jx:Vr X [] OI:=by intro aj s σ H vs us Q I r h;let⟨e,h⟩:=h;subst e;cases r;show assignInOrder_nil #[σ,H,I,h]
def eh (h1:PG X e t)(h2:Vr X es u)(hs:(assignEach (e::es) X.env).map (·.2)=assign e X.env::(assignEach es X.env).map (·.2):=by rfl):Vr X (e::es) (Az t u):=by
 intro aj s σ H vs us Q I r h;let⟨v,vr,e1,h⟩:=h;subst e1;cases r with
 | cons r rr=>rw[hs];exact assignInOrder_cons (cY (h1 aj s σ H _ _ _ I r h) λ_ s1 ⟨σ1,H1,I1,q1⟩=> ?_);show h2 aj s1 σ1 H1 _ _ Q I1 rr q1
def OH (K:RZ)(n:Nat)(t:Hj):TG:=λv σ H Q=>cJ λa xs=>fh (v= .ref a) (i9 K H a xs) (xs.length=n) (t xs σ H Q)
def lI {pos:Pos}{k:Nat}(hc:X.calm=true)(h:Vr X es t)(hn:(assignEach es X.env).length=n:=by rfl)(iB:(assignEach es X.env).findIdx? (·.1)=none:=by rfl):PG X (.Tuple es k pos) (OH X.K n t):=by intro aj s σ H v u Q I r hw;let⟨a,xs,e1,hq,hl,hw⟩:=hw;subst e1;cases r;let⟨its,rv,ht,hz⟩:=I.tuple hq;exact assign_Tuple_tuple (I.ok.hd hc) ht (by simp[hn, <- hl,rv.length]) iB λh' hx=> ?_;have I1:Inv X aj σ H {s with heap:=h'}:=I.kept (t':=s.toks) λb o e=>hx b o (a5 (aF e)) e;show h aj _ σ H xs _ Q I1 ⇑rv hw
def S_ (to ti:TE)(t:GA):TG:=λv σ H Q=>to σ H λo H1=>ti σ H1 λi H2=>t o i v H2 λH3=>Q σ H3
theorem lJ (ho:PE X o to)(hi:PE X i ti)(hs:TD X t)(ha: ∀v,assign (.Subscript o i pos) X.env v=(do
  let ov <- holding [v] (eval o X.env)
  let iv <- holding [v,ov] (eval i X.env)
  standAt pos
  holding [v,ov,iv] (setItem ov iv v)
  release [v,ov,iv] []):=by intro _;rfl):PG X (.Subscript o i pos) (S_ to ti t):=by
 intro aj s σ H v u Q I r h
 rw[ha]
 exact ae (dg (cY (ho aj s σ H _ I h) λov s1 ⟨x,H1,I1,r1,q1⟩=> ?_))
 exact ae (dg (cY (hi aj s1 σ H1 _ I1 q1) λiv s2 ⟨y,H2,I2,r2,q2⟩=> ?_))
 exact ae (wpAny_standAt (ae (dg (cY (hs aj s2 σ H2 x y v ov iv u _ I2 r1 r2 r q2) λ_ s3 ⟨H3,I3,q3⟩=> ?_))))
 show wpAny_release #[σ,H3,I3,q3]
def HE (te:TE)(g:TG):TS:=λD σ H=>te σ H λx H1=>g x σ H1 D.nx
def lH {pos:Pos}(he:PE X e te)(hg:PG X tg g)(hs:swapsWithSole [tg] e pos.line X.env=pure false:=by rfl)(hw:swappedStores [tg] e X.env=pure none:=by rfl)(h1:(assignEach [tg] X.env).map (·.2)= [assign tg X.env]:=by rfl):PS X (.Assign [tg] e pos) (HE te g):=by intro aj s σ H D I h;exact wpAny_Assign_stores (cY (he aj s σ H _ I h) λv s1 ⟨x,H1,I1,r1,q1⟩=> ?_) hs hw;rw[h1];show cY (hg aj s1 σ H1 x v _ I1 r1 q1) λ_ s2 q=>q
def cn {pos:Pos}(hN:X.N.Nodup)(hi:X.N[i]? =some x)(hx:Loc X.env.scope x)(he:PE X e te)(hs:swapsWith e (some (.Name x pN)) pos.line X.env=pure false:=by rfl)(hf:X.fn x=true \/ X.env.scope.names.lookup x=some .local:=by first | show .inl rfl | show .inr rfl | assumption): PS X (.Assign [.Name x pN] e pos) (HE te (oi i)):=by intro aj s σ H D I h;exact wpAny_Assign_Name (cY (he aj s σ H _ I h) λv s1 ⟨y,H1,I1,r1,q1⟩=> ?_) hs;show vn I1 hN hi hx r1 (λs2 I2=>#[_,H1,I2,q1]) hf
def Dl (c:TT)(tb:TS):TS:=λD σ H=> ∃W:Nat ->St ->Hp ->Prop,(∃m,W m σ H) /\ ∀m σ H,W m σ H ->c σ H λb H1=>if b=true then ∃N:St ->Hp ->Prop,(∀σ' H',N σ' H' -> ∃m',m'<m /\ W m' σ' H') /\ tb {D with nx:=N,ct:=N,bk:=D.nx} σ H1 else D.nx σ H1
def Em (hp:PassesOwn (model X.prog X.w) X.A X.env X.xe)(hc:PT X c tc)(hb:xp X body tb):PS X (.While c body [] pos) (Dl tc tb):=by
 intro aj s σ H D I h;let⟨W,⟨m0,w0⟩,turn⟩:=h;exact wpAny_While (codeAny_whileLoop (λn s'=>cJ λσ' H'=>Inv X aj σ' H' s' /\ W n σ' H') ?_ m0 #[σ,H,I,w0]);rintro n s1 ⟨σ1,H1,I1,w1⟩;exact wpAny_passesOwn hp (cY (hc aj s1 σ1 H1 _ I1 (turn n σ1 H1 w1)) λb s2 ⟨H2,I2,q2⟩=> ?_);cases b with
 | true=>
  let⟨N,hN,q2⟩:=q2;rw[ap rfl];exact wpAny_passesOwn hp (cY (hb aj s2 σ1 H2 _ I2 q2) λf s3 q3=> ?_);cases f with
  | next=>let⟨σ3,H3,I3,n3⟩:=q3;let⟨m',hm,w3⟩:=hN σ3 H3 n3;show#[m',hm,σ3,H3,I3,w3]
  | cont=>let⟨σ3,H3,I3,n3⟩:=q3;let⟨m',hm,w3⟩:=hN σ3 H3 n3;show#[m',hm,σ3,H3,I3,w3]
  | brk=>show q3
  | ret v=>show q3
 | false=>rw[ai aW];show wpAny_execs_nil #[σ1,H2,I2,q2]
structure It where
 go:Nat ->Hp ->Prop
 Kh:Nat ->Hp ->V ->Hp ->Prop
 stop:Nat ->Hp ->Prop
def jI (X:Cx)(aj:d3 (gi×Obj))(H:Hp)(b:gi):Prop:=H b=none /\ b≠X.env.locals /\ b∉X.fs /\ (b∈X.ex \/ X.s₀.heap.objs.size<=b) /\ (∀x c,X.env.cells.lookup x=some c ->c≠b) /\ ∀p∈X.pn++aj,p.1≠b
def Inv.rA {σ:St}{b:gi}(I:Inv X aj σ H s)(hb:s.heap.objs.size<=b)(hn:H' b=none):jI X aj H' b:=by exact#[hn,Nat.ne_of_gt (bH I.lt hb),I.W5 hb, .inr (aS I.sz hb),λx c e z=> ?_,λp hp z=> ?_];let⟨v,q⟩:=I.cell x c e;show absurd (bH q.lt (by rw[z];show hb)) (cg _);show absurd (bH (aF (I.pin p hp).1) (by rw[z];show hb)) (cg _)
structure qJ (P:Program)(w:World)(K:PySem.W.Frag)(tg:Expr)(J:It)(fp:List Addr)(it:Addr)(tn:Nat ->Heap ->Prop):Prop where
 mem:it∈fp
 obj: ∀i h,tn i h -> ∀b∈fp, ∃o,h.get? b=some o /\ ∀v,o.data≠ .cell v
 keep: ∀i h h',tn i h ->(∀b∈fp, ∀o,h.get? b=some o ->h'.get? b=some o) ->tn i h'
 item: ∀ (X:Cx),X.prog=P ->X.w=w ->X.K=K ->X.calm=true -> ∀ (i:Nat) (aj:List (Addr×Obj)) (s:Shared) (σ:St) (H:Hp) (E:Value ->Shared ->Prop),Inv X aj σ H s ->(∀b∈fp,jI X aj H b) ->tn i s.heap ->J.go i H ->wpAny (model P w) X.A (pyNext (.ref it)) (λr s1=> ∃u,r=some u /\wpAny (model P w) X.A (letOwnedTupleGo tg (.ref it) u) (λ_ s2=>cJ λx H'=>ja (Inv X aj σ H' s2) (RelV x u) (J.Kh i H x H') (tn (i+1) s2.heap) (∀b∈fp,H' b=none)) E s1) E s
 done: ∀ (X:Cx),X.prog=P ->X.w=w ->X.K=K ->X.calm=true -> ∀ (i:Nat) (aj:List (Addr×Obj)) (s:Shared) (σ:St) (H:Hp) (E:Value ->Shared ->Prop),Inv X aj σ H s ->(∀b∈fp,jI X aj H b) ->tn i s.heap ->J.stop i H ->wpAny (model P w) X.A (pyNext (.ref it)) (λr s1=>r=none /\ Inv X aj σ H s1) E s
 self: ∀ (A:Around) (i:Nat) (s:Shared) (Q:Value ->Shared ->Prop) (E:Value ->Shared ->Prop),tn i s.heap ->Q (.ref it) s ->wpAny (model P w) A (pyIter (.ref it)) Q E s
abbrev TI:=St ->Hp ->(It ->Hp ->Prop) ->Prop
def PIE (X:Cx)(aj:d3 (gi×Obj))(σ:St)(tg:Expr)(R:It ->Hp ->Prop)(RY:d4)(s2:d5):Prop:=J1 λ(it:gi) (fp:d3 gi) (tn:Nat ->Heap ->Prop) (J:It) (H':Hp)=>nh (RY= .ref it) (Inv X aj σ H' s2) (qJ X.prog X.w X.K tg J fp it tn) (tn 0 s2.heap) (∀b∈fp,jI X aj H' b) (R J H')
def PI (X:Cx)(tg iter:Expr)(wi:TI):Prop:=∀ (aj:d3 (gi×Obj)) (s:d5) (σ:St) (H:Hp) (R:It ->Hp ->Prop),Inv X aj σ H s ->wi σ H R ->wpAny (model X.prog X.w) X.A (eval iter X.env) (λv s1=>wpAny (model X.prog X.w) X.A (pyIter v) (PIE X aj σ tg R) X.xe s1) X.xe s
def wv (ho:s.heap.get? it=some o)(hc:o.cls= .type n)(hd:o.data= .fields vs)(hn: ["enumerate","zip","dict_itemiterator","dict_reverseitemiterator","odict_iterator","itertools.zip_longest","itertools.pairwise"].contains n=false)(hQ:Q () s):wpAny M A (letOwnedTupleGo tg (.ref it) u) Q E s:=by
 unfold letOwnedTupleGo;cases tg <;>first
 | show ax hQ
 | (cases u<;>first
  | show ax hQ
  | (exact ae (wpAny_load ho ?_)
     rw[hc,hd]
     change wpAny M A (if(["enumerate","zip","dict_itemiterator","dict_reverseitemiterator","odict_iterator","itertools.zip_longest","itertools.pairwise"].contains n && vs[0]? ==some (rawInt _))=true then _ else _) Q E s
     rw[ai (by intro h;rw[hn,Bool.false_and] at h;cases h)]
     show ax hQ))
def Z8 (K:RZ)(a:gi):It:=#[λi H=>cJ λxs x=>gC K H a xs /\ xs[i]? =some x,λi H x H'=>H'=H /\ ∀xs,gC K H a xs ->xs[i]? =some x,λi H=> ∃xs,gC K H a xs /\ xs.length<=i]
def Z7 (K:RZ)(a:gi):It:=#[λi H=>cJ λxs x=>i9 K H a xs /\ xs[i]? =some x,λi H x H'=>H'=H /\ ∀xs,i9 K H a xs ->xs[i]? =some x,λi H=> ∃xs,i9 K H a xs /\ xs.length<=i]
def Vs (lo:Int)(n:Nat):It:=#[λi _=>i<n,λi H x H'=>H'=H /\ x= .int (lo+i),λi _=>n<=i]
def Bc {P:R1}{w:World}{K:RZ}{tg:Expr}(a it:gi):qJ P w K tg (Z8 K a) [it] it (λi h=>h.IsListIter it a i) where
 mem:=by simp
 obj:=λi h st b hb=>by have e:b=it:= ⇑hb;subst e;let⟨o,e,c,d⟩:=st;show#[o,e,λv z=>by rw[d] at z;cases z]
 keep:=λi h h' st k=>st.at λo e=>k it (by simp) o e
 item:=by intro X hP hw hK hc i aj s σ H E I hf st hg;subst hP hw hK;let⟨xs,x,hq,hx⟩:=hg;let⟨its,rv,p,hz⟩:=I.list hq;let⟨u,hu,ru⟩:=rv.get hx;let⟨f0,f1,f2,f3,f4,f5⟩:=hf it (by simp);exact wpAny_pyNext_list_item st p.isList (x:=u) ⇑hu λh' bA sb=> ?_;have I1:Inv X aj σ H {s with heap:=h'}:=I.turned (t':=s.toks) (λb o hb e=>(sb.2 b hb).trans e) f0 f1 f3 f4 f5;let⟨o,e,c,d⟩:=id bA;show#[u,rfl,wv (s:= {s with heap:=h'}) e c d ⋯ #[x,H,I1,ru,#[rfl,λys hy=>by rw[I.list_inj hy hq];show hx],bA,λb hb=>(hf b hb).1]]
 done:=by intro X hP hw hK hc i aj s σ H E I hf st hg;subst hP hw hK;let⟨xs,hq,hx⟩:=hg;let⟨its,rv,p,hz⟩:=I.list hq;let⟨f0,f1,f2,f3,f4,f5⟩:=hf it (by simp);have hl:=rv.length;show wpAny_pyNext_list_end (I.ok.hd hc) st p.isList (by simp;lia) λh' eb=>#[rfl,I.turned (t':=s.toks) (λb o hb e=>eb b o hb e) f0 f1 f3 f4 f5]
 self:=λ_ _ _ _ _ st h=>wpAny_pyIter_listiter st h
def xy {P:R1}{w:World}{K:RZ}{tg:Expr}(a it:gi):qJ P w K tg (Z7 K a) [it] it (λi h=>h.IsTupleIter it a i) where
 mem:=by simp
 obj:=λi h st b hb=>by have e:b=it:= ⇑hb;subst e;let⟨o,e,c,d⟩:=st;show#[o,e,λv z=>by rw[d] at z;cases z]
 keep:=λi h h' st k=>st.at λo e=>k it (by simp) o e
 item:=by intro X hP hw hK hc i aj s σ H E I hf st hg;subst hP hw hK;let⟨xs,x,hq,hx⟩:=hg;let⟨its,rv,p,hz⟩:=I.tuple hq;let⟨u,hu,ru⟩:=rv.get hx;let⟨f0,f1,f2,f3,f4,f5⟩:=hf it (by simp);exact wpAny_pyNext_tuple_item st (show s.heap.IsTuple a its.toArray from p) (x:=u) ⇑hu λh' bA sb=> ?_;have I1:Inv X aj σ H {s with heap:=h'}:=I.turned (t':=s.toks) (λb o hb e=>(sb.2 b hb).trans e) f0 f1 f3 f4 f5;let⟨o,e,c,d⟩:=id bA;show#[u,rfl,wv (s:= {s with heap:=h'}) e c d ⋯ #[x,H,I1,ru,#[rfl,λys hy=>by rw[I.nC hy hq];show hx],bA,λb hb=>(hf b hb).1]]
 done:=by intro X hP hw hK hc i aj s σ H E I hf st hg;subst hP hw hK;let⟨xs,hq,hx⟩:=hg;let⟨its,rv,p,hz⟩:=I.tuple hq;let⟨f0,f1,f2,f3,f4,f5⟩:=hf it (by simp);have hl:=rv.length;show wpAny_pyNext_tuple_end (I.ok.hd hc) st (show s.heap.IsTuple a its.toArray from p) (by simp;lia) λh' eb=>#[rfl,I.turned (t':=s.toks) (λb o hb e=>eb b o hb e) f0 f1 f3 f4 f5]
 self:=λ_ _ _ _ _ st h=>wpAny_pyIter_tupleiter st h
def xz {P:R1}{w:World}{K:RZ}{tg:Expr}(it:gi)(lo:Int)(n:Nat):qJ P w K tg (Vs lo n) [it] it (λi h=>IsRangeIter h it (lo+(i:Nat)*1) ((n:Int) - (i:Nat)) 1) where
 mem:=by simp
 obj :=λi h st b hb=>by have e:b=it:= ⇑hb;subst e;show#[_,st,λv z=>by have z':Data.fields _=Data.cell v:=z;cases z']
 keep:=λi h h' st k=>k it (by simp) _ st
 item:=by intro X hP hw hK hc i aj s σ H E I hf st hg;subst hP hw hK;let⟨f0,f1,f2,f3,f4,f5⟩:=hf it (by simp);have W:=Walks.range (prog:=X.prog) (w:=X.w) (I.ok.hd hc) it lo 1 n;exact W.item i s _ _ hg st λv h' tk hv bA kk=> ?_;let⟨t,rfl⟩:=hv;have I1:Inv X aj σ H {s with heap:=h',toks:=tk}:=I.turned (λb o hb e=>kk b o ⇑hb e) f0 f1 f3 f4 f5;exact#[_,rfl,wv (s:= {s with heap:=h',toks:=tk}) (n:= "range_iterator") bA rfl rfl ⋯ #[.int (lo+i),H,I1,#[t,?_],#[rfl,rfl],bA,λb hb=>(hf b hb).1]];rw[Int.mul_one]
 done:=by intro X hP hw hK hc i aj s σ H E I hf st hg;subst hP hw hK;let⟨f0,f1,f2,f3,f4,f5⟩:=hf it (by simp);show wpAny_pyNext_range_end (I.ok.hd hc) st (by have:n<=i:=hg;lia) λh' eb=>#[rfl,I.turned (t':=s.toks) (λb o hb e=>eb b o hb e) f0 f1 f3 f4 f5]
 self:=λ_ _ _ _ _ st h=>wpAny_pyIter_rangeiter st h
def FA (K:RZ)(tl:TE):TI:=λσ H R=>tl σ H λx H1=> ∃a,dh (x= .ref a) (∃xs,gC K H1 a xs) (R (Z8 K a) H1)
def R9 (K:RZ)(tl:TE):TI:=λσ H R=>tl σ H λx H1=> ∃a,dh (x= .ref a) (∃xs,i9 K H1 a xs) (R (Z7 K a) H1)
def eR (hl:PE X l tl):PI X tg l (FA X.K tl):=by intro aj s σ H R I h;exact cY (hl aj s σ H _ I h) λv s1 ⟨x,H1,I1,r1,q1⟩=> ?_;let⟨a,e,⟨xs,hq⟩,q⟩:=q1;subst e;cases r1;let⟨its,rv,p,hz⟩:=I1.list hq;exact wpAny_pyIter_list p.isList ?_;exact#[s1.heap.objs.size,[s1.heap.objs.size],_,_,H1,rfl,I1.kept (t':=s1.toks) λb o e=>aq _ e,Bc a _,#[_,aM _ rfl,rfl,rfl],λb hb=> ?_,q];have e:b=s1.heap.objs.size:= ⇑hb;subst e;show I1.rA (ao _) (I1.cT.fresh (ao _))
def xX (hl:PE X l tl):PI X tg l (R9 X.K tl):=by intro aj s σ H R I h;exact cY (hl aj s σ H _ I h) λv s1 ⟨x,H1,I1,r1,q1⟩=> ?_;let⟨a,e,⟨xs,hq⟩,q⟩:=q1;subst e;cases r1;let⟨its,rv,p,hz⟩:=I1.tuple hq;exact wpAny_pyIter_tuple (show s1.heap.IsTuple a its.toArray from p) ?_;exact#[s1.heap.objs.size,[s1.heap.objs.size],_,_,H1,rfl,I1.kept (t':=s1.toks) λb o e=>aq _ e,xy a _,#[_,aM _ rfl,rfl,rfl],λb hb=> ?_,q];have e:b=s1.heap.objs.size:= ⇑hb;subst e;show I1.rA (ao _) (I1.cT.fresh (ao _))
def Ec {σ:St}{lo hi:Int}(I:Inv X aj σ H s)(h1: -(2 ^ 62) <=lo)(h2:lo<2 ^ 62)(h3: -(2 ^ 62) <=hi)(h4:hi<2 ^ 62)(q:R (Vs lo (hi - lo).toNat) H):wpAny (model X.prog X.w) X.A (pyIter (.ref s.heap.objs.size)) (PIE X aj σ tg R) E {s with heap:=s.heap.push {cls:= .type "range",data:= .fields (List.toArray [.int lo t, .int hi u, .int 1 v])},toks:=tk}:=by
 exact wpAny_pyIter_range (IsRange.new ..) (small_one h1 h2 h3 h4) ?_;have I1:Inv X aj σ H {s with heap:=s.heap.push {cls:= .type "range",data:= .fields (List.toArray [.int lo t, .int hi u, .int 1 v])},toks:=tk}:=I.kept λb o e=>aq _ e;exact#[(s.heap.push {cls:= .type "range",data:= .fields (List.toArray [.int lo t, .int hi u, .int 1 v])}).objs.size,[(s.heap.push {cls:= .type "range",data:= .fields (List.toArray [.int lo t, .int hi u, .int 1 v])}).objs.size],_,_,H,rfl,I1.kept (t':=tk) λb o e=>aq _ e,xz _ lo (hi - lo).toNat,?_,λb hb=> ?_,q];have e1:lo+((0:Nat):Int)*1=lo:=by simp
 have e2:(((hi - lo).toNat:Nat):Int) - ((0:Nat):Int)=Builtin.Range.rangeSize lo hi 1:=by rw[rangeSize_one];split<;>lia
 change IsRangeIter _ _ (lo+((0:Nat):Int)*1) ((((hi - lo).toNat:Nat):Int) - ((0:Nat):Int)) 1;rw[e1,e2];show aM _ rfl;have e:b=(s.heap.push {cls:= .type "range",data:= .fields (List.toArray [.int lo t, .int hi u, .int 1 v])}).objs.size:=by simpa using hb
 subst e;show I1.rA (ao _) (I1.cT.fresh (ao _))
def LC (ta:TA):TI:=λσ H R=>ta σ H λvs H1=> ∃j:Int,fh (vs= [.int j]) (-(2 ^ 62) <=j) (j<2 ^ 62) (R (Vs 0 j.toNat) H1)
def ji (hg:Gl X "range")(hm:X.mg "range" =none)(ha:PA X [a] ta)(hs:starEach [a] X.env= [(false,eval a X.env)]:=by rfl):PI X tg (.Call (.Name "range" p) [a] [] pos) (LC ta):=by
 intro aj s σ H R I h;exact Call_ (gz I hg hm boot_range (bG (cY (ha pos aj s σ H _ I h) λus s1 ⟨vs,H1,I1,r1,q1⟩=> ?_) hs rfl));let⟨j,e,q1,q2,q⟩:=q1;subst e;cases r1 with
 | cons r rr=>cases rr;let⟨t,rfl⟩:=r;show call_range_1 (Ec I1 ∅ ∅ q1 q2 ⇑q)
def QO (wi:TI)(g:TG)(tb:TS):TS:=λD σ H=>wi σ H λJ H1=> ∃W:Nat ->Nat ->St ->Hp ->Prop,(∃m,W 0 m σ H1) /\ ∀i m σ H,W i m σ H ->(J.stop i H /\ D.nx σ H) \/ (J.go i H /\ ∃N:St ->Hp ->Prop,(∀σ' H',N σ' H' -> ∃m',m'<m /\ W (i+1) m' σ' H') /\ ∀x H',J.Kh i H x H' ->g x σ H' λσ2 H2=>tb {D with nx:=N,ct:=N,bk:=D.nx} σ2 H2)
def iu (fp:d3 gi)(h:Heap):d3 (gi×Obj):=fp.filterMap λb=>(h.get? b).map λo=>(b,o)
theorem fq (hb:b∈fp)(e:h.get? b=some o):(b,o)∈iu fp h:=List.mem_filterMap.mpr #[b,hb,by rw[e];rfl]
def Bw (hp:p∈iu fp h):p.1∈fp /\ h.get? p.1=some p.2:=by
 let⟨b,hb,e⟩:=List.mem_filterMap.mp hp;cases q:h.get? b with
 | none=>rw[q] at e;cases e
 | some o=>rw[q] at e;have e':(b,o)=p:=bm e;subst e';show#[hb,q]
theorem Inv.pinned {σ:St}(I:Inv X aj σ H s)(hf: ∀b∈fp,jI X aj H b)(ho: ∀b∈fp, ∃o,s.heap.get? b=some o /\ ∀v,o.data≠ .cell v):Inv X (aj++iu fp s.heap) σ H s:=I.zY λp hp=>(aA.mp hp).elim (λz=>I.pin p (aX _ z)) λz=>by let⟨hb,e⟩:=Bw z;let⟨f0,f1,f2,_⟩:=hf p.1 hb;let⟨o,e',d⟩:=ho p.1 hb;rw[e] at e';cases e';show#[e,f0,f1,f2,d]
theorem Inv.je {σ:St}(I:Inv X (aj++pl) σ H s):Inv X aj σ H s:=I.zY λp hp=>I.pin p (aX _ (List.mem_append_left _ hp))
def fo (hp:PassesOwn (model X.prog X.w) X.A X.env X.xe)(hc:X.calm=true)(hi:PI X tg iter wi)(hg:PG X tg g)(hb:xp X body tb)(hs: ∀x,foldedSetIterable iter X.env x=pure x:=by intro _;rfl):PS X (.For tg iter body [] pos) (QO wi g tb):=by
 intro aj s σ H D I h;exact wpAny_For (cY (hi aj s σ H _ I h) λv s1 h1=>cY h1 λRY s2 h2=> ?_) hs;let⟨it,fp,tn,J,H2,e,I2,T,lf,f2,W,⟨m0,w0⟩,turn⟩:=h2;subst e;have pF: ∀ {H':Hp},(∀b∈fp,H' b=none) -> ∀b∈fp,jI X aj H' b:=λhn b hb=>#[hn b hb,(f2 b hb).2]
 exact codeAny_forLoop_any (λn s'=>gv λi σ' H'=>fh (Inv X aj σ' H' s') (tn i s'.heap) (∀b∈fp,H' b=none) (W i n σ' H')) ?_ m0 #[0,σ,H2,I2,lf,λb hb=>(f2 b hb).1,w0];rintro n s3 ⟨i,σ3,H3,I3,n6,F8,w3⟩;rcases turn i n σ3 H3 w3 with⟨stop,qn⟩ | ⟨go,N,hN,step⟩
 .exact wpAny_passesOwn hp (cY (T.done X rfl rfl rfl hc i aj s3 σ3 H3 X.xe I3 (pF F8) n6 stop) λr s4 ⟨hr,I4⟩=> ?_);subst hr;show wpAny_execs_nil #[σ3,H3,I4,qn]
 .exact wpAny_passesOwn hp (cY (T.item X rfl rfl rfl hc i aj s3 σ3 H3 X.xe I3 (pF F8) n6 go) λr s4 ⟨u,hr,h4⟩=> ?_);subst hr;exact wpAny_passesOwn hp (cY h4 λ_ s5 ⟨x,H5,I5,r5,y5,Pe,fr5⟩=> ?_);have I5':=I5.pinned (pF fr5) (T.obj _ _ Pe);exact wpAny_passesOwn hp (cY (hg _ s5 σ3 H5 x u _ I5' r5 (step x H5 y5)) λ_ s6 ⟨σ6,H6,I6,q6⟩=> ?_);exact wpAny_passesOwn hp (cY (hb _ s6 σ6 H6 _ I6 q6) λf s7 q7=> ?_);have again: ∀ {σ7:St} {H7:Hp},Inv X (aj++iu fp s5.heap) σ7 H7 s7 ->N σ7 H7 -> ∃m,m<n /\ gv λi σ' H'=>fh (Inv X aj σ' H' s7) (tn i s7.heap) (∀b∈fp,H' b=none) (W i m σ' H'):=λ{σ7 H7} I7 n7=>by let⟨m',hm,w7⟩:=hN σ7 H7 n7;exact#[m',hm,i+1,σ7,H7,I7.je,T.keep _ _ _ Pe λb hb o e=>(I7.pin (b,o) (aX _ (aX _ (fq hb e)))).1,λb hb=> ?_,w7];let⟨o,e,d⟩:=T.obj _ _ Pe b hb;show(I7.pin (b,o) (aX _ (aX _ (fq hb e)))).2.1
  cases f with
  | next=>let⟨σ7,H7,I7,n7⟩:=q7;show again I7 n7
  | cont=>let⟨σ7,H7,I7,n7⟩:=q7;show again I7 n7
  | brk=>let⟨σ7,H7,I7,q7⟩:=q7;show#[σ7,H7,I7.je,q7]
  | ret v=>let⟨x7,σ7,H7,I7,r7,q7⟩:=q7;show#[x7,σ7,H7,I7.je,r7,q7]
abbrev R2:=V ->V ->Hp ->VK ->Prop
def qP (X:Cx)(f:d4 ->d4 ->Sem d4)(r:R2):Prop:=∀ (aj:d3 (gi×Obj)) (s:d5) (σ:St) (H:Hp) (x y:V) (v u:d4) (Q:VK),Inv X aj σ H s ->RelV x v ->RelV y u ->r x y H Q ->wpAny (model X.prog X.w) X.A (f v u) (EP X aj σ Q) X.xe s
def Z1 (X:Cx)(f:d4 ->Sem d4)(r:V ->Hp ->VK ->Prop):Prop:=∀ (aj:d3 (gi×Obj)) (s:d5) (σ:St) (H:Hp) (x:V) (v:d4) (Q:VK),Inv X aj σ H s ->RelV x v ->r x H Q ->wpAny (model X.prog X.w) X.A (f v) (EP X aj σ Q) X.xe s
def gL (X:Cx)(f:d4)(r:d3 V ->Hp ->VK ->Prop):Prop:=∀ (aj:d3 (gi×Obj)) (s:d5) (σ:St) (H:Hp) (xs:d3 V) (us:d3 d4) (Q:VK),Inv X aj σ H s ->cD xs us ->r xs H Q ->wpAny (model X.prog X.w) X.A (call f us) (EP X aj σ Q) X.xe s
def Z2 (X:Cx)(r:V ->Hp ->(Bool ->Hp ->Prop) ->Prop):Prop:=∀ (aj:d3 (gi×Obj)) (s:d5) (σ:St) (H:Hp) (x:V) (v:d4) (Q:Bool ->Hp ->Prop),Inv X aj σ H s ->RelV x v ->r x H Q ->wpAny (model X.prog X.w) X.A (truthy v) (TP X aj σ Q) X.xe s
def QI (r:R2)(ta tb:TE):TE:=λσ H Q=>ta σ H λx H1=>tb σ H1 λy H2=>r x y H2 Q
def _H (r:V ->Hp ->VK ->Prop)(ta:TE):TE:=λσ H Q=>ta σ H λx H1=>r x H1 Q
def rI (C:Int ->Int ->Prop)(g:Int ->Int ->V):R2:=λx y H Q=>cJ λi j=>fh (x= .int i) (y= .int j) (C i j) (Q (g i j) H)
def Lg (g:Int ->Int ->V):R2:=λx y H Q=>cJ λi j=>dh (x= .int i) (y= .int j) (Q (g i j) H)
def rU (g:Int ->V):V ->Hp ->VK ->Prop:=λx H Q=> ∃i,x= .int i /\ Q (g i) H
def OV (ha:PE X a ta)(hb:PE X b tb){σ:St}{R:V ->V ->Hp ->Prop}(I:Inv X aj σ H s)(h:ta σ H λx H1=>tb σ H1 λy H2=>R x y H2){f:d4 ->d4 ->Sem d4}(hf: ∀v u s2 x y H2,Inv X aj σ H2 s2 ->RelV x v ->RelV y u ->R x y H2 ->wpAny (model X.prog X.w) X.A (f v u) Q X.xe s2): wpAny (model X.prog X.w) X.A (eval a X.env) (λv s₁=>wpAny (model X.prog X.w) X.A (eval b X.env) (λu s₂=>wpAny (model X.prog X.w) X.A (f v u) Q X.xe s₂) X.xe s₁) X.xe s:=by exact cY (ha aj s σ H _ I h) λv s1 ⟨x,H1,I1,r1,q1⟩=> ?_;exact cY (hb aj s1 σ H1 _ I1 q1) λu s2 ⟨y,H2,I2,r2,q2⟩=> ?_;show hf v u s2 x y H2 I2 r1 r2 q2
def b_ (ho:qP X (binaryOp op) r)(ha:PE X a ta)(hb:PE X b tb):PE X (.BinOp a op b pos) (QI r ta tb):=by intro aj s σ H Q I h;show wpAny_BinOp (OV ha hb I h λv u s2 x y H2 I2 rx ry q=>ho aj s2 σ H2 x y v u Q I2 rx ry q)
def lj (ho:Z1 X (unaryOp op) r)(ha:PE X a ta):PE X (.UnaryOp op a pos) (_H r ta):=by intro aj s σ H Q I h;show UnaryOp_ (cY (ha aj s σ H _ I h) λv s1 ⟨x,H1,I1,r1,q1⟩=>ho aj s1 σ H1 x v Q I1 r1 q1)
def UM {g:Int ->Int ->Int}(rule: ∀ (i j:Int) (t u:Tok) (s:d5) (Q:d4 ->d5 ->Prop) (E:d4 ->d5 ->Prop),C i j ->Q (.int (g i j) s.toks) {s with toks:=s.toks+1} ->wpAny (model X.prog X.w) X.A (f (.int i t) (.int j u)) Q E s): qP X f (rI C λi j=> .int (g i j)):=by intro aj s σ H x y v u Q I rx ry h;let⟨i,j,rfl,rfl,hc,q⟩:=h;let⟨t,rfl⟩:=rx;let⟨t',rfl⟩:=ry;show rule i j t t' s _ _ hc #[.int (g i j),H,I.tok _,#[_,rfl],q]
def Rw {g:Int ->Int ->Int}(rule: ∀ (i j:Int) (t u:Tok) (s:d5) (Q:d4 ->d5 ->Prop) (E:d4 ->d5 ->Prop),Q (.int (g i j) s.toks) {s with toks:=s.toks+1} ->wpAny (model X.prog X.w) X.A (f (.int i t) (.int j u)) Q E s): qP X f (Lg λi j=> .int (g i j)):=by intro aj s σ H x y v u Q I rx ry h;let⟨i,j,rfl,rfl,q⟩:=h;let⟨t,rfl⟩:=rx;let⟨t',rfl⟩:=ry;show rule i j t t' s _ _ #[.int (g i j),H,I.tok _,#[_,rfl],q]
def NA {g:Int ->Int ->Bool}(rule: ∀ (i j:Int) (t u:Tok) (s:d5) (Q:d4 ->d5 ->Prop) (E:d4 ->d5 ->Prop),Q (.bool (g i j)) s ->wpAny (model X.prog X.w) X.A (f (.int i t) (.int j u)) Q E s): qP X f (Lg λi j=> .bl (g i j)):=by intro aj s σ H x y v u Q I rx ry h;let⟨i,j,rfl,rfl,q⟩:=h;let⟨t,rfl⟩:=rx;let⟨t',rfl⟩:=ry;show rule i j t t' s _ _ #[.bl (g i j),H,I,rfl,q]
def zj (i j:Int):Prop:=0<j /\ j<1073741824
def O4 (i j:Int):Prop:=0<=j /\ j<=1000000 /\ i.natAbs<2 ^ 64
def jq (i j:Int):Prop:=(-(2 ^ 64) <i /\ i<2 ^ 64) \/ (-(2 ^ 64) <j /\ j<2 ^ 64)
def jq.ok (h:jq i j):IntMulOk i j:=by
 rcases h with⟨h1,h2⟩ | ⟨h1,h2⟩
 show .of_left (intBits_le_64 h1 h2);show .of_right (intBits_le_64 h1 h2)
theorem eZ:qP X (binaryOp .Add) (Lg λi j=> .int (i+j)):=Rw λ_ _ _ _ _ _ _ q=>add_int q
theorem jX:qP X (binaryOp .Sub) (Lg λi j=> .int (i - j)):=Rw λ_ _ _ _ _ _ _ q=>sub_int q
theorem gx:qP X (binaryOp .Mult) (rI jq λi j=> .int (i*j)):=UM λ_ _ _ _ _ _ _ hc q=>mul_int q hc.ok
theorem uj:qP X (binaryOp .FloorDiv) (rI zj λi j=> .int (i / j)):=UM λi j _ _ _ _ _ hc q=>by have h1:(0:Int) <j:=hc.1;have h2:j<1073741824:=hc.2;show floordiv_int ∅ (by rw[Int.fdiv_eq_ediv_of_nonneg i ∅];show q) (.inl (PyProof.noPylong_small ∅))
theorem gO:qP X (binaryOp .Mod) (rI (λ_ j=>0<j) λi j=> .int (i % j)):=UM λi j _ _ _ _ _ hc q=>by have h1:(0:Int) <j:=hc;show mod_int' ∅ (by rw[Int.fmod_eq_emod_of_nonneg i ∅];show q)
theorem Ny:qP X (binaryOp .Pow) (rI O4 λi j=> .int (i ^ j.toNat)):=UM λ_ _ _ _ _ _ _ hc q=>pow_int_small hc.1 hc.2.1 hc.2.2 q
def unI {g:Int ->Int}(rule: ∀ (i:Int) (t:Tok) (s:d5) (Q:d4 ->d5 ->Prop) (E:d4 ->d5 ->Prop),Q (.int (g i) s.toks) {s with toks:=s.toks+1} ->wpAny (model X.prog X.w) X.A (f (.int i t)) Q E s): Z1 X f (rU λi=> .int (g i)):=by intro aj s σ H x v Q I rx h;let⟨i,rfl,q⟩:=h;let⟨t,rfl⟩:=rx;show rule i t s _ _ #[.int (g i),H,I.tok _,#[_,rfl],q]
theorem iW:Z1 X (unaryOp .USub) (rU λi=> .int (-i)):=unI λ_ _ _ _ _ q=>neg_int q
def HL:V ->V ->Bool
 | .dY, .dY=>true | .dY, .int _=>true | .int _, .dY=>true | .dY, .bl _=>true | .bl _, .dY=>true | .dY, .str _=>true | .str _, .dY=>true
 | .int _, .int _=>true | .bl _, .bl _=>true | .str _, .str _=>true | .y_ _, .y_ _=>true
 | .int _, .str _=>true | .str _, .int _=>true | .bl _, .str _=>true | .str _, .bl _=>true
 | _,_=>false
def _T:R2:=λx y H Q=>HL x y=true /\ Q (.bl (decide (x=y))) H
def _S:R2:=λx y H Q=>HL x y=true /\ Q (.bl (!decide (x=y))) H
def AN:decide (V.int i=V.int j)=(i==j):=by rw[Bool.eq_iff_iff];simp
def Ge:decide (V.bl i=V.bl j)=(i==j):=by rw[Bool.eq_iff_iff];simp
def AM:decide (V.str i=V.str j)=(i==j):=by rw[Bool.eq_iff_iff];simp
def AO:decide (V.y_ i=V.y_ j)=(i.toList==j.toList):=by rw[Bool.eq_iff_iff];cases i;cases j;simp
section
variable {X:Cx}{a b c:Expr}{ta tb tc:TE}{pos:Pos}
def c5 {σ:St}(I:Inv X aj σ H s)(q:Q (.bl k) H)(e:k=k'):EP X aj σ Q (.bool k') s:=by subst e;show#[.bl k,H,I,rfl,q]
def ls:qP X (compareOp .Eq) _T:=by
 intro aj s σ H x y v u Q I rx ry h;let⟨hs,q⟩:=h;cases x with
 | dY=>
  cases rx;cases y with
  | dY=>cases ry;show PySem.EqNone.eq_none_none (c5 I q (by simp))
  | bl j=>cases ry;show PySem.EqNone.eq_none_bool (c5 I q (by simp))
  | int j=>let⟨t',rfl⟩:=ry;show PySem.EqNone.eq_none_int (c5 I q (by simp))
  | str j=>let⟨t',rfl⟩:=ry;show PySem.EqNone.eq_none_str (c5 I q (by simp))
  | _=>show absurd (show false=true from hs) aW
 | bl i=>
  cases rx;cases y with
  | dY=>cases ry;show PySem.EqNone.eq_bool_none (c5 I q (by simp))
  | bl j=>cases ry;show eq_bool (c5 I q Ge)
  | str j=>let⟨t',rfl⟩:=ry;show PySem.EqMixed.eq_bool_str (c5 I q (by simp))
  | _=>show absurd (show false=true from hs) aW
 | int i=>
  let⟨t,rfl⟩:=rx;cases y with
  | dY=>cases ry;show PySem.EqNone.eq_int_none (c5 I q (by simp))
  | int j=>let⟨t',rfl⟩:=ry;show eq_int (c5 I q AN)
  | str j=>let⟨t',rfl⟩:=ry;show PySem.EqMixed.eq_int_str (c5 I q (by simp))
  | _=>show absurd (show false=true from hs) aW
 | str i=>
  let⟨t,rfl⟩:=rx;cases y with
  | dY=>cases ry;show PySem.EqNone.eq_str_none (c5 I q (by simp))
  | bl j=>cases ry;show PySem.EqMixed.eq_str_bool (c5 I q (by simp))
  | int j=>let⟨t',rfl⟩:=ry;show PySem.EqMixed.eq_str_int (c5 I q (by simp))
  | str j=>let⟨t',rfl⟩:=ry;show eq_str (c5 I q AM)
  | _=>show absurd (show false=true from hs) aW
 | y_ i=>
  let⟨t,rfl⟩:=rx;cases y with
  | y_ j=>let⟨t',rfl⟩:=ry;show W.eq_bytes (c5 I q AO)
  | _=>show absurd (show false=true from hs) aW
 | _=>cases y<;>show absurd (show false=true from hs) aW
def vM:qP X (compareOp .NotEq) _S:=by
 intro aj s σ H x y v u Q I rx ry h;let⟨hs,q⟩:=h;cases x with
 | dY=>
  cases rx;cases y with
  | dY=>cases ry;show PySem.EqNone.ne_none_none (c5 I q (by simp))
  | bl j=>cases ry;show PySem.EqNone.ne_none_bool (c5 I q (by simp))
  | int j=>let⟨t',rfl⟩:=ry;show PySem.EqNone.ne_none_int (c5 I q (by simp))
  | str j=>let⟨t',rfl⟩:=ry;show PySem.EqNone.ne_none_str (c5 I q (by simp))
  | _=>show absurd (show false=true from hs) aW
 | bl i=>
  cases rx;cases y with
  | dY=>cases ry;show PySem.EqNone.ne_bool_none (c5 I q (by simp))
  | bl j=>cases ry;show ne_bool (c5 I q (congrArg not Ge))
  | str j=>let⟨t',rfl⟩:=ry;show PySem.EqMixed.ne_bool_str (c5 I q (by simp))
  | _=>show absurd (show false=true from hs) aW
 | int i=>
  let⟨t,rfl⟩:=rx;cases y with
  | dY=>cases ry;show PySem.EqNone.ne_int_none (c5 I q (by simp))
  | int j=>let⟨t',rfl⟩:=ry;show ne_int (c5 I q (congrArg not AN))
  | str j=>let⟨t',rfl⟩:=ry;show PySem.EqMixed.ne_int_str (c5 I q (by simp))
  | _=>show absurd (show false=true from hs) aW
 | str i=>
  let⟨t,rfl⟩:=rx;cases y with
  | dY=>cases ry;show PySem.EqNone.ne_str_none (c5 I q (by simp))
  | bl j=>cases ry;show PySem.EqMixed.ne_str_bool (c5 I q (by simp))
  | int j=>let⟨t',rfl⟩:=ry;show PySem.EqMixed.ne_str_int (c5 I q (by simp))
  | str j=>let⟨t',rfl⟩:=ry;show ne_str (c5 I q (congrArg not AM))
  | _=>show absurd (show false=true from hs) aW
 | y_ i=>
  let⟨t,rfl⟩:=rx;cases y with
  | y_ j=>let⟨t',rfl⟩:=ry;show W.ne_bytes (c5 I q (congrArg not AO))
  | _=>show absurd (show false=true from hs) aW
 | _=>cases y<;>show absurd (show false=true from hs) aW
theorem vN:qP X (compareOp .Lt) (Lg λi j=> .bl (decide (i<j))):=NA λ_ _ _ _ _ _ _ q=>lt_int q
theorem EQ:qP X (compareOp .Gt) (Lg λi j=> .bl (decide (j<i))):=NA λ_ _ _ _ _ _ _ q=>gt_int q
theorem ER:qP X (compareOp .GtE) (Lg λi j=> .bl (decide (j<=i))):=NA λ_ _ _ _ _ _ _ q=>ge_int q
def Iw:qP X (compareOp .IsNot) (λx y H Q=>y= .dY /\ Q (.bl (!decide (x= .dY))) H):=by
 intro aj s σ H x y v u Q I rx ry h;let⟨rfl,q⟩:=h;cases ry;exact isnot_none_gen (c5 I q ?_);cases x<;>first
 | (cases rx;rfl)
 | (let⟨t,rfl⟩:=rx;rfl)
def dG (b:Expr)(h:op≠ .In:=by decide)(h2:op≠ .NotIn:=by decide):behindInMarks op b=false:=by
 have e1:(op==CmpOp.In)=false:=by cases op<;>first | rfl | show absurd rfl h
 have e2:(op==CmpOp.NotIn)=false:=by cases op<;>first | rfl | show absurd rfl h2
 cases b<;>simp[behindInMarks,e1,e2]
def z7 (ho:qP X (compareOp op) r)(ha:PE X a ta)(hb:PE X b tb)(hm:behindInMarks op b=false):PE X (.Compare a [op] [b] pos) (QI r ta tb):=by intro aj s σ H Q I h;show wpAny_Compare1 (OV ha hb I h λv u s2 x y H2 I2 rx ry q=>ho aj s2 σ H2 x y v u Q I2 rx ry q) hm
def Dn (t:TE):TT:=λσ H Q=>t σ H λx H'=> ∃k,x= .bl k /\ Q k H'
def c8 (ho:qP X (compareOp op) r)(ha:PE X a ta)(hb:PE X b tb)(hm:behindInMarks op b=false):PT X (.Compare a [op] [b] pos) (Dn (QI r ta tb)):=by intro aj s σ H Q I h;exact wpAny_isTrue_Compare1 (cY (ha aj s σ H _ I h) λv s1 ⟨x,H1,I1,r1,q1⟩=>cY (hb aj s1 σ H1 _ I1 q1) λu s2 ⟨y,H2,I2,r2,q2⟩=>cY (ho aj s2 σ H2 x y v u _ I2 r1 r2 q2) λc s3 ⟨z,H3,I3,r3,k,e,q3⟩=> ?_) hm;subst e;cases r3;show c_ #[H3,I3,q3]
def DB (r r':R2)(ta tb tc:TE):TE:=λσ H Q=>ta σ H λx H1=>tb σ H1 λy H2=>r x y H2 λz H3=> ∃k,z= .bl k /\(if k=true then tc σ H3 λw' H4=>r' y w' H4 Q else Q (.bl false) H3)
def El (ho:qP X (compareOp op) r)(Ju:qP X (compareOp WJ) r')(ha:PE X a ta)(hb:PE X b tb)(hc:PE X c tc)(hm:lastMarks [op,WJ] [b,c]=false:=by with_unfolding_all rfl):PT X (.Compare a [op,WJ] [b,c] pos) (Dn (DB r r' ta tb tc)):=by
 intro aj s σ H Q I h;exact isTrue_chain (cY (ha aj s σ H _ I h) λv s1 ⟨x,H1,I1,r1,q1⟩=>test_link (cY (hb aj s1 σ H1 _ I1 q1) λu s2 ⟨y,H2,I2,r2,q2⟩=>cY (ho aj s2 σ H2 x y v u _ I2 r1 r2 q2) λd s3 ⟨z,H3,I3,r3,k,e,q3⟩=> ?_)) hm;subst e;cases r3;exact c_ ?_;cases k with
 | false=>let⟨k',e',q'⟩:=q3;cases e';show ite_ff #[H3,I3,q']
 | true=>exact ite_tt (test_last (cY (hc aj s3 σ H3 _ I3 q3) λw' s4 ⟨z',H4,I4,r4,q4⟩=>cY (Ju aj s4 σ H4 y z' u w' _ I4 r2 r4 q4) λd' s5 ⟨z2,H5,I5,r5,k2,e2,q5⟩=> ?_));subst e2;cases r5;show c_ #[H5,I5,q5]
def J6 (K:RZ)(x:V)(H:Hp)(k:Bool):Prop:=
 match x with
 | .dY=>k=false
 | .bl b=>k=b
 | .int i=>k=(i !=0)
 | .str y=>y.length<=sizeLine /\ k=((y.length:Int) !=0)
 | .y_ y=>y.size<=sizeLine /\ k=((y.size:Int) !=0)
 | .ref p=>(∃xs,gC K H p xs /\ k= !xs.isEmpty) \/ (∃xs,i9 K H p xs /\ k= !xs.isEmpty) \/ ∃kvs,H p=some (.dK kvs) /\ k= !kvs.isEmpty
 | _=>False
def yE {vs:d3 (κ×d4)}(r:KV kvs vs):(!vs.isEmpty)= !kvs.isEmpty:=by cases r<;>rfl
def p_ (r:cD xs its):(!its.toArray.isEmpty)= !xs.isEmpty:=by cases r<;>simp
def pY:(sizeLine:Nat) <2 ^ 63:=by rw[cP];decide
def MN:Z2 X (λx H Q=> ∃k,J6 X.K x H k /\ Q k H):=by
 intro aj s σ H x v Q I rx h;let⟨k,e,q⟩:=h;have hl:=pY;have hs:sizeLine=16777216:=cP;cases x with
 | dY=>cases rx;have e':k=false:=e;subst e';show truthy_none #[H,I,q]
 | bl b=>cases rx;have e':k=b:=e;subst e';show c_ #[H,I,q]
 | int i=>let⟨t,rfl⟩:=rx;have e':k=(i !=0):=e;subst e';show PySem.P.truthy_int #[H,I,q]
 | str y=>let⟨t,rfl⟩:=rx;let⟨hy,e'⟩:y.length<=sizeLine /\ k=((y.length:Int) !=0):=e;subst e';show PySem.P.truthy_str ∅ #[H,I.tok _,q]
 | y_ y=>let⟨t,rfl⟩:=rx;let⟨hy,e'⟩:y.size<=sizeLine /\ k=((y.size:Int) !=0):=e;subst e';show W.truthy_bytes ∅ #[H,I.tok _,q]
 | ref p=>
  cases rx;have e':(∃xs,gC X.K H p xs /\ k= !xs.isEmpty) \/ (∃xs,i9 X.K H p xs /\ k= !xs.isEmpty) \/ ∃kvs,H p=some (.dK kvs) /\ k= !kvs.isEmpty:=e;rcases e' with⟨xs,hx,e'⟩ | ⟨xs,hx,e'⟩ | ⟨kvs,hx,e'⟩
  subst e';let⟨its,r,pl,hz⟩:=I.list hx;have dS:=r.length;show wpAny_truthy_list pl.isList (by simp![aU];lia) #[H,I.tok _,by rw[p_ r];show q];subst e';let⟨its,r,pl,hz⟩:=I.tuple hx;have dS:=r.length;show truthy_tuple pl (by simp![aU];lia) #[H,I.tok _,by rw[p_ r];show q];subst e';let⟨hz,hS,vs,r,m⟩:kvs.length<=sizeLine /\ (p==sysModules)=false /\ ∃vs,KV kvs vs /\ s.heap.DictOf (ce X.prog X.w) p vs:=I.cT p _ hx;have dS:kvs.length=vs.length:=Paired.length r;show wpAny_truthy_dict hS m ∅ #[H,I.tok _,by rw[yE r];show q]
 | _=>show(show False from e).elim
def Ek (ha:PE X a ta)(he: ∀k_,isTrue a X.env k_=(do let v <- k_;standAt a.pos;holding [v] (truthy v))): PT X a (λσ H Q=>ta σ H λx H'=> ∃k,J6 X.K x H' k /\ Q k H'):=by intro aj s σ H Q I h;show isTrue_plain (cY (ha aj s σ H _ I h) λv s1 ⟨x,H1,I1,r1,q1⟩=>MN aj s1 σ H1 x v Q I1 r1 q1) (he _)
def vals1 (r:cD [x] us): ∃u,us= [u] /\ RelV x u:=by
 cases r with
 | cons r1 r2=>cases r2;show#[_,rfl,r1]
def vals2 (r:cD [x,y] us):cJ λu w'=>dh (us= [u,w']) (RelV x u) (RelV y w'):=by
 cases r with
 | cons r1 r2=>
  cases r2 with
  | cons r3 r4=>cases r4;show#[_,_,rfl,r1,r3]
def Gq:gL X (.builtin "abs") (λxs H Q=> ∃i,xs= [.int i] /\ Q (.int (if i<0 then -i else i)) H):=by intro aj s σ H xs us Q I r h;let⟨i,rfl,q⟩:=h;let⟨u,rfl,t,rfl⟩:=vals1 r;show call_abs_int λu tk=>#[.int (if i<0 then -i else i),H,I.tok _,#[_,rfl],q]
end
structure Cy (h:Heap)(x dx C:Addr)(mA:Str ->Option Value):Prop where
 obj:h.get? x=some (PySem.W.instObj C dx)
 ns:h.Ns1 dx mA
 ne:dx≠x
def BC {h:Heap}(n:h.Ns1 dx mA): ∃od,h.get? dx=some od /\ ∀name,W.lookIn name od=some (mA name):=by
 let⟨o,es,ep,ho,hd,hk,_,hm⟩:=n;exact#[o,ho,λname=> ?_];have e:=hm name;unfold nsFind findBy at e;rw[<- Array.find?_toList] at e;unfold W.lookIn;rw[hd];dsimp only;split;rename_i y q;rw[q] at e;show congrArg some e;rename_i q;rw[q] at e;have a:es.toList.any (·.refKey)=false:=by rw[List.any_eq_false];intro y hy;let⟨z,t,qf⟩:=hk y (Array.mem_toList_iff.mp hy);simp[DictEntry.refKey,qf]
 have a':¬es.toList.any (·.refKey)=true:=by rw[a];show aW
 rw[ai a'];show congrArg some e
theorem Cy.look (I:Cy h x dx C mA): ∃od,W.InstAt h x (W.instObj C dx) C (some od) /\ ∀name,W.lookIn name od=some (mA name):=
 let ⟨od,ho,hl⟩:=BC I.ns
 #[od,#[I.obj,rfl,rfl,ho],hl]
def JM {K:RZ}(X:K.In s.heap)(I:Cy s.heap x dx C mA)(hg:W.plainGet K C name=true)(hh:W.hasDictIn K C=true)(ha:W.findIn K (.ref C) name=some none)(hv:mA name=some v)(rf:W.handedIn v=true)(h:Q v {s with toks:=s.toks+1}): wpAny (model prog w) A (getAttr (.ref x) name Zz) Q E s:=by let⟨od,J,hl⟩:=I.look;show W.get_value X J (W.plainGet_of hg).1 (W.findObj_own hh ha rfl (by rw[hl,hv])) rf h
def HK {K:RZ}(X:K.In s.heap)(I:Cy s.heap x dx C mA)(hs:W.findIn K (.ref C) "__setattr__" =some (some (.builtin "object.__setattr__")))(hp:W.plainOver K C=true)(ht:W.takerIn K C name=some none)(hh:W.hasDictIn K C=true)(hw:PySem.Within mA ns)(hsz:ns.length<=sizeLine)(h: ∀h',Cy h' x dx C (λy=>if y=name then some v else mA y) ->Heap.SameBut dx s.heap h' ->Q () {s with heap:=h',toks:=s.toks+2}): wpAny (model prog w) A (setAttr (.ref x) name v) Q E s:=by let⟨od,J,hl⟩:=I.look;exact W.set_plain X J hs (W.osa_open (s:= {s with toks:=s.toks+1}) (r:=none) X J hp ht λb=> ?_);let⟨cd,hc,kY⟩:=W.any_some hh;have hx:s.heap.get? x=some #[.ref C,some dx, .plain, #[]]:=I.obj;exact ae (ax (ae (ae (wpAny_loadPart hx (ae (W.Looks.here (s:= {s with toks:=s.toks+1}) (W.looks_clsIn X hc) ?_))))));rw[kY];exact ax (a:=some dx) (ae (ax (ae ?_)));exact wpAny_nsSet1 (s:= {s with toks:=s.toks+1}) I.ns λh' Od jN=> ?_;let⟨oD,esD,epD,hoD,hdD,hcD⟩:=Od.count (PySem.Within.cons name v hw);exact ae (wpAny_lookBehind hoD (by rw[hdD];show pastItsLine_dict (aS hcD (by rw[aK];lia))) ?_);show ax (h _ #[(jN.2 _ (aT I.ne)).trans I.obj,Od,I.ne] jN)
def E5 {K:RZ}(X:K.In s.heap)(hm:W.makesIn K C=true)(hi:W.findIn K (.ref C) "__init__" =some (some (.ref f)))(hf:W.typeIn K (.ref f)=some (.type "function"))(h:codeAny (model prog w) (A.under (.builtin "type.__call__" #[.ref C::vs,kw])) (.call (.ref f) #[.ref (s.heap.objs.size+1)::vs,kw]) (W.InitBack (s.heap.objs.size+1) R) {s with heap:=(s.heap.push W.emptyDict).push (W.instObj C s.heap.objs.size)}): codeAny (model prog w) A (.call (.ref C) #[vs,kw]) R s:=by let⟨hh,g,d,t,os⟩:=s;show W.make_core (W.makes_of X hm) (W.looks_findIn X hi) (λself=>W.bind_fn X self hf) (.inl rfl) h
def jg (f:Str)(v:V):d3 (Str×V) ->d3 (Str×V)
 | []=> [(f,v)]
 | (g,x)::r=>if g=f then(g,v)::r else(g,x)::jg f v r
theorem oe (f g:Str)(v:V): ∀fs:d3 (Str×V),(jg f v fs).lookup g=if g=f then some v else fs.lookup g
 | []=>by change List.lookup g [(f,v)]=_;by_cases h:g=f;have hb:(g==f)=true:=beq_iff_eq.mpr h;simp![List.lookup,hb,ap h];have hb:(g==f)=false:=beq_eq_false_iff_ne.mpr h;simp![List.lookup,hb,ai h]
 | (k, x)::r=>by have ih:=oe f g v r;rw[show jg f v ((k,x)::r)=(if k=f then(k,v)::r else(k,x)::jg f v r) from rfl];by_cases hk:k=f;rw[ap hk];by_cases h:g=k;have hb:(g==k)=true:=beq_iff_eq.mpr h;simp![List.lookup,hb,ap (h.trans hk)];have hb:(g==k)=false:=beq_eq_false_iff_ne.mpr h;simp![List.lookup,hb,ai (λe:g=f=>h (e.trans hk.symm))];rw[ai hk];by_cases h:g=k;have hb:(g==k)=true:=beq_iff_eq.mpr h;simp![List.lookup,hb,ai (λe:g=f=>hk (h.symm.trans e))];have hb:(g==k)=false:=beq_eq_false_iff_ne.mpr h;simp![List.lookup,hb];show ih
theorem nR (f:Str)(v:V): ∀fs:d3 (Str×V),f∈(jg f v fs).map (·.1) /\ ∀g,g∈fs.map (·.1) ->g∈(jg f v fs).map (·.1)
 | []=>#[by simp[jg],λg h=>by simp at h]
 | (k, x)::r=>by let⟨i1,i2⟩:=nR f v r;rw[show jg f v ((k,x)::r)=(if k=f then(k,v)::r else(k,x)::jg f v r) from rfl];by_cases hk:k=f;rw[ap hk];subst hk;show#[by simp,λg h=> ⇑h];rw[ai hk];exact#[?_,λg h=> ?_];rw[aE];show av _ i1;rw[aE] at h ⊢;obtain e | e:=ar.mp h;show ar.mpr (.inl e);show av _ (i2 g e)
theorem og (f:Str)(v:V): ∀fs:d3 (Str×V),(jg f v fs).length<=fs.length+1
 | []=>by simp[jg]
 | (k,x)::r=>by have ih:=og f v r;rw[show jg f v ((k,x)::r)=(if k=f then(k,v)::r else(k,x)::jg f v r) from rfl];by_cases hk:k=f;rw[ap hk,aK,aK];lia;rw[ai hk,aK,aK];lia
def k7.some_of (r:k7 (some v) o): ∃u,o=some u /\ RelV v u:=by
 cases o with
 | none=>show(show False from r).elim
 | some u=>show#[u,rfl,r]
def BX (r:RelV v u):W.handedIn u=true:=by
 cases v with
 | dY=>cases (show u=Value.none from r);rfl
 | bl b=>cases (show u=Value.bool b from r);rfl
 | int i=>let⟨t,e⟩:=(show ∃t,u=Value.int i t from r);cases e;rfl
 | str x=>let⟨t,e⟩:=(show ∃t,u=Value.str x t from r);cases e;rfl
 | y_ b=>let⟨t,e⟩:=(show ∃t,u=Value.bytes b t from r);cases e;rfl
 | AA b=>let⟨t,e⟩:=(show ∃t,u=Value.float b t from r);cases e;rfl
 | ref a=>cases (show u=Value.ref a from r);rfl
 | ty n=>cases (show u=Value.type n from r);rfl
def uv (cT:k9 P w H h)(e:H a=some (.ins C dx fs)): ∃mA,ja (Cy h a dx C mA) (∀f,k7 (fs.lookup f) (mA f)) (PySem.Within mA (fs.map (·.1))) (fs.length<=1000) (H dx=some (.own a)):=by
 let⟨d,z,ne,ob,mA,n,r,q⟩:=(show dn P w H h a (.ins C dx fs) from cT a _ e)
 show#[mA,#[ob,n,ne],r,q,z,d]
structure zi (K:PySem.W.Frag)(C:Addr):Prop where
 pg:PySem.W.plainGet K C Str.empty=true
 hd:PySem.W.hasDictIn K C=true
 po:PySem.W.plainOver K C=true
 sa:PySem.W.findIn K (.ref C) "__setattr__" =some (some (.builtin "object.__setattr__"))
theorem zi.get {K:RZ}{C:gi}(c:zi K C)(f:Str):W.plainGet K C f=true:=c.pg
def dZ (K:RZ)(C:gi)(f:Str):Prop:=W.findIn K (.ref C) f=some none
def dZ.QE {K:RZ}(n:dZ K C f):W.takerIn K C f=some none:=by unfold W.takerIn;rw[show W.findIn K (.ref C) f=some none from n];rfl
def yR {σ:St}(I:Inv X aj σ H s)(e:H a=some (.ins C dx fs))(c:zi X.K C)(n:dZ X.K C f)(l:fs.lookup f=some v)(h: ∀u s',Inv X aj σ H s' ->RelV v u ->Q u s'):wpAny (model X.prog X.w) A (getAttr (.ref a) f b) Q E s:=by let⟨mA,O,r,_,_,_⟩:=uv I.cT e;let⟨u,hu,ru⟩:=k7.some_of (v:=v) (o:=mA f) (by rw[<- l];show r f);show JM I.oH O (c.get f) c.hd n hu (BX ru) (h u _ (I.tok _) ru)
def xL {σ:St}(I:Inv X aj σ H s)(e:H a=some (.ins C dx fs))(c:zi X.K C)(n:dZ X.K C f)(hl:fs.length<1000)(ry:RelV y u)(h: ∀s',Inv X aj σ (cO H a (.ins C dx (jg f y fs))) s' ->Q () s'):wpAny (model X.prog X.w) A (setAttr (.ref a) f u) Q E s:=by
 let⟨mA,O,r,wi,_,ho⟩:=uv I.cT e;have hz:(fs.map (·.1)).length<=sizeLine:=by rw[aa,cP];lia
 exact HK I.oH O c.sa c.po n.QE c.hd wi hz λh' O' sb=>h _ ?_;have hd: ∃o,h'.get? dx=some o:=let ⟨o,_,_,e',_⟩:=O'.ns;#[o,e']
 exact I.write (x:=a) (e:=dx) (by rw[e];show True.intro) (.inr ho) (λb q hb z=>(sb.2 b hb).trans z) hd ?_;exact#[by rw[bC O.ne];show ho,?_,O.ne,O'.obj,_,O'.ns,λg=> ?_,λg hg=> ?_];have:=og f y fs;lia;change k7 ((jg f y fs).lookup g) (if g=f then some u else mA g);rw[oe];by_cases q:g=f;rw[ap q,ap q];show ry;rw[ai q,ai q];show r g;by_cases q:g=f;rw[q];show(nR f y fs).1;exact(nR f y fs).2 g (wi g λz=>hg ?_);change(if g=f then some u else mA g)=none;rw[ai q];show z
def Inv.made {σ:St}(I:Inv X aj σ H s):Inv X aj σ (cO (cO H s.heap.objs.size (.own (s.heap.objs.size+1))) (s.heap.objs.size+1) (.ins C s.heap.objs.size [])) {s with heap:=(s.heap.push W.emptyDict).push (W.instObj C s.heap.objs.size)}:=by
 have e1:(s.heap.push W.emptyDict).get? s.heap.objs.size=some W.emptyDict:=aM s.heap rfl;have e2:((s.heap.push W.emptyDict).push (W.instObj C s.heap.objs.size)).get? (s.heap.objs.size+1)=some (W.instObj C s.heap.objs.size):=by have:=aM (s.heap.push W.emptyDict) (o:=W.instObj C s.heap.objs.size) rfl;rwa [dM] at this
 have e3:(s.heap.push W.emptyDict).Ns s.heap.objs.size (λ_=>none):=#[W.emptyDict, #[],_,e1,rfl,(λe he=>absurd he (by simp)),λ_=>rfl]
 have I1:=I.laid (a:=s.heap.objs.size) (o:= .own (s.heap.objs.size+1)) (h':=s.heap.push W.emptyDict) (t':=s.toks) (λb u q=>aq _ q) (ao _) #[_,e1];exact I1.laid (a:=s.heap.objs.size+1) (o:= .ins C s.heap.objs.size []) (t':=s.toks) (λb u q=>aq _ q) (Nat.le_of_eq (dM _ _)) ?_;have ne:s.heap.objs.size≠s.heap.objs.size+1:=a5 (Nat.lt_succ_self _);exact#[by rw[bC ne,bI],cB _,ne,e2,λ_=>none,(Heap.Ns1.of_empty e3).at λo q=>aq _ q,λ_=>True.intro,λy hy=>absurd rfl hy]
theorem JY (hb:attributeBase e f env (eval e env)=eval e env)(h:wpAny (model prog w) A (eval e env) (λo s₁=>wpAny (model prog w) A (getAttr o f true) Q E s₁) E s):wpAny (model prog w) A (eval (.Attribute e f pos) env) Q E s:=Attribute_any_ h (by rw[arm_eval_Attribute,hb])
def MT (K:RZ)(ta:TE)(f:Str):TE:=λσ H Q=>ta σ H λx H1=>J1 λa C dx fs v=>nh (x= .ref a) (H1 a=some (.ins C dx fs)) (zi K C) (dZ K C f) (fs.lookup f=some v) (Q v H1)
def Q4 (K:RZ)(ta tv:TE)(f:Str):TS:=λD σ H=>tv σ H λy H1=>ta σ H1 λx H2=>jQ λa C dx fs=>nh (x= .ref a) (H2 a=some (.ins C dx fs)) (zi K C) (dZ K C f) (fs.length<1000) (D.nx σ (cO H2 a (.ins C dx (jg f y fs))))
def dW (he:PE X e ta)(hb:attributeBase e f X.env (eval e X.env)=eval e X.env):PE X (.Attribute e f pos) (MT X.K ta f):=by intro aj s σ H Q I h;exact JY hb (cY (he aj s σ H _ I h) λu s1 ⟨x,H1,I1,rx,a,C,dx,fs,v,ex,ea,c,n,l,q⟩=> ?_);subst ex;obtain rfl:u=Value.ref a:=rx;show yR I1 ea c n l λu' s2 I2 ru=>#[v,H1,I2,ru,q]
def lG (ha:PE X o ta)(hv:PE X value tv)(hs:swapsWith value (some (.Attribute o f pN)) pos.line X.env=pure false):PS X (.Assign [.Attribute o f pN] value pos) (Q4 X.K ta tv f):=by intro aj s σ H D I h;exact plainObj_wpAny_Assign_Attribute (cY (hv aj s σ H _ I h) λu s1 ⟨y,H1,I1,ry,q⟩=>cY (ha aj s1 σ H1 _ I1 q) λov s2 ⟨x,H2,I2,rx,a,C,dx,fs,ex,ea,c,n,l,q2⟩=> ?_) hs;subst ex;obtain rfl:ov=Value.ref a:=rx;show xL I2 ea c n l ry λs3 I3=>#[σ,_,I3,q2]
section
variable {X:Cx}{aj:d3 (gi×Obj)}{σ:St}{H:Hp}{s:d5}{A:Around}{E:d4 ->d5 ->Prop}{Q:d4 ->d5 ->Prop}{c:d4}{b:Bool}
inductive nW (K:PySem.W.Frag)(H:Hp):V ->Value ->Prop where
 | dY:nW K H .dY (.type "NoneType")
 | bl (x:Bool):nW K H (.bl x) (.type "bool")
 | int (i:Int):nW K H (.int i) (.type "int")
 | str (x:Str):nW K H (.str x) (.type "str")
 | AA (x:UInt64):nW K H (.AA x) (.type "float")
 | lst {a:Addr} {xs:List V} (e:H a=some (.lst xs)):nW K H (.ref a) (.type "list")
 | jM {a:Addr} {o:Obj} {xs:List V} (e:H a=some (.jM o (.lst xs))):nW K H (.ref a) (.type "list")
 | tup {a:Addr} {xs:List V} (e:H a=some (.tup xs)):nW K H (.ref a) (.type "tuple")
 | dK {a:Addr} {kvs:List (cf×V)} (e:H a=some (.dK kvs)):nW K H (.ref a) (.type "dict")
 | dT {a:Addr} {kvs:List (List cf×V)} (e:H a=some (.dT kvs)):nW K H (.ref a) (.type "dict")
 | ins {a C dx:Addr} {fs:List (Str×V)} (e:H a=some (.ins C dx fs)) (cl:zi K C) (ha:PySem.W.findIn K (.ref C) "__class__" =some (some (.builtin "object.__class__"))) (hn:PySem.W.specialIn K (.builtin "object.__class__") "__get__" =some (some (.builtin "getset_descriptor.__get__"))) (htk:PySem.W.takesIn K (.builtin "object.__class__")=some true) (hm:PySem.W.mroIn K C (.type "object")=some true):nW K H (.ref a) (.ref C)
def BK (I:Inv X aj σ H s)(rx:RelV x u)(ty:nW X.K H x t)(e:W.kitOne X.K t c=some b)(h: ∀tk,Q (.bool b) {s with toks:=tk}): wpAny (model X.prog X.w) A (call (.builtin "isinstance") [u,c]) Q E s:=by
 cases ty with
 | dY=>cases (show u=Value.none from rx);show cH W.kitx_none I.oH True.intro e (λz=>nomatch z) h
 | bl y=>cases (show u=Value.bool y from rx);show cH W.kitx_bool I.oH True.intro e (λz=>nomatch z) h
 | int i=>let⟨t,q⟩:=(show ∃t,u=Value.int i t from rx);cases q;show cH W.kitx_int I.oH True.intro e (λz=>nomatch z) h
 | str y=>let⟨t,q⟩:=(show ∃t,u=Value.str y t from rx);cases q;show cH W.kitx_str I.oH True.intro e (λz=>nomatch z) h
 | AA y=>let⟨t,q⟩:=(show ∃t,u=Value.float y t from rx);cases q;show cH W.kitx_float I.oH True.intro e (λz=>nomatch z) h
 | @lst a xs ea=>
  cases (show u=Value.ref a from rx);let⟨_,_,n,_,h1⟩:=(show dn X.prog X.w H s.heap a (.lst xs) from I.cT a _ ea)
  show cH W.kitx_list I.oH #[_,h1,rfl] e (λz=>nomatch z) h
 | @jM a ob xs ea=>
  cases (show u=Value.ref a from rx);let⟨_,_,_,n,_,h1⟩:=(show dn X.prog X.w H s.heap a (.jM ob (.lst xs)) from I.cT a _ ea)
  show cH W.kitx_list I.oH #[_,h1,rfl] e (λz=>nomatch z) h
 | @tup a xs ea=>
  cases (show u=Value.ref a from rx);let⟨_,_,_,p⟩:=(show dn X.prog X.w H s.heap a (.tup xs) from I.cT a _ ea)
  let⟨o,h1,h2,_⟩:=p;show cH W.kitx_tuple I.oH #[o,h1,h2] e (λz=>nomatch z) h
 | @dK a kvs ea=>
  cases (show u=Value.ref a from rx);let⟨_,_,vs,_,p⟩:=(show dn X.prog X.w H s.heap a (.dK kvs) from I.cT a _ ea)
  let⟨o,es,ep,h1,h2,_⟩:=p;show cH W.kitx_dict I.oH #[o,h1,h2.1] e (λz=>nomatch z) h
 | @dT a kvs ea=>
  cases (show u=Value.ref a from rx);let⟨_,_,xs,_,o,es,ep,h1,h2,_⟩:=(show dn X.prog X.w H s.heap a (.dT kvs) from I.cT a _ ea)
  show cH W.kitx_dict I.oH #[o,h1,h2.1] e (λz=>nomatch z) h
 | @ins a C dx fs ea cl ha hn htk hm=>cases (show u=Value.ref a from rx);let⟨mA,O,_⟩:=uv I.cT ea;let⟨od,J,_⟩:=O.look;show cH (W.kitx_own (cl.get _) cl.hd ha hn htk hm) I.oH J e (λz=>nomatch z) h
end
structure fU (k:Nat)(A:Around):Prop where
 hd:A.handled=none
 dp:A.depth+3*k+5<recursionLimit
 un:A.units+16*k+200<cLine
theorem fU.mono (r:fU k A)(h:j<=k):fU j A:=#[r.hd,by have:=r.dp;lia,by have:=r.un;lia]
theorem fU.deeper (r:fU (k+1) A)(env:Env):fU k (A.deeper env):=#[r.hd,by have:=r.dp;change A.depth+1+3*k+5<_;lia,by have:=r.un;change A.units+3+16*k+200<_;lia]
def ym {A:Around}:(A.under (.builtin "type.__call__" #[.ref C::us,kw])).depth=A.depth+1:=by first | rfl | simp[Around.under,Code.weight,Code.isCreation,Code.isGuard,Code.isCaller,Code.frames,Code.isFrame,guardIds]
def yl {A:Around}:(A.under (.builtin "type.__call__" #[.ref C::us,kw])).units=A.units+1:=by first | rfl | simp[Around.under,Code.cUnits,Code.frames,Code.isFrame]
theorem fU.make (r:fU (k+1) A)(C:gi)(us:d3 d4)(kw:d3 (Str×d4)):fU k (A.under (.builtin "type.__call__" #[.ref C::us,kw])):=#[r.hd,by have:=r.dp;rw[ym];lia,by have:=r.un;rw[yl];lia]
def fU.depth (r:fU k A):A.depth<recursionLimit:=by have:=r.dp;lia
def fU.units (r:fU k A):A.units+64<cLine:=by have:=r.un;lia
def MS:TA:=λ_ H Q=>Q [] H
def Dz (ta:TE)(tr:TA):TA:=λσ H Q=>ta σ H λx H1=>tr σ H1 λxs H2=>Q (x::xs) H2
section
variable {X:Cx}{e:Expr}{es:d3 Expr}{te:TE}{t:TA}{pos:Pos}
theorem aL:PA X [] MS:=λ_ _ _ _ H Q I h=>Calls.spliced_nil #[[],H,I, .nil,h]
def af (ha:PE X e te)(hr:PA X es t)(hs:starEach (e::es) X.env=(false,eval e X.env)::starEach es X.env:=by rfl):PA X (e::es) (Dz te t):=by intro pos aj s σ H Q I h;rw[hs];change wpAny _ _ (spliced ((false,eval e X.env)::backTo pos (starEach es X.env))) _ _ s;exact dq (cY (ha aj s σ H _ I h) λu s1 ⟨x,H1,I1,r1,q1⟩=> ?_);show cY (hr pos aj s1 σ H1 _ I1 q1) λus s2 ⟨xs,H2,I2,r2,q2⟩=>#[x::xs,H2,I2, .cons r1 r2,q2]
def QG (t:TA):TE:=λσ H Q=>t σ H λxs H1=>xs.length<=sizeLine /\ ∀p,H1 p=none ->Q (.ref p) (cO H1 p (.tup xs))
def QM (t:TA):TE:=λσ H Q=>t σ H λxs H1=>xs.length<=sizeLine /\ ∀p,H1 p=none ->Q (.ref p) (cO H1 p (.lst xs))
def iw {x1}(h:PA X es t):PE X (.Tuple es x1 pos) (QG t):=by intro aj s σ H Q I hq;exact wpAny_Tuple_spliced (cY (h pos aj s σ H _ I hq) λus s1 ⟨xs,H1,I1,r,z,q⟩=>#[by rw[<- r.length];show z,?_]);have hf:H1 s1.heap.objs.size=none:=I1.cT.fresh (ao _);exact#[.ref s1.heap.objs.size,cO H1 s1.heap.objs.size (.tup xs),I1.laid (t':=s1.toks) (λb u e=>aq _ e) (ao _) ?_,rfl,q _ hf];show#[z,us,r,#[_,aM _ rfl,rfl,_,rfl,rfl]]
def EC (h:PA X es t):PE X (.List es pos) (QM t):=by intro aj s σ H Q I hq;exact wpAny_List_spliced (cY (h pos aj s σ H _ I hq) λus s1 ⟨xs,H1,I1,r,z,q⟩=>#[by rw[<- r.length];show z,?_]);have hf:H1 s1.heap.objs.size=none:=I1.cT.fresh (ao _);exact#[.ref s1.heap.objs.size,cO H1 s1.heap.objs.size (.lst xs),I1.laid (t':=s1.toks) (λb u e=>aq _ e) (ao _) ?_,rfl,q _ hf];show#[z,us,0,r,aM _ rfl]
end
abbrev Sp:=d3 V ->Hp ->VK ->XK ->Prop
abbrev GP:=d3 Env ->Hp ->d5 ->XK ->d4 ->d5 ->Prop
structure zg (P:Program)(w:World)(K:PySem.W.Frag)(mg:Str ->Option Value)(base:Heap)(A:Around)(outer:List Env)(s:Shared)(H:Hp):Prop where
 frames:A.frames=some outer
 mod:Mod K mg base
 bs: ∀b o,base.get? b=some o ->s.heap.get? b=some o /\ H b=none
 Hh:base.objs.size<=s.heap.objs.size
 oO:s.heap.FunFrames base outer
 OK: ∀b∈yS outer,H b=none
 cT:k9 P w H s.heap
 bare:AllBare s.gens
def CE (outer:d3 Env)(P:R1)(w:World)(H:Hp)(s:d5)(Q:VK)(u:d4)(s':d5):Prop:=cJ λv H'=>nh (s'.os=s.os) (AllBare s'.gens) (Un (yS outer) [] H H' s.heap s'.heap) (k9 P w H' s'.heap) (RelV v u) (Q v H')
def CR (CX:GP)(outer:d3 Env)(P:R1)(w:World)(H:Hp)(s:d5)(Q:VK)(E:XK)(r:Result)(s':d5):Prop:=
 match r with
 | .ok (.ret u)=>CE outer P w H s Q u s'
 | .ok _=>False
 | .error e=>CX outer H s E e s'
structure d8 (P:Program)(w:World)(K:PySem.W.Frag)(mg:Str ->Option Value)(base:Heap)(CX:GP)(k:Nat)(f:Addr)(fd:FuncData)(ps:List Str)(sp:Sp):Prop where
 len: ∀vs H Q E,sp vs H Q E ->vs.length=ps.length
 run: ∀ (A:Around) (outer:List Env) (s:Shared) (H:Hp) (args:Args) (us:List Value) (vs:List V) (Q:VK) (E:XK),fU k A ->zg P w K mg base A outer s H ->BindsTo s fd args (ps.zip us) ->cD vs us ->sp vs H Q E ->codeAny (model P w) A (.call (.ref f) args) (CR CX outer P w H s Q E) s
theorem d8.imp {K:RZ}(F:d8 P w K mg base CX k f fd ps sp)(h: ∀vs H Q E,_N vs H Q E ->sp vs H Q E):d8 P w K mg base CX k f fd ps _N:=#[λvs H Q E q=>F.len vs H Q E (h _ _ _ _ q),λA outer s H args us vs Q E hr he hb hv hs=>F.run A outer s H args us vs Q E hr he hb hv (h _ _ _ _ hs)]
theorem zg.make {K:RZ}(e:zg P w K mg base A outer s H)(C:gi)(us:d3 d4)(kw:d3 (Str×d4)): zg P w K mg base (A.under (.builtin "type.__call__" #[.ref C::us,kw])) outer s H:=#[by first | show e.frames | (simpa [Around.under,Code.envs,Code.isFrame,pushEnvs] using e.frames),e.mod,e.bs,e.Hh,e.oO,e.OK,e.cT,e.bare]
theorem Inv.Tj {σ:St}(I:Inv X aj σ H s):zg X.prog X.w X.K X.mg X.base X.A X.stack s H:=#[I.ok.frames,I.ok.mod,I.bs,aS I.ok.Hh I.sz,I.stack,I.zB,I.cT,I.bare]
def Inv.after {σ:St}(I:Inv X aj σ H s)(h:CE X.stack X.prog X.w H s Q u s'):EP X aj σ Q u s':=by let⟨v,H',os,bare,un,cT,r,q⟩:=h;let⟨hh,g,d,t,os'⟩:=s';obtain rfl:os'=s.os:=os;show#[v,H',I.call (h':=hh) (g':=g) (d':=d) (t':=t) (ch:= []) un cT bare (λb z=>absurd z (by simp)),r,q]
def zA (sp:Sp)(yV:d3 V)(E:XK)(t:TA):TE:=λσ H Q=>t σ H λvs H1=>sp (vs++yV) H1 Q E
def Dq (C:gi)(sp:Sp)(yV:d3 V)(E:XK)(t:TA):TE:=λσ H Q=>t σ H λvs H1=> ∀x dx,H1 x=none ->H1 dx=none ->dx≠x ->sp (.ref x::(vs++yV)) (cO (cO H1 dx (.own x)) x (.ins C dx [])) (λv H2=>v= .dY /\ Q (.ref x) H2) E
def Binds (K:RZ)(fd:FuncData)(ps:d3 Str)(ds:d3 d4):Prop:=∀ (s:d5) (us:d3 d4),K.In s.heap ->(us++ds).length=ps.length ->BindsTo s fd #[us,[]] (ps.zip (us++ds))
theorem Binds.all {K:RZ}(h: ∀us:d3 d4,us.length=ps.length ->bindArgs fd #[us,[]]=pure (ps.zip us)):Binds K fd ps []:=λs us _ hl=>by rw[List.append_nil] at hl ⊢;show .of_eq (h us hl)
def qM (CX:GP)(X:Cx)(E:XK):Prop:= ∀ (aj:d3 (gi×Obj)) (σ:St) (H:Hp) (s:d5) (e:d4) (s':d5),Inv X aj σ H s ->CX X.stack H s E e s' ->X.xe e s'
section
variable {X:Cx}{CX:GP}{k:Nat}{f C:gi}{fd:FuncData}{ps:d3 Str}{sp:Sp}{yV:d3 V}{ds:d3 d4}{E:XK}{x m:Str}{p pos i0:Pos}{e o:Expr}{es:d3 Expr}{ta:TE}{t:TA}
def Nf {σ:St}(F:d8 X.prog X.w X.K X.mg X.base CX k f fd ps sp)(hr:fU k X.A)(hb:Binds X.K fd ps ds)(hd:cD yV ds)(hx:qM CX X E)(I:Inv X aj σ H s)(r:cD vs us)(h:sp (vs++yV) H Q E):wpAny (model X.prog X.w) X.A (call (.ref f) us) (EP X aj σ Q) X.xe s:=by
 have r2:cD (vs++yV) (us++ds):=r.append hd;have hl:(us++ds).length=ps.length:=by rw[<- r2.length];show F.len _ _ _ _ h
 exact wpAny_call (codeAny_mono (F.run X.A X.stack s H #[us,[]] (us++ds) (vs++yV) Q E hr I.Tj (hb s us I.oH hl) r2 h) λr s' hq=> ?_);cases r with
 | error e=>show hx aj σ H s e s' I hq
 | ok fl=>
  cases fl with
  | ret u=>show I.after hq
  | next=>show False.elim hq
  | brk=>show False.elim hq
  | cont=>show False.elim hq
def Ip (F:d8 X.prog X.w X.K X.mg X.base CX k f fd ps sp)(hr:fU k X.A)(hg:Gl X x)(hm:X.mg x=some (.ref f))(hk:W.keepIn X.K (.ref f)=true)(hb:Binds X.K fd ps ds)(hd:cD yV ds)(hx:qM CX X E) (ha:PA X (e::es) t) (F1:(x==("__debug__" :Str))=false:=by decide) (he:starEach (e::es) X.env=(false,eval e X.env)::starEach es X.env:=by rfl) (qc:(backTo pos (starEach es X.env)).any (·.1)=false:=by rfl): PE X (.Call (.Name x p) (e::es) [] pos) (zA sp yV E t):=by intro aj s σ H Q I h;exact wpAny_Call_Name_kw (Ag I hg hm ?_ F1);exact W.callWith_K (h₀:=X.base) I.ok.mod.UX hk (cY (ha pos aj s σ H _ I h) λus s1 ⟨vs,H1,I1,r,q⟩=>#[I1.oH,?_]) he qc;show Nf F hr hb hd hx I1 r q
structure Mk (K:PySem.W.Frag)(C f:Addr):Prop where
 makes:PySem.W.makesIn K C=true
 init:PySem.W.findIn K (.ref C) "__init__" =some (some (.ref f))
 fn:PySem.W.isFn K (.ref f)=true
 kp:PySem.W.keepIn K (.ref C)=true
def DU {σ:St}(M:Mk X.K C f)(F:d8 X.prog X.w X.K X.mg X.base CX k f fd ps sp)(hr:fU (k+1) X.A)(hb:Binds X.K fd ps ds)(hd:cD yV ds)(hx:qM CX X E)(I:Inv X aj σ H s)(r:cD vs us)(h: ∀x dx,H x=none ->H dx=none ->dx≠x ->sp (.ref x::(vs++yV)) (cO (cO H dx (.own x)) x (.ins C dx [])) (λv H2=>v= .dY /\ Q (.ref x) H2) E): wpAny (model X.prog X.w) X.A (call (.ref C) us) (EP X aj σ Q) X.xe s:=by
 have hq:=h (s.heap.objs.size+1) s.heap.objs.size (I.cT.fresh (Nat.le_succ _)) (I.cT.fresh (ao _)) (a5 (Nat.lt_succ_self _));have I2:=Inv.made (C:=C) I;have r2:cD (V.ref (s.heap.objs.size+1)::(vs++yV)) (Value.ref (s.heap.objs.size+1)::(us++ds)):= .cons rfl (r.append hd);have hl:(Value.ref (s.heap.objs.size+1)::us++ds).length=ps.length:=by have e:=r2.length;rw[F.len _ _ _ _ hq] at e;show e.symm
 exact wpAny_call (E5 (f:=f) I.oH M.makes M.init (beq_iff_eq.mp M.fn) (codeAny_mono (F.run _ X.stack _ _ #[Value.ref (s.heap.objs.size+1)::us,[]] (Value.ref (s.heap.objs.size+1)::(us++ds)) _ _ E (hr.make C us []) (I2.Tj.make C us []) (hb _ (Value.ref (s.heap.objs.size+1)::us) I2.oH hl) r2 hq) λr s' So=> ?_));cases r with
 | error e=>show hx aj σ _ _ e s' I2 So
 | ok fl=>
  cases fl with
  | ret u=>let⟨v,H',I3,rv,ev,q3⟩:=I2.after So;subst ev;show#[rv,#[V.ref (s.heap.objs.size+1),H',I3,rfl,q3]]
  | next=>show False.elim So
  | brk=>show False.elim So
  | cont=>show False.elim So
def Im (M:Mk X.K C f)(F:d8 X.prog X.w X.K X.mg X.base CX k f fd ps sp)(hr:fU (k+1) X.A)(hg:Gl X x)(hm:X.mg x=some (.ref C))(hb:Binds X.K fd ps ds)(hd:cD yV ds)(hx:qM CX X E) (ha:PA X (e::es) t) (F1:(x==("__debug__" :Str))=false:=by decide) (he:starEach (e::es) X.env=(false,eval e X.env)::starEach es X.env:=by rfl) (qc:(backTo pos (starEach es X.env)).any (·.1)=false:=by rfl): PE X (.Call (.Name x p) (e::es) [] pos) (Dq C sp yV E t):=by intro aj s σ H Q I h;exact wpAny_Call_Name_kw (Ag I hg hm ?_ F1);exact W.callWith_K (h₀:=X.base) I.ok.mod.UX M.kp (cY (ha pos aj s σ H _ I h) λus s1 ⟨vs,H1,I1,r,q⟩=>#[I1.oH,?_]) he qc;show DU M F hr hb hd hx I1 r q
end
structure iV (N P:List Str)(sc:Scope):Prop where
 kind:sc.kind= .function
 co:sc.isCoroutine=false
 gen:sc.isGenerator=false
 nd:N.Nodup
 pre:N.take P.length=P
 par: ∀x∈P,sc.names.lookup x=some .local \/ sc.names.lookup x=some .cell
 NG: ∀y∈sc.names,y.2≠ .free
theorem sZ {kindOf:Str ->eB NameKind}{x:Str}: ∀ {binds:d3 (Str×d4)} {m:Str ->eB d4},(∀v,(x,v)∉binds) ->bindL kindOf binds m x=m x
 | [],_,_=>rfl
 | (n,v)::r,m,h=>by
  unfold bindL;rw[sZ λw hw=>h w (av _ hw)];split;have:x≠n:=by rintro rfl;show h v aI
  simp[this];rfl
theorem tf {kindOf:Str ->eB NameKind}{x:Str}: ∀ {binds:d3 (Str×d4)} {m:Str ->eB d4},(∀v,(x,v)∉binds) ->bindC kindOf binds m x=m x
 | [],_,_=>rfl
 | (n,v)::r,m,h=>by
  unfold bindC;rw[tf λw hw=>h w (av _ hw)];split;rfl;have:x≠n:=by rintro rfl;show h v aI
  simp[this]
theorem s_ {kindOf:Str ->eB NameKind}{x:Str}{v:d4}: ∀ {P:d3 Str} {vs:d3 d4} {i:Nat} {m:Str ->eB d4},P.Nodup ->P[i]? =some x ->vs[i]? =some v ->kindOf x=some .local ->bindL kindOf (P.zip vs) m x=some v
 | [],_,_,_,_,h,_,_=>by simp at h
 | _::_,[],_,_,_,_,h,_=>by simp at h
 | p::P,w::vs,0,m,nd,h1,h2,hk=>by simp at h1 h2;subst h1;subst h2;change bindL kindOf ((p,w)::P.zip vs) m p=_;unfold bindL;rw[sZ λv hv=>(bw.mp nd).1 (List.of_mem_zip hv).1,ap hk];simp
 | p::P,w::vs,i+1,m,nd,h1,h2,hk=>by change bindL kindOf ((p,w)::P.zip vs) m x=_;unfold bindL;show s_ (i:=i) (bw.mp nd).2 ⇑h1 ⇑h2 hk
theorem tq {kindOf:Str ->eB NameKind}{x:Str}{v:d4}: ∀ {P:d3 Str} {vs:d3 d4} {i:Nat} {m:Str ->eB d4},P.Nodup ->P[i]? =some x ->vs[i]? =some v ->kindOf x≠some .local ->bindC kindOf (P.zip vs) m x=some v
 | [],_,_,_,_,h,_,_=>by simp at h
 | _::_,[],_,_,_,_,h,_=>by simp at h
 | p::P,w::vs,0,m,nd,h1,h2,hk=>by simp at h1 h2;subst h1;subst h2;change bindC kindOf ((p,w)::P.zip vs) m p=_;unfold bindC;rw[tf λv hv=>(bw.mp nd).1 (List.of_mem_zip hv).1,ai hk];simp
 | p::P,w::vs,i+1,m,nd,h1,h2,hk=>by change bindC kindOf ((p,w)::P.zip vs) m x=_;unfold bindC;show tq (i:=i) (bw.mp nd).2 ⇑h1 ⇑h2 hk
def start (N:d3 Str)(vs:d3 V):St:=vs.map some++List.replicate (N.length - vs.length) none
def qw (CX:GP)(P:R1)(w:World)(K:RZ)(mg:Str ->eB d4)(base:Heap)(N:d3 Str)(qual:Str)(scope:Scope)(f:gi)(cd:d4)(A:Around)(outer:d3 Env)(s:d5)(H:Hp)(E:XK):Cx where
 prog:=P
 w:=w
 K:=K
 mg:=mg
 base:=base
 A:=A.deeper (envOfC qual scope s.heap.objs.size f cd)
 N:=N
 s₀:=s
 H₀:=H
 env:=envOfC qual scope s.heap.objs.size f cd
 outer:=outer
 stack:=envOfC qual scope s.heap.objs.size f cd::outer
 ex:= []
 calm:=true
 fn:=λ_=>true
 pn:= []
 xe:=λe s'=>wpAny (model P w) (A.deeper (envOfC qual scope s.heap.objs.size f cd)) (leaving (envOfC qual scope s.heap.objs.size f cd) e) (λ_ Wo=>CX outer H s E e Wo) (λe' Wo=>CX outer H s E e' Wo) s'
def w5 {sc:Scope}(h:sc.names.lookup x=some .cell): ∃c,(cellsFrom n sc.names []).lookup x=some c:=by have q:=W.cellsFrom_some sc.names n [] (.inl h);show Option.isSome_iff_exists.mp q
def BL {K:RZ}(S:iV N ps scope)(hd:A.handled=none)(e0:zg P w K mg base A outer s H)(hl:vs.length=ps.length)(r:cD vs us)(x:InCallC s s.heap.objs.size (bindL (envOfC qual scope s.heap.objs.size f cd).kindOf (ps.zip us) λ_=>none) (cellsFrom (s.heap.objs.size+1) scope.names []) (bindC (envOfC qual scope s.heap.objs.size f cd).kindOf (ps.zip us) λ_=>none) s1): Inv (qw CX P w K mg base N qual scope f cd A outer s H E) [] (start N vs) H s1:=by
 have qc:ps.length<=N.length:=by have:=congrArg List.length S.pre;rw[a7] at this;lia
 let⟨h1,tk,rfl,hk⟩:=x.done;have RC: ∀b:gi,b∉(qw CX P w K mg base N qual scope f cd A outer s H E).ex:=λb z=>absurd (show b∈([]:d3 gi) from z) (by simp);exact#[#[e0.mod,S.kind,rfl,rfl,ao _,λy z c h1 h2=> ?_,λy hy=> ?_,λy c _ h=> ?_,λ_=>hd,Around.frames_deeper e0.frames, .inr #[rfl,rfl],λb z=>absurd z (RC b),e0.bs,e0.Hh,λb _ _=>RC b,λb z=>absurd z (RC b),e0.oO,e0.OK],
  rfl,e0.bare,Un.kept hk,#[_,x.toInCall.ns,λi y v h1 h2 h3=> ?_],λy c h=>#[_,x.cell y c h],e0.cT.fresh (ao _),λy c h=> ?_,λp hp=>absurd (show p∈([]:d3 (gi×Obj)) from hp) (by simp),e0.cT.kept hk,?_]
 show name_of_addr x.apart (dD h1) (dD h2);have hy:scope.names.lookup y=some .cell \/ scope.names.lookup y=some .free:=hy;obtain hy | hy:=hy;show w5 hy;show absurd rfl (S.NG _ (dD hy));show Nat.le_of_lt (x.above y c (dD h));have hi:i<vs.length:=by unfold start at h2;by_cases hi:i<vs.length;show hi;rw[aY ⇑hi] at h2;rw[List.getElem?_replicate] at h2;split at h2<;>cases h2
 have ha:vs[i]? =some v:=by
  unfold start at h2;rw[bg ⇑hi,aB] at h2;cases e:vs[i]? with
  | none=>rw[e] at h2;cases h2
  | some a=>rw[e] at h2;cases h2;rfl
 let⟨u,hu,rv⟩:=r.get ha;have hp:ps[i]? =some y:=by rw[<- S.pre,List.getElem?_take_of_lt ∅];show h1
 have ndP:ps.Nodup:=by rw[<- S.pre];show S.nd.sublist (List.take_sublist _ _)
 exact#[u,rv,?_];obtain k | k:=S.par y (aw hp);show .inl #[k,s_ ndP hp hu k];let⟨c,e⟩:=w5 (n:=s.heap.objs.size+1) k;exact .inr #[.inl k,c,e,?_];have q:=x.cell y c e;rw[tq ndP hp hu (by change scope.names.lookup y≠_;rw[k];decide)] at q;show q;show e0.cT.fresh (Nat.le_of_lt (x.above y c (dD h)));unfold start;change _=N.length;rw[aG,aa,List.length_replicate];lia
def Tf {K:RZ}{dV kV kc pm cdv ct oc:d4}(lk:K.lookup f=some #[oc,od, .func (W.fnOf name qual params body scope dV kV kc pm an cdv ct),CH])(BW:W.codeIn K cdv qual=true)(S:iV N ps scope)(len: ∀vs H Q E,sp vs H Q E ->vs.length=ps.length)(mR: ∀ (A:Around) (outer:d3 Env) (s:d5) (H:Hp) (vs:d3 V) (Q:VK) (E:XK),fU k (A.deeper (envOfC qual scope s.heap.objs.size f cdv)) ->sp vs H Q E ->∃t,xp (qw CX P w K mg base N qual scope f cdv A outer s H E) body t /\ t {nx:=λ_ H'=>Q .dY H',rt:=Q} (start N vs) H): d8 P w K mg base CX (k+1) f (W.fnOf name qual params body scope dV kV kc pm an cdv ct) ps sp:=by
 exact#[len,λA outer s H args us vs Q E hr e0 hb r wg=> ?_];have hl:=len _ _ _ _ wg;have KX:K.In s.heap:=e0.mod.UX.keeps λb o e=>(e0.bs b o e).1;have lim:s.heap.NoLimit:=e0.mod.nolimit.keeps λb o e=>(e0.bs b o e).1;have SI: ∀y∈ps.zip us,scope.names.lookup y.1=some .local \/ (scope.names.lookup y.1=some .cell /\ ((cellsFrom (s.heap.objs.size+1) scope.names []).lookup y.1).isSome=true):=λ⟨n,v⟩ hy=>by obtain q | q:=S.par n (List.of_mem_zip hy).1;show .inl q;show .inr #[q,W.cellsFrom_some _ _ _ (.inl q)]
 exact codeAny_call_function hr.depth (KX _ _ lk) rfl S.co S.gen rfl (W.codeRec_of KX BW) (hb _ _ _ _ ?_);exact wpAny_newFunctionEnv_cells S.kind SI λenv he s1 x=> ?_;subst he;exact#[lim.keeps x.toInCall.keep,codeAny_func ?_];let⟨t,ht,hq⟩:=mR A outer s H vs Q E (hr.deeper _) wg;have I:Inv (qw CX P w K mg base N qual scope f cdv A outer s H E) [] (start N vs) H s1:=BL S hr.hd e0 hl r x;exact bM (ht [] s1 (start N vs) H _ I hq) (λfl s' hs=> ?_) λe s' hs=>hs;have fin: ∀ {σ':St} {H':Hp} {v:V} {u:d4},Inv (qw CX P w K mg base N qual scope f cdv A outer s H E) [] σ' H' s' ->RelV v u ->Q v H' ->CE outer P w H s Q u s':=λ{σ' H' v u} J rv q=>#[v,H',J.os,J.bare,J.base,J.cT,rv,q]
 cases fl with
 | ret u=>let⟨v,σ',H',J,rv,q⟩:=hs;show fin J rv q
 | next=>let⟨σ',H',J,q⟩:=hs;show fin (v:=V.dY) (u:=Value.none) J rfl q
 | brk=>let⟨_,_,_,q⟩:=hs;show False.elim q
 | cont=>let⟨_,_,_,q⟩:=hs;show False.elim q
section
variable {X:Cx}{x:Str}{p pos:Pos}{e:Expr}{es:d3 Expr}{t:TA}{id T:String}{r:d3 V ->Hp ->VK ->Prop}
def Wd (r:d3 V ->Hp ->VK ->Prop)(t:TA):TE:=λσ H Q=>t σ H λvs H1=>r vs H1 Q
def cL (hc:gL X (.builtin id) r)(hg:Gl X x)(hm:X.mg x=none)(hv:bootBuiltins x=some (.builtin id))(ha:PA X (e::es) t)(hn:x≠ "__name__" :=by decide)(F1:(x==("__debug__" :Str))=false:=by decide) (he:starEach (e::es) X.env=(false,eval e X.env)::starEach es X.env:=by rfl) (qc:(backTo pos (starEach es X.env)).any (·.1)=false:=by rfl):PE X (.Call (.Name x p) (e::es) [] pos) (Wd r t):=by intro aj s σ H Q I h;exact wpAny_Call_Name_kw (gz I hg hm hv ?_ hn F1);show PyProof.Rows.callWith_builtin1 (cY (ha pos aj s σ H _ I h) λus s1 ⟨vs,H1,I1,r1,q1⟩=>hc aj s1 σ H1 vs us Q I1 r1 q1) he qc
def dJ (hc:gL X (.type T) r)(hg:Gl X x)(hm:X.mg x=none)(hv:bootBuiltins x=some (.type T))(ha:PA X (e::es) t)(hn:x≠ "__name__" :=by decide)(F1:(x==("__debug__" :Str))=false:=by decide) (he:starEach (e::es) X.env=(false,eval e X.env)::starEach es X.env:=by rfl) (qc:(backTo pos (starEach es X.env)).any (·.1)=false:=by rfl):PE X (.Call (.Name x p) (e::es) [] pos) (Wd r t):=by intro aj s σ H Q I h;exact wpAny_Call_Name_kw (gz I hg hm hv ?_ hn F1);show bG (cY (ha pos aj s σ H _ I h) λus s1 ⟨vs,H1,I1,r1,q1⟩=>hc aj s1 σ H1 vs us Q I1 r1 q1) he qc
end
end L2
namespace HT
open PySem PyProof.Rows
def pM (n d:Nat):eB Int ->Nat
 | none=>d
 | some v=>if v<0 then(v+(n:Int)).toNat else min v.toNat n
theorem DS (n d:Nat):pM n d none=d:=rfl
def HN (n d k:Nat):pM n d (some (k:Int))=min k n:=by change(if(k:Int) <0 then((k:Int)+(n:Int)).toNat else min (k:Int).toNat n)=min k n;rw[ai ∅,Int.toNat_natCast]
end HT
namespace L2
open PySem PySem.Spec PyProof.Rows
abbrev TO:=St ->Hp ->(eB Int ->Hp ->Prop) ->Prop
def PO (X:Cx)(e:eB Expr)(t:TO):Prop:=∀ (aj:d3 (gi×Obj)) (s:d5) (σ:St) (H:Hp) (Q:eB Int ->Hp ->Prop),Inv X aj σ H s ->t σ H Q ->wpAny (model X.prog X.w) X.A (evalPart e X.env) (λu s'=>cJ λo H'=>dh (Inv X aj σ H' s') (IsPart u o) (Q o H')) X.xe s
def zx:TO:=λ_ H Q=>Q none H
def KA (t:TE):TO:=λσ H Q=>t σ H λx H1=> ∃i,x= .int i /\ Q (some i) H1
section
variable {X:Cx}{e:Expr}{te:TE}{lo hi:eB Expr}{tl th:TO}{pos p2:Pos}
def zX:PO X none zx:=by intro aj s σ H Q I h;rw[evalPart_none];show ax #[none,H,I, .none,h]
def zW (h:PE X e te):PO X (some e) (KA te):=by intro aj s σ H Q I hw;rw[evalPart_some];exact cY (h aj s σ H _ I hw) λu s1 ⟨x,H1,I1,r1,q1⟩=> ?_;let⟨i,rfl,q⟩:=q1;let⟨t,rfl⟩:=r1;show#[some i,H1,I1, .int i t,q]
def SlR (X:Cx)(r:V ->eB Int ->eB Int ->Hp ->VK ->Prop):Prop:=∀ (aj:d3 (gi×Obj)) (s:d5) (σ:St) (H:Hp) (x:V) (v vl vu:d4) (lo hi:eB Int) (sl:gi) (Q:VK),Inv X aj σ H s ->RelV x v ->s.heap.IsSliceOf sl vl vu .none ->IsPart vl lo ->IsPart vu hi ->r x lo hi H Q ->cJ λT id=>dh (typeLookup (.type T) "__getitem__" =pure (some (.builtin id))) (s.TypeIs v T) (wpAny (model X.prog X.w) X.A (getItem v (.ref sl)) (EP X aj σ Q) X.xe s)
def _I (r:V ->eB Int ->eB Int ->Hp ->VK ->Prop)(te:TE)(tl th:TO):TE:=λσ H Q=>te σ H λx H1=>tl σ H1 λl H2=>th σ H2 λu H3=>r x l u H3 Q
def vJ (hr:SlR X r)(he:PE X e te)(hl:PO X lo tl)(hu:PO X hi th):PE X (.Subscript e (.Slice lo hi none p2) pos) (_I r te tl th):=by intro aj s σ H Q I h;exact Subscript_ (cY (he aj s σ H _ I h) λv s1 ⟨x,H1,I1,r1,q1⟩=> ?_);exact wpAny_Slice (cY (hl aj s1 σ H1 _ I1 q1) λvl s2 ⟨l,H2,I2,pl,q2⟩=>cY (hu aj s2 σ H2 _ I2 q2) λvu s3 ⟨u,H3,I3,pu,q3⟩=> ?_);rw[evalPart_none];exact ax ?_;have I4:Inv X aj σ H3 {s3 with heap:=s3.heap.push {cls:= .type "slice",data:= .fields (List.toArray [vl,vu, .none])}}:=I3.kept (t':=s3.toks) λb ob q=>aq _ q;let⟨T,id,hT,ht,hg⟩:=hr aj {s3 with heap:=s3.heap.push {cls:= .type "slice",data:= .fields (List.toArray [vl,vu, .none])}} σ H3 x v vl vu l u s3.heap.objs.size Q I4 r1 (Heap.IsSliceOf.new ..) pl pu q3;change wpAny (model X.prog X.w) X.A (subscriptTail e (.Slice lo hi none p2) v (.ref s3.heap.objs.size)) (EP X aj σ Q) X.xe {s3 with heap:=s3.heap.push {cls:= .type "slice",data:= .fields (List.toArray [vl,vu, .none])}};show tail_any (ops:= [.ref s3.heap.objs.size,v]) ht hT hg (by with_unfolding_all rfl)
def wV (xs:d3 V)(lo hi:eB Int):d3 V:=(xs.drop (HT.pM xs.length 0 lo)).take (HT.pM xs.length xs.length hi - HT.pM xs.length 0 lo)
def wT (xs:d3 V)(lo hi:eB Int):(wV xs lo hi).length<=xs.length:=by unfold wV;rw[a7,List.length_drop];lia
end
def u4 (n:Nat)(i:Int):eB Nat:=if 0<=i then(if i<n then some i.toNat else none) else if -(n:Int) <=i then some (i+n).toNat else none
def lX {α:Type}(xs:d3 α)(i:Int):eB α:=(u4 xs.length i).bind λj=>xs[j]?
def Ap (h:u4 n i=some j): seqIndex? i n=some j /\ j<n /\ -(n:Int) <=i /\ i<n:=by unfold u4 at h;by_cases h0:0<=i;rw[ap h0] at h;by_cases h1:i<n;rw[ap h1] at h;have e:i.toNat=j:=bm h;show#[by rw[seqIndex_of h0 h1,e], ∅, ∅,h1];rw[ai h1] at h;cases h;rw[ai h0] at h;by_cases h1: -(n:Int) <=i;rw[ap h1] at h;have e:(i+n).toNat=j:=bm h;show#[by rw[seqIndex_neg ∅ h1,e], ∅,h1, ∅];rw[ai h1] at h;cases h
def A7 {v:α}(h:lX xs i=some v): ∃j,ja (seqIndex? i xs.length=some j) (xs[j]? =some v) (j<xs.length) (-(xs.length:Int) <=i) (i<xs.length):=by
 unfold lX at h;cases e:u4 xs.length i with
 | none=>rw[e] at h;cases h
 | some j=>rw[e] at h;let⟨h1,h2,h3,h4⟩:=Ap e;show#[j,h1,h,h2,h3,h4]
def iT {j:Nat}{v:α}(h:xs[j]? =some v):lX xs (j:Int)=some v:=by
 have hj:j<xs.length:=(ak.mp h).1;have e:u4 xs.length (j:Int)=some j:=by unfold u4;rw[ap ∅,ap ∅];simp
 unfold lX;rw[e];show h
def J8 (b:Expr):Prop:= ∀o i,subscripted b false o i=operate [o,i] (getItem o i)
def Z6 (X:Cx)(r:R2):Prop:=∀ (value slice:Expr) (aj:d3 (gi×Obj)) (s:d5) (σ:St) (H:Hp) (x y:V) (v u:d4) (Q:VK),Inv X aj σ H s ->RelV x v ->RelV y u ->r x y H Q ->subscripted slice false v u=operate [v,u] (getItem v u) ->wpAny (model X.prog X.w) X.A (subscriptTail value slice v u) (EP X aj σ Q) X.xe s
def MtR (X:Cx)(id:String)(r:V ->d3 V ->Hp ->VK ->Prop):Prop:=∀ (aj:d3 (gi×Obj)) (s:d5) (σ:St) (H:Hp) (x:V) (xs:d3 V) (v:d4) (us:d3 d4) (Q:VK),Inv X aj σ H s ->RelV x v ->cD xs us ->r x xs H Q ->wpAny (model X.prog X.w) X.A (call (.builtin id) (v::us)) (EP X aj σ Q) X.xe s
section
variable {X:Cx}{a b:Expr}{ta tb:TE}{pos:Pos}
def dE (hr:Z6 X r)(ha:PE X a ta)(hb:PE X b tb)(hs:J8 b):PE X (.Subscript a b pos) (QI r ta tb):=by intro aj s σ H Q I h;show Subscript_ (OV ha hb I h λv u s2 x y H2 I2 rx ry q=>hr a b aj s2 σ H2 x y v u Q I2 rx ry q (hs _ _))
def Rg (K:RZ):R2:=λx y H Q=>jQ λp xs i v=>ja (x= .ref p) (y= .int i) (gC K H p xs) (lX xs i=some v) (Q v H)
def Rf (K:RZ):R2:=λx y H Q=>jQ λp xs i v=>ja (x= .ref p) (y= .int i) (i9 K H p xs) (lX xs i=some v) (Q v H)
def dj:Z6 X (Rg X.K):=by
 intro value slice aj s σ H x y v u Q I rx ry h hs;let⟨p,xs,i,z,rfl,rfl,hq,he,q⟩:=h;cases rx;let⟨t,rfl⟩:=ry;let⟨its,r,pl,hz⟩:=I.list hq;let⟨j,h1,h2,h3,h4,h5⟩:=A7 he;let⟨w,ew,tY⟩:=r.get h2;have hl:=r.length;have hn:=pY;have fin:EP X aj σ Q w s:=#[z,H,I,tY,q]
 by_cases h0:0<=i;have hj:i.toNat=j:=by rw[seqIndex_of h0 h5] at h1;show bm h1
 show item_listR pl.isList h0 ∅ (by rw[hj];simpa using ew) fin hs;have hj:(i+(its.toArray.size:Int)).toNat=j:=by rw[seqIndex_neg ∅ h4] at h1;rw[aU, <- hl];show bm h1
 show subscriptTail_builtinR (x:=w) pl.isList.typeIs slot_list_getitem.lookup (wpAny_getItem_list_neg (Q:=λr s'=>r=w /\ EP X aj σ Q r s') pl.isList ∅ (by rw[aU] <;>lia) ∅ (by rw[hj];simpa using ew) #[rfl,fin]) hs
def gA:Z6 X (Rf X.K):=by
 intro value slice aj s σ H x y v u Q I rx ry h hs;let⟨p,xs,i,z,rfl,rfl,hq,he,q⟩:=h;cases rx;let⟨t,rfl⟩:=ry;let⟨its,r,pl,hz⟩:=I.tuple hq;let⟨j,h1,h2,h3,h4,h5⟩:=A7 he;let⟨w,ew,tY⟩:=r.get h2;have hl:=r.length;have hn:=pY;have fin:EP X aj σ Q w s:=#[z,H,I,tY,q]
 show subscriptTail_builtinR (x:=w) pl.typeIs slot_tuple_getitem.lookup (getItem_tuple (j:=j) (Q:=λr s'=>r=w /\ EP X aj σ Q r s') pl ∅ ∅ (by rw[aU, <- hl];show h1) ⇑ew #[rfl,fin]) hs
def yk (its:d3 d4)(n j:Nat)(u:d4):Obj.mapSeq (·.setIfInBounds j u) {cls:= .type "list",data:= .seq its.toArray n}= {cls:= .type "list",data:= .seq (its.set j u).toArray n}:=by simp[Obj.mapSeq]
def Inv.lst {aj:d3 (gi×Obj)}{σ:St}{H:Hp}{s:d5}{p:gi}{xs:d3 V}(I:Inv X aj σ H s)(h:H p=some (.lst xs)): cJ λ(its:d3 d4) (n:Nat)=>dh (cD xs its) (s.heap.get? p=some {cls:= .type "list",data:= .seq its.toArray n}) (xs.length<=sizeLine):=by let⟨z,its,n,r,e⟩:=I.cT p _ h;show#[its,n,r,e,z]
def Inv.NP {σ:St}{its its':d3 d4}(I:Inv X aj σ H s)(h:H p=some (.lst xs))(ho:s.heap.get? p=some {cls:= .type "list",data:= .seq its.toArray n})(hf:f {cls:= .type "list",data:= .seq its.toArray n}= {cls:= .type "list",data:= .seq its'.toArray n'})(r:cD ys its')(hz:ys.length<=sizeLine)(t:Nat): Inv X aj σ (cO H p (.lst ys)) {s with heap:=s.heap.update p f,toks:=t}:=by
 have e:(s.heap.update p f).get? p=some {cls:= .type "list",data:= .seq its'.toArray n'}:=by rw[Heap.get?_update_self f ho (by rw[hf] <;>rfl),hf]
 exact I.write (x:=p) (e:=p) (by rw[h];trivial) (.inl rfl) (λb u hb q=>(dP _ _ (aT hb)).trans q) #[_,e] ?_;show#[hz,its',n',r,e]
def Ld:V ->V ->V ->Hp ->(Hp ->Prop) ->Prop:=λo i v H Q=>jQ λp xs k j=>ja (o= .ref p) (i= .int k) (H p=some (.lst xs)) (u4 xs.length k=some j) (Q (cO H p (.lst (xs.set j v))))
def ik:TD X Ld:=by
 intro aj s σ H o i v ov iv u Q I ro ri rv h;let⟨p,xs,k,j,rfl,rfl,hp,hj,q⟩:=h;cases ro;let⟨t,rfl⟩:=ri;let⟨its,n,r,ho,hz⟩:=I.lst hp;let⟨h1,h2,h3,h4⟩:=Ap hj;have hl:=r.length;have hn:=pY;have I':Inv X aj σ (cO H p (.lst (xs.set j v))) {s with heap:=s.heap.update p (Obj.mapSeq (·.setIfInBounds j u))}:=I.NP hp ho (yk its n j u) (r.set rv j) (by rw[List.length_set];show hz) s.toks;by_cases h0:0<=k;have hk:k.toNat=j:=by rw[seqIndex_of h0 h4] at h1;show bm h1
 show W.ki_setAt ho h0 ∅ (by rw[aU, <- hl];show h4) (by rw[hk];show#[_,I',q]);have hk:(k+(its.toArray.size:Int)).toNat=j:=by rw[seqIndex_neg ∅ h3] at h1;rw[aU, <- hl];show bm h1
 show W.ki_setBack ho ∅ (by rw[aU, <- hl];show h3) ∅ (by rw[hk];show#[_,I',q])
def tU (lo hi:eB Int)(n:Nat):(sliceBounds lo hi none n).1=((HT.pM n 0 lo:Nat):Int) /\ (sliceBounds lo hi none n).2.1=((HT.pM n n hi:Nat):Int) /\ (sliceBounds lo hi none n).2.2=1:=by
 exact#[?_,?_,rfl];cases lo with
 | none=>simp[sliceBounds,HT.pM]
 | some i=>simp![sliceBounds,HT.pM,Option.getD_none,show(1:Int) >0 by decide,bR];by_cases h:i<0;simp![h,bR] <;>lia;simp![h,be] <;>lia
 cases hi with
 | none=>simp[sliceBounds,HT.pM]
 | some i=>simp![sliceBounds,HT.pM,Option.getD_none,show(1:Int) >0 by decide,bR];by_cases h:i<0;simp![h,bR] <;>lia;simp![h,be] <;>lia
def ra (its:d3 d4)(lo hi:eB Int):slicePick its.toArray lo hi none=((its.drop (HT.pM its.length 0 lo)).take (HT.pM its.length its.length hi - HT.pM its.length 0 lo)).toArray:=by let⟨h1,h2,h3⟩:=tU lo hi its.toArray.size;unfold slicePick;rw[h1,h2,h3];simp![sliceRange_one,pick_run,aU] <;>rfl
def Rb (K:RZ):V ->eB Int ->eB Int ->Hp ->VK ->Prop:=λx lo hi H Q=>cJ λa xs=>dh (x= .ref a) (gC K H a xs) (∀p,H p=none ->Q (.ref p) (cO H p (.lst (wV xs lo hi))))
def zJ:SlR X (Rb X.K):=by intro aj s σ H x v vl vu lo hi sl Q I rx hs pl pu h;let⟨a,xs,rfl,hx,q⟩:=h;cases rx;let⟨its,r,ht,hz⟩:=I.list hx;have dS:=r.length;exact#["list",_,slot_list_getitem.lookup,ht.isList.typeIs,?_];exact wpAny_getItem_list_slice ht.isList hs pl pu .none (by simp) ?_ (by rw[aU] <;>lia);rw[ra, <- dS];exact#[.ref s.heap.objs.size,_,I.laid (t':=s.toks) (o:= .lst (wV xs lo hi)) (λb ob q=>aq _ q) (ao _) ?_,rfl,q _ (I.cT.fresh (ao _))];show#[aS (wT xs lo hi) hz,_,0,(r.drop (HT.pM xs.length 0 lo)).take (HT.pM xs.length xs.length hi - HT.pM xs.length 0 lo),aM _ rfl]
def L6:V ->Bool
 | .dY=>true
 | .bl _=>true
 | .int _=>true
 | .str _=>true
 | _=>false
def eqV:V ->V ->Bool
 | .dY, .dY=>true
 | .bl a, .bl b=>a==b
 | .bl a, .int b=>(if a then 1 else 0)==b
 | .int a, .bl b=>a==(if b then 1 else 0)
 | .int a, .int b=>a==b
 | .str a, .str b=>a==b
 | _,_=>false
def fL (ry:RelV y u)(rx:RelV x v)(fy:L6 y=true)(fx:L6 x=true):SeqAt.EqAt A s u v (eqV y x):=by
 cases y with
 | dY=>
  cases ry;cases x with
  | dY=>cases rx;show SeqAt.EqAt.same _
  | bl b=>cases rx;show SeqAt.EqAt.none_bool b
  | int b=>let⟨t,rfl⟩:=rx;show SeqAt.EqAt.none_int b t
  | str b=>let⟨t,rfl⟩:=rx;show SeqAt.EqAt.none_str b t
  | _=>show absurd (show false=true from fx) aW
 | bl a=>
  cases ry;cases x with
  | dY=>cases rx;show SeqAt.EqAt.bool_none a
  | bl b=>cases rx;show SeqAt.EqAt.bool_bool a b
  | int b=>let⟨t,rfl⟩:=rx;show SeqAt.EqAt.bool_int a b t
  | str b=>let⟨t,rfl⟩:=rx;show SeqAt.EqAt.bool_str a b t
  | _=>show absurd (show false=true from fx) aW
 | int a=>
  let⟨t',rfl⟩:=ry;cases x with
  | dY=>cases rx;show SeqAt.EqAt.int_none a t'
  | bl b=>cases rx;show SeqAt.EqAt.int_bool a t' b
  | int b=>let⟨t,rfl⟩:=rx;show SeqAt.EqAt.int_int a t' b t
  | str b=>let⟨t,rfl⟩:=rx;show SeqAt.EqAt.int_str a t' b t
  | _=>show absurd (show false=true from fx) aW
 | str a=>
  let⟨t',rfl⟩:=ry;cases x with
  | dY=>cases rx;show SeqAt.EqAt.str_none a t'
  | bl b=>cases rx;show SeqAt.EqAt.str_bool a t' b
  | int b=>let⟨t,rfl⟩:=rx;show SeqAt.EqAt.str_int a t' b t
  | str b=>let⟨t,rfl⟩:=rx;show SeqAt.EqAt.str_str a t' b t
  | _=>show absurd (show false=true from fx) aW
 | _=>show absurd (show false=true from fy) aW
def uP:gL X (.builtin "len") (λxs H Q=>cJ λp ys=>dh (xs= [.ref p]) (gC X.K H p ys \/ i9 X.K H p ys) (Q (.int ys.length) H)):=by intro aj s σ H xs us Q I r h;let⟨p,ys,rfl,hq,q⟩:=h;let⟨u,rfl,rx⟩:=vals1 r;cases rx;have hn:=pY;obtain hq | hq:=hq;let⟨its,r',pl,hz⟩:=I.list hq;have dS:=r'.length;show Calls.call_len_list pl.isList (by simp![aU] <;>lia) #[.int ys.length,H,I.tok _,#[s.toks+1,by rw[aU,dS]],q];let⟨its,r',pl,hz⟩:=I.tuple hq;have dS:=r'.length;show len_tuple pl (by simp![aU] <;>lia) #[.int ys.length,H,I.tok _,#[s.toks+1,by rw[aU,dS]],q]
def uO:gL X (.type "list") (λxs H Q=>cJ λp ys=>dh (xs= [.ref p]) (gC X.K H p ys \/ i9 X.K H p ys) (∀l,H l=none ->Q (.ref l) (cO H l (.lst ys)))):=by
 intro aj s σ H xs us Q I r h;let⟨p,ys,rfl,hq,q⟩:=h;let⟨u,rfl,rx⟩:=vals1 r;cases rx;have fin: ∀ (its:d3 d4),cD ys its ->ys.length<=sizeLine -> ∀ (h':Heap) (c':Nat),(∀b o',s.heap.get? b=some o' ->h'.get? b=some o') ->h'.get? s.heap.objs.size=some {cls:= .type "list",dict:=none,data:= .seq its.toArray c',slots:= #[]} ->EP X aj σ Q (.ref s.heap.objs.size) {s with heap:=h'}:=λits r' hz h' c' kp e=>#[.ref s.heap.objs.size,_,I.laid (t':=s.toks) kp (ao _) (show dn X.prog X.w _ h' _ (.lst ys) from#[hz,its,c',r',e]),rfl,q _ (I.cT.fresh (ao _))]
 obtain hq | hq:=hq;let⟨its,r',pl,hz⟩:=I.list hq;have dS:=r'.length;let⟨o,ho,hc,n,hd⟩:=pl.isList;show call_list_seq p (.inl rfl) ho hc hd (λh' c' kp e=>fin its r' hz h' c' kp e) (by simp![aU] <;>lia);let⟨its,r',pl,hz⟩:=I.tuple hq;have dS:=r'.length;let⟨o,ho,hc,n,hd⟩:=pl;show call_list_seq p (.inr rfl) ho hc hd (λh' c' kp e=>fin its r' hz h' c' kp e) (by simp![aU] <;>lia)
def rD:gL X (.type "tuple") (λxs H Q=>cJ λp ys=>xs= [.ref p] /\ ((gC X.K H p ys /\ ∀l,H l=none ->Q (.ref l) (cO H l (.tup ys))) \/ (i9 X.K H p ys /\ Q (.ref p) H))):=by
 intro aj s σ H xs us Q I r h;let⟨p,ys,rfl,h⟩:=h;let⟨u,rfl,rx⟩:=vals1 r;cases rx;rcases h with⟨hq,q⟩ | ⟨hq,q⟩
 let⟨its,r',pl,hz⟩:=I.list hq;have dS:=r'.length;exact call_tuple_list pl.isList (λh' kp=> ?_) (by simp![aU] <;>lia);have I1:Inv X aj σ H {s with heap:=h'}:=I.kept (t':=s.toks) kp;have I2:Inv X aj σ (cO H h'.objs.size (.tup ys)) {s with heap:=h'.push {cls:= .type "tuple",data:= .seq its.toArray}}:=I1.laid (t':=s.toks) (λb o e=>aq _ e) (ao _) (show dn X.prog X.w _ _ _ (.tup ys) from#[hz,its,r',k8.new _ _]);show#[.ref h'.objs.size,_,I2,rfl,q _ (I1.cT.fresh (ao _))];let⟨its,r',pl,hz⟩:=I.tuple hq;show call_tuple_same pl #[.ref p,H,I,rfl,q]
def V' (K:RZ)(T:String)(x:V)(H:Hp):Prop:=match x with
 | .str _=>T= "str"
 | .int _=>T= "int"
 | .ref p=>(T= "list" /\ ∃xs,gC K H p xs) \/ (T= "tuple" /\ ∃o,dh (K.lookup p=some o) (o.cls= .type "tuple") (o.dict=none)) \/(T= "dict" /\ ((∃kvs,H p=some (.dK kvs)) \/ ∃kvs,H p=some (.dT kvs))) \/ (T= "set" /\ ∃S n,H p=some (.set S n))
 | _=>False
def MG {σ:St}(I:Inv X aj σ H s)(r:RelV x v)(ty:V' X.K T x H): s.TypeIs v T /\ ∀a,v= .ref a -> ∃ob,s.heap.get? a=some ob /\ ob.dict=none:=by
 cases x with
 | str z=>let⟨t,rfl⟩:=r;cases (show T= "str" from ty);show#[typeIs_str s z t,λ_ e=>nomatch e]
 | int i=>let⟨t,rfl⟩:=r;cases (show T= "int" from ty);show#[typeIs_int s i t,λ_ e=>nomatch e]
 | ref p =>
  cases r;rcases ty with⟨rfl,xs,hq⟩ | ⟨rfl,o,hk,hc,hd⟩ | ⟨rfl,hk⟩ | ⟨rfl,S,n,hk⟩
  let⟨its,_,pl,_⟩:=I.list hq;exact#[pl.isList.typeIs,λa e=> ?_];cases e;let⟨o,n,e,c,hd,_⟩:=pl;show#[o,e,hd];exact#[#[o,I.oH p o hk,hc],λa e=> ?_];cases e;show#[o,I.oH _ o hk,hd];have z: ∃o,s.heap.get? p=some o /\ o.ExactDict:=by
   rcases hk with⟨kvs,hk⟩ | ⟨kvs,hk⟩
   let⟨_,_,_,_,o,_,_,e,ex,_⟩:=I.cT p _ hk;show#[o,e,ex];let⟨_,_,_,_,o,_,_,e,ex,_⟩:=I.cT p _ hk;show#[o,e,ex]
  let⟨o,e,ex⟩:=z;exact#[#[o,e,ex.1],λa e2=> ?_];cases e2;show#[o,e,ex.2.1];let⟨o,_,_,_,e,ex,_⟩:=I.cT p _ hk;exact#[#[o,e,ex.1],λa e2=> ?_];cases e2;show#[o,e,ex.2.1]
 | _=>show False.elim ty
def _K (K:RZ)(T:String)(r:V ->d3 V ->Hp ->VK ->Prop)(to:TE)(t:TA):TE:=λσ H Q=>to σ H λx H1=>V' K T x H1 /\ t σ H1 λxs H2=>r x xs H2 Q
variable {o e:Expr}{es:d3 Expr}{to:TE}{t:TA}{name:Str}{i0 fT:Pos}{T id:String}{r:V ->d3 V ->Hp ->VK ->Prop}
def Rq (pa:PlainAttrs T)(slot:Slot T name id)(hty:typeOf (.builtin id)=pure (.type "method_descriptor"))(hm:MtR X id r)(ho:PE X o to)(ha:PA X (e::es) t) (wq:attributeBase o name X.env (eval o X.env)=eval o X.env:=by rfl) (Yp:((backTo fT (starEach (e::es) X.env)).all (λx=> !x.1) && (backToKw fT (keywordEach [] X.env)).all (λx=>x.1.isSome) && decide ((e::es).length+([]:d3 Keyword).length+(if([]:d3 Keyword).isEmpty then 0 else 1) <30))=true:=by rfl) (wo:(i0.endLine==fT.line)=true:=by rfl) (hs:starEach (e::es) X.env=(false,eval e X.env)::starEach es X.env:=by rfl) (N_:(backTo fT (starEach es X.env)).any (·.1)=false:=by rfl): PE X (.Call (.Attribute o name i0) (e::es) [] fT) (_K X.K T r to t):=by intro aj s σ H Q I h;exact wpAny_Call_method_late wq Yp wo rfl (cY (ho aj s σ H _ I h) λv s1 ⟨x,H1,I1,r1,ty,q1⟩=> ?_);let⟨h1,h2⟩:=MG I1 r1 ty;exact#[T,id,pa,slot,hty,h1,h2,?_];have hA:=ha fT aj s1 σ H1 _ I1 q1;rw[hs] at hA ⊢;exact Calls.callWith_builtin (by change(false || (backTo fT (starEach es X.env)).any (·.1))=false;rw[N_] <;>rfl) (Calls.evalArgs_plain ?_);show cY hA λus s2 ⟨vs,H2,I2,r2,q2⟩=>hm aj s2 σ H2 x vs v us Q I2 r1 r2 q2
end
def MtM (X:Cx)(id:String)(r:V ->d3 V ->Hp ->VK ->Prop):Prop:=∀ (aj:d3 (gi×Obj)) (s:d5) (σ:St) (H:Hp) (x:V) (xs:d3 V) (v:d4) (us:d3 d4) (Q:VK),Inv X aj σ H s ->RelV x v ->cD xs us ->r x xs H Q ->wpAny (model X.prog X.w) X.A (call (.builtin id) (v::us)) (EP X aj σ Q) X.xe s
def cD.one: ∀ {x:V} {us:d3 d4},cD [x] us -> ∃u,us= [u] /\ RelV x u :=by intro x us h;cases h with | cons r t=>cases t;show#[_,rfl,r]
def Inv.RO {σ:St}{its its':d3 d4}(I:Inv X aj σ H s)(hH:H l=some (.lst xs))(e:s.heap.get? l=some {cls:= .type "list",data:= .seq its.toArray n})(hf:f its.toArray=its'.toArray)(hv:cD ys its')(hz:ys.length<=sizeLine): Inv X aj σ (cO H l (.lst ys)) {s with heap:=s.heap.update l (Obj.mapSeq f),toks:=t'}:=by have q:=PySem.IsL.update e f;rw[hf] at q;exact I.write (x:=l) (e:=l) (by rw[hH];show trivial) (.inl rfl) (λb' u hb hu=>(dP s.heap (Obj.mapSeq f) (aT hb)).trans hu) #[_,q] ?_;show#[hz,its',_,hv,q]
theorem Inv.Xh {σ:St}(I:Inv X aj σ H s)(hv:cD ys its)(hz:ys.length<=sizeLine): Inv X aj σ (cO H s.heap.objs.size (.lst ys)) {s with heap:=s.heap.push {cls:= .type "list",data:= .seq its.toArray},toks:=t'}:=I.laid (λ_ _ q=>aq _ q) (ao _) #[hz,its,0,hv,aM _ rfl]
theorem Inv.fresh {σ:St}(I:Inv X aj σ H s):H s.heap.objs.size=none:=I.cT.fresh (ao _)
def Inv.E6 {σ:St}(I:Inv X aj σ H s)(hH:H l=some (.lst xs)):xs.length<=sizeLine /\ cJ λ(its:d3 d4) (n:Nat)=>dh (cD xs its) (xs.length=its.length) (s.heap.get? l=some {cls:= .type "list",data:= .seq its.toArray n}):=by let⟨z,its,n,r,e⟩:=I.cT l _ hH;show#[z,its,n,r,r.length,e]
def EX (h:n<=sizeLine):Builtin.List.listTooLong n=false:=by unfold Builtin.List.listTooLong;show bV ∅
def zS:V ->d3 V ->Hp ->VK ->Prop:=λx vs H Q=>gv λl xs y=>ja (x= .ref l) (vs= [y]) (H l=some (.lst xs)) (xs.length<sizeLine) (Q .dY (cO H l (.lst (xs++ [y]))))
def nM:MtM X "list.append" zS:=by intro aj s σ H x vs v us Q I rx rv h;let⟨l,xs,y,rfl,rfl,hH,hz,q⟩:=h;cases rx;let⟨u,rfl,ru⟩:=rv.one;let⟨z,its,n,r,hl,e⟩:=I.E6 hH;exact call_meets F.slot_list_append #[_,e,rfl] F.entry_list_append (F.args_list_append_2 _ _) (PySem.list_append l its.toArray n u (by rw[aU];lia)) #[e,?_];exact#[.dY,_,I.RO (its':=its++ [u]) hH e (by simp) (r.append (.cons ru .nil)) ?_,rfl,q];rw[aG,bF];lia
def HZ:V ->d3 V ->Hp ->VK ->Prop:=λx vs H Q=>jQ λl b xs zs=>nh (x= .ref l) (vs= [.ref b]) (H l=some (.lst xs)) (H b=some (.lst zs)) (xs.length+zs.length<=sizeLine) (Q .dY (cO H l (.lst (xs++zs))))
def Pm:MtM X "list.extend" HZ:=by
 intro aj s σ H x vs v us Q I rx rv h;let⟨l,b,xs,zs,rfl,rfl,hH,hB,hz,q⟩:=h;cases rx;let⟨u,rfl,ru⟩:=rv.one;cases ru;let⟨z,its,n,r,hl,e⟩:=I.E6 hH;let⟨z2,yz,n2,r2,Oj,e2⟩:=I.E6 hB;have hsz:its.toArray.size+yz.toArray.size<=sizeLine:=by rw[aU,aU];lia
 have SD:¬(!its.toArray.isEmpty && Builtin.List.listTooLong (its.toArray.size+yz.toArray.size))=true:=by rw[EX hsz,Bool.and_false];show aW
 exact call_meets F.slot_list_extend #[_,e,rfl] F.entry_list_extend (F.args_list_extend_2 _ _) (AutoSeq1.list_extend_list_list_0 l its.toArray n b yz.toArray n2 SD (by rw[aU];lia) ∅) #[e,e2,?_];exact#[.dY,_,I.RO (its':=its++yz) hH e (by simp) (r.append r2) ?_,rfl,q];rw[aG];lia
def Rj:R2:=λx y H Q=>jQ λl b xs zs=>nh (x= .ref l) (y= .ref b) (H l=some (.lst xs)) (H b=some (.lst zs)) (xs.length+zs.length<=sizeLine) (∀p,H p=none ->Q (.ref p) (cO H p (.lst (xs++zs))))
def ES:qP X (binaryOp .Add) Rj:=by
 intro aj s σ H x y v u Q I rx ry h;let⟨l,b,xs,zs,rfl,rfl,hH,hB,hz,q⟩:=h;cases rx;cases ry;let⟨z,its,n,r,hl,e⟩:=I.E6 hH;let⟨z2,yz,n2,r2,Oj,e2⟩:=I.E6 hB;exact PySem.P.add_list e e2 ?_ (by rw[aU,aU];lia);have ea:its.toArray++yz.toArray=(its++yz).toArray:=by simp
 rw[ea];show#[.ref _,_,I.Xh (t':=s.toks) (r.append r2) (by rw[aG];lia),rfl,q _ I.fresh]
section
variable {κ:Type} [DecidableEq κ]
def gN (kvs:d3 (κ×V))(k:κ):eB V:=(kvs.find? λkv=>decide (kv.1=k)).map (·.2)
def f' (kvs:d3 (κ×V))(k:κ)(v:V):d3 (κ×V):=if(kvs.any λkv=>decide (kv.1=k))=true then kvs.map (λkv=>if kv.1=k then(kv.1,v) else kv) else kvs++ [(k,v)]
def ou (kvs:d3 (κ×V))(k:κ):d3 (κ×V):=kvs.filter λkv=>decide (kv.1≠k)
def pB {k:κ}(e:p.1=k):gN (p::r) k=some p.2:=by simp[gN,br,e]
def pC {k:κ}(e:¬p.1=k):gN (p::r) k=gN r k:=by simp[gN,br,e]
theorem vb (k:κ): ∀kvs:d3 (κ×V),(kvs.any λkv=>decide (kv.1=k))=(gN kvs k).isSome
 | []=>rfl
 | p::r=>by rw[List.any_cons];by_cases e:p.1=k;simp![pB e,cb e,Bool.true_or,Option.isSome_some];rw[pC e,bV e,Bool.false_or];show vb k r
def gI (kvs:d3 (κ×V))(k:κ)(v:V):(f' kvs k v).length<=kvs.length+1:=by unfold f';split;rw[aa];lia;rw[aG,aK,List.length_nil];lia
def k7.hV (r:k7 o u):o.isSome=u.isSome:=by
 cases o with
 | none=>cases u with
  | none=>rfl
  | some _=>show(show False from r).elim
 | some _=>cases u with
  | none=>show(show False from r).elim
  | some _=>rfl
def k7.getD (r:k7 o u)(rd:RelV d d'):RelV (o.getD d) (u.getD d'):=by
 cases o with
 | none=>cases u with
  | none=>show rd
  | some _=>show(show False from r).elim
 | some _=>cases u with
  | none=>show(show False from r).elim
  | some _=>show r
def KV.val (r:KV kvs vs)(k:κ):k7 (gN kvs k) (valueAt vs k):=by
 unfold KV at r;induction r with
 | nil=>show True.intro
 | @cons p q ps qs h t ih=>
  let⟨h1,h2⟩:=h;by_cases e:p.1=k;have e':q.1=k:=h1.symm.trans e;have b:valueAt (q::qs) k=some q.2:=by simp[valueAt,br,e']
  rw[pB e,b];show h2;have e':¬q.1=k:=λz=>e (h1.trans z);have b:valueAt (q::qs) k=valueAt qs k:=by simp[valueAt,br,e']
  rw[pC e,b];show ih
def KV.any (r:KV kvs vs)(k:κ):(kvs.any λkv=>decide (kv.1=k))=vs.any λkv=>decide (kv.1=k):=by
 unfold KV at r;induction r with
 | nil=>rfl
 | cons h t ih=>rw[List.any_cons,List.any_cons,ih,h.1]
def KV.D8 (r:KV kvs vs)(k:κ)(ry:RelV y u): KV (kvs.map λkv=>if kv.1=k then(kv.1,y) else kv) (vs.map λkv=>if kv.1=k then(kv.1,u) else kv):=by
 unfold KV at r ⊢;induction r with
 | nil=>show .nil
 | @cons p q ps qs h t ih=>rw[aE,aE];exact .cons ?_ ih;let⟨h1,h2⟩:=h;by_cases e:p.1=k;rw[ap e,ap (h1.symm.trans e)];show#[h1,ry];rw[ai e,ai (λz=>e (h1.trans z))];show#[h1,h2]
def KV.put (r:KV kvs vs)(k:κ)(ry:RelV y u):KV (f' kvs k y) (stored vs k u):=by unfold f' stored;rw[r.any k];by_cases e:(vs.any λkv=>decide (kv.1=k))=true;rw[ap e,ap e];show r.D8 k ry;rw[ai e,ai e];show Paired.snoc r #[rfl,ry]
def KV.drop (r:KV kvs vs)(k:κ):KV (ou kvs k) (without vs k):=by
 unfold KV at r ⊢;unfold ou without;induction r with
 | nil=>show .nil
 | @cons p q ps qs h t ih=>
  let⟨h1,h2⟩:=h;rw[List.filter_cons,List.filter_cons];by_cases e:p.1=k;have a:¬decide (p.1≠k)=true:=by simp[e]
  have b:¬decide (q.1≠k)=true:=by simp[h1.symm.trans e]
  rw[ai a,ai b];show ih;have e':¬q.1=k:=λz=>e (h1.trans z);have a:decide (p.1≠k)=true:=by simp[e]
  have b:decide (q.1≠k)=true:=by simp[e']
  rw[ap a,ap b];show .cons #[h1,h2] ih
def KV.keys {vs:d3 (κ×d4)}(r:KV kvs vs):kvs.map (·.1)=vs.map (·.1):=by
 unfold KV at r;induction r with
 | nil=>rfl
 | cons h t ih=>rw[aE,aE,ih,h.1]
theorem KV.length {vs:d3 (κ×d4)}(r:KV kvs vs):kvs.length=vs.length:=Paired.length r
theorem Gb (kvs:d3 (κ×V))(k:κ):(ou kvs k).length<=kvs.length:=List.length_filter_le _ _
end
def mH (r:RelV (kV k) u):(ce P w).is k u=true:=by
 cases k with
 | inl i=>let⟨t,e⟩:=(show ∃t,u=Value.int i t from r);subst e;show vV P w i t
 | inr x=>let⟨t,e⟩:=(show ∃t,u=Value.str x t from r);subst e;show vU P w x t
theorem sA {P:R1}{w:World}: ∀ {ks:d3 cf} {us:d3 d4},cD (ks.map kV) us ->ItemsAre (ce P w) ks us
 | [],_,r=>by rw[dB] at r;cases r;show .nil
 | k::ks,_,r=>by
  rw[aE] at r;cases r with
  | cons h t=>show .cons (mH h) (sA t)
abbrev KT (H:Hp):d3 (d3 cf×V) ->d3 (d3 cf×gi×d4) ->Prop:=Paired λp q=>p.1=q.1 /\ H q.2.1=some (.tup (p.1.map kV)) /\ RelV p.2 q.2.2
def KT.val (r:KT H kvs xs)(k:d3 cf):k7 (gN kvs k) ((atKey xs k).map (·.2)):=by
 induction r with
 | nil=>show True.intro
 | @cons p q ps qs h t ih=>
  let⟨h1,_,h2⟩:=h;by_cases e:p.1=k;have e':q.1=k:=h1.symm.trans e;have b:atKey (q::qs) k=some q.2:=by simp[atKey,br,e']
  rw[pB e,b];show h2;have e':¬q.1=k:=λz=>e (h1.trans z);have b:atKey (q::qs) k=atKey qs k:=by simp[atKey,br,e']
  rw[pC e,b];show ih
def KT.D8 (r:KT H kvs xs)(k:d3 cf)(ry:RelV y u): KT H (kvs.map λkv=>if kv.1=k then(kv.1,y) else kv) (xs.map (putAt k u)):=by
 induction r with
 | nil=>show .nil
 | @cons p q ps qs h t ih=>rw[aE,aE];exact .cons ?_ ih;let⟨h1,h2,h3⟩:=h;unfold putAt;by_cases e:p.1=k;rw[ap e,ap (h1.symm.trans e)];show#[h1,h2,ry];rw[ai e,ai (λz=>e (h1.trans z))];show#[h1,h2,h3]
def KT.put (r:KT H kvs xs)(k:d3 cf)(hb:H b=some (.tup (k.map kV)))(ry:RelV y u): KT H (f' kvs k y) (storedH xs k b u):=by
 have e:(kvs.any λkv=>decide (kv.1=k))=(atKey xs k).isSome:=by rw[vb,(r.val k).hV,Option.isSome_map]
 unfold f' storedH;rw[e];by_cases q:(atKey xs k).isSome=true;rw[ap q,ap q];show r.D8 k ry;rw[ai q,ai q];show Paired.snoc r #[rfl,hb,ry]
theorem KT.keeps (r:KT H kvs xs)(ht: ∀b ys,H b=some (.tup ys) ->H' b=some (.tup ys)):KT H' kvs xs:=Paired.NN r λ_ _ z=>#[z.1,ht _ _ z.2.1,z.2.2]
theorem Lc (ok:k9 P w H h)(e:Rd H a u):dn P w H h a u:=e.ok ok
theorem mY (ok:k9 P w H h)(e:Rd H a (.dK kvs)):kvs.length<=sizeLine /\ (a==sysModules)=false /\ ∃vs,KV kvs vs /\ h.DictOf (ce P w) a vs:=
 show dn P w H h a (.dK kvs) from Lc ok e
theorem wL (ok:k9 P w H h)(e:H a=some (.dK kvs)):kvs.length<=sizeLine /\ (a==sysModules)=false /\ ∃vs,KV kvs vs /\ h.DictOf (ce P w) a vs:=mY ok (.inl e)
def p9 (ok:k9 P w H h)(e:H a=some (.tup (ks.map kV))):(tupleKind (ce P w)).is h ks a:=by
 let⟨_,its,r,o,h1,h2,n,h3,_⟩:=(show dn P w H h a (.tup (ks.map kV)) from ok a _ e)
 show#[o,its.toArray,n,h1,h2,h3, ⇑(sA r)]
def sK (ok:k9 P w H h)(e:Rd H a (.dT kvs)):kvs.length<=sizeLine /\ (a==sysModules)=false /\∃xs,KT H kvs xs /\ h.DictOfH (tupleKind (ce P w)) a xs:=by
 let⟨z,y,xs,r,o,es,ep,h1,h2,h3,h4,h5⟩:=(show dn P w H h a (.dT kvs) from Lc ok e)
 exact#[z,y,xs,r,o,es,ep,h1,h2,h3,h4,λx hx=> ?_,h5];have all: ∀ {l:d3 (d3 cf×V)} {m:d3 (d3 cf×gi×d4)},KT H l m -> ∀x∈m,(tupleKind (ce P w)).is h x.1 x.2.1:=by
  intro l m q;induction q with
  | nil=>intro x hx;show nomatch hx
  | @cons p q ps qs hq t ih=>intro x hx;obtain e | hx:=ar.mp hx;subst e;show p9 ok (by rw[<- hq.1];show hq.2.1);show ih x hx
 show all r x hx
theorem Tk (ok:k9 P w H h)(e:H a=some (.dT kvs)):kvs.length<=sizeLine /\ (a==sysModules)=false /\∃xs,KT H kvs xs /\ h.DictOfH (tupleKind (ce P w)) a xs:=sK ok (.inl e)
def oT (H:Hp)(a:gi)(y:V)(r:eB V):Prop:=(cJ λkvs k=>dh (Rd H a (.dK kvs)) (y=kV k) (r=gN kvs k)) \/ gv λkvs k b=>fh (Rd H a (.dT kvs)) (y= .ref b) (H b=some (.tup (k.map kV))) (r=gN kvs k)
def GO (H:Hp)(a:gi)(y v:V)(H':Hp):Prop:=(cJ λkvs k=>fh (H a=some (.dK kvs)) (y=kV k) (kvs.length<sizeLine) (H'=cO H a (.dK (f' kvs k v)))) \/gv λkvs k b=>ja (H a=some (.dT kvs)) (y= .ref b) (H b=some (.tup (k.map kV))) (kvs.length<sizeLine) (H'=cO H a (.dT (f' kvs k v)))
theorem oT.k {k:cf}(e:H a=some (.dK kvs)):oT H a (kV k) (gN kvs k):= .inl #[kvs,k, .inl e,rfl,rfl]
theorem GO.k {k:cf}(e:H a=some (.dK kvs))(hl:kvs.length<sizeLine):GO H a (kV k) v (cO H a (.dK (f' kvs k v))):= .inl #[kvs,k,e,rfl,hl,rfl]
def Inv.big {σ:St}(I:Inv X aj σ H s):sysModules<s.heap.objs.size:=by have h:mainGlobals<s.heap.objs.size:=(I.mod.glob.keeps I.bk).lt;show Nat.lt_trans ⋯ h
def Cg {σ:St}(hu:A.units+1<cLine)(I:Inv X aj σ H s)(g:oT H a y (some v))(ry:RelV y u)(h: ∀w' s',Inv X aj σ H s' ->RelV v w' ->Q w' s'): wpAny (model X.prog X.w) A (getItem (.ref a) u) Q E s:=by
 rcases g with⟨kvs,k,e,ey,l⟩ | ⟨kvs,k,b,e,ey,eb,l⟩
 subst ey;let⟨z,hd,vs,rel,dd⟩:=mY I.cT e;let⟨w',hw,tY⟩:=k7.some_of (v:=v) (o:=valueAt vs k) (by rw[l];show rel.val k);show wpAny_getItem_of (mH ry) dd.mapOf hw (h w' _ (I.tok _) tY);subst ey;cases (show u=Value.ref b from ry);let⟨z,hd,xs,rel,dd⟩:=sK I.cT e;let⟨w',hw,tY⟩:=k7.some_of (v:=v) (o:=(atKey xs k).map (·.2)) (by rw[l];show rel.val k);let⟨p,hp,XQ⟩:=Option.map_eq_some_iff.mp hw;exact wpAny_getItem_heap (tupleKind_room_in1 hu) (p9 I.cT eb) dd hp ?_;rw[XQ];show h w' _ (I.tok _) tY
def JW {σ:St}(hu:A.units+1<cLine)(I:Inv X aj σ H s)(g:oT H a y o)(ry:RelV y u)(h: ∀s',Inv X aj σ H s' ->Q (.bool (!o.isSome)) s'): wpAny (model X.prog X.w) A (compareOp .NotIn u (.ref a)) Q E s:=by
 rcases g with⟨kvs,k,e,ey,l⟩ | ⟨kvs,k,b,e,ey,eb,l⟩
 subst ey;let⟨z,hd,vs,rel,dd⟩:=mY I.cT e;exact wpAny_notIn_of (mH ry) hd dd.mapOf ?_;rw[<- (rel.val k).hV, <- l];show h _ (I.tok _);subst ey;cases (show u=Value.ref b from ry);let⟨z,hd,xs,rel,dd⟩:=sK I.cT e;exact wpAny_notIn_heap (tupleKind_room_in1 hu) (p9 I.cT eb) hd dd ?_;have q:=(rel.val k).hV;rw[Option.isSome_map] at q;rw[<- q, <- l];show h _ (I.tok _)
theorem jF {σ:St}(I:Inv X aj σ H s)(mu:TK (H a))(hs:Heap.SameBut a s.heap h')(he: ∃q,h'.get? a=some q)(new:dn X.prog X.w (cO H a ob) h' a ob): Inv X aj σ (cO H a ob) {s with heap:=h',toks:=t'}:=I.write (x:=a) (e:=a) mu (.inl rfl) (λb q hb z=>(hs.2 b hb).trans z) he new
theorem qq (z:kvs.length<=sizeLine)(hd:(a==sysModules)=false)(rel:KV kvs vs)(dd:h'.DictOf (ce P w) a vs): dn P w H' h' a (.dK kvs):=#[z,hd,vs,rel,dd]
def Ce {σ:St}(hu:A.units+1<cLine)(I:Inv X aj σ H s)(g:GO H a y v H')(ry:RelV y u)(rv:RelV v r)(h: ∀s',Inv X aj σ H' s' ->Q () s'): wpAny (model X.prog X.w) A (setItem (.ref a) u r) Q E s:=by
 rcases g with⟨kvs,k,e,ey,l,eH⟩ | ⟨kvs,k,b,e,ey,eb,l,eH⟩
 subst ey eH;let⟨z,hd,vs,rel,dd⟩:=wL I.cT e;have hz:vs.length<=sizeLine:=by rw[<- rel.length];show z
 have hl:(f' kvs k v).length<=sizeLine:=by have:=gI kvs k v;lia
 exact wpAny_setItem_pairs (hsz:=hz) (mH ry) dd λh' wO hs=>h _ ?_;have he: ∃q,h'.get? a=some q:=let ⟨q,_,_,hq,_⟩:=wO;#[q,hq]
 show jF I (by rw[e];show True.intro) hs he (qq hl hd (rel.put k rv) wO);subst ey eH;cases (show u=Value.ref b from ry);let⟨z,hd,xs,rel,dd⟩:=Tk I.cT e;have hz:xs.length<=sizeLine:=by rw[<- Paired.length rel];show z
 have hl:(f' kvs k v).length<=sizeLine:=by have:=gI kvs k v;lia
 exact wpAny_setItem_heap (hsz:=hz) (tupleKind_room_in1 hu) (p9 I.cT eb) dd λh' wO hs=>h _ ?_;let⟨q,es,ep,hq,h2,h3,h4,_,h5⟩:=wO;exact jF I (by rw[e];show True.intro) hs #[q,hq] #[hl,hd,_,(rel.put k eb rv).keeps λc ys ec=> ?_,q,es,ep,hq,h2,h3,h4,h5];rw[bC (RD ec e (λz=>nomatch z))];show ec
def Ci {σ:St}(I:Inv X aj σ H s)(e:H a=some (.dK kvs))(ry:RelV (kV k) u)(l:(gN kvs k).isSome=true)(h: ∀s',Inv X aj σ (cO H a (.dK (ou kvs k))) s' ->Q () s'): wpAny (model X.prog X.w) A (delItem (.ref a) u) Q E s:=by
 let⟨z,hd,vs,rel,dd⟩:=wL I.cT e;exact wpAny_delItem_slot dd.typeIs ⋯ PySem.F.slot_dict_delitem (call_meetsIn PySem.F.slot_dict_delitem dd.typeIs PySem.F.entry_dict_delitem (PySem.F.args_dict_delitem_2 _ _) (meets_dict_delitem_pairs (ce X.prog X.w) a (mH ry)) #[vs,dd,by rw[<- rel.length];show z,by rw[<- (rel.val k).hV];show l,λh' wO hs=>h _ ?_]);have he: ∃q,h'.get? a=some q:=let ⟨q,_,_,hq,_⟩:=wO;#[q,hq]
 show jF I (by rw[e];show True.intro) hs he (qq (aS (Gb kvs k) z) hd (rel.drop k) wO)
def TH (i:Expr):Prop:= ∀ov iv,subscripted i false ov iv=operate [ov,iv] (getItem ov iv)
def HG {T id:String}(hl:typeLookup (.type T) "__getitem__" =pure (some (.builtin id)))(hs:TH slice)(h:wpAny (model prog w) A (eval value env) (λo s₁=>wpAny (model prog w) A (eval slice env) (λi s₂=>s₂.TypeIs o T /\ wpAny (model prog w) A (getItem o i) Q E s₂) E s₁) E s): wpAny (model prog w) A (eval (.Subscript value slice pos) env) Q E s:=by
 exact Subscript_ (bM h (λo s₁ h₁=>bM h₁ (λi s₂ h₂=> ?_) λ_ _ x=>x) λ_ _ x=>x);let⟨hT,h₂⟩:=h₂;unfold subscriptTail;exact ae ?_;rw[getitemInPython_of_ne hT.not_modules];exact ae (wpAny_specialOf hT hl ?_);have fin:wpAny (model prog w) A (subscripted slice false o i) (λr s₃=>wpAny (model prog w) A (letTemporaryGo value o r >>=λ_=>pure r) Q E s₃) E s₂:=by rw[hs o i];show wpAny_operating (bM h₂ (λr s₃ h₃=>ae (wpAny_letTemporaryGo (ax h₃))) λ_ _ x=>x)
 first
 | show ax (ae fin)
 | show ae (ax (ae fin))
 | show ae fin
def wN {σ:St}(I:Inv X aj σ H s)(g:oT H a y o):s.TypeIs (.ref a) "dict" :=by
 rcases g with⟨kvs,k,e,_,_⟩ | ⟨kvs,k,b,e,_,_,_⟩
 let⟨_,_,vs,_,dd⟩:=mY I.cT e;show dd.typeIs;let⟨_,_,xs,_,dd⟩:=sK I.cT e;show dd.typeIs
def KJ (td ty:TE):TE:=λσ H Q=>td σ H λx H1=>ty σ H1 λy H2=>cJ λa v=>dh (x= .ref a) (oT H2 a y (some v)) (Q v H2)
def zz (ty td:TE):TE:=λσ H Q=>ty σ H λy H1=>td σ H1 λx H2=>cJ λa o=>dh (x= .ref a) (oT H2 a y o) (Q (.bl (!o.isSome)) H2)
def K9 (td ty tv:TE):TS:=λD σ H=>tv σ H λv H1=>td σ H1 λx H2=>ty σ H2 λy H3=>cJ λa H4=>dh (x= .ref a) (GO H3 a y v H4) (D.nx σ H4)
def K_ (td ty:TE):TS:=λD σ H=>td σ H λx H1=>ty σ H1 λy H2=>gv λa kvs k=>ja (x= .ref a) (H2 a=some (.dK kvs)) (y=kV k) ((gN kvs k).isSome=true) (D.nx σ (cO H2 a (.dK (ou kvs k))))
def e_ (hu:X.A.units+1<cLine)(ho:PE X o td)(hi:PE X i ty)(hs:TH i):PE X (.Subscript o i pos) (KJ td ty):=by intro aj s σ H Q I h;exact HG PySem.F.slot_dict_getitem.lookup hs (cY (ho aj s σ H _ I h) λu s1 ⟨x,H1,I1,rx,q1⟩=>cY (hi aj s1 σ H1 _ I1 q1) λiv s2 ⟨y,H2,I2,ry,a,v,ex,g,q2⟩=> ?_);subst ex;obtain rfl:u=Value.ref a:=rx;show#[wN I2 g,Cg hu I2 g ry λw' s3 I3 tY=>#[v,H2,I3,tY,q2]]
def Bs (hu:X.A.units+1<cLine)(hi:PE X i ty)(ho:PE X o td):PC X .NotIn i o (zz ty td):=by intro aj s σ H Q I h;exact cY (hi aj s σ H _ I h) λiv s1 ⟨y,H1,I1,ry,q1⟩=>cY (ho aj s1 σ H1 _ I1 q1) λu s2 ⟨x,H2,I2,rx,a,ov,ex,g,q2⟩=> ?_;subst ex;obtain rfl:u=Value.ref a:=rx;show JW hu I2 g ry λs3 I3=>#[.bl (!ov.isSome),H2,I3,rfl,q2]
def mj (hu:X.A.units+1<cLine)(ho:PE X o td)(hi:PE X i ty)(hv:PE X value tv)(hs:swapsWith value (some (.Subscript o i pN)) pos.line X.env=pure false): PS X (.Assign [.Subscript o i pN] value pos) (K9 td ty tv):=by intro aj s σ H D I h;exact wpAny_Assign_Subscript (cY (hv aj s σ H _ I h) λr s1 ⟨v,H1,I1,rv,q1⟩=>cY (ho aj s1 σ H1 _ I1 q1) λu s2 ⟨x,H2,I2,rx,q2⟩=>cY (hi aj s2 σ H2 _ I2 q2) λiv s3 ⟨y,H3,I3,ry,a,H4,ex,g,q3⟩=> ?_) hs;subst ex;obtain rfl:u=Value.ref a:=rx;show Ce hu I3 g ry rv λs4 I4=>#[σ,H4,I4,q3]
def Ie (ho:PE X o td)(hi:PE X i ty):PS X (.Delete [.Subscript o i vg] pos) (K_ td ty):=by intro aj s σ H D I h;exact wpAny_Delete (wpAny_deleteEach_cons (wpAny_delete_Subscript (cY (ho aj s σ H _ I h) λu s1 ⟨x,H1,I1,rx,q1⟩=>cY (hi aj s1 σ H1 _ I1 q1) λiv s2 ⟨y,H2,I2,ry,a,kvs,k,ex,e,ey,l,q2⟩=> ?_)));subst ex ey;obtain rfl:u=Value.ref a:=rx;show Ci I2 e ry l λs3 I3=>wpAny_deleteEach_nil #[σ,_,I3,q2]
theorem wM (h:Heap)(hb:sysModules<h.objs.size):dn P w H (h.push {cls:= .type "dict",data:= .dict #[]}) h.objs.size (.dK []):=#[cB _,beq_eq_false_iff_ne.mpr (aT (a5 hb)),[], .nil,Heap.DictOf.new h]
def Dx:TE:=λ_ H Q=> ∀p,H p=none ->Q (.ref p) (cO H p (.dK []))
theorem ix:PE X (.Dict [] [] pos) Dx:=λaj s σ H Q I h=>wpAny_Dict_empty #[.ref s.heap.objs.size,_,I.laid (a:=s.heap.objs.size) (o:= .dK []) (t':=s.toks) (λ_ _ q=>aq _ q) (ao _) (wM s.heap I.big),rfl,h _ (I.cT.fresh (ao _))]
def xF:d3 (TE×TE) ->St ->Hp ->(d3 (V×V) ->Hp ->Prop) ->Prop
 | [],_,H,Q=>Q [] H
 | (tk,tv)::r,σ,H,Q=>tk σ H λx H1=>tv σ H1 λy H2=>xF r σ H2 λps H3=>Q ((x,y)::ps) H3
abbrev VV:d3 (V×V) ->d3 (d4×d4) ->Prop:=Paired λp q=>RelV p.1 q.1 /\ RelV p.2 q.2
def Vq (X:Cx)(pos:Pos)(keys:d3 (eB Expr))(pz:d3 Expr)(Hz:d3 (TE×TE)):Prop:=∀ (aj:d3 (gi×Obj)) (s:d5) (σ:St) (H:Hp) (Q:d3 (V×V) ->Hp ->Prop),Inv X aj σ H s ->xF Hz σ H Q ->wpAny (model X.prog X.w) X.A (evalPairs (pairTrees keys pz X.env pos)) (λvs s'=>cJ λps H'=>dh (Inv X aj σ H' s') (VV ps vs) (Q ps H')) X.xe s
theorem Ii:Vq X pos [] [] []:=λaj s σ H Q I h=>pairTrees_nil_walk #[[],H,I, .nil,h]
theorem Er (hk:PE X k tk)(hv:PE X v tv)(hr:Vq X pos ks vs Hz): Vq X pos (some k::ks) (v::vs) ((tk,tv)::Hz):=λaj s σ H Q I h=>pairTrees_cons_walk (cY (hk aj s σ H _ I h) λu s1 ⟨x,H1,I1,rx,q1⟩=>cY (hv aj s1 σ H1 _ I1 q1) λw2 s2 ⟨y,H2,I2,ry,q2⟩=>cY (hr aj s2 σ H2 _ I2 q2) λws s3 ⟨ps,H3,I3,rel,q3⟩=>#[(x,y)::ps,H3,I3, .cons #[rx,ry] rel,q3])
def j5 (kvs more:d3 (cf×V)):d3 (cf×V):=more.foldl (λfg kv=>f' fg kv.1 kv.2) kvs
def KV.merge: ∀ {more:d3 (cf×V)} {rs:d3 (cf×d4)} {kvs:d3 (cf×V)} {vs:d3 (cf×d4)},KV more rs ->KV kvs vs ->KV (j5 kvs more) (merged vs rs):=by
 intro more rs kvs vs r;unfold KV at r;induction r generalizing kvs vs with
 | nil=>intro q;show q
 | @cons p q ps qs h t ih=>
  intro r0;have e:KV (f' kvs p.1 p.2) (stored vs q.1 q.2):=by have:=r0.put p.1 h.2;rw[<- h.1];show this
  show ih e
theorem lv: ∀ (more kvs:d3 (cf×V)),(j5 kvs more).length<=kvs.length+more.length
 | [],kvs=>by change kvs.length<=kvs.length+0;lia
 | p::r,kvs=>by have h1:=lv r (f' kvs p.1 p.2);have h2:=gI kvs p.1 p.2;change(j5 (f' kvs p.1 p.2) r).length<=_;rw[aK];lia
theorem qD {P:R1}{w:World}: ∀ {kvs:d3 (cf×V)} {ws:d3 (d4×d4)},VV (kvs.map λkv=>(kV kv.1,kv.2)) ws -> ∃rs,Carries (ce P w) ws rs /\ KV kvs rs
 | [],_,r=>by rw[dB] at r;cases r;show#[[],True.intro, .nil]
 | p ::kvs,_,r=>by
  rw[aE] at r;cases r with
  | @cons a b as bs h t=>let⟨rs,c,q⟩:=qD (P:=P) (w:=w) t;let⟨b1,b2⟩:=b;show#[(p.1,b2)::rs,#[mH h.1,rfl,c], .cons #[rfl,h.2] q]
def Dv (Hz:d3 (TE×TE)):TE:=λσ H Q=> ∀p,H p=none ->xF Hz σ (cO H p (.dK [])) λps H2=>H2 p=some (.dK []) /\ ∃kvs:d3 (cf×V),dh (ps=kvs.map (λkv=>(kV kv.1,kv.2))) (kvs.length<=15) (Q (.ref p) (cO H2 p (.dK (j5 [] kvs))))
def Io (h:Vq X pos keys pz Hz)(yN:keys.all (·.isSome)=true)(hl:keys.length=pz.length)(h0:keys≠ [])(h15:keys.length<=15):PE X (.Dict keys pz pos) (Dv Hz):=by
 intro aj s σ H Q I q;have hn:=I.cT.fresh (ao s.heap.objs.size);have I1:=I.laid (a:=s.heap.objs.size) (o:= .dK []) (h':=s.heap.push {cls:= .type "dict",data:= .dict #[]}) (t':=s.toks) (λ_ _ q=>aq _ q) (ao _) (wM s.heap I.big);exact wpAny_Dict_walk (knd:=ce X.prog X.w) yN hl h0 h15 (cY (h aj _ σ _ _ I1 (q _ hn)) λws s2 ⟨ps,H2,I2,rel,e,kvs,ep,lk,q2⟩=> ?_);subst ep;let⟨rs,c,rk⟩:=qD (P:=X.prog) (w:=X.w) rel;let⟨z,hd,vs0,r0,dd⟩:=wL I2.cT e;cases r0;exact#[rs,c,dd,λh' wO hs=>#[.ref s.heap.objs.size,_,?_,rfl,q2]];have hz:(j5 [] kvs).length<=sizeLine:=by have h1:=lv kvs [];rw[List.length_nil] at h1;rw[cP];lia
 have he: ∃q,h'.get? s.heap.objs.size=some q:=let ⟨q,_,_,hq,_⟩:=wO;#[q,hq]
 show jF I2 (by rw[e];show True.intro) hs he (qq hz hd (rk.merge .nil) wO)
structure M1 (X:Cx)(o:Expr)(m:Str)(i0:Pos)(e:Expr)(fT:Pos):Prop where
 base:attributeBase o m X.env (eval o X.env)=eval o X.env
 F9:((backTo fT (starEach [e] X.env)).all (λx=> !x.1) && (backToKw fT (keywordEach [] X.env)).all (λx=>x.1.isSome) && decide (([e]:List Expr).length+([]:List Keyword).length+(if([]:List Keyword).isEmpty then 0 else 1) <30))=true
 line:(i0.endLine==fT.line)=true
 trees:backTo fT (starEach [e] X.env)= [(false,eval e X.env)]
structure M2 (X:Cx)(o:Expr)(m:Str)(i0:Pos)(e f:Expr)(fT:Pos):Prop where
 base:attributeBase o m X.env (eval o X.env)=eval o X.env
 F9:((backTo fT (starEach [e,f] X.env)).all (λx=> !x.1) && (backToKw fT (keywordEach [] X.env)).all (λx=>x.1.isSome) && decide (([e,f]:List Expr).length+([]:List Keyword).length+(if([]:List Keyword).isEmpty then 0 else 1) <30))=true
 line:(i0.endLine==fT.line)=true
 trees:backTo fT (starEach [e,f] X.env)= [(false,eval e X.env),(false,eval f X.env)]
def Z9 (H:Hp)(a:gi):Prop:=(∃kvs,Rd H a (.dK kvs)) \/ ∃kvs,Rd H a (.dT kvs)
def ur {σ:St}(I:Inv X aj σ H s)(d:Z9 H a): s.TypeIs (.ref a) "dict" /\ (∀b,Value.ref a= .ref b -> ∃ob,s.heap.get? b=some ob /\ ob.dict=none) /\ (a==sysModules)=false:=by
 rcases d with⟨kvs,e⟩ | ⟨kvs,e⟩
 let⟨_,hd,vs,_,dd⟩:=mY I.cT e;exact#[dd.typeIs,λb q=> ?_,hd];cases q;let⟨ob,_,_,h1,h2,_⟩:=dd;show#[ob,h1,h2.2.1];let⟨_,hd,xs,_,dd⟩:=sK I.cT e;exact#[dd.typeIs,λb q=> ?_,hd];cases q;let⟨ob,_,_,h1,h2,_⟩:=dd;show#[ob,h1,h2.2.1]
def OS {σ:St}(hu:A.units+1<cLine)(I:Inv X aj σ H s)(g:oT H a y o)(ry:RelV y u)(rd:RelV d r)(h: ∀w' s',Inv X aj σ H s' ->RelV (o.getD d) w' ->Q w' s'): wpAny (model X.prog X.w) A (call (.builtin "dict.get") [.ref a,u,r]) Q E s:=by
 rcases g with⟨kvs,k,e,ey,l⟩ | ⟨kvs,k,b,e,ey,eb,l⟩
 subst ey;let⟨z,hd,vs,rel,dd⟩:=mY I.cT e;exact call_meetsIn PySem.F.slot_dict_get dd.typeIs PySem.F.entry_dict_get (PySem.F.args_dict_get_3 _ _ _) (meets_dict_get_default (ce X.prog X.w) a (mH ry) hd r) #[_,dd.mapOf,h _ _ (I.tok _) ?_];rw[l];show(rel.val k).getD rd;subst ey;cases (show u=Value.ref b from ry);let⟨z,hd,xs,rel,dd⟩:=sK I.cT e;exact call_meetsIn PySem.F.slot_dict_get dd.typeIs PySem.F.entry_dict_get (PySem.F.args_dict_get_3 _ _ _) (meetsH_dict_get_default (tupleKind (ce X.prog X.w)) a b hd r) #[tupleKind_room_in1 hu,k,xs,p9 I.cT eb,dd,h _ _ (I.tok _) ?_];rw[l];show(rel.val k).getD rd
def Dy (td ty tx:TE):TE:=λσ H Q=>td σ H λx H1=> ∃a,dh (x= .ref a) (Z9 H1 a) (ty σ H1 λy H2=>tx σ H2 λz H3=> ∃o,oT H3 a y o /\ Q (o.getD z) H3)
def mo (hu:X.A.units+1<cLine)(ho:PE X o td)(he:PE X e ty)(hf:PE X f tx)(m:M2 X o "get" i0 e f fT):PE X (.Call (.Attribute o "get" i0) [e,f] [] fT) (Dy td ty tx):=by intro aj s σ H Q I h;exact wpAny_Call_method m.base m.F9 m.line PySem.F.plainAttrs_dict PySem.F.slot_dict_get PySem.F.type_dict_get (cY (ho aj s σ H _ I h) λu s1 ⟨x,H1,I1,rx,a,ex,d,q1⟩=> ?_);subst ex;obtain rfl:u=Value.ref a:=rx;let⟨t1,t2,_⟩:=ur I1 d;exact#[t1,t2,?_];rw[m.trees];exact Calls.callWith_builtin rfl (Calls.evalArgs_plain (dq (cY (he aj s1 σ H1 _ I1 q1) λiv s2 ⟨y,H2,I2,ry,q2⟩=>dq (cY (hf aj s2 σ H2 _ I2 q2) λfv s3 ⟨z,H3,I3,rz,ov,g,q3⟩=>Calls.spliced_nil ?_))));show OS hu I3 g ry rz λw' s4 I4 tY=>#[_,H3,I4,tY,q3]
end L2
namespace Att
open PySem PySem.W PySem.Calls PyProof.Rows
def oI: ∀ (ns:d3 Int) (vs:d3 d4),WellAll P h vs (ns.map WData.int) ->IntsAre vs ns:=by
 intro ns;induction ns with
 | nil=>intro vs w;rw[dB] at w;cases w;show .nil
 | cons n ns ih=>
  intro vs w;rw[aE] at w;cases w with
  | cons a b=>cases a;show .cons _ _ (ih _ b)
def Bk {l:OpenLaw}(hn:l.most=some n)(Jt:l.row.toRowW.claim.pre args=true)(Sa:WellAll P h MC args): gv λa vs ns=>ja (MC= [Value.ref a]) (args= [WData.list (ns.map WData.int)]) (h.get? a=some {cls:= .type "list",data:= .seq vs.toArray}) (IntsAre vs ns) (ns.length<=n):=by
 have U1:WShape.hasAll [] args [.list .int]=true:=(pre_splitW Jt).1;have hc:l.pre.holds [] {args:=args}=true:=(pre_splitW Jt).2;let⟨d,r,rfl,h1,h2⟩:=hasAllW_cons U1;obtain rfl:=hasAllW_nil h2;let⟨xs,rfl,h3⟩:=hasW_list h1;let⟨ns,rfl⟩:=items_int h3;have dS:ns.length<=n:=by
  unfold OpenLaw.pre at hc;have h4:(WTm.not (.lt (.lit (.int (n:Int))) (.len (.arg 0)))).holds [] {args:= [.list (ns.map .int)]}=true:=by have h4:=(holds_andW hc).1;rw[hn] at h4;show h4
  have h5:=condW_of h4 (w_not (w_lt w_lit (w_len_list (w_arg rfl))));rw[aa] at h5;exact Nat.le_of_not_lt λq=> ?_;have q':(n:Int) < ((ns.length:Nat):Int):= ∅;first
  | (rw[cb q'] at h5;show absurd h5 ⋯)
  | (simp at h5;lia)
 cases Sa with
 | cons w1 w2=>
  cases w2;cases w1 with
  | list ho yN=>show#[_,_,ns,rfl,rfl,ho,oI ns _ yN,dS]
theorem Bq (l:OpenLaw)(args:d3 WData):l.row.toRowW.claim.post args (.bool true) args=true:=postW_of (r:=l.row.toRowW) (X:=(true==true)) (show WShape.has [] (.bool true) .bool=true by first | rfl | decide | simp[WShape.has,WShape.arms,WShape.armsAll]) (show(WTm.eq .res (.lit (.bool true))).value [] {args:=args,res:=some (.bool true),after:=args}=some (.bool (true==true)) from w_eq_bool (w_res rfl) w_lit) rfl
def w8 {l:OpenLaw}(hn:l.most=some n)(SV:d.params.defaults= [])(call: ∀ (w:World) (s₀ s₁:d5) (mg mb:Str ->eB d4) (fa:gi) (o:Obj) (pm cd kc:d4) (a:gi) (vs:d3 d4) (ns:d3 Int),Ground q ss [] XP w s₀ mg mb s₁.heap ->YP w s₁.heap ->s₁.heap.get? fa=some o ->o.data= .func (docDef d.name d.params d.body d.scope pm cd kc) ->s₁.heap.CodeRec cd d.name ->mg d.name=some (.ref fa) ->s₁.heap.get? a=some {cls:= .type "list",data:= .seq vs.toArray} ->IntsAre vs ns ->ns.length<=n ->s₁.gens= #[] ->codeAny (model l.prog w) callerA (.call (.ref fa) #[[.ref a],[]]) (λr s'=>r= .ok (.ret (.bool true)) /\ OldK s₁.heap s'.heap /\ s'.os=s₁.os /\ AllBare s'.gens) s₁): WalkO q ss XP YP l.row.toRowW d [] (λf vs=>PySem.call f vs):=by intro w s₀ s₁ mg mb G Y fa o pm cd kc dV kV ho hd BW hD X0 hg args MC as Jt aaF hrd Sa Og;obtain rfl:dV= .none:=Dflts.none hD SV;obtain rfl:kV= .none:=Dflts.noKw hD;let⟨a,vs,ns,rfl,rfl,Oa,FX,dS⟩:=Bk hn Jt Sa;exact enter_call (codeAny_mono (call w s₀ s₁ mg mb fa o pm cd kc a vs ns G Y ho (fd_plain hd) BW X0 Oa FX dS hg) λr s' hq=> ?_);let⟨rfl,h2,h3,h4⟩:=hq;show#[.inl #[.bool true, .bool true,[],rfl,λ_=>rfl, .bool true,Bq l _,λ_=>#[List.Pairwise.nil,λ_ hm=>(nomatch hm)]],h2,h3,h4]
end Att
namespace L2
open PySem PySem.Spec PyProof.Rows
theorem kq: ∀ {vs:d3 d4} {ns:d3 Int},IntsAre vs ns ->cD (ns.map V.int) vs
 | _,_, .nil=> .nil
 | _,_, .cons n t h=> .cons #[t,rfl] (kq h)
def OY (H:Hp):Prop:= ∀b,H b=none \/ ∃o xs,H b=some (.jM o (.lst xs))
def Fd {K:RZ}(KX:K.In s₁.heap)(LO:s₁.heap.Ns mainGlobals mg)(hb:s₁.heap.Ns builtinsNs mb)(PU: ∀x:Str,x≠ "__name__" ->mb x=bootBuiltins x)(X7:s₁.heap.NoLimit)(hg:s₁.gens= #[])(ha:s₁.heap.get? a=some {cls:= .type "list",data:= .seq vs.toArray})(hi:IntsAre vs ns)(hl:ns.length<=sizeLine)(hr:fU k callerA)(F: ∀base:Heap,K.In base ->base.Ns mainGlobals mg ->d8 P w K mg base CX k fa fd [x] sp)(S1: ∀ (s:d5) (u:d4),BindsTo s fd #[[u],[]] [(x,u)])(wg: ∀H:Hp,OY H ->gC K H a (ns.map V.int) ->sp [.ref a] H (λv _=>v= .bl true) λ_ _ _=>False)(YI: ∀H e s',CX [] H s₁ (λ_ _ _=>False) e s' ->False): codeAny (model P w) callerA (.call (.ref fa) #[[.ref a],[]]) (λr s'=>r= .ok (.ret (.bool true)) /\ OldK s₁.heap s'.heap /\ s'.os=s₁.os /\ AllBare s'.gens) s₁:=by
 have rv:=kq hi;have Xi:=hi.length;have core : ∀H:Hp,OY H ->gC K H a (ns.map V.int) ->k9 P w H s₁.heap ->(∀b,H b≠none ->b=a) ->(H a≠none ->K.lookup a=none) ->codeAny (model P w) callerA (.call (.ref fa) #[[.ref a],[]]) (λr s'=>r= .ok (.ret (.bool true)) /\ OldK s₁.heap s'.heap /\ s'.os=s₁.os /\ AllBare s'.gens) s₁:=by
  intro H hO hS cT hA hK;have A5: ∀ {b:gi} {o:Obj},s₁.heap.get? b=some o ->H b=none ->(uA s₁.heap H).get? b=some o:=λe n=>FY e n;have RC: ∀ {b:gi} {o:Obj} {es:gX DictEntry} {ep:Nat},s₁.heap.get? b=some o ->o.data= .dict es ep ->H b=none:=λ{b o es ep} e d=>by
   cases q:H b with
   | none=>rfl
   | some u=>have e':b=a:=hA b (by rw[q];simp);subst e';rw[ha] at e;cases e;have d':Data.seq vs.toArray _=Data.dict es ep:=d;cases d'
  have UO: ∀ {b:gi} {m:Str ->eB d4},s₁.heap.Ns b m ->(uA s₁.heap H).Ns b m:=λ{b m} ⟨o,es,ep,e,d,r⟩=>#[o,es,ep,A5 e (RC e d),d,r]
  have hKb:K.In (uA s₁.heap H):=λb o e=>A5 (KX b o e) (by
   cases q:H b with
   | none=>rfl
   | some u=>have e':b=a:=hA b (by rw[q];simp);subst e';rw[hK (by rw[q];simp)] at e;cases e)
  have hM:Mod K mg (uA s₁.heap H):=#[hKb,UO LO,#[mb,UO hb,PU],let ⟨mc,h1,h2⟩:=X7;#[mc,UO h1,h2]]
  have e0:zg P w K mg (uA s₁.heap H) callerA [] s₁ H:=#[rfl,hM,λb o e=>IB e,Nat.le_of_eq (BU _ _),trivial,λb hb=>absurd (show b∈([]:d3 gi) from hb) (by simp),cT, .of_eq hg]
  exact codeAny_mono ((F _ hKb (UO LO)).run callerA [] s₁ H #[[.ref a],[]] [.ref a] [.ref a] _ _ hr e0 (S1 s₁ (.ref a)) (.cons rfl .nil) (wg H hO hS)) λr s' h=> ?_;cases r with
  | error e=>show(YI H e s' h).elim
  | ok fl =>
   cases fl with
   | next=>show False.elim h
   | brk=>show False.elim h
   | cont=>show False.elim h
   | ret u=>
    let⟨v,H',os,bare,un,XW,r',q⟩:=h;have q':v= .bl true:=q;subst q';obtain rfl:u=Value.bool true:=r';exact#[rfl,OldK.of_keep λb o e=> ?_,os,bare];cases q:H b with
    | none=>show un.keep b o e q (by intro z;show absurd (show b∈([]:d3 gi) from z) (by simp)) (by simp)
    | some u=>obtain z | ⟨ob,xs,z⟩:=hO b;rw[q] at z;cases z;have z2:=un.oP b ob _ z;let⟨e1,_⟩:=cT b _ z;let⟨e2,_⟩:=XW b _ z2;rw[e] at e1;cases e1;show e2
 cases hk:K.lookup a with
 | some o=>have e:=KX a o hk;rw[ha] at e;cases e;exact core (λ_=>none) (λ_=> .inl rfl) (.inr #[_,vs.toArray,_,hk,rfl,rfl,rfl,by rw[aU,Xi];show hl, ⇑rv]) (λb u z=>by have z':(none:eB HO)=some u:=z;cases z') (λb z=>absurd rfl z) λz=>absurd rfl z
 | none=>exact core (λb=>if b=a then some (.jM {cls:= .type "list",data:= .seq vs.toArray} (.lst (ns.map V.int))) else none) (λb=> ?_) (.inl (.inr #[{cls:= .type "list",data:= .seq vs.toArray},ap rfl])) (λb u z=> ?_) (λb z=> ?_) λ_=>hk;by_cases hb:b=a;show .inr #[_,_,ap hb];show .inl (ai hb);by_cases hb:b=a;have z':=(ap hb).symm.trans z;cases z';subst hb;show#[ha,by rw[aa];show hl,vs,_,rv,ha];have z':=(ai hb).symm.trans z;cases z';by_cases hb:b=a;show hb;show absurd (ai hb) z
def Ho {l:W.OpenLaw}{K:Params ->RZ}{CX:World ->GP}{sp:World ->Sp}(hn:l.most=some n)(Od:n<=sizeLine)(SV:d.params.defaults= [])(hr:fU k callerA)(hY: ∀ (w:World) (h:Heap),YP w h ->(K w.params).In h)(F : ∀ (w:World) (mg:Str ->eB d4) (fa:gi) (h:Heap),(K w.params).In h ->h.Ns mainGlobals mg ->mg d.name=some (.ref fa) ->∃ fd:FuncData,(∀ (s:d5) (u:d4),BindsTo s fd #[[u],[]] [(x,u)]) /\∀base:Heap,(K w.params).In base ->base.Ns mainGlobals mg ->d8 l.prog w (K w.params) mg base (CX w) k fa fd [x] (sp w))(wg: ∀ (w:World) (H:Hp) (a:gi) (ns:d3 Int),ns.length<=n ->OY H ->gC (K w.params) H a (ns.map V.int) ->sp w [.ref a] H (λv _=>v= .bl true) λ_ _ _=>False)(YI: ∀ (w:World) (H:Hp) (s:d5) (e:d4) (s':d5),CX w [] H s (λ_ _ _=>False) e s' ->False): W.WalkO q ss XP YP l.row.toRowW d [] (λf vs=>PySem.call f vs):=by exact Att.w8 hn SV λw s₀ s₁ mg mb fa o pm cd kc a vs ns G Y ho hd BW X0 Oa FX dS hg=> ?_;have KX:=hY w _ Y;let⟨fd,hb,hF⟩:=F w mg fa _ KX G.T.g X0;show Fd KX G.T.g G.T.b G.T.builtins G.T.nolimit hg Oa FX (aS dS Od) hr hF hb (λH hO hS=>wg w H a ns dS hO hS) λH e s'=>YI w H s₁ e s'
def gm (s:Stmt):Arguments:=match s with
 | .FunctionDef _ a _ _ _ _ _ _ _ _=>a
 | _=> {posonlyargs:= [],args:= [],vararg:=none,kwonlyargs:= [],kw_defaults:= [],kwarg:=none,defaults:= []}
def eU (s:Stmt):d3 Stmt:=match s with
 | .FunctionDef _ _ b _ _ _ _ _ _ _=>b
 | _=> []
def bD (s:Stmt):Scope:=match s with
 | .FunctionDef _ _ _ _ _ _ sc _ _ _=>sc
 | _=> {kind:= .function,names:= [],isGenerator:=false,isCoroutine:=false}
abbrev jc:GP:=λ_ _ _ _ _ _=>False
abbrev E0:XK:=λ_ _ _=>False
theorem Li:qM jc X E0:=λ_ _ _ _ _ _ _ h=>h.elim
structure CP (K:PySem.W.Frag)(x qual:Str)(st:Stmt)(f:Addr)(fd:FuncData):Prop where
 ex:Gy λ(oc:Value) (od:Option Addr) (kV kc pm:Value) (an:Option Addr) (cdv ct:Value)=> ∃ (CH:Array (Option Value)),dh (fd=PySem.W.fnOf x qual (gm st) (eU st) (bD st) .none kV kc pm an cdv ct) (K.lookup f=some #[oc,od, .func fd,CH]) (PySem.W.codeIn K cdv qual=true)
 kp:PySem.W.keepIn K (.ref f)=true
def CP.ok {K:RZ}{st:Stmt}(F:CP K x qual st f fd)(S:iV N ps (bD st))(len: ∀vs H Q E,sp vs H Q E ->vs.length=ps.length)(mR: ∀ (cdv:d4) (A:Around) (outer:d3 Env) (s:d5) (H:Hp) (vs:d3 V) (Q:VK) (E:XK),fU k (A.deeper (envOfC qual (bD st) s.heap.objs.size f cdv)) ->sp vs H Q E ->∃t,xp (qw jc P w K mg base N qual (bD st) f cdv A outer s H E).NE (eU st) t /\ t {nx:=λ_ H'=>Q .dY H',rt:=Q} (start N vs) H):d8 P w K mg base jc (k+1) f fd ps sp:=by let⟨oc,od,kV,kc,pm,an,cdv,ct,CH,rfl,lk,BW⟩:=F.ex;exact Tf lk BW S len λA outer s H vs Q E hr wg=> ?_;let⟨t,h,q⟩:=mR cdv A outer s H vs Q E hr wg;show#[t,h.NE,q]
def CP.binds {K:RZ}{st:Stmt}(F:CP K x qual st f fd)(h: ∀ (kV kc pm:d4) (an:eB gi) (cdv ct:d4) (us:d3 d4),us.length=ps.length ->bindArgs (W.fnOf x qual (gm st) (eU st) (bD st) .none kV kc pm an cdv ct) #[us,[]]=pure (ps.zip us)):Binds K fd ps []:=by let⟨oc,od,kV,kc,pm,an,cdv,ct,CH,rfl,lk,BW⟩:=F.ex;show .all (h kV kc pm an cdv ct)
theorem uC {K:RZ}{st:Stmt}{kV kc pm cdv ct:d4}(l:K.lookup f=some #[oc,od, .func (W.fnOf x qual (gm st) (eU st) (bD st) .none kV kc pm an cdv ct),CH])(c:W.codeIn K cdv qual=true)(k:W.keepIn K (.ref f)=true):CP K x qual st f (W.fnOf x qual (gm st) (eU st) (bD st) .none kV kc pm an cdv ct):=#[#[oc,od,kV,kc,pm,an,cdv,ct,CH,rfl,l,c],k]
theorem fb (hr:fU k A):A.units+1<cLine:=Nat.lt_of_le_of_lt (Nat.add_le_add_left (by decide:1<=64) _) hr.units
theorem pv {X:Cx}(i:Nat){pos:Pos}(hN:X.N[i]? =some x:=by rfl)(hv:Vp X.env.scope x:=by first | show Or.inl rfl | show Or.inr (Or.inl rfl) | show Or.inr (Or.inr rfl))(hd:(x==("__debug__" :Str))=false:=by decide)(BW:(x==("__classdict__" :Str))=false:=by decide):PE X (.Name x pos) (HC i):=Nn hN hv hd BW
def ff (H H':Hp):Prop:= ∀b o,H b=some o ->H' b=some o
section
variable {κ:Type} [DecidableEq κ]
theorem Ab: ∀ {l:d3 κ} {k:κ},l.Nodup ->¬k∈l ->(l++ [k]).Nodup
 | [],k,_,_=>by simp
 | a::r,k,h,hk=>by let⟨h1,h2⟩:=bw.mp h;change(a::(r++ [k])).Nodup;exact bw.mpr #[λm=> ?_,Ab h2 λm=>hk (ar.mpr (Or.inr m))];obtain q | q:=aA.mp m;show h1 q;show hk (ar.mpr (Or.inl (ah.mp q).symm))
end
def cV {α:Type}{c:α}{l:d3 (Str×α)}:((y,c)::l).lookup x=if x=y then some c else l.lookup x:=by by_cases h:x=y;subst h;simp[List.lookup_cons];rw[ai h,List.lookup_cons];have:(x==y)=false:= ⇑h;rw[this]
theorem jG {env:Env}: ∀ (names:d3 (Str×NameKind)) (fg:d3 (Str×gi)),(∀y∈names,y.2= .free -> ∃c,env.cells.lookup y.1=some c) ->(∀x c,fg.lookup x=some c ->env.cells.lookup x=some c) ->∃cl,fh ((forIn names fg λx s=>if(x.snd==NameKind.free)=true then(do let c <- cellOf env x.fst;pure (ForInStep.yield ((x.fst,c)::s)):Sem _) else pure (ForInStep.yield s))=(pure cl:Sem (d3 (Str×gi)))) (∀x c,cl.lookup x=some c ->env.cells.lookup x=some c) (∀x,(fg.lookup x).isSome=true ->(cl.lookup x).isSome=true) (∀y∈names,y.2= .free ->(cl.lookup y.1).isSome=true)
 | [],fg,_,h2=>#[fg,rfl,h2,λ_ h=>h,λ_ h=>absurd h (by simp)]
 | (n, k)::r,fg,h1,h2=>by
  by_cases hk:k=NameKind.free;subst hk;let⟨c,hc⟩:=h1 (n, .free) aI rfl;have CM: ∀x c',((n,c)::fg).lookup x=some c' ->env.cells.lookup x=some c':=λx c' e=>by rw[cV] at e;by_cases hx:x=n;rw[ap hx] at e;cases e;rw[hx];show hc;rw[ai hx] at e;show h2 x c' e
  let⟨cl,e1,e2,e3,e4⟩:=jG r ((n,c)::fg) (λy hy=>h1 y (av _ hy)) CM;exact#[cl,?_,e2,λx hx=>e3 x ?_,λy hy hf=> ?_];rw[List.forIn_cons];have:cellOf env n=pure c:=by unfold cellOf;rw[hc]
  simp![beq_self_eq_true,bR,this,pure_bind];show e1;rw[cV];by_cases gq:x=n;rw[ap gq];rfl;rw[ai gq];show hx;obtain rfl | hy:=ar.mp hy;exact e3 n ?_;rw[cV,ap rfl];rfl;show e4 y hy hf;let⟨cl,e1,e2,e3,e4⟩:=jG r fg (λy hy=>h1 y (av _ hy)) h2;exact#[cl,?_,e2,e3,λy hy hf=> ?_];rw[List.forIn_cons];have:(k==NameKind.free)=false:= ⇑hk;simp![this,ay,be,pure_bind];show e1;obtain rfl | hy:=ar.mp hy;show absurd hf hk;show e4 y hy hf
def qC (h: ∀y∈scope.names,y.2= .free -> ∃c,env.cells.lookup y.1=some c): ∃cl,dh (closureFor scope env=pure cl) (∀x c,cl.lookup x=some c ->env.cells.lookup x=some c) (∀y∈scope.names,y.2= .free ->(cl.lookup y.1).isSome=true):=by let⟨cl,e1,e2,_,e4⟩:=jG scope.names [] h (λ_ _ e=>by simp at e);exact#[cl,?_,e2,e4];simp![closureFor];rw[e1,pure_bind]
theorem iq {env:Env}: ∀ {names:d3 (Str×NameKind)} {x:Str} {k:NameKind},(names.map λ(n,k)=>if(k==NameKind.free && env.scope.kind== .function && env.kindOf n==some .cell) then(n,NameKind.cell) else(n,k)).lookup x=some k ->names.lookup x=some k \/ (k= .cell /\ names.lookup x=some .free)
 | [],_,_,h=>by simp at h
 | (n, j)::r,x,k,h=>by
  have ih:= @iq env r x k;rw[aE] at h;by_cases hc:(j==NameKind.free && env.scope.kind== .function && env.kindOf n==some .cell)=true;simp![hc,bR] at h;rw[cV] at h;rw[cV];by_cases hx:x=n;rw[ap hx] at h ⊢;cases h;have hj:j=NameKind.free:=by rw[Bool.and_eq_true,Bool.and_eq_true] at hc;show eq_of_beq hc.1.1
  show .inr #[rfl,by rw[hj]];rw[ai hx] at h ⊢;show ih h;simp![hc,ay,be] at h;rw[cV] at h;rw[cV];by_cases hx:x=n;rw[ap hx] at h ⊢;show .inl h;rw[ai hx] at h ⊢;show ih h
theorem gS {env:Env}: ∀ {names:d3 (Str×NameKind)} {x:Str},names.lookup x=some .free ->(names.map λ(n,k)=>if(k==NameKind.free && env.scope.kind== .function && env.kindOf n==some .cell) then(n,NameKind.cell) else(n,k)).lookup x=some .cell \/(names.map λ(n,k)=>if(k==NameKind.free && env.scope.kind== .function && env.kindOf n==some .cell) then(n,NameKind.cell) else(n,k)).lookup x=some .free
 | [],_,h=>by simp at h
 | (n,j)::r,x,h=>by have ih:= @gS env r x;rw[aE];rw[cV] at h;by_cases hc:(j==NameKind.free && env.scope.kind== .function && env.kindOf n==some .cell)=true;simp![hc,bR];rw[cV];by_cases hx:x=n;rw[ap hx];show .inl rfl;rw[ai hx] at h ⊢;show ih h;simp![hc,ay,be];rw[cV];by_cases hx:x=n;rw[ap hx] at h ⊢;cases h;show .inr rfl;rw[ai hx] at h ⊢;show ih h
abbrev b8 (X:Cx)(N':d3 Str)(scope:Scope)(cl:d3 (Str×gi))(fp:d3 gi)(s3:d5)(H3:Hp):Cx:={X with N:=N',s₀:=s3,H₀:=H3,env:=compEnvC scope cl s3.heap.objs.size X.env,outer:=X.stack,stack:=X.stack,ex:=fp,fn:=λ_=>false,pn:= [],xe:=λ_ _=>False}
def jP (own:Nat)(fr:d3 Nat)(σ:St):St:=List.replicate own none++fr.map λj=>(σ[j]?).join
structure eV (X:Cx)(own:List Str)(fr:List Nat)(N':List Str)(scope:Scope):Prop where
 kind:scope.kind= .function
 names:N'=own++fr.filterMap (λj=>X.N[j]?)
 len:N'.length=own.length+fr.length
 nd:N'.Nodup
 pV: ∀y∈scope.names,y.2≠ .cell
 loc: ∀y∈scope.names,y.2= .local ->scope.names.lookup y.1=some .local
 PZ: ∀x∈fr.filterMap (λj=>X.N[j]?),scope.names.lookup x=some .free
 free: ∀y∈scope.names,y.2= .free ->X.env.kindOf y.1=some .cell \/ X.env.kindOf y.1=some .free
theorem mU {N:d3 Str}: ∀ {fr:d3 Nat} {k:Nat} {x:Str},(fr.filterMap (λj=>N[j]?)).length=fr.length ->(fr.filterMap (λj=>N[j]?))[k]? =some x -> ∃j,fr[k]? =some j /\ N[j]? =some x
 | [],_,_,_,e=>by simp at e
 | j ::r,k,x,hl,e=>by
  cases hj:N[j]? with
  | none=>rw[List.filterMap_cons,hj] at hl;have:=List.length_filterMap_le (λj=>N[j]?) r;simp![aK] at hl;lia
  | some y=>
   rw[List.filterMap_cons,hj] at hl e;simp![aK,Nat.add_right_cancel_iff] at hl;cases k with
   | zero=>simp at e;show#[j,by simp,by rw[hj,e]]
   | succ k=>show mU (k:=k) hl ⇑e
def wd {σ:St}{fp:d3 gi}(S:eV X own fr N' scope)(I:Inv X aj σ H s)(ny: ∀x c,cl.lookup x=some c ->X.env.cells.lookup x=some c)(rq: ∀y∈scope.names,y.2= .free ->(cl.lookup y.1).isSome=true)(uB: ∀b∈fp,jI X aj H b)(Om: ∀b∈fp,b<s.heap.objs.size)(LO:h'.Ns s.heap.objs.size (λ_=>none))(hk: ∀b o,s.heap.get? b=some o ->h'.get? b=some o): Inv (b8 X N' scope cl fp s H) [] (jP own.length fr σ) H {s with heap:=h',toks:=t}:=by
 have look: ∀x,(compEnvC scope cl s.heap.objs.size X.env).kindOf x=(relabel scope X.env).names.lookup x:=λ_=>rfl
 have Tb:(fr.filterMap (λj=>X.N[j]?)).length=fr.length:=by have:=S.len;rw[S.names,aG] at this;lia
 exact#[#[I.ok.mod,?_,I.ok.glob,I.ok.blt,ao _,λx y c e1 e2=>I.ok.inj x y c (ny _ _ e1) (ny _ _ e2),λx hx=> ?_,(λx c z _=>nomatch z),I.ok.hd,I.ok.frames, .inl rfl,λb hb=>#[?_,λx c e=>(uB b hb).2.2.2.2.1 x c (ny x c e)],I.bs,aS I.ok.Hh I.sz,λb o e hb=> ?_,λb hb hz=> ?_,I.stack,I.zB],
  rfl,I.bare,Un.kept hk,#[_,LO,λi x v e1 e2 e3=> ?_],λx c e=> ?_,I.cT.fresh (ao _),λx c e=>I.iC x c (ny x c e),λp hp=>absurd (show p∈([]:d3 (gi×Obj)) from hp) (by simp),I.cT.kept hk,?_]
 change(relabel scope X.env).kind=_
 show S.kind
 have gq:scope.names.lookup x=some .free:=by obtain hx | hx:=hx;obtain q | ⟨_,q⟩:=iq hx;show absurd rfl (S.pV _ (dD q));show q;obtain q | ⟨q,_⟩:=iq hx;show q;cases q
 show Option.isSome_iff_exists.mp (rq _ (dD gq) rfl)
 show a5 (Om b hb)
 obtain z | z:=(uB b hb).2.2.2.1
 show I.ok.EY b o e z
 show absurd (bH (aF e) (aS I.ok.Hh z)) (cg _)
 obtain q | q:=ar.mp (I.xK b hz)
 show(uB b hb).2.1 q
 show(uB b hb).2.2.1 q
 -- a W8 value
 have e1:(own++fr.filterMap (λj=>X.N[j]?))[i]? =some x:=by rw[<- S.names];show e1
 unfold jP at e2
 by_cases hi:i<own.length
 rw[bg ⇑hi,List.getElem?_replicate,ap hi] at e2
 cases e2
 rw [aY ⇑hi,List.length_replicate] at e2
 rw[aY ⇑hi] at e1
 let⟨j,ej,ex⟩:=mU Tb e1
 rw[aB,ej] at e2
 have e2:(σ[j]?).join=some v:= ⇑e2
 have e2':σ[j]? =some (some v):=by
  cases q:σ[j]? with
  | none=>rw[q] at e2;cases e2
  | some w=>rw[q] at e2;simp at e2;rw[e2]
 have hf:=S.PZ x (aw e1)
 have hm:=dD hf
 let⟨m,_,hl⟩:=I.loc
 have vis:Vp X.env.scope x:=by obtain q | q:=S.free _ hm rfl;show .inr (.inl q);show .inr (.inr q)
 let⟨u,r,l⟩:=hl j x v ex e2' vis
 exact#[u,r, .inr #[?_,?_]]
 show gS hf
 rcases l with⟨k,_⟩ | ⟨_,c,ec,z⟩
 obtain q | q:=S.free _ hm rfl
 rw[k] at q;cases q
 rw[k] at q;cases q
 let⟨c',ec'⟩:=Option.isSome_iff_exists.mp (rq _ hm rfl)
 have:=ny _ _ ec'
 rw[ec] at this
 cases this
 show#[c,ec',z.keeps hk]
 let⟨v,z⟩:=I.cell x c (ny x c e)
 show#[v,z.keeps hk]
 change(jP own.length fr σ).length=N'.length
 unfold jP
 rw[aG,List.length_replicate,aa,S.len]
def Mm (X:Cx)(cs:d3 Expr)(t:TT):Prop:=∀ (aj:d3 (gi×Obj)) (s:d5) (σ:St) (H:Hp) (Q:Bool ->Hp ->Prop),Inv X aj σ H s ->t σ H Q ->wpAny (model X.prog X.w) X.A (forIn cs true λc r=>if r=true then do let ok <- isTrue c X.env (eval c X.env);pure (ForInStep.yield ok) else pure (ForInStep.yield r)) (TP X aj σ Q) X.xe s
def QF:TT:=λ_ H Q=>Q true H
theorem iK:Mm X [] QF:=λaj s σ H Q I h=>wpAny_tests_nil #[H,I,h]
theorem oY (h:PT X c t):Mm X [c] t:=λaj s σ H Q I q=>wpAny_tests_one (h aj s σ H Q I q)
theorem Ck (I:Nat ->d5 ->Prop)(turn : ∀n s,I n s ->wpAny (model prog w) A (pyNext it) (λr s₁=>match r with
   | none=>R (.ok .next) s₁
   | some v=>wpAny (model prog w) A (letOwnedTupleGo nE it v) (λ_ s₀=>wpAny (model prog w) A (assign nE env v) (λ_ s₂=>
    wpAny (model prog w) A (forIn iY true λc r=>if r=true then do let ok <- isTrue c env (eval c env);pure (ForInStep.yield ok) else pure (ForInStep.yield r)) (λok s₃=>if ok=true then wpAny (model prog w) A (eval iZ env) (λx s₄=>wpAny (model prog w) A (call (.builtin "list.append") [fg,x]) (λ_ s₅=> ∃m,m<n /\ I m s₅) (λ_ _=>False) s₄) (λ_ _=>False) s₃ else ∃m,m<n /\ I m s₃) (λ_ _=>False) s₂)
    (λ_ _=>False) s₀) (λ_ _=>False) s₁) (λ_ _=>False) s)(n:Nat)(h:I n s):codeAny (model prog w) A (.compLoop (.ListComp iZ [#[nE,iter,iY,0]] scope pos) 0 it fg env) R s:=by
 exact codeAny_loop rfl I (λn s hI=> ?_) n h
 change wpAny _ A ((compTurn (.ListComp iZ [#[nE,iter,iY,0]] scope pos) 0 it fg env).onRaise (λx=>do noteFrame x env;theTreesLotGoes x)) _ _ s
 exact wpAny_noted ?_
 rw[compTurn_list]
 exact ae (wpAny_standAt (ae (bM (turn n s hI) (λr s₁ h₁=> ?_) λ_ _ h'=>h'.elim)))
 cases r with
 | none=>show ax h₁
 | some v=>
  exact ae (bM h₁ (λ_ s₀ R'=> ?_) λ_ _ h'=>h'.elim);exact ae (bM R' (λ_ s₂ h₂=> ?_) λ_ _ h'=>h'.elim);exact ae (bM h₂ (λRx s₃ h₃=> ?_) λ_ _ h'=>h'.elim);cases Rx with
  | false=>show ax #[rfl,h₃]
  | true=>show ae (ae (bM h₃ (λx s₄ h₄=>ae (bM h₄ (λ_ s₅ h₅=>ax (ax #[rfl,h₅])) λ_ _ h'=>h'.elim)) λ_ _ h'=>h'.elim))
def Wk (σ0 σ2:St):Prop:=σ2.length=σ0.length /\ ∀ (i:Nat) v,σ0[i]? =some (some v) ->σ2[i]? =some (some v)
def Kf (own:Nat)(g:TG):Prop:= ∀ (c:St) (v:V) (H:Hp) (Q:St ->Hp ->Prop),g v (List.replicate own none++c) H Q ->g v (List.replicate own none++c) H λσ2 H2=>Wk (List.replicate own none++c) σ2 /\ Q σ2 H2
def fF:Kf 1 (oi 0):=by
 intro c v H Q h;exact#[#[by simp,λi u e=> ?_],h];cases i with
 | zero=>simp at e
 | succ i=>simpa using e
def Gp {K:RZ}:Kf 2 (OH K 2 (Az (oi 0) (Az (oi 1) OI))):=by
 rintro c v H Q ⟨a,xs,e,hs,hl,x,r,rfl,y,r',rfl,rfl,h⟩;exact#[a,_,e,hs,hl,x,_,rfl,y,_,rfl,rfl,#[by simp,λi u e=> ?_],h];match i with
 | 0=>simp at e
 | 1=>simp at e
 | i+2=>simpa using e
def Me (J:It)(own:Nat)(fr:d3 Nat)(g:TG)(tc:TT)(te:TE)(σ:St)(p:gi)(H1:Hp)(Q:VK):Prop:=∃ W :Nat ->Nat ->d3 V ->Hp ->Prop,(∃m,W 0 m [] (cO H1 p (.lst []))) /\ ∀i m ys H',W i m ys H' ->H' p=some (.lst ys) /\((J.stop i H' /\ Q (.ref p) H') \/ (J.go i H' /\ ys.length<sizeLine /\ ∀x H2,J.Kh i H' x H2 ->g x (jP own fr σ) H2 λσ2 H3=>tc σ2 H3 λb H4=>if b=true then te σ2 H4 λy H5=> ∃zs,H5 p=some (.lst zs) /\ zs.length<sizeLine /\ ∃m',m'<m /\ W (i+1) m' (zs++ [y]) (cO H5 p (.lst (zs++ [y]))) else ∃zs m',m'<m /\ W (i+1) m' zs H4))
def KO (wi:TI)(own:Nat)(fr:d3 Nat)(g:TG)(tc:TT)(te:TE):TE:=λσ H Q=>wi σ H λJ H1=> ∀p,H1 p=none ->Me J own fr g tc te σ p H1 Q
theorem sV {σ:St}{σ':St}(I3:Inv X aj σ H s3)(uB: ∀b∈fp,jI X aj H b)(Ic:Inv (b8 X N' scope cl fp s3 H) zZ σ' H' s'):Inv X aj σ H' s':=I3.Tn (ch:=fp) Ic.os Ic.base Ic.cT Ic.bare λb hb=>#[(uB b hb).2.2.2.1,(uB b hb).2.1,(uB b hb).2.2.2.2.1,(uB b hb).2.2.2.2.2]
def sU {σ:St}{C:gi}{σ':St}(I3:Inv X aj σ H s3)(hC:C=s3.heap.objs.size)(J:Inv X aj σ' H' s')(hn:H' C=none)(hs:Heap.SameBut C s'.heap h'):Inv X aj σ' H' {s' with heap:=h'}:=by subst hC;exact J.turned (t':=s'.toks) (it:=s3.heap.objs.size) (λb o hb e=>hs.extBut b o hb e) hn (Nat.ne_of_gt I3.lt) (.inr I3.sz) (λx c e z=> ?_) λp hp z=> ?_;let⟨v,q⟩:=I3.cell x c e;show absurd q.lt (by rw[z];show cg _);show absurd (aF (I3.pin p hp).1) (by rw[z];show cg _)
def yZ {σ:St}{RR:d4 ->gi ->Result ->d5 ->Prop}(j8:X.calm=true)(S:eV X own fr N' scope)(hg: ∀s3 H3,PG (b8 X N' scope cl fp s3 H3) tg g)(hw:Kf own.length g)(hc: ∀s3 H3,Mm (b8 X N' scope cl fp s3 H3) iY tc)(he: ∀s3 H3,PE (b8 X N' scope cl fp s3 H3) iZ te)(ny: ∀x c,cl.lookup x=some c ->X.env.cells.lookup x=some c)(rq: ∀y∈scope.names,y.2= .free ->(cl.lookup y.1).isSome=true)(I:Inv X aj σ H s)(T:qJ X.prog X.w X.K tg J fp it tn)(st:tn 0 s.heap)(uB: ∀b∈fp,jI X aj H b)(h: ∀p,H p=none ->Me J own.length fr g tc te σ p H Q)(fin: ∀ (s3:d5) (H3:Hp),Inv X aj σ H3 s3 ->(∀b∈fp,jI X aj H3 b) -> ∀ (D:gi) (σ':St) (H':Hp) (s':d5) (t:Nat),D<s3.heap.objs.size ->Inv (b8 X N' scope cl fp s3 H3) [] σ' H' s' ->Q (.ref D) H' ->RR (.ref D) s3.heap.objs.size (.ok .next) s'): wpAny (model X.prog X.w) X.A (newList []) (λfg s₃=>wpAny (model X.prog X.w) X.A (newFunctionEnv scope X.env.globals cl [] X.env.qual none .none (some X.env)) (λGo s₄=>codeAny (model X.prog X.w) X.A (.compStart (.ListComp iZ [#[tg,iter,iY,0]] scope pos) 0 (.ref it) fg {Go with scope:=relabel scope X.env}) (RR fg Go.locals) s₄) E s₃) E s:=by
 exact wpAny_newObj_type ?_;have hf:H s.heap.objs.size=none:=I.cT.fresh (ao _);let⟨W,⟨m0,w0⟩,turn⟩:=h _ hf;generalize e3:({s with heap:=s.heap.push {cls:= .type "list",dict:=none,data:= .seq ([]:d3 d4).toArray}}:d5)=s3;have MV:s3.heap.objs.size=s.heap.objs.size+1:=by rw[<- e3];show dM ..
 have V9: ∀b o,s.heap.get? b=some o ->s3.heap.get? b=some o:=λb o e=>by rw[<- e3];show aq _ e
 have I3:Inv X aj σ (cO H s.heap.objs.size (.lst [])) s3:=by rw[<- e3];show I.laid (t':=s.toks) (λb u e=>aq _ e) (ao _) #[cB _,[],0, .nil,aM _ rfl]
 have OJ: ∀b∈fp,b<s.heap.objs.size:=λb hb=>by let⟨o,e,_⟩:=T.obj 0 _ st b hb;show aF e
 have yL: ∀b∈fp,jI X aj (cO H s.heap.objs.size (.lst [])) b:=λb hb=>#[by rw[bC (a5 (OJ b hb))];show(uB b hb).1,(uB b hb).2]
 exact wpAny_newFunctionEnv S.pV (by intro y hy;simp at hy) (λh₁ Ob N8=> ?_) S.kind;have old: ∀b o,s3.heap.get? b=some o ->h₁.get? b=some o:=λb o e=>N8.extBut b o (a5 (aF e)) (aq _ e);have Ic:=wd (t:=s3.toks+([]:d3 (Str×d4)).length) S I3 ny rq yL (λb hb=>by rw[MV];show Nat.lt_succ_of_lt (OJ b hb)) Ob old;have Bi:tn 0 h₁:=T.keep 0 _ _ st λb hb o e=>old b o (V9 b o e);have pF: ∀ {H':Hp},(∀b∈fp,H' b=none) -> ∀b∈fp,jI (b8 X N' scope cl fp s3 (cO H s.heap.objs.size (.lst []))) [] H' b:=λhn b hb=>by exact#[hn b hb,?_,?_, .inl hb,λx c e=>(uB b hb).2.2.2.2.1 x c (ny x c e),λp hp=>absurd (show p∈([]:d3 (gi×Obj)) from hp) (by simp)];change b≠s3.heap.objs.size;rw[MV];show a5 (Nat.lt_succ_of_lt (OJ b hb));show Ic.ok.Ca b hb
 have loop:codeAny (model X.prog X.w) X.A (.compLoop (.ListComp iZ [#[tg,iter,iY,0]] scope pos) 0 (.ref it) (.ref s.heap.objs.size) (compEnvC scope cl s3.heap.objs.size X.env)) (RR (.ref s.heap.objs.size) s3.heap.objs.size) {s3 with heap:=h₁,toks:=s3.toks+([]:d3 (Str×d4)).length}:=by
  exact Ck (λn s'=>gv λi ys H'=>fh (Inv (b8 X N' scope cl fp s3 (cO H s.heap.objs.size (.lst []))) [] (jP own.length fr σ) H' s') (tn i s'.heap) (∀b∈fp,H' b=none) (W i n ys H')) ?_ m0 #[0,[],_,Ic,Bi,λb hb=>(yL b hb).1,w0];rintro n s4 ⟨i,ys,H4,I4,fV,JP,w4⟩;let⟨BY,alt⟩:=turn i n ys H4 w4;rcases alt with⟨stop,q⟩ | ⟨go,hsz,step⟩
  .exact cY (T.done (b8 X N' scope cl fp s3 (cO H s.heap.objs.size (.lst []))) rfl rfl rfl j8 i [] s4 _ H4 (λ_ _=>False) I4 (pF JP) fV stop) λr s5 ⟨hr,I5⟩=> ?_;subst hr;show fin s3 _ I3 yL _ _ H4 s5 s5.toks (by rw[MV];show Nat.lt_succ_self _) I5 q
  exact cY (T.item (b8 X N' scope cl fp s3 (cO H s.heap.objs.size (.lst []))) rfl rfl rfl j8 i [] s4 _ H4 (λ_ _=>False) I4 (pF JP) fV go) λr s5 ⟨u,hr,h5⟩=> ?_;subst hr;exact cY h5 λ_ s6 ⟨x,H6,I6,r6,y6,MY,Zt⟩=> ?_;have Z_:=I6.pinned (pF Zt) (T.obj _ _ MY);have KS:=hw _ x H6 _ (step x H6 y6);exact cY (hg s3 _ _ s6 _ H6 x u _ Z_ r6 KS) λ_ s7 ⟨σ7,H7,I7,wk,q7⟩=> ?_;have again: ∀ {H9:Hp} {s9:d5} {Mq:d3 V},Inv (b8 X N' scope cl fp s3 (cO H s.heap.objs.size (.lst []))) ([]++iu fp s6.heap) σ7 H9 s9 ->(∃m',m'<n /\ W (i+1) m' Mq H9) ->∃m,m<n /\ gv λi ys H'=>fh (Inv (b8 X N' scope cl fp s3 (cO H s.heap.objs.size (.lst []))) [] (jP own.length fr σ) H' s9) (tn i s9.heap) (∀b∈fp,H' b=none) (W i m ys H'):=λ{H9 s9 Mq} I9 ⟨m',hm,w9⟩=>by exact#[m',hm,i+1,Mq,H9,(I9.je).weak ?_ wk.2,T.keep _ _ _ MY λb hb o e=>(I9.pin (b,o) (aX _ (aX _ (fq hb e)))).1,λb hb=> ?_,w9];show wk.1.symm;let⟨o,e,d⟩:=T.obj _ _ MY b hb;show(I9.pin (b,o) (aX _ (aX _ (fq hb e)))).2.1
  exact cY (hc s3 _ _ s7 σ7 H7 _ I7 q7) λok s8 ⟨H8,I8,q8⟩=> ?_;cases ok with
  | false=>simp![ay,be] at q8 ⊢;let⟨zs,q8⟩:=q8;show again I8 q8
  | true=>simp![bR] at q8 ⊢;exact cY (he s3 _ _ s8 σ7 H8 _ I8 q8) λy s9 ⟨yv,H9,I9,ry,zs,hp9,hz9,q9⟩=> ?_;exact cY (nM _ s9 σ7 H9 (.ref s.heap.objs.size) [yv] (.ref s.heap.objs.size) [y] (λv H'=>H'=cO H9 s.heap.objs.size (.lst (zs++ [yv]))) I9 rfl (.cons ry .nil) #[_,zs,yv,rfl,rfl,hp9,hz9,rfl]) λv Wn ⟨_,P8,_b,_,ZF⟩=> ?_;subst ZF;show again _b q9
 show codeAny_compStart_list loop (T.self _ 0 _ _ _ Bi loop)
theorem Cx.Ok.cellsOf (ok:X.Ok)(S:eV X own fr N' scope): ∀y∈scope.names,y.2= .free -> ∃c,X.env.cells.lookup y.1=some c:=λy hy hf=>ok.has y.1 (S.free y hy hf)
def gD (j8:X.calm=true)(S:eV X own fr N' scope)(hi:PI X tg iter wi)(hg: ∀cl fp s3 H3,PG (b8 X N' scope cl fp s3 H3) tg g)(hw:Kf own.length g)(hc: ∀cl fp s3 H3,Mm (b8 X N' scope cl fp s3 H3) iY tc)(he: ∀cl fp s3 H3,PE (b8 X N' scope cl fp s3 H3) iZ te)(hs: ∀x,foldedSetIterable iter X.env x=pure x:=by intro _;rfl):PE X (.ListComp iZ [#[tg,iter,iY,0]] scope pos) (KO wi own.length fr g tc te):=by intro aj s σ H Q I h;let⟨cl,F4,ny,rq⟩:=qC (I.ok.cellsOf S);rw[eval_ListComp];exact wpAny_comprehension_free (use:=none) rfl hs F4 S.kind S.loc (cY (hi aj s σ H _ I h) λv s1 h1=>cY h1 λRY s2 h2=> ?_);let⟨it,fp,tn,J,H2,e,I2,T,lf,f2,h2⟩:=h2;subst e;exact yZ (RR:=λfg C=>compPost (model X.prog X.w) X.A X.xe none (EP X aj σ Q) fg C) j8 S (hg cl fp) hw (hc cl fp) (he cl fp) ny rq I2 T lf f2 h2 ?_;intro s3 H3 I3 f3 D σ' H' s' t hD Ic q;let⟨m,hn,_⟩:=Ic.loc;exact#[m,hn,λh' Sn=>#[.ref D,H',?_,rfl,q]];show sU I3 rfl (sV I3 f3 Ic) Ic.free Sn
set_option genInjectivity true in
inductive Dt where
 | dY | bl (b:Bool) | int (i:Int) | str (x:Str) | tup (l:List Dt) | lst (l:List Dt)
mutual
def Rep (K:RZ)(H:Hp):Dt ->V ->Prop
 | .dY,v=>v= .dY
 | .bl b,v=>v= .bl b
 | .int i,v=>v= .int i
 | .str x,v=>v= .str x
 | .tup l,v=>cJ λa vs=>dh (v= .ref a) (i9 K H a vs) (gu K H l vs)
 | .lst l,v=>cJ λa vs=>dh (v= .ref a) (gC K H a vs) (gu K H l vs)
def gu (K:RZ)(H:Hp):d3 Dt ->d3 V ->Prop
 | [],vs=>vs= []
 | d::r,vs=>cJ λv t=>dh (vs=v::t) (Rep K H d v) (gu K H r t)
end
mutual
def oQ:Dt ->Dt ->Bool
 | .dY, .dY=>true
 | .bl a, .bl b=>a==b
 | .bl a, .int b=>(if a then 1 else 0)==b
 | .int a, .bl b=>a==(if b then 1 else 0)
 | .int a, .int b=>a==b
 | .str a, .str b=>a==b
 | .tup a, .tup b=>lQ a b
 | .lst a, .lst b=>lQ a b
 | _,_=>false
def lQ:d3 Dt ->d3 Dt ->Bool
 | [],[]=>true
 | x::xs,y::ys=>oQ x y && lQ xs ys
 | _,_=>false
end
mutual
def CN:Dt ->Nat
 | .tup l=>uF l+1
 | .lst l=>uF l+1
 | _=>0
def uF:d3 Dt ->Nat
 | []=>0
 | d::r=>max (CN d) (uF r)
end
theorem gu.length {K:RZ}{H:Hp}: ∀ {l:d3 Dt} {vs:d3 V},gu K H l vs ->l.length=vs.length
 | [],_,h=>by simp![gu] at h;subst h;rfl
 | d::r,vs,h=>by simp![gu] at h;let⟨v,t,rfl,_,h⟩:=h;simp[gu.length h]
theorem gu.at {K:RZ}{H:Hp}: ∀ {l:d3 Dt} {vs:d3 V} {j:Nat} {d:Dt},gu K H l vs ->l[j]? =some d -> ∃v,vs[j]? =some v /\ Rep K H d v
 | [],_,_,_,_,e=>by simp at e
 | d::r,vs,j,d',h,e=>by
  simp![gu] at h;let⟨v,t,rfl,h1,h⟩:=h;cases j with
  | zero=>simp at e;subst e;show#[v,rfl,h1]
  | succ j=>simpa using gu.at (j:=j) h ⇑e
theorem mW: ∀ {l:d3 Dt} {d:Dt},d∈l ->CN d<=uF l
 | [],_,h=>by simp at h
 | x::r,d,h=>by simp![uF];obtain rfl | h:=ar.mp h;show Nat.le_max_left _ _;show aS (mW h) (Nat.le_max_right _ _)
theorem jD: ∀ (a b:d3 Dt),lQ a b=((List.range (min a.length b.length)).all (λj=>oQ (a.getD j .dY) (b.getD j .dY)) && a.length==b.length)
 | [],[]=>rfl
 | [],y::ys=>by simp[lQ]
 | x::xs,[]=>by simp[lQ]
 | x::xs,y::ys=>by
  have e:min (x::xs).length (y::ys).length=min xs.length ys.length+1:=by simp![aK];lia
  rw[lQ,jD xs ys,e,List.range_succ_eq_map,List.all_cons,List.all_map];have e2:((x::xs).length==(y::ys).length)=(xs.length==ys.length):=by simp
  rw[e2,Bool.and_assoc];rfl
mutual
theorem qj: ∀d:Dt,oQ d d=true
 | .dY=>rfl
 | .bl b=>by simp[oQ]
 | .int i=>by simp[oQ]
 | .str x=>by simp[oQ]
 | .tup l=>by simp![oQ];show nT l
 | .lst l=>by simp![oQ];show nT l
theorem nT: ∀l:d3 Dt,lQ l l=true
 | []=>rfl
 | x::xs=>by simp![lQ,qj x,nT xs,Bool.and_self]
end
def Un.Wg {K:RZ}(h: ∀b xs,Rd H b (.tup xs) ->Rd H' b (.tup xs))(q:i9 K H a xs):i9 K H' a xs:=by obtain q | q:=q;show .inl (h _ _ q);show .inr q
section
variable {X:Cx}{aj:d3 (gi×Obj)}{σ:St}{H:Hp}{s:d5}
mutual
theorem Rep.inj (I:Inv X aj σ H s): ∀ (d e:Dt) (v:V),Rep X.K H d v ->Rep X.K H e v ->d=e
 | .dY,e,v,h1,h2=>by simp![Rep] at h1;subst h1;cases e<;>simp![Rep] at h2<;>first | rfl | (cases h2;done) | (let⟨_,_,q,_⟩:=h2;cases q)
 | .bl b,e,v,h1,h2=>by simp![Rep] at h1;subst h1;cases e<;>simp![Rep] at h2<;>first | (cases h2;rfl) | (cases h2;done) | (let⟨_,_,q,_⟩:=h2;cases q)
 | .int b,e,v,h1,h2=>by simp![Rep] at h1;subst h1;cases e<;>simp![Rep] at h2<;>first | (cases h2;rfl) | (cases h2;done) | (let⟨_,_,q,_⟩:=h2;cases q)
 | .str b,e,v,h1,h2=>by simp![Rep] at h1;subst h1;cases e<;>simp![Rep] at h2<;>first | (cases h2;rfl) | (cases h2;done) | (let⟨_,_,q,_⟩:=h2;cases q)
 | .tup l,e,v,h1,h2=>by
  simp![Rep] at h1;let⟨a,vs,rfl,hs,hr⟩:=h1;cases e<;>simp![Rep] at h2<;>first | (cases h2;done) | skip
  let⟨a',Qu,q,gk,mP⟩:=h2;cases q;have:=I.nC hs gk;subst this;rw[gu.inj I l _ vs hr mP];let⟨a',Qu,q,gk,mP⟩:=h2;cases q;let⟨its,_,ht,_⟩:=I.tuple hs;let⟨its',_,hl,_⟩:=I.list gk;show absurd rfl (SeqAt.ne_of_list_tuple (s:=s) hl.isList ht)
 | .lst l,e,v,h1,h2=>by
  simp![Rep] at h1;let⟨a,vs,rfl,hs,hr⟩:=h1;cases e<;>simp![Rep] at h2<;>first | (cases h2;done) | skip
  let⟨a',Qu,q,gk,mP⟩:=h2;cases q;let⟨its,_,ht,_⟩:=I.tuple gk;let⟨its',_,hl,_⟩:=I.list hs;show absurd rfl (SeqAt.ne_of_list_tuple (s:=s) hl.isList ht);let⟨a',Qu,q,gk,mP⟩:=h2;cases q;have:=I.list_inj hs gk;subst this;rw[gu.inj I l _ vs hr mP]
theorem gu.inj (I:Inv X aj σ H s): ∀ (l m:d3 Dt) (vs:d3 V),gu X.K H l vs ->gu X.K H m vs ->l=m
 | [],m,vs,h1,h2=>by
  simp![gu] at h1;subst h1;cases m with
  | nil=>rfl
  | cons _ _=>simp![gu] at h2;let⟨_,_,q,_⟩:=h2;cases q
 | d ::r,m,vs,h1,h2=>by
  simp![gu] at h1;let⟨v,t,rfl,h1,h3⟩:=h1;cases m with
  | nil=>simp![gu] at h2;cases h2
  | cons d' r'=>simp![gu] at h2;let⟨v',t',q,h4,h5⟩:=h2;cases q;rw[Rep.inj I d d' v h1 h4,gu.inj I r r' t h3 h5]
end
def gu.items (h:gu X.K H l vs)(r:cD vs its)(hj:j<its.length):Rep X.K H (l.getD j .dY) (vs.getD j .dY) /\ RelV (vs.getD j .dY) its[j] /\ l.getD j .dY∈l:=by
 have e1:=h.length;have e2:=r.length;have hl:j<l.length:= ∅;let⟨v,hv,hr⟩:=h.at (am hl);let⟨u,hu,ru⟩:=r.get hv;have e3:l.getD j .dY=l[j]:=by simp[List.getD,hl]
 have e4:vs.getD j .dY=v:=by simp[List.getD,hv]
 rw[am hj] at hu;cases hu;rw[e3,e4];show#[hr,ru,cx hl]
theorem uE (I:Inv X aj σ H s): ∀ (n:Nat) (A:Around) (d e:Dt) (x y:V) (u v:d4),CN d<=n ->A.units+n<cLine ->Rep X.K H d x ->Rep X.K H e y ->RelV x u ->RelV y v ->SeqAt.EqAt A s u v (oQ d e)
 | n, A, .tup l, .tup m,x,y,u,v,hn,hu,h1,h2,r1,r2=>by
  have JJ:=h1;have CM:=h2;simp![Rep] at h1 h2;let⟨a,vs,rfl,hs,hr⟩:=h1;let⟨b,ws,rfl,gk,mP⟩:=h2;cases r1;cases r2;by_cases wu:a=b;subst wu;rw[Rep.inj I _ _ _ JJ CM,qj];show SeqAt.EqAt.same _;let⟨its,rv,ht,_⟩:=I.tuple hs;let⟨its',xR,nv,_⟩:=I.tuple gk;exact SeqAt.EqAt.of_refs wu ?_;simp![oQ];simp![CN] at hn;match n,hn with
  | n +1,hn=>
   have z:=SeqAt.RcAt.tuples (A:=A) (s:=s) (e:=λj=>oQ (l.getD j .dY) (m.getD j .dY)) ht nv ∅ λj g1 g2=>by let⟨q1,q2,q3⟩:=hr.items rv (j:=j) ⇑g1;let⟨q4,q5,q6⟩:=mP.items xR (j:=j) ⇑g2;exact uE I n A.in1 _ _ _ _ _ _ ?_ ?_ q1 q4 ⇑q2 ⇑q5;have:=mW q3;lia;change A.units+1+n<cLine;lia
   rw[jD,hr.length,mP.length,rv.length,xR.length];simpa using z
 | n, A, .lst l, .lst m,x,y,u,v,hn,hu,h1,h2,r1,r2=>by
  have JJ:=h1;have CM:=h2;simp![Rep] at h1 h2;let⟨a,vs,rfl,hs,hr⟩:=h1;let⟨b,ws,rfl,gk,mP⟩:=h2;cases r1;cases r2;by_cases wu:a=b;subst wu;rw[Rep.inj I _ _ _ JJ CM,qj];show SeqAt.EqAt.same _;let⟨its,rv,ht,_⟩:=I.list hs;let⟨its',xR,nv,_⟩:=I.list gk;exact SeqAt.EqAt.of_refs wu ?_;simp![oQ];simp![CN] at hn;by_cases hl:its.length=its'.length;match n,hn with
  | n +1,hn=>
   have z:=SeqAt.RcAt.lists (A:=A) (s:=s) (e:=λj=>oQ (l.getD j .dY) (m.getD j .dY)) ht.isList nv.isList ⇑hl ∅ λj g1 g2=>by let⟨q1,q2,q3⟩:=hr.items rv (j:=j) ⇑g1;let⟨q4,q5,q6⟩:=mP.items xR (j:=j) ⇑g2;exact uE I n A.in1 _ _ _ _ _ _ ?_ ?_ q1 q4 ⇑q2 ⇑q5;have:=mW q3;lia;change A.units+1+n<cLine;lia
   rw[jD,hr.length,mP.length,rv.length,xR.length,hl];simpa [hl] using z
  have z:=SeqAt.RcAt.lists_lengths (A:=A) (s:=s) ht.isList nv.isList ⇑hl ∅;have hf:(its.length==its'.length)=false:= ⇑hl;rw[jD,hr.length,mP.length,rv.length,xR.length,hf,Bool.and_false];show z
 | n,A, .tup l, .lst m,x,y,u,v,hn,hu,h1,h2,r1,r2=>by simp![Rep] at h1 h2;let⟨a,vs,rfl,hs,hr⟩:=h1;let⟨b,ws,rfl,gk,mP⟩:=h2;cases r1;cases r2;let⟨its,rv,ht,_⟩:=I.tuple hs;let⟨its',xR,nv,_⟩:=I.list gk;show SeqAt.EqAt.tuple_list ht nv.isList ∅
 | n,A, .lst l, .tup m,x,y,u,v,hn,hu,h1,h2,r1,r2=>by simp![Rep] at h1 h2;let⟨a,vs,rfl,hs,hr⟩:=h1;let⟨b,ws,rfl,gk,mP⟩:=h2;cases r1;cases r2;let⟨its,rv,ht,_⟩:=I.list hs;let⟨its',xR,nv,_⟩:=I.tuple gk;show SeqAt.EqAt.list_tuple ht.isList nv ∅
 | n,A, .tup l, .dY,x,y,u,v,hn,hu,h1,h2,r1,r2=>by simp![Rep] at h1 h2;let⟨a,vs,rfl,hs,hr⟩:=h1;subst h2;cases r1;cases r2;let⟨its,rv,ht,_⟩:=I.tuple hs;show SeqAt.EqAt.tuple_none ht ∅
 | n,A, .tup l, .bl b,x,y,u,v,hn,hu,h1,h2,r1,r2=>by simp![Rep] at h1 h2;let⟨a,vs,rfl,hs,hr⟩:=h1;subst h2;cases r1;cases r2;let⟨its,rv,ht,_⟩:=I.tuple hs;show SeqAt.EqAt.tuple_bool b ht ∅
 | n,A, .tup l, .int b,x,y,u,v,hn,hu,h1,h2,r1,r2=>by simp![Rep] at h1 h2;let⟨a,vs,rfl,hs,hr⟩:=h1;subst h2;cases r1;let⟨t,rfl⟩:=r2;let⟨its,rv,ht,_⟩:=I.tuple hs;show SeqAt.EqAt.tuple_int b t ht ∅
 | n,A, .tup l, .str b,x,y,u,v,hn,hu,h1,h2,r1,r2=>by simp![Rep] at h1 h2;let⟨a,vs,rfl,hs,hr⟩:=h1;subst h2;cases r1;let⟨t,rfl⟩:=r2;let⟨its,rv,ht,_⟩:=I.tuple hs;show SeqAt.EqAt.tuple_str b t ht ∅
 | n,A, .lst l, .dY,x,y,u,v,hn,hu,h1,h2,r1,r2=>by simp![Rep] at h1 h2;let⟨a,vs,rfl,hs,hr⟩:=h1;subst h2;cases r1;cases r2;let⟨its,rv,ht,_⟩:=I.list hs;show SeqAt.EqAt.list_none ht.isList ∅
 | n,A, .lst l, .bl b,x,y,u,v,hn,hu,h1,h2,r1,r2=>by simp![Rep] at h1 h2;let⟨a,vs,rfl,hs,hr⟩:=h1;subst h2;cases r1;cases r2;let⟨its,rv,ht,_⟩:=I.list hs;show SeqAt.EqAt.list_bool b ht.isList ∅
 | n,A, .lst l, .int b,x,y,u,v,hn,hu,h1,h2,r1,r2=>by simp![Rep] at h1 h2;let⟨a,vs,rfl,hs,hr⟩:=h1;subst h2;cases r1;let⟨t,rfl⟩:=r2;let⟨its,rv,ht,_⟩:=I.list hs;show SeqAt.EqAt.list_int b t ht.isList ∅
 | n,A, .lst l, .str b,x,y,u,v,hn,hu,h1,h2,r1,r2=>by simp![Rep] at h1 h2;let⟨a,vs,rfl,hs,hr⟩:=h1;subst h2;cases r1;let⟨t,rfl⟩:=r2;let⟨its,rv,ht,_⟩:=I.list hs;show SeqAt.EqAt.list_str b t ht.isList ∅
 | n,A, .dY, .tup l,x,y,u,v,hn,hu,h1,h2,r1,r2=>by simp![Rep] at h1 h2;let⟨a,vs,rfl,hs,hr⟩:=h2;subst h1;cases r2;cases r1;let⟨its,rv,ht,_⟩:=I.tuple hs;show SeqAt.EqAt.none_tuple ht ∅
 | n,A, .bl b, .tup l,x,y,u,v,hn,hu,h1,h2,r1,r2=>by simp![Rep] at h1 h2;let⟨a,vs,rfl,hs,hr⟩:=h2;subst h1;cases r2;cases r1;let⟨its,rv,ht,_⟩:=I.tuple hs;show SeqAt.EqAt.bool_tuple b ht ∅
 | n,A, .int b, .tup l,x,y,u,v,hn,hu,h1,h2,r1,r2=>by simp![Rep] at h1 h2;let⟨a,vs,rfl,hs,hr⟩:=h2;subst h1;cases r2;let⟨t,rfl⟩:=r1;let⟨its,rv,ht,_⟩:=I.tuple hs;show SeqAt.EqAt.int_tuple b t ht ∅
 | n,A, .str b, .tup l,x,y,u,v,hn,hu,h1,h2,r1,r2=>by simp![Rep] at h1 h2;let⟨a,vs,rfl,hs,hr⟩:=h2;subst h1;cases r2;let⟨t,rfl⟩:=r1;let⟨its,rv,ht,_⟩:=I.tuple hs;show SeqAt.EqAt.str_tuple b t ht ∅
 | n,A, .dY, .lst l,x,y,u,v,hn,hu,h1,h2,r1,r2=>by simp![Rep] at h1 h2;let⟨a,vs,rfl,hs,hr⟩:=h2;subst h1;cases r2;cases r1;let⟨its,rv,ht,_⟩:=I.list hs;show SeqAt.EqAt.none_list ht.isList ∅
 | n,A, .bl b, .lst l,x,y,u,v,hn,hu,h1,h2,r1,r2=>by simp![Rep] at h1 h2;let⟨a,vs,rfl,hs,hr⟩:=h2;subst h1;cases r2;cases r1;let⟨its,rv,ht,_⟩:=I.list hs;show SeqAt.EqAt.bool_list b ht.isList ∅
 | n,A, .int b, .lst l,x,y,u,v,hn,hu,h1,h2,r1,r2=>by simp![Rep] at h1 h2;let⟨a,vs,rfl,hs,hr⟩:=h2;subst h1;cases r2;let⟨t,rfl⟩:=r1;let⟨its,rv,ht,_⟩:=I.list hs;show SeqAt.EqAt.int_list b t ht.isList ∅
 | n,A, .str b, .lst l,x,y,u,v,hn,hu,h1,h2,r1,r2=>by simp![Rep] at h1 h2;let⟨a,vs,rfl,hs,hr⟩:=h2;subst h1;cases r2;let⟨t,rfl⟩:=r1;let⟨its,rv,ht,_⟩:=I.list hs;show SeqAt.EqAt.str_list b t ht.isList ∅
 | n,A, .dY, .dY,x,y,u,v,hn,hu,h1,h2,r1,r2=>by simp![Rep] at h1 h2;subst h1 h2;show fL r1 r2 rfl rfl
 | n,A, .dY, .bl b,x,y,u,v,hn,hu,h1,h2,r1,r2=>by simp![Rep] at h1 h2;subst h1 h2;show fL r1 r2 rfl rfl
 | n,A, .dY, .int b,x,y,u,v,hn,hu,h1,h2,r1,r2=>by simp![Rep] at h1 h2;subst h1 h2;show fL r1 r2 rfl rfl
 | n,A, .dY, .str b,x,y,u,v,hn,hu,h1,h2,r1,r2=>by simp![Rep] at h1 h2;subst h1 h2;show fL r1 r2 rfl rfl
 | n,A, .bl a, .dY,x,y,u,v,hn,hu,h1,h2,r1,r2=>by simp![Rep] at h1 h2;subst h1 h2;show fL r1 r2 rfl rfl
 | n,A, .bl a, .bl b,x,y,u,v,hn,hu,h1,h2,r1,r2=>by simp![Rep] at h1 h2;subst h1 h2;show fL r1 r2 rfl rfl
 | n,A, .bl a, .int b,x,y,u,v,hn,hu,h1,h2,r1,r2=>by simp![Rep] at h1 h2;subst h1 h2;show fL r1 r2 rfl rfl
 | n,A, .bl a, .str b,x,y,u,v,hn,hu,h1,h2,r1,r2=>by simp![Rep] at h1 h2;subst h1 h2;show fL r1 r2 rfl rfl
 | n,A, .int a, .dY,x,y,u,v,hn,hu,h1,h2,r1,r2=>by simp![Rep] at h1 h2;subst h1 h2;show fL r1 r2 rfl rfl
 | n,A, .int a, .bl b,x,y,u,v,hn,hu,h1,h2,r1,r2=>by simp![Rep] at h1 h2;subst h1 h2;show fL r1 r2 rfl rfl
 | n,A, .int a, .int b,x,y,u,v,hn,hu,h1,h2,r1,r2=>by simp![Rep] at h1 h2;subst h1 h2;show fL r1 r2 rfl rfl
 | n,A, .int a, .str b,x,y,u,v,hn,hu,h1,h2,r1,r2=>by simp![Rep] at h1 h2;subst h1 h2;show fL r1 r2 rfl rfl
 | n,A, .str a, .dY,x,y,u,v,hn,hu,h1,h2,r1,r2=>by simp![Rep] at h1 h2;subst h1 h2;show fL r1 r2 rfl rfl
 | n,A, .str a, .bl b,x,y,u,v,hn,hu,h1,h2,r1,r2=>by simp![Rep] at h1 h2;subst h1 h2;show fL r1 r2 rfl rfl
 | n,A, .str a, .int b,x,y,u,v,hn,hu,h1,h2,r1,r2=>by simp![Rep] at h1 h2;subst h1 h2;show fL r1 r2 rfl rfl
 | n,A, .str a, .str b,x,y,u,v,hn,hu,h1,h2,r1,r2=>by simp![Rep] at h1 h2;subst h1 h2;show fL r1 r2 rfl rfl
end
end L2
namespace L2
open PySem PySem.Spec PyProof.Rows
def aad:Dt ->Bool
 | .tup _=>true
 | .lst _=>true
 | _=>false
def tW:Dt ->Dt ->Bool
 | .tup _, .tup _=>true
 | .lst _, .lst _=>true
 | _,_=>false
def Wr {σ:St}(I:Inv X aj σ H s)(hs:tW d e=true)(hn:CN d<=50)(hu:A.units+60<cLine)(h1:Rep X.K H d x)(h2:Rep X.K H e y)(r1:RelV x u)(r2:RelV y v): SeqAt.RcAt A s u v (oQ d e) /\ SeqAt.RcNeAt A s u v (!oQ d e):=by
 cases d with
 | tup l=>
  cases e with
  | tup m=>
   simp![Rep] at h1 h2;let⟨a,vs,rfl,hs,hr⟩:=h1;let⟨b,ws,rfl,gk,mP⟩:=h2;cases r1;cases r2;let⟨its,rv,ht,_⟩:=I.tuple hs;let⟨its',xR,nv,_⟩:=I.tuple gk;simp![oQ];simp![CN] at hn;have he: ∀j (g1:j<its.toArray.size) (g2:j<its'.toArray.size),SeqAt.EqAt A.in1 s its.toArray[j] its'.toArray[j] ((λj=>oQ (l.getD j .dY) (m.getD j .dY)) j):=λj g1 g2=>by let⟨q1,q2,q3⟩:=hr.items rv (j:=j) ⇑g1;let⟨q4,q5,q6⟩:=mP.items xR (j:=j) ⇑g2;exact uE I 50 A.in1 _ _ _ _ _ _ ?_ ?_ q1 q4 ⇑q2 ⇑q5;have:=mW q3;lia;change A.units+1+50<cLine;lia
   have z:=SeqAt.RcAt.tuples (A:=A) (s:=s) ht nv ∅ he;have z':=SeqAt.RcNeAt.tuples (A:=A) (s:=s) ht nv ∅ he;rw[jD,hr.length,mP.length,rv.length,xR.length];show#[⇑z, ⇑z']
  | _=>cases hs
 | lst l =>
  cases e with
  | lst m=>
   simp![Rep] at h1 h2;let⟨a,vs,rfl,hs,hr⟩:=h1;let⟨b,ws,rfl,gk,mP⟩:=h2;cases r1;cases r2;let⟨its,rv,ht,_⟩:=I.list hs;let⟨its',xR,nv,_⟩:=I.list gk;simp![oQ];simp![CN] at hn;by_cases hl:its.length=its'.length;have he: ∀j (g1:j<its.toArray.size) (g2:j<its'.toArray.size),SeqAt.EqAt A.in1 s its.toArray[j] its'.toArray[j] ((λj=>oQ (l.getD j .dY) (m.getD j .dY)) j):=λj g1 g2=>by let⟨q1,q2,q3⟩:=hr.items rv (j:=j) ⇑g1;let⟨q4,q5,q6⟩:=mP.items xR (j:=j) ⇑g2;exact uE I 50 A.in1 _ _ _ _ _ _ ?_ ?_ q1 q4 ⇑q2 ⇑q5;have:=mW q3;lia;change A.units+1+50<cLine;lia
   have z:=SeqAt.RcAt.lists (A:=A) (s:=s) ht.isList nv.isList ⇑hl ∅ he;have z':=SeqAt.RcNeAt.lists (A:=A) (s:=s) ht.isList nv.isList ⇑hl ∅ he;rw[jD,hr.length,mP.length,rv.length,xR.length,hl];show#[by simpa [hl] using z,by simpa [hl] using z'];have z:=SeqAt.RcAt.lists_lengths (A:=A) (s:=s) ht.isList nv.isList ⇑hl ∅;have z':=SeqAt.RcNeAt.lists_lengths (A:=A) (s:=s) ht.isList nv.isList ⇑hl ∅;have hf:(its.length==its'.length)=false:= ⇑hl;rw[jD,hr.length,mP.length,rv.length,xR.length,hf,Bool.and_false];show#[z,z']
  | _=>cases hs
 | _=>cases hs
def Ri (K:RZ):R2:=λx y H Q=>cJ λd e=>ja (tW d e=true) (CN d<=50) (Rep K H d x) (Rep K H e y) (Q (.bl (oQ d e)) H)
def Nz (hu:X.A.units+60<cLine):qP X (compareOp .Eq) (Ri X.K):=by intro aj s σ H x y v u Q I r1 r2 h;let⟨d,e,h0,hn,h1,h2,q⟩:=h;show(Wr I h0 hn hu h1 h2 r1 r2).1 X.prog X.w X.xe _ #[.bl _,H,I,rfl,q]
def fU.u60 (r:fU k A):A.units+60<cLine:=by have:=r.units;lia
theorem mJ: ∀ {ns:d3 Int} {us:d3 d4},cD (ns.map V.int) us ->IntsAre us ns
 | [],_,h=>by cases h;show .nil
 | n ::r,_,h=>by
  cases h with
  | cons h1 h2=>let⟨t,rfl⟩:=h1;show .cons n t (mJ h2)
theorem Ar: ∀ {ks:d3 Int} {vs:d3 d4},vs.length=ks.length ->(∀ (j:Nat) (v:d4),vs[j]? =some v ->cJ λ(k:Int) (t:Tok)=>ks[j]? =some k /\ v= .int k t) ->IntsAre vs ks
 | [],[],_,_=> .nil
 | [],_::_,h,_=>by simp at h
 | _::_,[],h,_=>by simp at h
 | k::ks,v::vs,h,hv=>by let⟨k',t,e1,e2⟩:=hv 0 v rfl;simp at e1;subst e1 e2;show .cons k t (Ar ⇑h λj u e=> ⇑(hv (j+1) u ⇑e))
def vE:d3 V ->Hp ->VK ->Prop:=λxs H Q=>gv λ(d:gi) (kvs:d3 (cf×V)) (ks:d3 Int)=>ja (xs= [.ref d]) (H d=some (.dK kvs)) (kvs.map (·.1)=ks.map Sum.inl) (ks.length<=sizeLine) (∀ (p:gi) (ns:d3 Int),H p=none ->ns.Perm ks ->ns.Pairwise (· <= ·) ->Q (.ref p) (cO H p (.lst (ns.map V.int))))
def fG (hc:X.calm=true):gL X (.builtin "sorted") vE:=by
 intro aj s σ H xs us Q I r h;let⟨d,kvs,ks,rfl,hd,hk,S',q⟩:=h;let⟨u,rfl,ru⟩:=vals1 r;cases ru;have hh:X.A.in1.handled=none:=I.ok.hd hc;let⟨hz,lo,vs,rel,dd⟩:=wL I.cT hd;let⟨ep,Ay⟩:=dd.dictAt;have dS:vs.length=ks.length:=by have e1:=congrArg List.length hk;rw[aa,aa] at e1;rw[<- rel.length,e1]
 exact Calls.call_function_entry kind_sorted plain_sorted entry_sorted (args_sorted1 _) ?_;unfold Builtin.«sorted»;exact ae (m:=checkCount "sorted" 1 1 _) (ax ?_);exact ae (W.kdu_collect (A:=X.A.in1) (W.kdl_dict (knd:=ce X.prog X.w) (kvs:=vs) (ep:=ep) lo) hh Ay (by rw[<- rel.length];show hz) λh' tk fg FT BY=> ?_);have hl:fg.toList.length=ks.length:=by rw[cu,BY.1,dS]
 have hI:IntsAre fg.toList ks:=Ar hl λj v e=>by
  let⟨k,x,hx,SJ⟩:=BY.2 j v (by rw[<- Array.getElem?_toList];show e);have SH:(kvs.map (·.1))[j]? =some k:=by
   have:(vs.map (·.1))[j]? =some k:=by rw[aB,hx];rfl
   rw[<- rel.keys] at this;show this
  rw[hk,aB] at SH;cases e2:ks[j]? with
  | none=>rw[e2] at SH;cases SH
  | some n=>
   rw[e2] at SH;cases SH;have Ya:lw (Sum.inl n) v=true:=SJ;rcases ca Ya with⟨i,t,e3,e4⟩ | ⟨x,t,e3,e4⟩
   cases e3;show#[n,t,rfl,e4];cases e3
 exact ae (wpAny_newList ?_ (by rw[hl];show S'));have ho:(h'.push (seqObj "list" fg.toList.toArray 0)).get? h'.objs.size=some (seqObj "list" fg.toList.toArray 0):=aM _ rfl;exact ae (dg (wpAny_call_entry slot_list_sort #[_,ho,rfl] entry_list_sort (TS.rR (s:= {s with heap:=h'.push (seqObj "list" fg.toList.toArray 0),toks:=tk}) ho hI (by rw[hl];show S') λout ID a1 a2 a3=>#[_,rfl,?_]) (args_list_sort _)));let⟨ee,Oz⟩:=sortedHeap_at (out:=out) ho;have I':Inv X aj σ H {s with heap:=h',toks:=tk}:=I.kept (t':=tk) FT;exact ax #[_,rfl, .ref h'.objs.size,_,I'.laid (t':=tk) (o:= .lst (ID.map V.int)) (λb o hb=> ?_) (ao _) ?_,rfl,q _ ID (I'.cT.fresh (ao _)) a2 a3];have fE:b<h'.objs.size:=aF hb;rw[sortedHeap_old (a5 fE) (by rw[dM];show Nat.lt_succ_of_lt fE)];show aq _ hb;exact#[?_,out.toList,ee,kq a1, ⇑Oz];rw[aa,a2.length_eq];show S'
def eV.of {X:Cx}{sc scope:Scope}{N own N':d3 Str}{fr:d3 Nat}(hsc:X.env.scope=sc:=by show rfl)(hN:X.N=N:=by show rfl)(kind:scope.kind= .function:=by show rfl)(names:N'=own++fr.filterMap (λj=>N[j]?):=by decide+kernel)(len:N'.length=own.length+fr.length:=by show rfl)(nd:N'.Nodup:=by decide+kernel) (pV: ∀y∈scope.names,y.2≠ .cell:=by decide+kernel) (loc: ∀y∈scope.names,y.2= .local ->scope.names.lookup y.1=some .local:=by decide+kernel) (PZ: ∀x∈fr.filterMap (λj=>N[j]?),scope.names.lookup x=some .free:=by decide+kernel) (free: ∀y∈scope.names,y.2= .free ->sc.names.lookup y.1=some .cell \/ sc.names.lookup y.1=some .free:=by decide+kernel):eV X own fr N' scope:=by subst hN hsc;show#[kind,names,len,nd,pV,loc,PZ,free]
structure nj (K:PySem.W.Frag)(mg:Str ->Option Value)(x:Str)(ps:List Str)(st:Stmt)(f:Addr)(fd:FuncData):Prop where
 at_:mg x=some (.ref f)
 fn:CP K x x st f fd
 bd:Binds K fd ps []
theorem a_ {st:Stmt}{p pos:Pos}(C:nj X.K X.mg x ps st f fd)(F:d8 X.prog X.w X.K X.mg X.base jc k f fd ps sp)(hr:fU j X.A)(ha:PA X (e::es) t)(hk:k<=j:=by decide)(hg:Gl X x:=by rfl)(F1:(x==("__debug__" :Str))=false:=by decide)(he:starEach (e::es) X.env=(false,eval e X.env)::starEach es X.env:=by rfl)(qc:(backTo pos (starEach es X.env)).any (·.1)=false:=by rfl): PE X (.Call (.Name x p) (e::es) [] pos) (zA sp [] E0 t):=Ip F (hr.mono hk) hg C.at_ C.fn.kp C.bd .nil Li ha F1 he qc
theorem bU (h:H p=none):ff H (cO H p o):=λb u e=>by rw[bC (dc e h)];show e
def bi (H H':Hp):Prop:= ∀b xs,Rd H b (.tup xs) ->Rd H' b (.tup xs)
theorem bi.refl (H:Hp):bi H H:=λ_ _ h=>h
theorem bi.trans (a:bi H H1)(b:bi H1 H2):bi H H2:=λc o h=>b c o (a c o h)
theorem ff.ts (a:ff H H'):bi H H':=λb xs h=>by obtain h | ⟨o,h⟩:=h;show .inl (a _ _ h);show .inr #[o,a _ _ h]
inductive Tz (K:PySem.W.Frag)(H:Hp):V ->Value ->Prop where
 | of {x:V} {t:Value} (h:nW K H x t):Tz K H x t
 | tup {a:Addr} {xs:List V} (h:i9 K H a xs):Tz K H (.ref a) (.type "tuple")
 | lst {a:Addr} {xs:List V} (h:gC K H a xs):Tz K H (.ref a) (.type "list")
def Rh (K:RZ):d3 V ->Hp ->VK ->Prop:=λxs H Q=>jQ λx T t b=>fh (xs= [x, .ty T]) (Tz K H x t) (W.kitOne K t (.type T)=some b) (Q (.bl b) H)
def jm:gL X (.builtin "isinstance") (Rh X.K):=by
 intro aj s σ H xs us Q I r h;let⟨x,T,t,b,rfl,ty,e,q⟩:=h;let⟨u,w',rfl,ru,tY⟩:=vals2 r;cases tY;cases ty with
 | of ty=>show BK I ru ty e λtk=>#[.bl b,H,I.tok tk,rfl,q]
 | tup hs=>cases ru;let⟨its,rv,⟨o,h1,h2,_⟩,_⟩:=I.tuple hs;show cH W.kitx_tuple I.oH #[o,h1,h2] e (λz=>nomatch z) λtk=>#[.bl b,H,I.tok tk,rfl,q]
 | lst hs=>cases ru;let⟨its,rv,ht,_⟩:=I.list hs;let⟨o,h1,h2,_⟩:=ht.isList;show cH W.kitx_list I.oH #[o,h1,h2] e (λz=>nomatch z) λtk=>#[.bl b,H,I.tok tk,rfl,q]
end L2
namespace L2
open PySem PyProof.Rows PyProof.V PySem.Calls PySem.Spec
def TR (a C:gi)(h:Heap):Prop:= ∃o,h.get? a=some o /\ o.cls= .ref C
end L2
namespace WL
open PySem L2
set_option genInjectivity true in
inductive W where
 | v (x:V) | tup (l:List W)
set_option genInjectivity true in
inductive MO where
 | lst (l:List W) | dK (kvs:List (cf×W)) | ins (C dx:Addr) (fs:List (Str×W)) | exc (C:Addr) | fz (o:Obj) (ks:List (cf×V)) (kvs:List (cf×W)) | dN (kvs:List (NK×W)) | fN (o:Obj) (ks:List (NK×Addr×V)) (kvs:List (NK×W))
abbrev Mp:=gi ->eB MO
abbrev du:=d3 (eB W)
abbrev WK:=W ->Mp ->Prop
abbrev WE:=du ->Mp ->WK ->Prop
abbrev WT:=du ->Mp ->(Bool ->Mp ->Prop) ->Prop
abbrev WA:=du ->Mp ->(d3 W ->Mp ->Prop) ->Prop
abbrev WG:=W ->du ->Mp ->(du ->Mp ->Prop) ->Prop
abbrev J5:=d3 W ->du ->Mp ->(du ->Mp ->Prop) ->Prop
abbrev xo:=W ->W ->Mp ->WK ->Prop
abbrev zc:=d3 W ->Mp ->WK ->Prop
abbrev WI:=du ->Mp ->(d3 W ->(Mp ->Prop) ->Mp ->Prop) ->Prop
structure iU where
 nx:du ->Mp ->Prop
 rt:WK
 bk:du ->Mp ->Prop:=λ_ _=>False
 ct:du ->Mp ->Prop:=λ_ _=>False
abbrev WS:=iU ->du ->Mp ->Prop
@[reducible] def wi (i:Int):W:= .v (.int i)
@[reducible] def wb (b:Bool):W:= .v (.bl b)
@[reducible] def wr (a:gi):W:= .v (.ref a)
@[reducible] def ws (x:Str):W:= .v (.str x)
@[reducible] def wn:W:= .v .dY
def um (M:Mp)(a:gi)(o:MO):Mp:=λb=>if b=a then some o else M b
def az:um M a o a=some o:=by unfold um;rw[ap rfl]
def aD (h:b≠a):um M a o b=M b:=by unfold um;rw[ai h]
def rL:um (um M a o) a u=um M a u:=by funext b;unfold um;split<;>rfl
def cM {M:Mp}(h:M a=some o)(h':M b=none):a≠b:=by intro e;subst e;rw[h] at h';cases h'
def Sm (M M':Mp):Prop:= ∀b o,M b=some o ->M' b=some o
theorem Sm.refl (M:Mp):Sm M M:=λ_ _ h=>h
theorem Sm.trans {M M1 M2:Mp}(a:Sm M M1)(b:Sm M1 M2):Sm M M2:=λc o h=>b c o (a c o h)
def Sm.free (a:Sm M M')(h:M' p=none):M p=none:=by
 cases e:M p with
 | none=>rfl
 | some o=>rw[a p o e] at h;cases h
theorem cK (h:M p=none):Sm M (um M p o):=λb u e=>by rw[aD (cM e h)];show e
theorem Sm.um (a:Sm M M')(h:M p=none):Sm M (um M' p o):=λb u e=>by rw[aD (cM e h)];show a b u e
mutual
def WR (K:RZ)(H:Hp):W ->V ->Prop
 | .v x,v=>v=x
 | .tup l,v=>cJ λa vs=>dh (v= .ref a) (i9 K H a vs) (cF K H l vs)
def cF (K:RZ)(H:Hp):d3 W ->d3 V ->Prop
 | [],vs=>vs= []
 | x::r,vs=>cJ λv t=>dh (vs=v::t) (WR K H x v) (cF K H r t)
end
mutual
theorem WR.ts {K:RZ}{H H':Hp}(a:bi H H'): ∀ (x:W) (v:V),WR K H x v ->WR K H' x v
 | .v x,v,h=>by simp![WR] at h ⊢;show h
 | .tup l,v,h=>by simp![WR] at h ⊢;let⟨p,vs,e,hs,hr⟩:=h;show#[p,vs,e,Un.Wg a hs,cF.ts a l vs hr]
theorem cF.ts {K:RZ}{H H':Hp}(a:bi H H'): ∀ (l:d3 W) (vs:d3 V),cF K H l vs ->cF K H' l vs
 | [],vs,h=>by simp![cF] at h ⊢;show h
 | x::r,vs,h=>by simp![cF] at h ⊢;let⟨v,t,e,h1,h2⟩:=h;show#[v,t,e,WR.ts a x v h1,cF.ts a r t h2]
end
theorem cF.length {K:RZ}{H:Hp}: ∀ {l:d3 W} {vs:d3 V},cF K H l vs ->vs.length=l.length
 | [],_,h=>by simp![cF] at h;subst h;rfl
 | d::r,vs,h=>by simp![cF] at h;let⟨v,t,rfl,_,h⟩:=h;simp[cF.length h]
theorem cF.at {K:RZ}{H:Hp}: ∀ {l:d3 W} {vs:d3 V} {j:Nat} {d:W},cF K H l vs ->l[j]? =some d -> ∃v,vs[j]? =some v /\ WR K H d v
 | [],_,_,_,_,e=>by simp at e
 | d::r,vs,j,d',h,e=>by
  simp![cF] at h;let⟨v,t,rfl,h1,h⟩:=h;cases j with
  | zero=>simp at e;subst e;show#[v,rfl,h1]
  | succ j=>simpa using cF.at (j:=j) h ⇑e
theorem cF.mk {K:RZ}{H:Hp}: ∀ {l:d3 W} {vs:d3 V},vs.length=l.length ->(∀ (j:Nat) d v,l[j]? =some d ->vs[j]? =some v ->WR K H d v) ->cF K H l vs
 | [],vs,h,_=>by simp![cF];show cQ.mp h
 | d::r,[],h,_=>by simp at h
 | d::r,v::vs,h,k=>by simp![cF];show#[v,vs,rfl,k 0 d v rfl rfl,cF.mk ⇑h λj x u e1 e2=>k (j+1) x u ⇑e1 ⇑e2]
def cF.back {j:Nat}(h:cF K H l vs)(e:vs[j]? =some v): ∃d,l[j]? =some d /\ WR K H d v:=by
 have hl:=h.length;have hj:j<l.length:=by have:=(ak.mp e).1;lia
 let⟨u,hu,r⟩:=h.at (j:=j) (d:=l[j]) (am hj);rw[e] at hu;cases hu;show#[_,am hj,r]
def cF.snoc (h:cF K H l vs)(hr:WR K H d v):cF K H (l++ [d]) (vs++ [v]):=by
 have hl:=h.length;exact cF.mk (by simp[hl]) λj x u e1 e2=> ?_;by_cases hj:j<l.length;rw[bg hj] at e1;rw[bg ∅] at e2;let⟨w,hw,r⟩:=h.at e1;rw[e2] at hw;cases hw;show r;rw[aY ∅] at e1;rw[aY ∅,hl] at e2;cases hk:j - l.length with
 | zero=>rw[hk] at e1 e2;simp at e1 e2;subst e1 e2;show hr
 | succ k=>rw[hk] at e1;simp at e1
def cF.append (h:cF K H l vs)(h':cF K H m us):cF K H (l++m) (vs++us):=by have hl:=h.length;have qe:=h'.length;exact cF.mk (by simp[hl,qe]) λj x u e1 e2=> ?_;by_cases hj:j<l.length;rw[bg hj] at e1;rw[bg ∅] at e2;let⟨w,hw,r⟩:=h.at e1;rw[e2] at hw;cases hw;show r;rw[aY ∅] at e1;rw[aY ∅,hl] at e2;let⟨w,hw,r⟩:=h'.at e1;rw[e2] at hw;cases hw;show r
def cF.drop (n:Nat)(h:cF K H l vs):cF K H (l.drop n) (vs.drop n):=by exact cF.mk (by simp[h.length]) λj x u e1 e2=> ?_;rw[List.getElem?_drop] at e1 e2;let⟨w,hw,r⟩:=h.at e1;rw[e2] at hw;cases hw;show r
def cF.take (n:Nat)(h:cF K H l vs):cF K H (l.take n) (vs.take n):=by exact cF.mk (by simp[h.length]) λj x u e1 e2=> ?_;rw[List.getElem?_take] at e1 e2;split at e1;rename_i hj;rw[ap hj] at e2;let⟨w,hw,r⟩:=h.at e1;rw[e2] at hw;cases hw;show r;cases e1
def cF.set (n:Nat)(h:cF K H l vs)(hr:WR K H d v):cF K H (l.set n d) (vs.set n v):=by have hl:=h.length;exact cF.mk (by simp[h.length]) λj x u e1 e2=> ?_;rw[List.getElem?_set] at e1 e2;split at e1;rename_i hj;rw[ap hj] at e2;split at e1;split at e2;cases e1;cases e2;show hr;cases e2;cases e1;rename_i hj;rw[ai hj] at e2;let⟨w,hw,r⟩:=h.at e1;rw[e2] at hw;cases hw;show r
def cF.nil:cF K H [] []:=by simp![cF]
def cF.cons {K:RZ}{H:Hp}{x:W}{v:V}{l:d3 W}{vs:d3 V}(h:WR K H x v)(r:cF K H l vs):cF K H (x::l) (v::vs):=by simp![cF];show#[v,vs,rfl,h,r]
def WR.v:WR K H (.v x) x:=by simp![WR]
def WR.eq {x v:V}(h:WR K H (.v x) v):v=x:=by simpa only[WR] using h
def WR.tup {K:RZ}{H:Hp}{l:d3 W}{v:V}(h:WR K H (.tup l) v):cJ λa vs=>dh (v= .ref a) (i9 K H a vs) (cF K H l vs):=by simpa only[WR] using h
def WR.Po (h:i9 K H a vs)(r:cF K H l vs):WR K H (.tup l) (.ref a):=by simp![WR];show#[a,vs,rfl,h,r]
def KR (K:RZ)(H:Hp){κ:Type}:d3 (κ×W) ->d3 (κ×V) ->Prop:=Paired λp q=>p.1=q.1 /\ WR K H p.2 q.2
theorem KR.ts {K:RZ}{H H':Hp}{κ:Type}(a:bi H H'): ∀ {l:d3 (κ×W)} {vs:d3 (κ×V)},KR K H l vs ->KR K H' l vs
 | _,_, .nil=> .nil
 | _,_, .cons ⟨e,r⟩ t=> .cons #[e,r.ts a] (KR.ts a t)
mutual
def nK:NK ->W
 | .key (.inl i)=>wi i
 | .key (.inr x)=>ws x
 | .seq l=> .tup (vS l)
def vS:d3 NK ->d3 W
 | []=> []
 | k::r=>nK k::vS r
end
def Hk (K:RZ)(H:Hp)(k:NK)(b:gi):Prop:=WR K H (nK k) (.ref b) /\ fP k<=7
def NR (K:RZ)(H:Hp):d3 (NK×W) ->d3 (NK×gi×V) ->Prop:=Paired λp q=>p.1=q.1 /\ Hk K H q.1 q.2.1 /\ WR K H p.2 q.2.2
theorem NR.ts {K:RZ}{H H':Hp}(a:bi H H'): ∀ {l:d3 (NK×W)} {vs:d3 (NK×gi×V)},NR K H l vs ->NR K H' l vs
 | _,_, .nil=> .nil
 | _,_, .cons ⟨e,r,z⟩ t=> .cons #[e,#[r.1.ts a,r.2],z.ts a] (NR.ts a t)
def MR (K:RZ)(H:Hp)(a:gi):MO ->Prop
 | .lst l=> ∃vs,H a=some (.lst vs) /\ cF K H l vs
 | .dK kvs=> ∃ks,H a=some (.dK ks) /\ KR K H kvs ks
 | .ins C dx fs=> ∃ks,H a=some (.ins C dx ks) /\ KR K H fs ks
 | .exc C=>H a=some (.ext (TR a C))
 | .fz o ks kvs=>H a=some (.jM o (.dK ks)) /\ KR K H kvs ks
 | .dN kvs=> ∃ks,H a=some (.dN ks) /\ NR K H kvs ks
 | .fN o ks kvs=>H a=some (.jM o (.dN ks)) /\ NR K H kvs ks
def MR.some (h:MR K H a o): ∃u,H a=some u:=by
 cases o with
 | lst l=>let⟨_,e,_⟩:=h;show#[_,e]
 | dK l=>let⟨_,e,_⟩:=h;show#[_,e]
 | ins C d l=>let⟨_,e,_⟩:=h;show#[_,e]
 | exc C=>show#[_,h]
 | fz o l l2=>show#[_,h.1]
 | dN l=>let⟨_,e,_⟩:=h;show#[_,e]
 | fN o l l2=>show#[_,h.1]
def MR.mv (t:bi H H')(e:H' a=H a)(h:MR K H a o):MR K H' a o:=by
 cases o with
 | lst l=>let⟨vs,e1,r⟩:=h;show#[vs,e.trans e1,r.ts t]
 | dK l=>let⟨vs,e1,r⟩:=h;show#[vs,e.trans e1,r.ts t]
 | ins C d l=>let⟨vs,e1,r⟩:=h;show#[vs,e.trans e1,r.ts t]
 | exc C=>show e.trans h
 | fz o l l2=>show#[e.trans h.1,h.2.ts t]
 | dN l=>let⟨vs,e1,r⟩:=h;show#[vs,e.trans e1,r.ts t]
 | fN o l l2=>show#[e.trans h.1,h.2.ts t]
def f_ (K:RZ)(M:Mp)(H:Hp):Prop:= ∀a o,M a=some o ->MR K H a o
def f_.fresh (h:f_ K M H)(hp:H p=none):M p=none:=by
 cases e:M p with
 | none=>rfl
 | some o=>let⟨u,hu⟩:=(h p o e).some;rw[hp] at hu;cases hu
theorem f_.new (h:f_ K M H)(hp:H p=none):f_ K M (cO H p u):=λa o e=>by have:=h a o e;let⟨w,hw⟩:=this.some;show this.mv (L2.ff.ts (bU hp)) (bC (dc hw hp))
theorem ve (h:H a=some o)(hn: ∀xs,o≠ .tup xs)(hf: ∀b xs,o≠ .jM b (.tup xs)):bi H (cO H a u):=λb xs r=>by
 have nb:b≠a:=λe=>by subst e;obtain r | ⟨w,r⟩:=r;rw[h] at r;cases r;show hn _ rfl;rw[h] at r;cases r;show hf _ _ rfl
 unfold Rd;rw[bC nb];show r
theorem f_.put (h:f_ K M H)(t:bi H (cO H a u))(new:MR K (cO H a u) a o):f_ K (um M a o) (cO H a u):=λb x e=>by by_cases hb:b=a;subst hb;rw[az] at e;cases e;show new;rw[aD hb] at e;show(h b x e).mv t (bC hb)
theorem f_.oG (h:f_ K M H)(hp:H p=none)(r:cF K H l vs):f_ K (um M p (.lst l)) (cO H p (.lst vs)):=h.put (L2.ff.ts (bU hp)) #[vs,bI,r.ts (L2.ff.ts (bU hp))]
theorem nD (h:H a=some (.lst xs)):bi H (cO H a u):=ve h (λ_ z=>nomatch z) λ_ _ z=>nomatch z
theorem l7 (h:H a=some (.dK xs)):bi H (cO H a u):=ve h (λ_ z=>nomatch z) λ_ _ z=>nomatch z
theorem ML (h:H a=some (.ins C d xs)):bi H (cO H a u):=ve h (λ_ z=>nomatch z) λ_ _ z=>nomatch z
theorem f_.putL (h:f_ K M H)(e:H a=some (.lst xs))(r:cF K H l vs):f_ K (um M a (.lst l)) (cO H a (.lst vs)):=h.put (nD e) #[vs,bI,r.ts (nD e)]
theorem f_.putD (h:f_ K M H)(e:H a=some (.dK xs))(r:KR K H l vs):f_ K (um M a (.dK l)) (cO H a (.dK vs)):=h.put (l7 e) #[vs,bI,KR.ts (l7 e) r]
def Hi (K:RZ)(H:Hp)(ρ:du)(σ:St):Prop:=ρ.length=σ.length /\ ∀ (i:Nat) x,ρ[i]? =some (some x) -> ∃v,σ[i]? =some (some v) /\ WR K H x v
theorem Hi.ts (t:bi H H')(h:Hi K H ρ σ):Hi K H' ρ σ:=#[h.1,λi x e=>let ⟨v,a,r⟩:=h.2 i x e;#[v,a,r.ts t]]
structure Ok (K:PySem.W.Frag)(ρ:du)(M:Mp)(σ:St)(H:Hp):Prop where
 env:Hi K H ρ σ
 hp:f_ K M H
theorem Ok.mv (o:Ok K ρ M σ H)(t:bi H H')(m:f_ K M' H'):Ok K ρ M' σ H':=#[o.env.ts t,m]
def Hi.set (h:Hi K H ρ σ)(i:Nat)(r:WR K H x v):Hi K H (ρ.set i (some x)) (σ.set i (some v)):=by exact#[by simp[h.1],λj y e=> ?_];rw[List.getElem?_set] at e ⊢;split at e;rename_i hj;rw[ap hj];split at e;rename_i fE;rw[ap (by rw[<- h.1];show fE)];cases e;show#[v,rfl,r];cases e;rename_i hj;rw[ai hj];show h.2 j y e
section
variable (K:RZ)
class IE (t:TE) (w:outParam WE):Prop where
 imp: ∀ (ρ:du) (M:Mp) (σ:St) (H:Hp) (q:WK) (Q:VK),Ok K ρ M σ H ->w ρ M q ->(∀x M' v H',q x M' ->bi H H' ->f_ K M' H' ->WR K H' x v ->Q v H') ->t σ H Q
class IT (t:TT) (w:outParam WT):Prop where
 imp: ∀ (ρ:du) (M:Mp) (σ:St) (H:Hp) (q:Bool ->Mp ->Prop) (Q:Bool ->Hp ->Prop),Ok K ρ M σ H ->w ρ M q ->(∀b M' H',q b M' ->bi H H' ->f_ K M' H' ->Q b H') ->t σ H Q
class IA (t:TA) (w:outParam WA):Prop where
 imp: ∀ (ρ:du) (M:Mp) (σ:St) (H:Hp) (q:List W ->Mp ->Prop) (Q:List V ->Hp ->Prop),Ok K ρ M σ H ->w ρ M q ->(∀x M' v H',q x M' ->bi H H' ->f_ K M' H' ->cF K H' x v ->Q v H') ->t σ H Q
class IG (t:TG) (w:outParam WG):Prop where
 imp: ∀ (x:W) (v:V) (ρ:du) (M:Mp) (σ:St) (H:Hp) (q:du ->Mp ->Prop) (Q:St ->Hp ->Prop),Ok K ρ M σ H ->WR K H x v ->w x ρ M q ->(∀ρ' M' σ' H',q ρ' M' ->bi H H' ->Ok K ρ' M' σ' H' ->Q σ' H') ->t v σ H Q
class Vv (t:Hj) (w:outParam J5):Prop where
 imp: ∀ (x:List W) (v:List V) (ρ:du) (M:Mp) (σ:St) (H:Hp) (q:du ->Mp ->Prop) (Q:St ->Hp ->Prop),Ok K ρ M σ H ->cF K H x v ->w x ρ M q ->(∀ρ' M' σ' H',q ρ' M' ->bi H H' ->Ok K ρ' M' σ' H' ->Q σ' H') ->t v σ H Q
structure uU (H:Hp)(D':iU)(D:xi):Prop where
 nx: ∀ρ' M' σ' H',D'.nx ρ' M' ->bi H H' ->Ok K ρ' M' σ' H' ->D.nx σ' H'
 rt: ∀x M' v H',D'.rt x M' ->bi H H' ->f_ K M' H' ->WR K H' x v ->D.rt v H'
 bk: ∀ρ' M' σ' H',D'.bk ρ' M' ->bi H H' ->Ok K ρ' M' σ' H' ->D.bk σ' H'
 ct: ∀ρ' M' σ' H',D'.ct ρ' M' ->bi H H' ->Ok K ρ' M' σ' H' ->D.ct σ' H'
class IS (t:TS) (w:outParam WS):Prop where
 imp: ∀ (ρ:du) (M:Mp) (σ:St) (H:Hp) (D':iU) (D:xi),Ok K ρ M σ H ->w D' ρ M ->uU K H D' D ->t D σ H
class IR (r:R2) (w:outParam xo):Prop where
 imp: ∀ (x y:W) (v u:V) (M:Mp) (H:Hp) (q:WK) (Q:VK),f_ K M H ->WR K H x v ->WR K H y u ->w x y M q ->(∀x M' v H',q x M' ->bi H H' ->f_ K M' H' ->WR K H' x v ->Q v H') ->r v u H Q
class IU (r:V ->Hp ->VK ->Prop) (w:outParam (W ->Mp ->WK ->Prop)):Prop where
 imp: ∀ (x:W) (v:V) (M:Mp) (H:Hp) (q:WK) (Q:VK),f_ K M H ->WR K H x v ->w x M q ->(∀x M' v H',q x M' ->bi H H' ->f_ K M' H' ->WR K H' x v ->Q v H') ->r v H Q
class IC (r:List V ->Hp ->VK ->Prop) (w:outParam zc):Prop where
 imp: ∀ (x:List W) (v:List V) (M:Mp) (H:Hp) (q:WK) (Q:VK),f_ K M H ->cF K H x v ->w x M q ->(∀x M' v H',q x M' ->bi H H' ->f_ K M' H' ->WR K H' x v ->Q v H') ->r v H Q
end
theorem uU.mv (e:uU K H D' D)(t:bi H H'):uU K H' D' D:=#[λa b c d h s=>e.nx a b c d h (t.trans s),λa b c d h s=>e.rt a b c d h (t.trans s),λa b c d h s=>e.bk a b c d h (t.trans s),λa b c d h s=>e.ct a b c d h (t.trans s)]
end WL
namespace WL
open PySem L2
section
variable {K:RZ}
def gw (i:Nat):WE:=λρ M q=>match ρ[i]? with
 | some (some x)=>q x M
 | _=>False
def Ms (h:gw i ρ M q): ∃x,ρ[i]? =some (some x) /\ q x M:=by unfold gw at h;split at h;rename_i x e;show#[x,e,h];show h.elim
instance {i:Nat}:IE K (HC i) (gw i) where
 imp:=λρ M σ H q Q o h k=>let ⟨x,e,h⟩:=Ms h;let ⟨v,e',r⟩:=o.env.2 i x e;#[v,e',k x M v H h (bi.refl H) o.hp r]
def wC (x:W):WE:=λ_ M q=>q x M
instance {v:V}:IE K (tC v) (wC (.v v)) where
 imp:=λρ M σ H q Q o h k=>k (.v v) M v H h (bi.refl H) o.hp WR.v
def _q (r:xo)(a b:WE):WE:=λρ M q=>a ρ M λx M1=>b ρ M1 λy M2=>r x y M2 q
instance {r:R2}{w:xo}{ta tb:TE}{a b:WE} [ir:IR K r w] [ia:IE K ta a] [ib:IE K tb b]:IE K (QI r ta tb) (_q w a b) where
 imp:=λρ M σ H q Q o h k=>ia.imp ρ M σ H _ _ o h λx M1 v H1 h1 t1 m1 r1=>ib.imp ρ M1 σ H1 _ _ (o.mv t1 m1) h1 λy M2 u H2 h2 t2 m2 r2=>ir.imp x y v u M2 H2 _ _ m2 (r1.ts t2) r2 h2 λz M3 v3 H3 h3 t3 m3 r3=>k z M3 v3 H3 h3 ((t1.trans t2).trans t3) m3 r3
def _k (r:W ->Mp ->WK ->Prop)(a:WE):WE:=λρ M q=>a ρ M λx M1=>r x M1 q
instance {r:V ->Hp ->VK ->Prop}{w:W ->Mp ->WK ->Prop}{ta:TE}{a:WE} [ir:IU K r w] [ia:IE K ta a]:IE K (_H r ta) (_k w a) where
 imp:=λρ M σ H q Q o h k=>ia.imp ρ M σ H _ _ o h λx M1 v H1 h1 t1 m1 r1=>ir.imp x v M1 H1 _ _ m1 r1 h1 λz M3 v3 H3 h3 t3 m3 r3=>k z M3 v3 H3 h3 (t1.trans t3) m3 r3
def wI (C:Int ->Int ->Prop)(g:Int ->Int ->V):xo:=λx y M q=> ∃i j,x=wi i /\ y=wi j /\ C i j /\ q (.v (g i j)) M
def _y (g:Int ->Int ->V):xo:=λx y M q=>cJ λi j=>dh (x=wi i) (y=wi j) (q (.v (g i j)) M)
def wU (g:Int ->V):W ->Mp ->WK ->Prop:=λx M q=> ∃i,x=wi i /\ q (.v (g i)) M
instance {C:Int ->Int ->Prop}{g:Int ->Int ->V}:IR K (rI C g) (wI C g) where
 imp:=by rintro x y v u M H q Q m r1 r2 ⟨i,j,rfl,rfl,c,h⟩ k;show#[i,j,r1.eq,r2.eq,c,k _ M _ H h (bi.refl H) m WR.v]
instance {g:Int ->Int ->V}:IR K (Lg g) (_y g) where
 imp:=by rintro x y v u M H q Q m r1 r2 ⟨i,j,rfl,rfl,h⟩ k;show#[i,j,r1.eq,r2.eq,k _ M _ H h (bi.refl H) m WR.v]
instance {g:Int ->V}:IU K (rU g) (wU g) where
 imp:=by rintro x v M H q Q m r1 ⟨i,rfl,h⟩ k;show#[i,r1.eq,k _ M _ H h (bi.refl H) m WR.v]
def V1:xo:=λx y M q=>cJ λa b=>fh (x= .v a) (y= .v b) (HL a b=true) (q (wb (decide (a=b))) M)
def _t:xo:=λx y M q=>cJ λa b=>fh (x= .v a) (y= .v b) (HL a b=true) (q (wb (!decide (a=b))) M)
instance:IR K _T V1 where
 imp:=by rintro x y v u M H q Q m r1 r2 ⟨i,j,rfl,rfl,c,h⟩ k;cases r1.eq;cases r2.eq;show#[c,k _ M _ H h (bi.refl H) m WR.v]
instance:IR K _S _t where
 imp:=by rintro x y v u M H q Q m r1 r2 ⟨i,j,rfl,rfl,c,h⟩ k;cases r1.eq;cases r2.eq;show#[c,k _ M _ H h (bi.refl H) m WR.v]
def CZ (a:WE):WT:=λρ M q=>a ρ M λx M1=> ∃k,x=wb k /\ q k M1
instance {t:TE}{a:WE} [ia:IE K t a]:IT K (Dn t) (CZ a) where
 imp:=λρ M σ H q Q o h k=>ia.imp ρ M σ H _ _ o h λx M1 v H1 ⟨b,e,h1⟩ t1 m1 r1=>by subst e;show#[b,r1.eq,k b M1 H1 h1 t1 m1]
instance {t:TE}{a:WE} [ia:IE K t a]:IT K (tB t) (CZ a) where
 imp:=λρ M σ H q Q o h k=>ia.imp ρ M σ H _ _ o h λx M1 v H1 ⟨b,e,h1⟩ t1 m1 r1=>by subst e;show#[b,r1.eq,k b M1 H1 h1 t1 m1]
def Qr (a b:WT):WT:=λρ M q=>a ρ M λc M1=>if c=true then b ρ M1 q else q false M1
def _o (a b:WT):WT:=λρ M q=>a ρ M λc M1=>if c=true then q true M1 else b ρ M1 q
def Qf (a:WT):WT:=λρ M q=>a ρ M λc M1=>q (!c) M1
instance {t u:TT}{a b:WT} [ia:IT K t a] [ib:IT K u b]:IT K (QP t u) (Qr a b) where
 imp:=λρ M σ H q Q o h k=>ia.imp ρ M σ H _ _ o h λc M1 H1 h1 t1 m1=>by
  cases c with
  | true=>simp![bR] at h1 ⊢;show ib.imp ρ M1 σ H1 _ _ (o.mv t1 m1) h1 λb M2 H2 h2 t2 m2=>k b M2 H2 h2 (t1.trans t2) m2
  | false=>simp![ay,be] at h1 ⊢;show k _ M1 H1 h1 t1 m1
instance {t u:TT}{a b:WT} [ia:IT K t a] [ib:IT K u b]:IT K (_J t u) (_o a b) where
 imp:=λρ M σ H q Q o h k=>ia.imp ρ M σ H _ _ o h λc M1 H1 h1 t1 m1=>by
  cases c with
  | false=>simp![ay,be] at h1 ⊢;show ib.imp ρ M1 σ H1 _ _ (o.mv t1 m1) h1 λb M2 H2 h2 t2 m2=>k b M2 H2 h2 (t1.trans t2) m2
  | true=>simp![bR] at h1 ⊢;show k _ M1 H1 h1 t1 m1
instance {t:TT}{a:WT} [ia:IT K t a]:IT K (QJ t) (Qf a) where
 imp:=λρ M σ H q Q o h k=>ia.imp ρ M σ H _ _ o h λc M1 H1 h1 t1 m1=>k _ M1 H1 h1 t1 m1
def Kt (a b:WE):WE:=λρ M q=>a ρ M λx M1=> ∃c,x=wb c /\ if c=true then b ρ M1 q else q (wb false) M1
def Km (a:WE):WE:=λρ M q=>a ρ M λx M1=> ∃c,x=wb c /\ q (wb (!c)) M1
instance {t u:TE}{a b:WE} [ia:IE K t a] [ib:IE K u b]:IE K (KQ t u) (Kt a b) where
 imp:=λρ M σ H q Q o h k=>ia.imp ρ M σ H _ _ o h λx M1 v H1 ⟨c,e,h1⟩ t1 m1 r1=>by
  subst e;exact#[c,r1.eq,?_];cases c with
  | true=>simp![bR] at h1 ⊢;show ib.imp ρ M1 σ H1 _ _ (o.mv t1 m1) h1 λb M2 v H2 h2 t2 m2 r2=>k b M2 v H2 h2 (t1.trans t2) m2 r2
  | false=>simp![ay,be] at h1 ⊢;show k _ M1 _ H1 h1 t1 m1 WR.v
instance {t:TE}{a:WE} [ia:IE K t a]:IE K (KC t) (Km a) where
 imp:=λρ M σ H q Q o h k=>ia.imp ρ M σ H _ _ o h λx M1 v H1 ⟨c,e,h1⟩ t1 m1 r1=>by subst e;show#[c,r1.eq,k _ M1 _ H1 h1 t1 m1 WR.v]
def Dc (r r':xo)(a b c:WE):WE:=λρ M q=>a ρ M λx M1=>b ρ M1 λy M2=>r x y M2 λz M3=> ∃k,z=wb k /\ if k=true then c ρ M3 λy' M4=>r' y y' M4 λz' M5=>q z' M5 else q (wb false) M3
def Qg:WA:=λ_ M q=>q [] M
def Kq (a:WE)(r:WA):WA:=λρ M q=>a ρ M λx M1=>r ρ M1 λxs M2=>q (x::xs) M2
instance:IA K MS Qg where
 imp:=λρ M σ H q Q o h k=>k [] M [] H h (bi.refl H) o.hp cF.nil
instance {t:TE}{u:TA}{a:WE}{b:WA} [ia:IE K t a] [ib:IA K u b]:IA K (Dz t u) (Kq a b) where
 imp:=λρ M σ H q Q o h k=>ia.imp ρ M σ H _ _ o h λx M1 v H1 h1 t1 m1 r1=>ib.imp ρ M1 σ H1 _ _ (o.mv t1 m1) h1 λy M2 u H2 h2 t2 m2 r2=>k _ M2 _ H2 h2 (t1.trans t2) m2 (cF.cons (r1.ts t2) r2)
def Qb (a:WA):WE:=λρ M q=>a ρ M λxs M1=>xs.length<=sizeLine /\ q (.tup xs) M1
def Qi (a:WA):WE:=λρ M q=>a ρ M λxs M1=>xs.length<=sizeLine /\ ∀p,M1 p=none ->q (wr p) (um M1 p (.lst xs))
instance {t:TA}{a:WA} [ia:IA K t a]:IE K (QG t) (Qb a) where
 imp:=λρ M σ H q Q o h k=>ia.imp ρ M σ H _ _ o h λx M1 v H1 ⟨hl,h1⟩ t1 m1 r1=>#[by rw[r1.length];show hl,λp hp=>k _ M1 _ _ h1 (t1.trans (L2.ff.ts (bU hp))) (m1.new hp) (WR.Po (i9.of bI) (r1.ts (L2.ff.ts (bU hp))))]
instance {t:TA}{a:WA} [ia:IA K t a]:IE K (QM t) (Qi a) where
 imp:=λρ M σ H q Q o h k=>ia.imp ρ M σ H _ _ o h λx M1 v H1 ⟨hl,h1⟩ t1 m1 r1=>#[by rw[r1.length];show hl,λp hp=>k _ _ _ _ (h1 p (m1.fresh hp)) (t1.trans (L2.ff.ts (bU hp))) (m1.oG hp r1) WR.v]
def Qj:xo:=λx y M q=>jQ λa l i u=>ja (x=wr a) (y=wi i) (M a=some (.lst l)) (lX l i=some u) (q u M)
def My:xo:=λx y M q=>gv λl i u=>fh (x= .tup l) (y=wi i) (lX l i=some u) (q u M)
def cF.lX (r:cF K H l vs)(e:lX l i=some u): ∃v,L2.lX vs i=some v /\ WR K H u v:=by
 unfold L2.lX at e ⊢;rw[r.length];cases h:u4 l.length i with
 | none=>rw[h] at e;cases e
 | some j=>rw[h] at e;show r.at e
instance:IR K (Rg K) Qj where
 imp:=by rintro x y v u M H q Q m r1 r2 ⟨a,l,i,z,rfl,rfl,hl,e,h⟩ k;let⟨vs,hv,r⟩:=m a _ hl;let⟨v',e',r'⟩:=r.lX e;show#[a,vs,i,v',r1.eq,r2.eq,gC.of hv,e',k _ M _ H h (bi.refl H) m r']
instance:IR K (Rf K) My where
 imp:=by rintro x y v u M H q Q m r1 r2 ⟨l,i,z,rfl,rfl,e,h⟩ k;let⟨a,vs,rfl,hv,r⟩:=r1.tup;let⟨v',e',r'⟩:=r.lX e;show#[a,vs,i,v',rfl,r2.eq,hv,e',k _ M _ H h (bi.refl H) m r']
def yX (xs:d3 W)(lo hi:eB Int):d3 W:=(xs.drop (HT.pM xs.length 0 lo)).take (HT.pM xs.length xs.length hi - HT.pM xs.length 0 lo)
def cF.cut (lo hi:eB Int)(r:cF K H l vs):cF K H (yX l lo hi) (wV vs lo hi):=by unfold yX wV;rw[r.length];show(r.drop _).take _
end
abbrev WO:=du ->Mp ->(eB Int ->Mp ->Prop) ->Prop
class IO (K:PySem.W.Frag) (t:TO) (w:outParam WO):Prop where
 imp: ∀ (ρ:du) (M:Mp) (σ:St) (H:Hp) (q:Option Int ->Mp ->Prop) (Q:Option Int ->Hp ->Prop),Ok K ρ M σ H ->w ρ M q ->(∀b M' H',q b M' ->bi H H' ->f_ K M' H' ->Q b H') ->t σ H Q
abbrev Tx:=W ->eB Int ->eB Int ->Mp ->WK ->Prop
class ISl (K:PySem.W.Frag) (r:V ->Option Int ->Option Int ->Hp ->VK ->Prop) (w:outParam Tx):Prop where
 imp: ∀ (x:W) (v:V) (lo hi:Option Int) (M:Mp) (H:Hp) (q:WK) (Q:VK),f_ K M H ->WR K H x v ->w x lo hi M q ->(∀x M' v H',q x M' ->bi H H' ->f_ K M' H' ->WR K H' x v ->Q v H') ->r v lo hi H Q
section
variable {K:RZ}
def zl:WO:=λ_ M q=>q none M
def Kl (a:WE):WO:=λρ M q=>a ρ M λx M1=> ∃i,x=wi i /\ q (some i) M1
instance:IO K zx zl where
 imp:=λρ M σ H q Q o h k=>k _ M H h (bi.refl H) o.hp
instance {t:TE}{a:WE} [ia:IE K t a]:IO K (KA t) (Kl a) where
 imp:=λρ M σ H q Q o h k=>ia.imp ρ M σ H _ _ o h λx M1 v H1 ⟨i,e,h1⟩ t1 m1 r1=>by subst e;show#[i,r1.eq,k _ M1 H1 h1 t1 m1]
def _m (r:Tx)(a:WE)(lo hi:WO):WE:=λρ M q=>a ρ M λx M1=>lo ρ M1 λl M2=>hi ρ M2 λu M3=>r x l u M3 q
instance {r:V ->eB Int ->eB Int ->Hp ->VK ->Prop}{w:Tx}{t:TE}{tl th:TO}{a:WE}{lo hi:WO} [ir:ISl K r w] [ia:IE K t a] [il:IO K tl lo] [ih:IO K th hi]:IE K (_I r t tl th) (_m w a lo hi) where
 imp:=λρ M σ H q Q o h k=>ia.imp ρ M σ H _ _ o h λx M1 v H1 h1 t1 m1 r1=>il.imp ρ M1 σ H1 _ _ (o.mv t1 m1) h1 λl M2 H2 h2 t2 m2=>ih.imp ρ M2 σ H2 _ _ (o.mv (t1.trans t2) m2) h2 λu M3 H3 h3 t3 m3=>ir.imp x v l u M3 H3 _ _ m3 (r1.ts (t2.trans t3)) h3 λy M4 v4 H4 h4 t4 m4 r4=>k y M4 v4 H4 h4 (((t1.trans t2).trans t3).trans t4) m4 r4
def Qd:Tx:=λx lo hi M q=>cJ λa l=>dh (x=wr a) (M a=some (.lst l)) (∀p,M p=none ->q (wr p) (um M p (.lst (yX l lo hi))))
instance:ISl K (Rb K) Qd where
 imp:=by rintro x v lo hi M H q Q m r1 ⟨a,l,rfl,hl,h⟩ k;let⟨vs,hv,r⟩:=m a _ hl;show#[a,vs,r1.eq,gC.of hv,λp hp=>k _ _ _ _ (h p (m.fresh hp)) (L2.ff.ts (bU hp)) (m.oG hp (r.cut lo hi)) WR.v]
def _C (r:zc)(a:WA):WE:=λρ M q=>a ρ M λxs M1=>r xs M1 q
instance {r:d3 V ->Hp ->VK ->Prop}{w:zc}{t:TA}{a:WA} [ir:IC K r w] [ia:IA K t a]:IE K (Wd r t) (_C w a) where
 imp:=λρ M σ H q Q o h k=>ia.imp ρ M σ H _ _ o h λx M1 v H1 h1 t1 m1 r1=>ir.imp x v M1 H1 _ _ m1 r1 h1 λy M4 v4 H4 h4 t4 m4 r4=>k y M4 v4 H4 h4 (t1.trans t4) m4 r4
abbrev kn:=d3 W ->Mp ->WK ->Prop
def l4 (K:RZ)(p:kn):Sp:=λvs H Q _=>gv λ(xs:d3 W) (M:Mp) (q:WK)=>fh (cF K H xs vs) (f_ K M H) (p xs M q) (∀x M' v H',q x M' ->bi H H' ->f_ K M' H' ->WR K H' x v ->Q v H')
def Ks (p:kn)(a:WA):WE:=λρ M q=>a ρ M λxs M1=>p xs M1 q
instance {p:kn}{E:XK}{t:TA}{a:WA} [ia:IA K t a]:IE K (zA (l4 K p) [] E t) (Ks p a) where
 imp:=λρ M σ H q Q o h k=>ia.imp ρ M σ H _ _ o h λx M1 v H1 h1 t1 m1 r1=>#[x,M1,q,by rw[List.append_nil];show r1,m1,h1,λy M4 v4 H4 h4 t4 m4 r4=>k y M4 v4 H4 h4 (t1.trans t4) m4 r4]
def okW (F:CP K x qual st f fd)(S:iV N ps (bD st))(len: ∀vs M q,p vs M q ->vs.length=ps.length)(mR: ∀ (cdv:d4) (A:Around) (outer:d3 Env) (s:d5) (H:Hp) (E:XK),fU k (A.deeper (PyProof.Rows.envOfC qual (bD st) s.heap.objs.size f cdv)) ->cJ λt w'=>dh (xp (qw jc P w K mg base N qual (bD st) f cdv A outer s H E).NE (eU st) t) (IS K t w') (∀vs M q,p vs M q ->w' {nx:=λ_ M'=>q wn M',rt:=q} (vs.map some++List.replicate (N.length - vs.length) none) M)): d8 P w K mg base jc (k+1) f fd ps (l4 K p):=by
 exact CP.ok F S (λvs H Q E ⟨xs,M,q,r,m,h,_⟩=>by rw[r.length];show len xs M q h) λcdv A outer s H vs Q E hr h=> ?_;let⟨t,w',h1,h2,h3⟩:=mR cdv A outer s H E hr;let⟨xs,M,q,r,m,h,k'⟩:=h;exact#[t,h1,h2.imp _ M _ H _ _ #[#[?_,λi x e=> ?_],m] (h3 xs M q h) #[λρ' M' σ' H' h ts o=>k' _ M' _ H' h ts o.hp WR.v,λx M' v H' h ts m' r'=>k' x M' v H' h ts m' r',λ_ _ _ _ h=>h.elim,λ_ _ _ _ h=>h.elim]];have:=r.length;simp[L2.start,this];have hl:=r.length;unfold L2.start;by_cases hi:i<xs.length;rw[bg ⇑hi,aB] at e;cases ex:xs[i]? with
 | none=>rw[ex] at e;cases e
 | some y=>rw[ex] at e;cases e;let⟨v,hv,rv⟩:=r.at ex;exact#[v,?_,rv];rw[bg (by simp;lia),aB,hv];rfl
 rw[aY ⇑hi,List.getElem?_replicate] at e;split at e<;>cases e
def Rc (K:RZ):d3 V ->Hp ->VK ->Prop:=λxs H Q=>cJ λp ys=>dh (xs= [.ref p]) (gC K H p ys \/ i9 K H p ys) (Q (.int ys.length) H)
theorem h_:gL X (.builtin "len") (Rc X.K):=uP
def Mx:zc:=λxs M q=>(cJ λa l=>dh (xs= [wr a]) (M a=some (.lst l)) (q (wi l.length) M)) \/ ∃l,xs= [.tup l] /\ q (wi l.length) M
def cF.one (h:cF K H [x] vs): ∃v,vs= [v] /\ WR K H x v:=by simp![cF] at h;let⟨v,t,rfl,h1,rfl⟩:=h;show#[v,rfl,h1]
def cF.two (h:cF K H [x,y] vs):cJ λv u=>dh (vs= [v,u]) (WR K H x v) (WR K H y u):=by simp![cF] at h;let⟨v,t,rfl,h1,u,t',rfl,h2,rfl⟩:=h;show#[v,u,rfl,h1,h2]
instance:IC K (Rc K) Mx where
 imp :=by
  rintro xs v M H q Q m r1 h k;rcases h with⟨a,l,rfl,hl,h⟩ | ⟨l,rfl,h⟩
  let⟨v,rfl,r⟩:=r1.one;cases r.eq;let⟨vs,hv,rr⟩:=m a _ hl;exact#[a,vs,rfl, .inl (gC.of hv),k _ M _ H h (bi.refl H) m ?_];rw[rr.length];show WR.v;let⟨v,rfl,r⟩:=r1.one;let⟨a,vs,rfl,hv,rr⟩:=r.tup;exact#[a,vs,rfl, .inr hv,k _ M _ H h (bi.refl H) m ?_];rw[rr.length];show WR.v
def Rl:d3 V ->Hp ->VK ->Prop:=λxs H Q=> ∃i,xs= [.int i] /\ Q (.int (if i<0 then -i else i)) H
theorem sY:gL X (.builtin "abs") Rl:=Gq
def Qt:zc:=λxs M q=> ∃i,xs= [wi i] /\ q (wi (if i<0 then -i else i)) M
instance:IC K Rl Qt where
 imp:=by rintro xs v M H q Q m r1 ⟨i,rfl,h⟩ k;let⟨v,rfl,r⟩:=r1.one;cases r.eq;show#[i,rfl,k _ M _ H h (bi.refl H) m WR.v]
def zR (K:RZ):d3 V ->Hp ->VK ->Prop:=λxs H Q=>cJ λp ys=>dh (xs= [.ref p]) (gC K H p ys \/ i9 K H p ys) (∀l,H l=none ->Q (.ref l) (cO H l (.lst ys)))
theorem lV:gL X (.type "list") (zR X.K):=uO
def tL:zc:=λxs M q=> ∃l,((∃a,xs= [wr a] /\ M a=some (.lst l)) \/ xs= [.tup l]) /\ ∀p,M p=none ->q (wr p) (um M p (.lst l))
instance:IC K (zR K) tL where
 imp :=by
  rintro xs v M H q Q m r1 ⟨l,hx,h⟩ k;rcases hx with⟨a,rfl,hl⟩ | rfl
  let⟨v,rfl,r⟩:=r1.one;cases r.eq;let⟨vs,hv,rr⟩:=m a _ hl;show#[a,vs,rfl, .inl (gC.of hv),λp hp=>k _ _ _ _ (h p (m.fresh hp)) (L2.ff.ts (bU hp)) (m.oG hp rr) WR.v];let⟨v,rfl,r⟩:=r1.one;let⟨a,vs,rfl,hv,rr⟩:=r.tup;show#[a,vs,rfl, .inr hv,λp hp=>k _ _ _ _ (h p (m.fresh hp)) (L2.ff.ts (bU hp)) (m.oG hp rr) WR.v]
def vD (K:RZ):d3 V ->Hp ->VK ->Prop:=λxs H Q=>cJ λp ys=>xs= [.ref p] /\ ((gC K H p ys /\ ∀l,H l=none ->Q (.ref l) (cO H l (.tup ys))) \/ (i9 K H p ys /\ Q (.ref p) H))
theorem ki:gL X (.type "tuple") (vD X.K):=rD
def u_:zc:=λxs M q=> ∃l,((∃a,xs= [wr a] /\ M a=some (.lst l)) \/ xs= [.tup l]) /\ q (.tup l) M
instance:IC K (vD K) u_ where
 imp :=by
  rintro xs v M H q Q m r1 ⟨l,hx,h⟩ k;rcases hx with⟨a,rfl,hl⟩ | rfl
  let⟨v,rfl,r⟩:=r1.one;cases r.eq;let⟨vs,hv,rr⟩:=m a _ hl;show#[a,vs,rfl, .inl #[gC.of hv,λp hp=>k _ M _ _ h (L2.ff.ts (bU hp)) (m.new hp) (WR.Po (i9.of bI) (rr.ts (L2.ff.ts (bU hp))))]];let⟨v,rfl,r⟩:=r1.one;let⟨a,vs,rfl,hv,rr⟩:=r.tup;show#[a,vs,rfl, .inr #[hv,k _ M _ H h (bi.refl H) m (WR.Po hv rr)]]
theorem cF.ints {H:Hp}: ∀ {ns:d3 Int} {vs:d3 V},cF K H (ns.map wi) vs ->vs=ns.map V.int
 | [],vs,h=>by simpa only[dB,cF] using h
 | n::r,vs,h=>by simp![aE,cF] at h;let⟨v,t,rfl,h1,h2⟩:=h;rw[cF.ints h2,h1.eq];rfl
theorem cF.ofInts {H:Hp}: ∀ (ns:d3 Int),cF K H (ns.map wi) (ns.map V.int)
 | []=>cF.nil
 | n::r=>cF.cons WR.v (cF.ofInts r)
def Ut (M:Mp):W ->eB d4
 | .v (.int _)=>some (.type "int")
 | .v (.bl _)=>some (.type "bool")
 | .v (.str _)=>some (.type "str")
 | .v .dY=>some (.type "NoneType")
 | .tup _=>some (.type "tuple")
 | .v (.ref a)=>match M a with
  | some (.lst _)=>some (.type "list")
  | _=>none
 | _=>none
def Qk (K:RZ):zc:=λxs M q=>jQ λx T t b=>fh (xs= [x, .v (.ty T)]) (Ut M x=some t) (W.kitOne K t (.type T)=some b) (q (wb b) M)
def MF (m:f_ K M H)(r:WR K H x v)(e:Ut M x=some t):Tz K H v t:=by
 cases x with
 | tup l=>let⟨a,vs,rfl,hv,rr⟩:=r.tup;cases e;show .tup hv
 | v y =>
  cases r.eq;cases v with
  | int i=>cases e;show .of (.int i)
  | bl i=>cases e;show .of (.bl i)
  | str i=>cases e;show .of (.str i)
  | dY=>cases e;show .of .dY
  | ref a=>
   simp![Ut] at e;cases ha:M a with
   | none=>rw[ha] at e;cases e
   | some o=>
    rw[ha] at e;cases o with
    | lst l=>cases e;let⟨vs,hv,_⟩:=m a _ ha;show .lst (gC.of hv)
    | dK l=>cases e
    | ins C d l=>cases e
    | exc C=>cases e
    | fz o l l2=>cases e
    | dN l=>cases e
    | fN o l l2=>cases e
  | y_ _=>cases e
  | AA _=>cases e
  | ty _=>cases e
instance:IC K (Rh K) (Qk K) where
 imp:=by rintro xs v M H q Q m r1 ⟨x,T,t,b,rfl,ht,e,h⟩ k;let⟨v,u,rfl,r,r'⟩:=r1.two;cases r'.eq;show#[v,T,t,b,rfl,MF m r ht,e,k _ M _ H h (bi.refl H) m WR.v]
end
section
variable {K:RZ}
abbrev WM:=W ->d3 W ->Mp ->WK ->Prop
class IM (K:PySem.W.Frag) (r:V ->List V ->Hp ->VK ->Prop) (w:outParam WM):Prop where
 imp: ∀ (x:W) (v:V) (ys:List W) (us:List V) (M:Mp) (H:Hp) (q:WK) (Q:VK),f_ K M H ->WR K H x v ->cF K H ys us ->w x ys M q ->(∀x M' v H',q x M' ->bi H H' ->f_ K M' H' ->WR K H' x v ->Q v H') ->r v us H Q
def IsL (M:Mp)(x:W):Prop:=cJ λa l=>x=wr a /\ M a=some (.lst l)
def IsL.ty (m:f_ K M H)(r:WR K H x v)(h:IsL M x):V' K "list" v H:=by let⟨a,l,rfl,hl⟩:=h;cases r.eq;let⟨vs,hv,_⟩:=m a _ hl;show .inl #[rfl,vs,gC.of hv]
def V3 (r:WM)(a:WE)(b:WA):WE:=λρ M q=>a ρ M λx M1=>IsL M1 x /\ b ρ M1 λxs M2=>r x xs M2 q
instance {r:V ->d3 V ->Hp ->VK ->Prop}{w:WM}{t:TE}{u:TA}{a:WE}{b:WA} [ir:IM K r w] [ia:IE K t a] [ib:IA K u b]:IE K (_K K "list" r t u) (V3 w a b) where
 imp:=λρ M σ H q Q o h k=>ia.imp ρ M σ H _ _ o h λx M1 v H1 ⟨hl,h1⟩ t1 m1 r1=>#[hl.ty m1 r1,ib.imp ρ M1 σ H1 _ _ (o.mv t1 m1) h1 λy M2 u H2 h2 t2 m2 r2=>ir.imp x v y u M2 H2 _ _ m2 (r1.ts t2) r2 h2 λz M3 v3 H3 h3 t3 m3 r3=>k z M3 v3 H3 h3 ((t1.trans t2).trans t3) m3 r3]
def zm:WM:=λx ys M q=>gv λa l y=>ja (x=wr a) (ys= [y]) (M a=some (.lst l)) (l.length<sizeLine) (q wn (um M a (.lst (l++ [y]))))
instance:IM K zS zm where
 imp:=by rintro x v ys us M H q Q m r1 r2 ⟨a,l,y,rfl,rfl,hl,hn,h⟩ k;cases r1.eq;let⟨u,rfl,r⟩:=r2.one;let⟨vs,hv,rr⟩:=m a _ hl;show#[a,vs,u,rfl,rfl,hv,by rw[rr.length];show hn,k _ _ _ _ h (nD hv) (m.putL hv (rr.snoc r)) WR.v]
def Qq:xo:=λx y M q=>jQ λa b l l'=>nh (x=wr a) (y=wr b) (M a=some (.lst l)) (M b=some (.lst l')) (l.length+l'.length<=sizeLine) (∀p,M p=none ->q (wr p) (um M p (.lst (l++l'))))
instance:IR K Rj Qq where
 imp:=by rintro x y v u M H q Q m r1 r2 ⟨a,b,l,l',rfl,rfl,hl,qe,hn,h⟩ k;cases r1.eq;cases r2.eq;let⟨vs,hv,rr⟩:=m a _ hl;let⟨Qu,rf,Lb⟩:=m b _ qe;show#[a,b,vs,Qu,rfl,rfl,hv,rf,by rw[rr.length,Lb.length];show hn,λp hp=>k _ _ _ _ (h p (m.fresh hp)) (L2.ff.ts (bU hp)) (m.oG hp (rr.append Lb)) WR.v]
def Hq (M:Mp):W ->Bool ->Prop
 | .v .dY,k=>k=false
 | .v (.bl b),k=>k=b
 | .v (.int i),k=>k=(i !=0)
 | .v (.str y),k=>y.length<=sizeLine /\ k=((y.length:Int) !=0)
 | .v (.ref a),k=>(∃l,M a=some (.lst l) /\ k= !l.isEmpty) \/ (∃l,M a=some (.dK l) /\ k= !l.isEmpty)
 | .tup l,k=>k= !l.isEmpty
 | _,_=>False
def Dm (K:RZ)(ta:TE):TT:=λσ H Q=>ta σ H λx H'=> ∃k,J6 K x H' k /\ Q k H'
theorem Bo (ha:PE X a ta)(he: ∀k_,isTrue a X.env k_=(do let v <- k_;standAt a.pos;holding [v] (truthy v)):=by intro _;rfl):PT X a (Dm X.K ta):=Ek ha he
def CY (a:WE):WT:=λρ M q=>a ρ M λx M1=> ∃k,Hq M1 x k /\ q k M1
def cF.isEmpty (r:cF K H l vs):vs.isEmpty=l.isEmpty:=by have:=r.length;cases l<;>cases vs<;>simp_all
def KR.isEmpty {vs:d3 (cf×V)}(r:KR K H l vs):vs.isEmpty=l.isEmpty:=by cases r<;>rfl
def Hq.ok (m:f_ K M H)(r:WR K H x v)(h:Hq M x k):J6 K v H k:=by
 cases x with
 | tup l=>let⟨a,vs,rfl,hv,rr⟩:=r.tup;show .inr (.inl #[vs,hv,by rw[rr.isEmpty];show h])
 | v y =>
  cases r.eq;cases v with
  | ref a=>
   rcases h with⟨l,hl,e⟩ | ⟨l,hl,e⟩
   let⟨vs,hv,rr⟩:=m a _ hl;show .inl #[vs,gC.of hv,by rw[rr.isEmpty];show e];let⟨vs,hv,rr⟩:=m a _ hl;show .inr (.inr #[vs,hv,by rw[rr.isEmpty];show e])
  | _=>first | show h | show(show False from h).elim
instance {t:TE}{a:WE} [ia:IE K t a]:IT K (Dm K t) (CY a) where
 imp:=λρ M σ H q Q o h k=>ia.imp ρ M σ H _ _ o h λx M1 v H1 ⟨b,hb,h1⟩ t1 m1 r1=>#[b,hb.ok m1 r1,k b M1 H1 h1 t1 m1]
def fD:cf ->W
 | .inl k=>wi k
 | .inr x=>ws x
def eX (kvs:d3 (cf×W))(k:cf):eB W:=(kvs.find? λkv=>decide (kv.1=k)).map (·.2)
def jf (kvs:d3 (cf×W))(k:cf)(v:W):d3 (cf×W):=if(kvs.any λkv=>decide (kv.1=k))=true then kvs.map (λkv=>if kv.1=k then(kv.1,v) else kv) else kvs++ [(k,v)]
def sL (kvs:d3 (cf×W))(k:cf):d3 (cf×W):=kvs.filter λkv=>decide (kv.1≠k)
theorem KR.keys {H:Hp}: ∀ {l:d3 (cf×W)} {vs:d3 (cf×V)},KR K H l vs ->vs.map (·.1)=l.map (·.1)
 | _,_, .nil=>rfl
 | _,_, .cons ⟨e,r⟩ t=>by rw[aE,aE,KR.keys t,e]
theorem KR.length {H:Hp}{κ:Type}: ∀ {l:d3 (κ×W)} {vs:d3 (κ×V)},KR K H l vs ->vs.length=l.length
 | _,_, .nil=>rfl
 | _,_, .cons _ t=>by rw[aK,aK,KR.length t]
theorem KR.val {H:Hp}(k:cf): ∀ {l:d3 (cf×W)} {vs:d3 (cf×V)},KR K H l vs ->(eX l k=none /\ gN vs k=none) \/ cJ λx v=>dh (eX l k=some x) (gN vs k=some v) (WR K H x v)
 | _,_, .nil=> .inl #[rfl,rfl]
 | (k1,x)::l,(k2,v)::vs, .cons ⟨e,r⟩ t=>by have e:k1=k2:=e;subst e;unfold eX gN;rw[br,br];by_cases hk:k1=k;simp![hk,decide_true];show .inr #[x,v,rfl,rfl,r];simp![hk,decide_false];show KR.val k t
theorem KR.map {H:Hp}{k:cf}{x:W}{v:V}(rx:WR K H x v): ∀ {l:d3 (cf×W)} {vs:d3 (cf×V)},KR K H l vs ->KR K H (l.map (λkv=>if kv.1=k then(kv.1,x) else kv)) (vs.map (λkv=>if kv.1=k then(kv.1,v) else kv))
 | _,_, .nil=> .nil
 | (k1,y)::l,(k2,u)::vs, .cons ⟨e,r⟩ t=>by have e:k1=k2:=e;subst e;rw[aE,aE];exact .cons ?_ (KR.map rx t);by_cases hk:k1=k;rw[ap hk,ap hk];show#[rfl,rx];rw[ai hk,ai hk];show#[rfl,r]
theorem KR.append {H:Hp}{k:cf}{x:W}{v:V}(rx:WR K H x v): ∀ {l:d3 (cf×W)} {vs:d3 (cf×V)},KR K H l vs ->KR K H (l++ [(k,x)]) (vs++ [(k,v)])
 | _,_, .nil=> .cons #[rfl,rx] .nil
 | _,_, .cons r t=> .cons r (KR.append rx t)
def KR.put (rx:WR K H x v)(r:KR K H l vs):KR K H (jf l k x) (f' vs k v):=by
 have ek:(l.any λkv=>decide (kv.1=k))=vs.any λkv=>decide (kv.1=k):=by
  have:=r.keys;have e1:(l.any λkv=>decide (kv.1=k))=(l.map (·.1)).any λy=>decide (y=k):=by rw[List.any_map];rfl
  have e2:(vs.any λkv=>decide (kv.1=k))=(vs.map (·.1)).any λy=>decide (y=k):=by rw[List.any_map];rfl
  rw[e1,e2,this]
 unfold jf f';rw[ek];split;show KR.map rx r;show KR.append rx r
theorem KR.drop {H:Hp}{k:cf}: ∀ {l:d3 (cf×W)} {vs:d3 (cf×V)},KR K H l vs ->KR K H (sL l k) (ou vs k)
 | _,_, .nil=> .nil
 | (k1,y)::l,(k2,u)::vs, .cons ⟨e,r⟩ t=>by have e:k1=k2:=e;subst e;unfold sL ou;rw[List.filter_cons,List.filter_cons];by_cases hk:k1=k;simp![hk,ne_eq,not_true,decide_false,ay,be];show KR.drop t;simp![ne_eq,hk,not_false_eq_true,decide_true,bR];show .cons #[rfl,r] (KR.drop t)
def kL (r:WR K H (fD k) v):v=kV k:=by cases k<;>show r.eq
def Kp:WE:=λ_ M q=> ∀p,M p=none ->q (wr p) (um M p (.dK []))
instance:IE K Dx Kp where
 imp:=λρ M σ H q Q o h k=>λp hp=>k _ _ _ _ (h p (o.hp.fresh hp)) (L2.ff.ts (bU hp)) (o.hp.put (L2.ff.ts (bU hp)) #[[],bI, .nil]) WR.v
def C_ (a b:WE):WE:=λρ M q=>a ρ M λx M1=>b ρ M1 λy M2=>jQ λp kvs k z=>ja (x=wr p) (M2 p=some (.dK kvs)) (y=fD k) (eX kvs k=some z) (q z M2)
instance {t u:TE}{a b:WE} [ia:IE K t a] [ib:IE K u b]:IE K (KJ t u) (C_ a b) where
 imp :=λρ M σ H q Q o h k=>ia.imp ρ M σ H _ _ o h λx M1 v H1 h1 t1 m1 r1=>ib.imp ρ M1 σ H1 _ _ (o.mv t1 m1) h1 λy M2 u H2 ⟨p,kvs,ky,z,e1,e2,e3,e4,h2⟩ t2 m2 r2=>by
  subst e1 e3;let⟨ks,hk,rr⟩:=m2 p _ e2;rcases rr.val ky with⟨n1,_⟩ | ⟨x',v',n1,n2,rx⟩
  rw[n1] at e4;cases e4;rw[n1] at e4;cases e4;exact#[p,v',r1.eq,?_,k _ M2 _ H2 h2 (t1.trans t2) m2 rx];rw[kL r2, <- n2];show oT.k hk
def tN (a b:WE):WE:=λρ M q=>a ρ M λy M1=>b ρ M1 λx M2=>gv λp kvs k=>fh (x=wr p) (M2 p=some (.dK kvs)) (y=fD k) (q (wb (!(eX kvs k).isSome)) M2)
def KR.some (k:cf)(r:KR K H l vs):(gN vs k).isSome=(eX l k).isSome:=by rcases r.val k with⟨a,b⟩ | ⟨x,v,a,b,_⟩ <;>rw[a,b] <;>rfl
instance {t u:TE}{a b:WE} [ia:IE K t a] [ib:IE K u b]:IE K (zz t u) (tN a b) where
 imp:=λρ M σ H q Q o h k=>ia.imp ρ M σ H _ _ o h λy M1 v H1 h1 t1 m1 r1=>ib.imp ρ M1 σ H1 _ _ (o.mv t1 m1) h1 λx M2 u H2 ⟨p,kvs,ky,e1,e2,e3,h2⟩ t2 m2 r2=>by subst e1 e3;let⟨ks,hk,rr⟩:=m2 p _ e2;exact#[p,gN ks ky,r2.eq,by rw[kL r1];show oT.k hk,k _ M2 _ H2 h2 (t1.trans t2) m2 ?_];rw[rr.some];show WR.v
def xv (a b c:WE):WE:=λρ M q=>a ρ M λx M1=> ∃p,dh (x=wr p) (∃kvs,M1 p=some (.dK kvs)) (b ρ M1 λy M2=>c ρ M2 λz M3=>cJ λkvs k=>dh (M3 p=some (.dK kvs)) (y=fD k) (q ((eX kvs k).getD z) M3))
instance {t u s:TE}{a b c:WE} [ia:IE K t a] [ib:IE K u b] [ic:IE K s c]:IE K (Dy t u s) (xv a b c) where
 imp:=λρ M σ H q Q o h k=>ia.imp ρ M σ H _ _ o h λx M1 v H1 ⟨p,e,⟨kvs,hp⟩,h1⟩ t1 m1 r1=>by
  subst e;let⟨ks,hk,rr⟩:=m1 p _ hp;exact#[p,r1.eq, .inl #[ks, .inl hk],ib.imp ρ M1 σ H1 _ _ (o.mv t1 m1) h1 λy M2 u H2 h2 t2 m2 r2=>ic.imp ρ M2 σ H2 _ _ (o.mv (t1.trans t2) m2) h2 λz M3 u3 H3 ⟨kvs,ky,e2,e3,h3⟩ t3 m3 r3=> ?_];subst e3;let⟨ks,hk,rr⟩:=m3 p _ e2;exact#[gN ks ky,by rw[kL (r2.ts t3)];show oT.k hk,k _ M3 _ H3 h3 ((t1.trans t2).trans t3) m3 ?_];rcases rr.val ky with⟨n1,n2⟩ | ⟨x',v',n1,n2,rx⟩
  rw[n1,n2];show r3;rw[n1,n2];show rx
end
section
variable {K:RZ}
def Kv (i:Nat):WG:=λx ρ M q=>q (ρ.set i (some x)) M
instance {i:Nat}:IG K (oi i) (Kv i) where
 imp:=λx v ρ M σ H q Q o r h k=>k _ M _ H h (bi.refl H) #[o.env.set i r,o.hp]
def MD:J5:=λxs ρ M q=>xs= [] /\ q ρ M
def Kw (a:WG)(b:J5):J5:=λxs ρ M q=>cJ λx r=>xs=x::r /\ a x ρ M λρ' M'=>b r ρ' M' q
instance:Vv K OI MD where
 imp:=λx v ρ M σ H q Q o r h k=>by let⟨rfl,h⟩:=h;show#[by simpa only[cF] using r,k _ M _ H h (bi.refl H) o]
instance {t:TG}{u:Hj}{a:WG}{b:J5} [ia:IG K t a] [ib:Vv K u b]:Vv K (Az t u) (Kw a b) where
 imp:=λx v ρ M σ H q Q o r h k=>by let⟨y,dU,rfl,h⟩:=h;simp![cF] at r;let⟨v1,t1,rfl,r1,r2⟩:=r;show#[v1,t1,rfl,ia.imp y v1 ρ M σ H _ _ o r1 h λρ' M' σ' H' h' ts o'=>ib.imp dU t1 ρ' M' σ' H' _ _ o' (r2.ts ts) h' λρ2 M2 σ2 H2 h2 QA o2=>k ρ2 M2 σ2 H2 h2 (ts.trans QA) o2]
def Qv (n:Nat)(a:J5):WG:=λx ρ M q=> ∃l,dh (x= .tup l) (l.length=n) (a l ρ M q)
instance {n:Nat}{t:Hj}{a:J5} [ia:Vv K t a]:IG K (OH K n t) (Qv n a) where
 imp:=λx v ρ M σ H q Q o r h k=>by let⟨l,rfl,hl,h⟩:=h;let⟨a',vs,rfl,hv,rr⟩:=r.tup;show#[a',vs,rfl,hv,by rw[rr.length];show hl,ia.imp l vs ρ M σ H _ _ o rr h k]
abbrev Gz:=W ->W ->W ->Mp ->(Mp ->Prop) ->Prop
class TM (K:PySem.W.Frag) (t:GA) (w:outParam Gz):Prop where
 imp: ∀ (x y z:W) (v u r:V) (M:Mp) (H:Hp) (q:Mp ->Prop) (Q:Hp ->Prop),f_ K M H ->WR K H x v ->WR K H y u ->WR K H z r ->w x y z M q ->(∀M' H',q M' ->bi H H' ->f_ K M' H' ->Q H') ->t v u r H Q
def Kk:Gz:=λx y z M q=>jQ λa l k j=>ja (x=wr a) (y=wi k) (M a=some (.lst l)) (u4 l.length k=some j) (q (um M a (.lst (l.set j z))))
instance:TM K Ld Kk where
 imp:=by rintro x y z v u r M H q Q m r1 r2 r3 ⟨a,l,i,j,rfl,rfl,hl,e,h⟩ k;let⟨vs,hv,rr⟩:=m a _ hl;show#[a,vs,i,j,r1.eq,r2.eq,hv,by rw[rr.length];show e,k _ _ h (nD hv) (m.putL hv (rr.set j r3))]
def Qw (a b:WE)(s:Gz):WG:=λx ρ M q=>a ρ M λo M1=>b ρ M1 λi M2=>s o i x M2 λM3=>q ρ M3
instance {t u:TE}{s:GA}{a b:WE}{w:Gz} [ia:IE K t a] [ib:IE K u b] [is:TM K s w]:IG K (S_ t u s) (Qw a b w) where
 imp:=λx v ρ M σ H q Q o r h k=>ia.imp ρ M σ H _ _ o h λy M1 v1 H1 h1 t1 m1 r1=>ib.imp ρ M1 σ H1 _ _ (o.mv t1 m1) h1 λz M2 v2 H2 h2 t2 m2 r2=>is.imp y z x v1 v2 v M2 H2 _ _ m2 (r1.ts t2) r2 (r.ts (t1.trans t2)) h2 λM3 H3 h3 t3 m3=>k ρ M3 σ H3 h3 ((t1.trans t2).trans t3) (o.mv ((t1.trans t2).trans t3) m3)
def K6:WS:=λD ρ M=>D.nx ρ M
instance:IS K KD K6 where
 imp:=λρ M σ H D' D o h e=>e.nx ρ M σ H h (bi.refl H) o
def HM (a b:WS):WS:=λD ρ M=>a {D with nx:=b D} ρ M
instance {t u:TS}{a b:WS} [ia:IS K t a] [ib:IS K u b]:IS K (MQ t u) (HM a b) where
 imp:=λρ M σ H D' D o h e=>ia.imp ρ M σ H _ _ o h #[λρ' M' σ' H' h' ts o'=>ib.imp ρ' M' σ' H' D' D o' h' (e.mv ts),e.rt,e.bk,e.ct]
def La:WS:=λD ρ M=>D.ct ρ M
instance:IS K KL La where
 imp:=λρ M σ H D' D o h e=>e.ct ρ M σ H h (bi.refl H) o
def K8 (a:WE):WS:=λD ρ M=>a ρ M λ_ M1=>D.nx ρ M1
instance {t:TE}{a:WE} [ia:IE K t a]:IS K (KI t) (K8 a) where
 imp:=λρ M σ H D' D o h e=>ia.imp ρ M σ H _ _ o h λx M1 v H1 h1 t1 m1 r1=>e.nx ρ M1 σ H1 h1 t1 (o.mv t1 m1)
def Q2 (a:WE):WS:=λD ρ M=>a ρ M D.rt
instance {t:TE}{a:WE} [ia:IE K t a]:IS K (QH t) (Q2 a) where
 imp:=λρ M σ H D' D o h e=>ia.imp ρ M σ H _ _ o h λx M1 v H1 h1 t1 m1 r1=>e.rt x M1 v H1 h1 t1 m1 r1
def K5:WS:=λD _ M=>D.rt wn M
instance:IS K Kz K5 where
 imp:=λρ M σ H D' D o h e=>e.rt wn M .dY H h (bi.refl H) o.hp WR.v
def UC (c:WT)(a b:WS):WS:=λD ρ M=>c ρ M λk M1=>if k=true then a D ρ M1 else b D ρ M1
instance {tc:TT}{t u:TS}{c:WT}{a b:WS} [ic:IT K tc c] [ia:IS K t a] [ib:IS K u b]:IS K (QN tc t u) (UC c a b) where
 imp:=λρ M σ H D' D o h e=>ic.imp ρ M σ H _ _ o h λk M1 H1 h1 t1 m1=>by
  cases k with
  | true=>simp![bR] at h1 ⊢;show ia.imp ρ M1 σ H1 D' D (o.mv t1 m1) h1 (e.mv t1)
  | false=>simp![ay,be] at h1 ⊢;show ib.imp ρ M1 σ H1 D' D (o.mv t1 m1) h1 (e.mv t1)
def Q7 (a:WE)(g:WG):WS:=λD ρ M=>a ρ M λx M1=>g x ρ M1 D.nx
instance {t:TE}{g:TG}{a:WE}{w:WG} [ia:IE K t a] [ig:IG K g w]:IS K (HE t g) (Q7 a w) where
 imp:=λρ M σ H D' D o h e=>ia.imp ρ M σ H _ _ o h λx M1 v H1 h1 t1 m1 r1=>ig.imp x v ρ M1 σ H1 _ _ (o.mv t1 m1) r1 h1 λρ2 M2 σ2 H2 h2 t2 o2=>e.nx ρ2 M2 σ2 H2 h2 (t1.trans t2) o2
def xP (a b c:WE):WS:=λD ρ M=>c ρ M λz M1=>a ρ M1 λx M2=>b ρ M2 λy M3=>gv λp kvs k=>ja (x=wr p) (M3 p=some (.dK kvs)) (y=fD k) (kvs.length<sizeLine) (D.nx ρ (um M3 p (.dK (jf kvs k z))))
instance {t u s:TE}{a b c:WE} [ia:IE K t a] [ib:IE K u b] [ic:IE K s c]:IS K (K9 t u s) (xP a b c) where
 imp :=λρ M σ H D' D o h e=>ic.imp ρ M σ H _ _ o h λz M1 v1 H1 h1 t1 m1 r1=>ia.imp ρ M1 σ H1 _ _ (o.mv t1 m1) h1 λx M2 v2 H2 h2 t2 m2 r2=>ib.imp ρ M2 σ H2 _ _ (o.mv (t1.trans t2) m2) h2 λy M3 v3 H3 ⟨p,kvs,k,e1,e2,e3,hl,h3⟩ t3 m3 r3=>by subst e1 e3;let⟨ks,hk,rr⟩:=m3 p _ e2;have ts:=l7 (u:= .dK (f' ks k v1)) hk;exact#[p,_,r2.eq,?_,e.nx ρ _ σ (cO H3 p (.dK (f' ks k v1))) h3 (((t1.trans t2).trans t3).trans ts) (o.mv (((t1.trans t2).trans t3).trans ts) (m3.putD hk (KR.put (r1.ts (t2.trans t3)) rr)))];rw[kL r3];show GO.k hk (by rw[rr.length];show hl)
def xQ (a b:WE):WS:=λD ρ M=>a ρ M λx M1=>b ρ M1 λy M2=>gv λp kvs k=>ja (x=wr p) (M2 p=some (.dK kvs)) (y=fD k) ((eX kvs k).isSome=true) (D.nx ρ (um M2 p (.dK (sL kvs k))))
instance {t u:TE}{a b:WE} [ia:IE K t a] [ib:IE K u b]:IS K (K_ t u) (xQ a b) where
 imp :=λρ M σ H D' D o h e=>ia.imp ρ M σ H _ _ o h λx M2 v2 H2 h2 t2 m2 r2=>ib.imp ρ M2 σ H2 _ _ (o.mv t2 m2) h2 λy M3 v3 H3 ⟨p,kvs,k,e1,e2,e3,hl,h3⟩ t3 m3 r3=>by subst e1 e3;let⟨ks,hk,rr⟩:=m3 p _ e2;have ts:=l7 (u:= .dK (ou ks k)) hk;show#[p,ks,k,r2.eq,hk,kL r3,by rw[rr.some];show hl,e.nx ρ _ σ _ h3 ((t2.trans t3).trans ts) (o.mv ((t2.trans t3).trans ts) (m3.putD hk rr.drop))]
def zf (K:RZ)(H1:Hp)(J:It)(xs:d3 W)(keep:Mp ->Prop):Prop:=∀i M H,bi H1 H ->f_ K M H ->keep M ->(xs.length=i ->J.stop i H) /\ (i<xs.length ->J.go i H) /\ ∀v H',i<xs.length ->J.Kh i H v H' ->bi H H' /\ f_ K M H' /\ ∃x,xs[i]? =some x /\ WR K H' x v
class II (K:PySem.W.Frag) (t:TI) (w:outParam WI):Prop where
 imp: ∀ (ρ:du) (M:Mp) (σ:St) (H:Hp) (q:List W ->(Mp ->Prop) ->Mp ->Prop) (R:It ->Hp ->Prop),Ok K ρ M σ H ->w ρ M q ->(∀xs keep J M' H',q xs keep M' ->bi H H' ->f_ K M' H' ->zf K H' J xs keep ->R J H') ->t σ H R
def Fp (a:WE):WI:=λρ M q=>a ρ M λx M1=>cJ λp l=>dh (x=wr p) (M1 p=some (.lst l)) (q l (λM'=>M' p=some (.lst l)) M1)
def RW (a:WE):WI:=λρ M q=>a ρ M λx M1=> ∃l,x= .tup l /\ q l (λ_=>True) M1
def fK (lo:Int)(n:Nat):d3 W:=(List.range n).map λ(k:Nat)=>wi (lo+(k:Int))
def Fo (a:WA):WI:=λρ M q=>a ρ M λxs M1=> ∃j:Int,fh (xs= [wi j]) (-(2 ^ 62) <=j) (j<2 ^ 62) (q (fK 0 j.toNat) (λ_=>True) M1)
def BJ:zf K H1 (Z8 K p) l (λM'=>M' p=some (.lst l)):=by intro i M H ts m hk;let⟨vs,hv,rr⟩:=m p _ hk;have hl:=rr.length;exact#[λh=>#[vs,gC.of hv, ∅],λh=>#[vs,vs[i]'∅,gC.of hv,by simp],λv H' hi y=> ?_];let⟨rfl,y⟩:=y;have:=y vs (gC.of hv);let⟨d,hd,r⟩:=rr.back this;show#[bi.refl _,m,d,hd,r]
def Fu (hv:i9 K H1 p vs)(rr:cF K H1 l vs):zf K H1 (Z7 K p) l (λ_=>True):=by intro i M H ts m _;have rf:=Un.Wg ts hv;have Lb:=rr.ts ts;have hl:=Lb.length;exact#[λh=>#[vs,rf, ∅],λh=>#[vs,vs[i]'∅,rf,by simp],λv H' hi y=> ?_];let⟨rfl,y⟩:=y;have:=y vs rf;let⟨d,hd,r⟩:=Lb.back this;show#[bi.refl _,m,d,hd,r]
def Fv:zf K H1 (Vs lo n) (fK lo n) (λ_=>True):=by
 intro i M H ts m _;have hl:(fK lo n).length=n:=by simp[fK]
 rw[hl];exact#[λh=>Nat.le_of_eq h,λh=>h,λv H' hi y=> ?_];let⟨rfl,y⟩:=y;exact#[bi.refl _,m,wi (lo+i),?_,by rw[y];show WR.v];simp[fK,hi]
instance {t:TE}{a:WE} [ia:IE K t a]:II K (FA K t) (Fp a) where
 imp:=λρ M σ H q R o h k=>ia.imp ρ M σ H _ _ o h λx M1 v H1 ⟨p,l,e,hp,h1⟩ t1 m1 r1=>by subst e;let⟨vs,hv,rr⟩:=m1 p _ hp;show#[p,r1.eq,#[vs,gC.of hv],k l _ _ M1 H1 h1 t1 m1 BJ]
instance {t:TE}{a:WE} [ia:IE K t a]:II K (R9 K t) (RW a) where
 imp:=λρ M σ H q R o h k=>ia.imp ρ M σ H _ _ o h λx M1 v H1 ⟨l,e,h1⟩ t1 m1 r1=>by subst e;let⟨p,vs,rfl,hv,rr⟩:=r1.tup;show#[p,rfl,#[vs,hv],k l _ _ M1 H1 h1 t1 m1 (Fu hv rr)]
instance {t:TA}{a:WA} [ia:IA K t a]:II K (LC t) (Fo a) where
 imp:=λρ M σ H q R o h k=>ia.imp ρ M σ H _ _ o h λxs M1 v H1 ⟨j,e,h0,h1,h2⟩ t1 m1 r1=>by subst e;let⟨v,rfl,r⟩:=r1.one;cases r.eq;show#[j,rfl,h0,h1,k _ _ _ M1 H1 h2 t1 m1 Fv]
def Q3 (it:WI)(g:WG)(b:WS):WS:=λD ρ M=>it ρ M λxs keep M1=> ∃I:Nat ->du ->Mp ->Prop,fh (I 0 ρ M1) (∀i ρ M,i<=xs.length ->I i ρ M ->keep M) (∀i x ρ M,xs[i]? =some x ->I i ρ M ->g x ρ M λρ2 M2=>b {D with nx:=I (i+1),ct:=I (i+1),bk:=D.nx} ρ2 M2) (∀ρ M,I xs.length ρ M ->D.nx ρ M)
instance {ti:TI}{g:TG}{t:TS}{it:WI}{w:WG}{b:WS} [ii:II K ti it] [ig:IG K g w] [ib:IS K t b]:IS K (QO ti g t) (Q3 it w b) where
 imp :=λρ M σ H D' D o h e=>ii.imp ρ M σ H _ _ o h λxs keep J M1 H1 h1 t1 m1 ok=>by let⟨I,h0,hk,hs,hd⟩:=h1;exact#[λi m σ' H'=>m=xs.length - i /\ i<=xs.length /\ cJ λρ' M'=>dh (I i ρ' M') (bi H1 H') (Ok K ρ' M' σ' H'),#[_,rfl,cB _,ρ,M1,h0,bi.refl _,o.mv t1 m1],?_];rintro i m σ' H' ⟨rfl,hi,ρ',M',hI,ts,o'⟩;let⟨k1,k2,k3⟩:=ok i M' H' ts o'.hp (hk i ρ' M' hi hI);by_cases fE:i<xs.length;exact .inr #[k2 fE,λσ2 H2=>cJ λρ2 M2=>dh (I (i+1) ρ2 M2) (bi H1 H2) (Ok K ρ2 M2 σ2 H2),λσ2 H2 ⟨ρ2,M2,a,b,c⟩=>#[xs.length - (i+1), ∅,rfl,fE,ρ2,M2,a,b,c],λv H2 y=> ?_];let⟨ty,my,x,hx,r⟩:=k3 v H2 fE y;replace ts:=ts.trans ty;exact ig.imp x v ρ' M' σ' H2 _ _ (o'.mv ty my) r (hs i x ρ' M' hx hI) λρ3 M3 σ3 H3 h3 t3 o3=>ib.imp ρ3 M3 σ3 H3 _ _ o3 h3 #[λa b c d h t o=>#[a,b,h,(ts.trans t3).trans t,o],λa b c d h t=>e.rt a b c d h (t1.trans ((ts.trans t3).trans t)),λa b c d h t=>e.nx a b c d h (t1.trans ((ts.trans t3).trans t)),λa b c d h t o=>#[a,b,h,(ts.trans t3).trans t,o]];have e':i=xs.length:= ∅;subst e';show .inl #[k1 rfl,e.nx ρ' M' σ' H' (hd ρ' M' hI) (t1.trans ts) o']
def xN (c:WT)(b:WS):WS:=λD ρ M=> ∃I:Nat ->du ->Mp ->Prop,(∃m,I m ρ M) /\ ∀m ρ M,I m ρ M ->c ρ M λk M1=>if k=true then b {D with nx:=λρ' M'=> ∃m',m'<m /\ I m' ρ' M',ct:=λρ' M'=> ∃m',m'<m /\ I m' ρ' M',bk:=D.nx} ρ M1 else D.nx ρ M1
instance {tc:TT}{t:TS}{c:WT}{b:WS} [ic:IT K tc c] [ib:IS K t b]:IS K (Dl tc t) (xN c b) where
 imp :=λρ M σ H D' D o ⟨I,⟨m,h0⟩,hs⟩ e=>by
  exact#[λm σ' H'=>cJ λρ' M'=>dh (I m ρ' M') (bi H H') (Ok K ρ' M' σ' H'),#[m,ρ,M,h0,bi.refl _,o],?_];rintro m σ' H' ⟨ρ',M',hI,ts,o'⟩;exact ic.imp ρ' M' σ' H' _ _ o' (hs m ρ' M' hI) λk M1 H1 h1 t1 m1=> ?_;cases k with
  | true=>simp![bR] at h1 ⊢;exact#[λσ2 H2=> ∃m',m'<m /\ cJ λρ2 M2=>dh (I m' ρ2 M2) (bi H H2) (Ok K ρ2 M2 σ2 H2),λσ2 H2 h=>h,ib.imp ρ' M1 σ' H1 _ _ (o'.mv t1 m1) h1 #[λa b c d ⟨m',hm,h⟩ t o=>#[m',hm,a,b,h,(ts.trans t1).trans t,o],λa b c d h t=>e.rt a b c d h ((ts.trans t1).trans t),λa b c d h t=>e.nx a b c d h ((ts.trans t1).trans t),λa b c d ⟨m',hm,h⟩ t o=>#[m',hm,a,b,h,(ts.trans t1).trans t,o]]]
  | false=>simp![ay,be] at h1 ⊢;show e.nx ρ' M1 σ' H1 h1 (ts.trans t1) (o'.mv t1 m1)
def kZ (own:Nat)(fr:d3 Nat)(ρ:du):du:=List.replicate own none++fr.map λj=>(ρ[j]?).join
def Hi.PZ (own:Nat)(fr:d3 Nat)(h:Hi K H ρ σ):Hi K H (kZ own fr ρ) (jP own fr σ):=by
 unfold kZ jP;exact#[by simp,λi x e=> ?_];by_cases hi:i<own;rw[bg ⇑hi,List.getElem?_replicate,ap hi] at e;cases e;rw [aY ⇑hi,List.length_replicate,aB] at e;rw[aY ⇑hi,List.length_replicate,aB];cases ej:fr[i - own]? with
 | none=>rw[ej] at e;cases e
 | some j=>
  rw[ej] at e;simp![Option.map_some,Option.some.injEq] at e ⊢;cases er:ρ[j]? with
  | none=>rw[er] at e;cases e
  | some z=>rw[er] at e;simp![Option.join_some] at e;subst e;let⟨v,ev,r⟩:=h.2 j x er;show#[v,by rw[ev];rfl,r]
def Kr (it:WI)(own:Nat)(fr:d3 Nat)(g:WG)(c:WT)(el:WE):WE:=λρ M q=>it ρ M λxs keep M1=>xs.length<=sizeLine /\ ∀p,M1 p=none -> ∃I:Nat ->d3 W ->Mp ->Prop,fh (I 0 [] (um M1 p (.lst []))) (∀i ys M,i<=xs.length ->I i ys M ->keep M /\ M p=some (.lst ys) /\ ys.length<=i) (∀i x ys M,xs[i]? =some x ->I i ys M ->g x (kZ own fr ρ) M λρ2 M2=>c ρ2 M2 λb M3=>if b=true then el ρ2 M3 λy M4=>M4 p=some (.lst ys) /\ I (i+1) (ys++ [y]) (um M4 p (.lst (ys++ [y]))) else I (i+1) ys M3) (∀ys M,I xs.length ys M ->q (wr p) M)
instance {ti:TI}{own:Nat}{fr:d3 Nat}{g:TG}{tc:TT}{te:TE}{it:WI}{w:WG}{c:WT}{el:WE} [ii:II K ti it] [ig:IG K g w] [ic:IT K tc c] [ie:IE K te el]:IE K (KO ti own fr g tc te) (Kr it own fr w c el) where
 imp :=λρ M σ H q Q o h k=>ii.imp ρ M σ H _ _ o h λxs keep J M1 H1 h1 t1 m1 ok=>by
  intro p hp;let⟨hz,h1⟩:=h1;let⟨I,h0,hk,hs,hd⟩:=h1 p (m1.fresh hp);have tp:=L2.ff.ts (bU (o:= .lst []) hp);exact#[λi m vs H'=>m=xs.length - i /\ i<=xs.length /\ cJ λys M'=>ja (I i ys M') (bi H1 H') (f_ K M' H') (cF K H' ys vs) (H' p=some (.lst vs)),#[_,rfl,cB _,[],_,h0,tp,m1.oG hp cF.nil,cF.nil,bI],?_];rintro i m vs H' ⟨rfl,hi,ys,M',hI,ts,m',rv,hv⟩;exact#[hv,?_];let⟨kp,hMp,hyl⟩:=hk i ys M' hi hI;let⟨k1,k2,k3⟩:=ok i M' H' ts m' kp;by_cases fE:i<xs.length;exact .inr #[k2 fE,by rw[rv.length];lia,λv H2 y=> ?_];let⟨ty,my,x,hx,r⟩:=k3 v H2 fE y;replace ts:=ts.trans ty;have oc:Ok K (kZ own fr ρ) M' (jP own fr σ) H2:=#[(o.env.ts (t1.trans ts)).PZ own fr,my]
  exact ig.imp x v _ M' _ H2 _ _ oc r (hs i x ys M' hx hI) λρ3 M3 σ3 H3 h3 t3 o3=>ic.imp ρ3 M3 σ3 H3 _ _ o3 h3 λb M4 H4 h4 t4 m4=> ?_;cases b with
  | true=>simp![bR] at h4 ⊢;exact ie.imp ρ3 M4 σ3 H4 _ _ (o3.mv t4 m4) h4 λz M5 u H5 ⟨h5,h6⟩ t5 m5 r5=> ?_;let⟨Ku,FH,HQ⟩:=m5 p _ h5;have We:=(t3.trans t4).trans t5;have t6:=nD (u:= .lst (Ku++ [u])) FH;show#[Ku,FH,by rw[HQ.length];lia,_, ∅,rfl,fE,_,_,h6,(ts.trans We).trans t6,m5.putL FH (HQ.snoc r5),(HQ.snoc r5).ts t6,bI]
  | false=>simp![ay,be] at h4 ⊢;let⟨Ku,FH,HQ⟩:=m4 p _ (hk (i+1) ys M4 fE h4).2.1;show#[Ku,_, ∅,rfl,fE,_,_,h4,ts.trans (t3.trans t4),m4,HQ,FH]
  have e':i=xs.length:= ∅;subst e';show .inl #[k1 rfl,k _ M' _ H' (hd ys M' hI) (t1.trans ts) m' WR.v]
def Qa:WT:=λ_ M q=>q true M
instance:IT K QF Qa where
 imp:=λρ M σ H q Q o h k=>k _ M H h (bi.refl H) o.hp
end
section
variable {K:RZ}
theorem f_.sub (s:Sm M M')(m:f_ K M' H):f_ K M H:=λa o e=>m a o (s a o e)
def okS (F:CP K x qual st f fd)(S:iV N ps (bD st))(len: ∀vs M q,p vs M q ->vs.length=ps.length)(mR: ∀ (cdv:d4) (A:Around) (outer:d3 Env) (s:d5) (H:Hp) (E:XK),fU k (A.deeper (PyProof.Rows.envOfC qual (bD st) s.heap.objs.size f cdv)) ->∃t,xp (qw jc P w K mg base N qual (bD st) f cdv A outer s H E).NE (eU st) t /\ ∃w',IS K t w' /\ ∀vs M q,p vs M q ->w' {nx:=λ_ M'=> ∃M0,Sm M0 M' /\ q wn M0,rt:=λx M'=> ∃M0,Sm M0 M' /\ q x M0} (vs.map some++List.replicate (N.length - vs.length) none) M): d8 P w K mg base jc (k+1) f fd ps (l4 K p):=by
 have h:=okW (K:=K) (P:=P) (w:=w) (mg:=mg) (base:=base) (k:=k) (p:=λvs M q=> ∃q',p vs M q' /\ q=λx M'=> ∃M0,Sm M0 M' /\ q' x M0) F S (λvs M q ⟨q',h,_⟩=>len vs M q' h) λcdv A outer s H E hr=>by let⟨t,h1,w',h2,h3⟩:=mR cdv A outer s H E hr;exact#[t,w',h1,h2,?_];rintro vs M q ⟨q',h,rfl⟩;show h3 vs M q' h
 exact h.imp λvs H Q E ⟨xs,M,q,r,m,hp,hk⟩=>#[xs,M,_,r,m,#[q,hp,rfl],?_]
 rintro x M' v H' ⟨M0,s,hq⟩ ts m' r';show hk x M0 v H' hq ts (m'.sub s) r'
def Cj {xs:d3 W}{keep:Mp ->Prop}{M1:Mp}{g:WG}{c:WT}{el:WE}{q:WK}(f:W ->eB W)(hz:xs.length<=sizeLine)(jk: ∀M,Sm M1 M ->keep M)(hs: ∀ (i:Nat) x,xs[i]? =some x -> ∀ (M:Mp) (N:eB W ->Mp ->Prop),Sm M1 M ->N (f x) M ->g x (kZ own fr ρ) M λρ2 M2=>c ρ2 M2 λb M3=>if b=true then el ρ2 M3 λy M4=>N (some y) M4 else N none M3)(hq: ∀p,M1 p=none ->q (wr p) (um M1 p (.lst (xs.filterMap f)))): xs.length<=sizeLine /\ ∀p,M1 p=none -> ∃I:Nat ->d3 W ->Mp ->Prop,fh (I 0 [] (um M1 p (.lst []))) (∀i ys M,i<=xs.length ->I i ys M ->keep M /\ M p=some (.lst ys) /\ ys.length<=i) (∀i x ys M,xs[i]? =some x ->I i ys M ->g x (kZ own fr ρ) M λρ2 M2=>c ρ2 M2 λb M3=>if b=true then el ρ2 M3 λy M4=>M4 p=some (.lst ys) /\ I (i+1) (ys++ [y]) (um M4 p (.lst (ys++ [y]))) else I (i+1) ys M3) (∀ys M,I xs.length ys M ->q (wr p) M):=by
 exact#[hz,λp hp=>#[λi ys M=>M=um M1 p (.lst ys) /\ ys=(xs.take i).filterMap f,#[rfl,by simp],?_,?_,?_]];rintro i ys M hi ⟨rfl,rfl⟩;exact#[jk _ (cK hp),az,aS (List.length_filterMap_le _ _) ?_];rw[a7];lia;rintro i x ys M hx ⟨rfl,rfl⟩;exact hs i x hx _ (λo M4=>match o with
 | some y=>M4 p=some (.lst ((xs.take i).filterMap f)) /\ (um M4 p (.lst ((xs.take i).filterMap f++ [y]))=um M1 p (.lst ((xs.take i).filterMap f++ [y])) /\ (xs.take i).filterMap f++ [y]=(xs.take (i+1)).filterMap f)
 | none=>M4=um M1 p (.lst ((xs.take i).filterMap f)) /\ (xs.take i).filterMap f=(xs.take (i+1)).filterMap f) (cK hp) ?_
 have e:xs.take (i+1)=xs.take i++ [x]:=by rw[bo,hx];rfl
 cases hf:f x with
 | none=>show#[rfl,by rw[e,List.filterMap_append];simp[hf]]
 | some y=>show#[az,rL,by rw[e,List.filterMap_append];simp[hf]]
 rintro ys M ⟨rfl,rfl⟩;rw[bN];show hq p hp
mutual
def Hf:W ->eB Dt
 | .v .dY=>some .dY
 | .v (.bl b)=>some (.bl b)
 | .v (.int i)=>some (.int i)
 | .v (.str x)=>some (.str x)
 | .v _=>none
 | .tup l=>(qv l).map .tup
def qv:d3 W ->eB (d3 Dt)
 | []=>some []
 | x::r=>match Hf x,qv r with
  | some d,some l=>some (d::l)
  | _,_=>none
end
mutual
theorem D9 {H:Hp}: ∀ (x:W) (d:Dt) (v:V),Hf x=some d ->WR K H x v ->Rep K H d v
 | .v y,d,v,e,r=>by cases r.eq;cases y<;>simp![Hf,Option.some.injEq,reduceCtorEq] at e<;>subst e<;>simp![Rep]
 | .tup l,d,v,e,r=>by
  let⟨a,vs,rfl,hv,rr⟩:=r.tup;simp![Hf] at e;cases hd:qv l with
  | none=>rw[hd] at e;cases e
  | some ds=>rw[hd] at e;cases e;simp![Rep];show#[a,vs,rfl,hv,t_ l ds vs hd rr]
theorem t_ {H:Hp}: ∀ (l:d3 W) (ds:d3 Dt) (vs:d3 V),qv l=some ds ->cF K H l vs ->gu K H ds vs
 | [],ds,vs,e,r=>by simp![qv] at e;cases e;simp![cF] at r;simp![gu];show r
 | x ::l,ds,vs,e,r=>by
  simp![qv] at e;cases hx:Hf x with
  | none=>rw[hx] at e;cases e
  | some d=>
   cases hl:qv l with
   | none=>rw[hx,hl] at e;cases e
   | some ds'=>rw[hx,hl] at e;cases e;simp![cF] at r;let⟨v,t,rfl,r1,r2⟩:=r;simp![gu];show#[v,t,rfl,D9 x d v hx r1,t_ l ds' t hl r2]
end
def DR (M:Mp)(x:W)(d:Dt):Prop:=Hf x=some d \/ gv λa l ds=>fh (x=wr a) (M a=some (.lst l)) (qv l=some ds) (d= .lst ds)
def DR.rep (m:f_ K M H)(r:WR K H x v)(h:DR M x d):Rep K H d v:=by obtain h | ⟨a,l,ds,rfl,hl,e,rfl⟩:=h;show D9 x d v h r;cases r.eq;let⟨vs,hv,rr⟩:=m a _ hl;simp![Rep];show#[a,vs,rfl,gC.of hv,t_ l ds vs e rr]
def Ql:xo:=λx y M q=>cJ λd e=>ja (DR M x d) (DR M y e) (tW d e=true) (CN d<=50) (q (wb (oQ d e)) M)
instance:IR K (Ri K) Ql where
 imp:=by rintro x y v u M H q Q m r1 r2 ⟨d,e,h1,h2,h3,h4,h⟩ k;show#[d,e,h3,h4,h1.rep m r1,h2.rep m r2,k _ M _ H h (bi.refl H) m WR.v]
instance {r r':R2}{t u s:TE}{a b c:WE}{w w':xo} [ir:IR K r w] [ir':IR K r' w'] [ia:IE K t a] [ib:IE K u b] [ic:IE K s c]:IE K (DB r r' t u s) (Dc w w' a b c) where
 imp :=λρ M σ H q Q o h k=>ia.imp ρ M σ H _ _ o h λx M1 v H1 h1 t1 m1 r1=>ib.imp ρ M1 σ H1 _ _ (o.mv t1 m1) h1 λy M2 u H2 h2 t2 m2 r2=>ir.imp x y v u M2 H2 _ _ m2 (r1.ts t2) r2 h2 λz M3 v3 H3 ⟨kk,e,h3⟩ t3 m3 r3=>by
  subst e;exact#[kk,r3.eq,?_];cases kk with
  | true=>simp![bR] at h3 ⊢;show ic.imp ρ M3 σ H3 _ _ (o.mv ((t1.trans t2).trans t3) m3) h3 λy4 M4 v4 H4 h4 t4 m4 r4=>ir'.imp y y4 u v4 M4 H4 _ _ m4 (r2.ts (t3.trans t4)) r4 h4 λz5 M5 v5 H5 h5 t5 m5 r5=>k z5 M5 v5 H5 h5 ((((t1.trans t2).trans t3).trans t4).trans t5) m5 r5
  | false=>simp![ay,be] at h3 ⊢;show k _ M3 _ H3 h3 ((t1.trans t2).trans t3) m3 WR.v
def C0:zc:=λxs M q=>gv λ(d:gi) (kvs:d3 (cf×W)) (ks:d3 Int)=>ja (xs= [wr d]) (M d=some (.dK kvs)) (kvs.map (·.1)=ks.map Sum.inl) (ks.length<=sizeLine) (∀ (p:gi) (ns:d3 Int),M p=none ->ns.Perm ks ->ns.Pairwise (· <= ·) ->q (wr p) (um M p (.lst (ns.map wi))))
instance:IC K vE C0 where
 imp:=by rintro xs v M H q Q m r1 ⟨d,kvs,ks,rfl,hd,hk,hl,h⟩ k;let⟨v,rfl,r⟩:=r1.one;cases r.eq;let⟨vs,hv,rr⟩:=m d _ hd;show#[d,vs,ks,rfl,hv,by rw[rr.keys];show hk,hl,λp ns hp h1 h2=>k _ _ _ _ (h p ns (m.fresh hp) h1 h2) (L2.ff.ts (bU hp)) (m.oG hp (cF.ofInts ns)) WR.v]
end
end WL
namespace WL
open PySem L2
theorem Mh {l:d3 α}:lX (a::l) 0=some a:=iT (j:=0) (by rfl)
theorem aak {l:d3 α}:lX (a::b::l) 1=some b:=iT (j:=1) (by rfl)
theorem aaj {l:d3 α}:lX (a::b::c::l) 2=some c:=iT (j:=2) (by rfl)
theorem aai {l:d3 α}:lX (a::b::c::d::l) 3=some d:=iT (j:=3) (by rfl)
def aac:u4 (n+1+1) 1=some 1:=by unfold u4;rw[ap ∅,ap ∅];rfl
def aab:u4 (n+1+1+1) 2=some 2:=by unfold u4;rw[ap ∅,ap ∅];rfl
def aaa:u4 (n+1+1+1+1) 3=some 3:=by unfold u4;rw[ap ∅,ap ∅];rfl
def A6 {a:α}(h0:0<=i)(h:l[i.toNat]? =some a):lX l i=some a:=by have e:((i.toNat:Nat):Int)=i:= ∅;rw[<- e];show iT h
theorem qi {P:Mp ->Prop}(h:P M): ∃M0,Sm M0 M /\ P M0:=#[M,Sm.refl M,h]
def NB (d:gi)(M M':Mp):Prop:= ∀b,b≠d ->M' b=M b
theorem NB.refl (d:gi)(M:Mp):NB d M M:=λ_ _=>rfl
theorem NB.trans {M M1 M2:Mp}(a:NB d M M1)(b:NB d M1 M2):NB d M M2:=λc n=>(b c n).trans (a c n)
theorem NB.put:NB d M (um M d o):=λb n=>aD n
def Dr (M:Mp)(d l:gi):Prop:=jQ λ(ns:d3 Int) (i c s:Int)=>fh (M d=some (.lst [wr l,wi i,wi c,wi s])) (M l=some (.lst (ns.map wi))) (0<=i) (d≠l)
def Dr.put (h:Dr M d l)(hp:M p=none):Dr (um M p o) d l:=by let⟨ns,i,c,s,h1,h2,h3,h4⟩:=h;show#[ns,i,c,s,by rw[aD (cM h1 hp)];show h1,by rw[aD (cM h2 hp)];show h2,h3,h4]
def Dr.Nk (h:Dr M d l)(hd:p≠d)(hl:p≠l):Dr (um M p o) d l:=by let⟨ns,i,c,s,h1,h2,h3,h4⟩:=h;show#[ns,i,c,s,by rw[aD hd.symm];show h1,by rw[aD hl.symm];show h2,h3,h4]
def Dr.ne (h:Dr M d l)(hp:M p=none):p≠d /\ p≠l:=by let⟨ns,i,c,s,h1,h2,h3,h4⟩:=h;show#[(cM h1 hp).symm,(cM h2 hp).symm]
def dv (q:Int×Int):W:= .tup [wi q.1,wi q.2]
def dX (l:d3 (Int×Int)):W:= .tup (l.map dv)
def pairs_at {l:d3 (Int×Int)}{i:Nat}(h:(l.map dv)[i]? =some x): ∃q,l[i]? =some q /\ x=dv q:=by
 rw[aB] at h;cases e:l[i]? with
 | none=>rw[e] at h;cases h
 | some q=>rw[e] at h;cases h;show#[q,rfl,rfl]
def qa {l:d3 Int}{i:Nat}(h:(l.map wi)[i]? =some x): ∃n,l[i]? =some n /\ x=wi n:=by
 rw[aB] at h;cases e:l[i]? with
 | none=>rw[e] at h;cases h
 | some q=>rw[e] at h;cases h;show#[q,rfl,rfl]
def mf (h:(fK lo n)[i]? =some x):i<n /\ x=wi (lo+i):=by unfold fK at h;rw[aB] at h;by_cases hi:i<n;rw[List.getElem?_range hi] at h;cases h;show#[hi,rfl];rw[List.getElem?_eq_none ⇑hi] at h;cases h
def kE:(fK lo n).length=n:=by simp[fK]
def lstK (o:eB MO)(k:d3 W ->Prop):Prop:= ∃l,o=some (.lst l) /\ k l
def jE (o:eB MO)(k:d3 (cf×W) ->Prop):Prop:= ∃l,o=some (.dK l) /\ k l
def rc {α:Type}(o:eB α)(k:α ->Prop):Prop:= ∃a,o=some a /\ k a
def gR (C Q:Prop):Prop:=C /\ Q
def iA (b:Bool)(A B:Prop):Prop:=if b=true then A else B
def mD (M:Mp)(k:gi ->Prop):Prop:= ∀p,M p=none ->k p
def Gr (p:kn)(xs:d3 W)(M:Mp)(q:WK):Prop:=p xs M q
def R0 (x:W)(M:Mp)(q:Bool ->Mp ->Prop):Prop:= ∃k,x=wb k /\ q k M
def fJ (x:W)(k:gi ->Prop):Prop:= ∃a,x=wr a /\ k a
def tupK (x:W)(k:d3 W ->Prop):Prop:= ∃l,x= .tup l /\ k l
def MP (M:Mp)(x:W)(k:Bool ->Prop):Prop:= ∃b,Hq M x b /\ k b
def nS (x:W)(k:cf ->Prop):Prop:= ∃y,x=fD y /\ k y
def Te (xs:d3 W)(keep:Mp ->Prop)(g:WG)(b:WS)(D:iU)(ρ:du)(M1:Mp):Prop:= ∃I:Nat ->du ->Mp ->Prop,fh (I 0 ρ M1) (∀i ρ M,i<=xs.length ->I i ρ M ->keep M) (∀i x ρ M,xs[i]? =some x ->I i ρ M ->g x ρ M λρ2 M2=>b {D with nx:=I (i+1),ct:=I (i+1),bk:=D.nx} ρ2 M2) (∀ρ M,I xs.length ρ M ->D.nx ρ M)
def sW (xs:d3 W)(keep:Mp ->Prop)(own:Nat)(fr:d3 Nat)(g:WG)(c:WT)(el:WE)(ρ:du)(M1:Mp)(q:WK):Prop:=xs.length<=sizeLine /\ ∀p,M1 p=none -> ∃I:Nat ->d3 W ->Mp ->Prop,fh (I 0 [] (um M1 p (.lst []))) (∀i ys M,i<=xs.length ->I i ys M ->keep M /\ M p=some (.lst ys) /\ ys.length<=i) (∀i x ys M,xs[i]? =some x ->I i ys M ->g x (kZ own fr ρ) M λρ2 M2=>c ρ2 M2 λb M3=>if b=true then el ρ2 M3 λy M4=>M4 p=some (.lst ys) /\ I (i+1) (ys++ [y]) (um M4 p (.lst (ys++ [y]))) else I (i+1) ys M3) (∀ys M,I xs.length ys M ->q (wr p) M)
def CW (c:WT)(b:WS)(D:iU)(ρ:du)(M:Mp):Prop:=xN c b D ρ M
def Xf:lstK (some (.lst l)) k=k l:=by apply propext;symm;(· rintro⟨_,h,k⟩;cases h;show k);(· intro h;show#[_,rfl,h])
def ZH:jE (some (.dK l)) k=k l:=by apply propext;symm;(· rintro⟨_,h,k⟩;cases h;show k);(· intro h;show#[_,rfl,h])
def WH {k:α ->Prop}:rc (some x) k=k x:=by apply propext;symm;(· rintro⟨_,h,k⟩;cases h;show k);(· intro h;show#[_,rfl,h])
def ZW:gR True Q=Q:=by simp[gR]
def Xq:iA true A B=A:=by simp[iA]
def Xr:iA false A B=B:=by simp[iA]
def aae:R0 (.v (.bl k)) M q=q k M:=by apply propext;symm;(· rintro⟨_,h,k⟩;cases h;show k);(· intro h;show#[_,rfl,h])
def Wq:fJ (.v (.ref x)) k=k x:=by apply propext;symm;(· rintro⟨_,h,k⟩;cases h;show k);(· intro h;show#[_,rfl,h])
def Wa:tupK (.tup x) k=k x:=by apply propext;symm;(· rintro⟨_,h,k⟩;cases h;show k);(· intro h;show#[_,rfl,h])
def Xn:nS (.v (.int i)) k=k (.inl i):=by apply propext;symm;(· rintro⟨y,h,z⟩;cases y<;>cases h;show z);(· intro h;show#[.inl i,rfl,h])
theorem VO {r:du}:gw 0 (some x::r) M q=q x M:=rfl
theorem VN {r:du}:gw 1 (x0::some x::r) M q=q x M:=rfl
theorem VM {r:du}:gw 2 (x0::x1::some x::r) M q=q x M:=rfl
theorem VL {r:du}:gw 3 (x0::x1::x2::some x::r) M q=q x M:=rfl
theorem VJ {r:du}:gw 4 (x0::x1::x2::x3::some x::r) M q=q x M:=rfl
theorem VI {r:du}:gw 5 (x0::x1::x2::x3::x4::some x::r) M q=q x M:=rfl
theorem VH {r:du}:gw 6 (x0::x1::x2::x3::x4::x5::some x::r) M q=q x M:=rfl
theorem VG {r:du}:gw 7 (x0::x1::x2::x3::x4::x5::x6::some x::r) M q=q x M:=rfl
theorem VF {r:du}:gw 8 (x0::x1::x2::x3::x4::x5::x6::x7::some x::r) M q=q x M:=rfl
theorem VE {r:du}:gw 9 (x0::x1::x2::x3::x4::x5::x6::x7::x8::some x::r) M q=q x M:=rfl
theorem Ue {r:du}:gw 10 (x0::x1::x2::x3::x4::x5::x6::x7::x8::x9::some x::r) M q=q x M:=rfl
theorem Ud {r:du}:gw 11 (x0::x1::x2::x3::x4::x5::x6::x7::x8::x9::oE::some x::r) M q=q x M:=rfl
theorem Uc {r:du}:gw 12 (x0::x1::x2::x3::x4::x5::x6::x7::x8::x9::oE::py::some x::r) M q=q x M:=rfl
theorem Ub {r:du}:gw 13 (x0::x1::x2::x3::x4::x5::x6::x7::x8::x9::oE::py::qX::some x::r) M q=q x M:=rfl
theorem Ua {r:du}:gw 14 (x0::x1::x2::x3::x4::x5::x6::x7::x8::x9::oE::py::qX::tJ::some x::r) M q=q x M:=rfl
theorem T_ {r:du}:gw 15 (x0::x1::x2::x3::x4::x5::x6::x7::x8::x9::oE::py::qX::tJ::u9::some x::r) M q=q x M:=rfl
theorem T' {r:du}:gw 16 (x0::x1::x2::x3::x4::x5::x6::x7::x8::x9::oE::py::qX::tJ::u9::xq::some x::r) M q=q x M:=rfl
theorem T9 {r:du}:gw 17 (x0::x1::x2::x3::x4::x5::x6::x7::x8::x9::oE::py::qX::tJ::u9::xq::Ba::some x::r) M q=q x M:=rfl
theorem T8 {r:du}:gw 18 (x0::x1::x2::x3::x4::x5::x6::x7::x8::x9::oE::py::qX::tJ::u9::xq::Ba::CS::some x::r) M q=q x M:=rfl
theorem TZ {r:du}:gw 19 (x0::x1::x2::x3::x4::x5::x6::x7::x8::x9::oE::py::qX::tJ::u9::xq::Ba::CS::Hl::some x::r) M q=q x M:=rfl
theorem TY {r:du}:gw 20 (x0::x1::x2::x3::x4::x5::x6::x7::x8::x9::oE::py::qX::tJ::u9::xq::Ba::CS::Hl::Mr::some x::r) M q=q x M:=rfl
theorem TX {r:du}:gw 21 (x0::x1::x2::x3::x4::x5::x6::x7::x8::x9::oE::py::qX::tJ::u9::xq::Ba::CS::Hl::Mr::P9::some x::r) M q=q x M:=rfl
theorem TW {r:du}:gw 22 (x0::x1::x2::x3::x4::x5::x6::x7::x8::x9::oE::py::qX::tJ::u9::xq::Ba::CS::Hl::Mr::P9::Vy::some x::r) M q=q x M:=rfl
theorem TV {r:du}:gw 23 (x0::x1::x2::x3::x4::x5::x6::x7::x8::x9::oE::py::qX::tJ::u9::xq::Ba::CS::Hl::Mr::P9::Vy::x22::some x::r) M q=q x M:=rfl
theorem aao:wC x ρ M q=q x M:=rfl
theorem _p:_q r a b ρ M q=a ρ M λx M1=>b ρ M1 λy M2=>r x y M2 q:=rfl
theorem _j:_k r a ρ M q=a ρ M λx M1=>r x M1 q:=rfl
def aan:wI C g (.v (.int i)) (.v (.int j)) M q=gR (C i j) (q (.v (g i j)) M):=by apply propext;symm;(· rintro⟨_,_,h1,h2,k⟩;cases h1;cases h2;show k);(· intro h;show#[_,_,rfl,rfl,h])
def _x:_y g (.v (.int i)) (.v (.int j)) M q=q (.v (g i j)) M:=by apply propext;symm;(· rintro⟨_,_,h1,h2,k⟩;cases h1;cases h2;show k);(· intro h;show#[_,_,rfl,rfl,h])
def aam:wU g (.v (.int i)) M q=q (.v (g i)) M:=by apply propext;symm;(· rintro⟨_,h,k⟩;cases h;show k);(· intro h;show#[_,rfl,h])
def _z:V1 (.v (.int i)) (.v (.int j)) M q=q (wb (decide (i=j))) M:=by apply propext;symm;(· rintro⟨_,_,h1,h2,_,k⟩;cases h1;cases h2;simpa using k);(· intro h;show#[_,_,rfl,rfl,rfl, ⇑h])
def _s:_t (.v (.int i)) (.v (.int j)) M q=q (wb (!decide (i=j))) M:=by apply propext;symm;(· rintro⟨_,_,h1,h2,_,k⟩;cases h1;cases h2;simpa using k);(· intro h;show#[_,_,rfl,rfl,rfl, ⇑h])
def _A:V1 (.v (.bl i)) (.v (.bl j)) M q=q (wb (decide (i=j))) M:=by apply propext;symm;(· rintro⟨_,_,h1,h2,_,k⟩;cases h1;cases h2;simpa using k);(· intro h;show#[_,_,rfl,rfl,rfl, ⇑h])
theorem Uf:CZ a ρ M q=a ρ M λx M1=>R0 x M1 q:=rfl
theorem V4:Qr a b ρ M q=a ρ M λc M1=>iA c (b ρ M1 q) (q false M1):=rfl
theorem _n:_o a b ρ M q=a ρ M λc M1=>iA c (q true M1) (b ρ M1 q):=rfl
theorem VR:Qf a ρ M q=a ρ M λc M1=>q (!c) M1:=rfl
theorem Uq:Kt a b ρ M q=a ρ M λx M1=>R0 x M1 λc M1=>iA c (b ρ M1 q) (q (wb false) M1):=rfl
theorem Ui:Km a ρ M q=a ρ M λx M1=>R0 x M1 λc M1=>q (wb (!c)) M1:=rfl
theorem Qp:Dc r r' a b c ρ M q=a ρ M λx M1=>b ρ M1 λy M2=>r x y M2 λz M3=>R0 z M3 λk M3=>iA k (c ρ M3 λy' M4=>r' y y' M4 q) (q (wb false) M3):=rfl
theorem VS:Qg ρ M q=q [] M:=rfl
theorem Um:Kq a r ρ M q=a ρ M λx M1=>r ρ M1 λxs M2=>q (x::xs) M2:=rfl
theorem VP:Qb a ρ M q=a ρ M λxs M1=>gR (xs.length<=sizeLine) (q (.tup xs) M1):=rfl
theorem VT:Qi a ρ M q=a ρ M λxs M1=>gR (xs.length<=sizeLine) (mD M1 λp=>q (wr p) (um M1 p (.lst xs))):=rfl
def VY:Qj (.v (.ref x)) (.v (.int i)) M q=lstK (M x) λl=>rc (lX l i) λu=>q u M:=by apply propext;symm;(· rintro⟨_,l,_,u,h1,h2,h3,h4,k⟩;cases h1;cases h2;show#[l,h3,u,h4,k]);(· rintro⟨l,h3,u,h4,k⟩;show#[_,l,_,u,rfl,rfl,h3,h4,k])
def VX:My (.tup l) (.v (.int i)) M q=rc (lX l i) λu=>q u M:=by apply propext;symm;(· rintro⟨_,_,u,h1,h2,h4,k⟩;cases h1;cases h2;show#[u,h4,k]);(· rintro⟨u,h4,k⟩;show#[_,_,u,rfl,rfl,h4,k])
theorem O6:zl ρ M q=q none M:=rfl
def Jj (x:W)(k:Int ->Prop):Prop:= ∃i,x=wi i /\ k i
def Xt:Jj (.v (.int i)) k=k i:=by apply propext;symm;(· rintro⟨_,h,k⟩;cases h;show k);(· intro h;show#[_,rfl,h])
theorem Uh:Kl a ρ M q=a ρ M λx M1=>Jj x λi=>q (some i) M1:=rfl
theorem _l:_m r a lo hi ρ M q=a ρ M λx M1=>lo ρ M1 λl M2=>hi ρ M2 λu M3=>r x l u M3 q:=rfl
def VQ:Qd (.v (.ref x)) lo hi M q=lstK (M x) λl=>mD M λp=>q (wr p) (um M p (.lst (yX l lo hi))):=by apply propext;symm;(· rintro⟨_,l,h1,h3,k⟩;cases h1;show#[l,h3,k]);(· rintro⟨l,h3,k⟩;show#[_,l,rfl,h3,k])
theorem _B:_C r a ρ M q=a ρ M λxs M1=>r xs M1 q:=rfl
theorem Up:Ks p a ρ M q=a ρ M λxs M1=>Gr p xs M1 q:=rfl
def VW:Mx [.v (.ref x)] M q=lstK (M x) λl=>q (wi l.length) M:=by apply propext;symm;(· rintro(⟨_,l,h1,h2,k⟩ | ⟨_,h1,_⟩);(· cases h1;show#[l,h2,k]);cases h1);(· rintro⟨l,h3,k⟩;show .inl #[_,l,rfl,h3,k])
def VU:Mx [.tup l] M q=q (wi l.length) M:=by apply propext;symm;(· rintro(⟨_,l,h1,h2,k⟩ | ⟨_,h1,k⟩);(· cases h1);cases h1;show k);(· intro k;show .inr #[l,rfl,k])
def V5:Qt [.v (.int i)] M q=q (wi (if i<0 then -i else i)) M:=by apply propext;symm;(· rintro⟨_,h,k⟩;cases h;show k);(· intro h;show#[_,rfl,h])
def O8:tL [.v (.ref x)] M q=lstK (M x) λl=>mD M λp=>q (wr p) (um M p (.lst l)):=by apply propext;symm;(· rintro⟨l,⟨_,h1,h2⟩ | h1,k⟩;(· cases h1;show#[l,h2,k]);cases h1);(· rintro⟨l,h3,k⟩;show#[l, .inl #[_,rfl,h3],k])
def O7:tL [.tup l] M q=mD M λp=>q (wr p) (um M p (.lst l)):=by apply propext;symm;(· rintro⟨l,⟨_,h1,h2⟩ | h1,k⟩;(· cases h1);cases h1;show k);(· intro k;show#[l, .inr rfl,k])
def Mt:u_ [.v (.ref x)] M q=lstK (M x) λl=>q (.tup l) M:=by apply propext;symm;(· rintro⟨l,⟨_,h1,h2⟩ | h1,k⟩;(· cases h1;show#[l,h2,k]);cases h1);(· rintro⟨l,h3,k⟩;show#[l, .inl #[_,rfl,h3],k])
def VZ:Qk K [x, .v (.ty T)] M q=rc (Ut M x) λt=>rc (W.kitOne K t (.type T)) λb=>q (wb b) M:=by apply propext;symm;(· rintro⟨_,_,t,b,h1,h2,h3,k⟩;cases h1;show#[t,h2,b,h3,k]);(· rintro⟨t,h2,b,h3,k⟩;show#[_,_,t,b,rfl,h2,h3,k])
theorem Ly:W.kitOne K (.type "int") (.type "int")=some true:=rfl
theorem Jd:W.kitOne K (.type "int") (.type "bool")=some false:=rfl
theorem Lx:W.kitOne K (.type "int") (.type "str")=some false:=rfl
theorem G3:W.kitOne K (.type "int") (.type "tuple")=some false:=rfl
theorem Jc:W.kitOne K (.type "int") (.type "list")=some false:=rfl
theorem Jf:W.kitOne K (.type "bool") (.type "int")=some true:=rfl
theorem G5:W.kitOne K (.type "bool") (.type "bool")=some true:=rfl
theorem Je:W.kitOne K (.type "bool") (.type "str")=some false:=rfl
theorem Fk:W.kitOne K (.type "bool") (.type "tuple")=some false:=rfl
theorem G4:W.kitOne K (.type "bool") (.type "list")=some false:=rfl
theorem Lw:W.kitOne K (.type "str") (.type "int")=some false:=rfl
theorem I_:W.kitOne K (.type "str") (.type "bool")=some false:=rfl
theorem Lv:W.kitOne K (.type "str") (.type "str")=some true:=rfl
theorem GZ:W.kitOne K (.type "str") (.type "tuple")=some false:=rfl
theorem I0:W.kitOne K (.type "str") (.type "list")=some false:=rfl
theorem BF:W.kitOne K (.type "NoneType") (.type "int")=some false:=rfl
theorem Ao:W.kitOne K (.type "NoneType") (.type "bool")=some false:=rfl
theorem BE:W.kitOne K (.type "NoneType") (.type "str")=some false:=rfl
theorem yt:W.kitOne K (.type "NoneType") (.type "tuple")=some false:=rfl
theorem An:W.kitOne K (.type "NoneType") (.type "list")=some false:=rfl
theorem GY:W.kitOne K (.type "tuple") (.type "int")=some false:=rfl
theorem Fi:W.kitOne K (.type "tuple") (.type "bool")=some false:=rfl
theorem GX:W.kitOne K (.type "tuple") (.type "str")=some false:=rfl
theorem CI:W.kitOne K (.type "tuple") (.type "tuple")=some true:=rfl
theorem Fh:W.kitOne K (.type "tuple") (.type "list")=some false:=rfl
theorem Jb:W.kitOne K (.type "list") (.type "int")=some false:=rfl
theorem G2:W.kitOne K (.type "list") (.type "bool")=some false:=rfl
theorem Ja:W.kitOne K (.type "list") (.type "str")=some false:=rfl
theorem Fj:W.kitOne K (.type "list") (.type "tuple")=some false:=rfl
theorem G1:W.kitOne K (.type "list") (.type "list")=some true:=rfl
def _D:V3 r a b ρ M q=a ρ M λx M1=>fJ x λp=>lstK (M1 p) λ_=>b ρ M1 λxs M2=>r x xs M2 q:=by unfold V3 IsL fJ lstK;congr 1;funext x M1;apply propext;symm;(· rintro⟨⟨p,l,h1,h2⟩,k⟩;show#[p,h1,l,h2,k]);(· rintro⟨p,h1,l,h2,k⟩;show#[#[p,l,h1,h2],k])
def Pa:zm (.v (.ref x)) [y] M q=lstK (M x) λl=>gR (l.length<sizeLine) (q wn (um M x (.lst (l++ [y])))):=by apply propext;symm;(· rintro⟨_,l,_,h1,h2,h3,h4,k⟩;cases h1;cases h2;show#[l,h3,h4,k]);(· rintro⟨l,h3,h4,k⟩;show#[_,l,_,rfl,rfl,h3,h4,k])
def V2:Qq (.v (.ref x)) (.v (.ref y)) M q=lstK (M x) λl=>lstK (M y) λl'=>gR (l.length+l'.length<=sizeLine) (mD M λp=>q (wr p) (um M p (.lst (l++l')))):=by apply propext;symm;(· rintro⟨_,_,l,l',h1,h2,h3,h4,h5,k⟩;cases h1;cases h2;show#[l,h3,l',h4,h5,k]);(· rintro⟨l,h3,l',h4,h5,k⟩;show#[_,_,l,l',rfl,rfl,h3,h4,h5,k])
theorem Qc:CY a ρ M q=a ρ M λx M1=>MP M1 x λk=>q k M1:=rfl
theorem Uk:Kp ρ M q=mD M λp=>q (wr p) (um M p (.dK [])):=rfl
def Ul:C_ a b ρ M q=a ρ M λx M1=>b ρ M1 λy M2=>fJ x λp=>nS y λk=>jE (M2 p) λkvs=>rc (eX kvs k) λz=>q z M2:=by unfold C_ fJ nS jE rc;congr 1;funext x M1;congr 1;funext y M2;apply propext;symm;(· rintro⟨p,kvs,k,z,h1,h2,h3,h4,h⟩;show#[p,h1,k,h3,kvs,h2,z,h4,h]);(· rintro⟨p,h1,k,h3,kvs,h2,z,h4,h⟩;show#[p,kvs,k,z,h1,h2,h3,h4,h])
def O_:tN a b ρ M q=a ρ M λy M1=>b ρ M1 λx M2=>fJ x λp=>nS y λk=>jE (M2 p) λkvs=>q (wb (!(eX kvs k).isSome)) M2:=by unfold tN fJ nS jE;congr 1;funext x M1;congr 1;funext y M2;apply propext;symm;(· rintro⟨p,kvs,k,h1,h2,h3,h⟩;show#[p,h1,k,h3,kvs,h2,h]);(· rintro⟨p,h1,k,h3,kvs,h2,h⟩;show#[p,kvs,k,h1,h2,h3,h])
def Qn:xv a b c ρ M q=a ρ M λx M1=>fJ x λp=>jE (M1 p) λ_=>b ρ M1 λy M2=>c ρ M2 λz M3=>nS y λk=>jE (M3 p) λkvs=>q ((eX kvs k).getD z) M3:=by
 unfold xv fJ nS jE;congr 1;funext x M1;apply propext;symm;rintro⟨p,h1,⟨kvs,h2⟩,h⟩;exact#[p,h1,kvs,h2,?_];have e:(λy M2=>c ρ M2 λz M3=>cJ λkvs k=>dh (M3 p=some (.dK kvs)) (y=fD k) (q ((eX kvs k).getD z) M3))=(λy M2=>c ρ M2 λz M3=> ∃k,y=fD k /\ ∃kvs,M3 p=some (.dK kvs) /\ q ((eX kvs k).getD z) M3):=by funext y M2;congr 1;funext z M3;apply propext;symm;rintro⟨a,b,c,d,e⟩;show#[b,d,a,c,e];rintro⟨b,d,a,c,e⟩;show#[a,b,c,d,e]
 rw[<- e];show h;rintro⟨p,h1,kvs,h2,h⟩;exact#[p,h1,#[kvs,h2],?_];have e:(λy M2=>c ρ M2 λz M3=>cJ λkvs k=>dh (M3 p=some (.dK kvs)) (y=fD k) (q ((eX kvs k).getD z) M3))=(λy M2=>c ρ M2 λz M3=> ∃k,y=fD k /\ ∃kvs,M3 p=some (.dK kvs) /\ q ((eX kvs k).getD z) M3):=by funext y M2;congr 1;funext z M3;apply propext;symm;rintro⟨a,b,c,d,e⟩;show#[b,d,a,c,e];rintro⟨b,d,a,c,e⟩;show#[a,b,c,d,e]
 rw[e];show h
theorem db:HM a b D ρ M=a {nx:=b D,rt:=D.rt,bk:=D.bk,ct:=D.ct} ρ M:=rfl
theorem UB:K6 D ρ M=D.nx ρ M:=rfl
theorem UF:La D ρ M=D.ct ρ M:=rfl
theorem UE:K8 a D ρ M=a ρ M λ_ M1=>D.nx ρ M1:=rfl
theorem Wj:Q2 a D ρ M=a ρ M D.rt:=rfl
theorem UA:K5 D ρ M=D.rt wn M:=rfl
theorem _O:UC c a b D ρ M=c ρ M λk M1=>iA k (a D ρ M1) (b D ρ M1):=rfl
theorem Wm:Q7 a g D ρ M=a ρ M λx M1=>g x ρ M1 D.nx:=rfl
def Q5:xP a b c D ρ M=c ρ M λz M1=>a ρ M1 λx M2=>b ρ M2 λy M3=>fJ x λp=>nS y λk=>jE (M3 p) λkvs=>gR (kvs.length<sizeLine) (D.nx ρ (um M3 p (.dK (jf kvs k z)))):=by unfold xP fJ nS jE gR;congr 1;funext z M1;congr 1;funext x M2;congr 1;funext y M3;apply propext;symm;(· rintro⟨p,kvs,k,h1,h2,h3,h4,h⟩;show#[p,h1,k,h3,kvs,h2,h4,h]);(· rintro⟨p,h1,k,h3,kvs,h2,h4,h⟩;show#[p,kvs,k,h1,h2,h3,h4,h])
theorem Wl:Q3 it g b D ρ M=it ρ M λxs keep M1=>Te xs keep g b D ρ M1:=rfl
theorem Q1:xN c b D ρ M=CW c b D ρ M:=rfl
theorem Ur:Kv i x ρ M q=q (ρ.set i (some x)) M:=rfl
def V8:MD [] ρ M q=q ρ M:=by simp[MD]
def Us:Kw a b (x::r) ρ M q=a x ρ M λρ' M'=>b r ρ' M' q:=by apply propext;symm;(· rintro⟨_,_,h,k⟩;cases h;show k);(· intro h;show#[_,_,rfl,h])
def V6:Qv n a (.tup l) ρ M q=gR (l.length=n) (a l ρ M q):=by apply propext;symm;(· rintro⟨_,h,k,l⟩;cases h;show#[k,l]);(· rintro⟨h,l⟩;show#[_,rfl,h,l])
theorem V7:Qw a b s x ρ M q=a ρ M λo M1=>b ρ M1 λi M2=>s o i x M2 λM3=>q ρ M3:=rfl
def Ug:Kk (.v (.ref x)) (.v (.int i)) z M q=lstK (M x) λl=>rc (u4 l.length i) λj=>q (um M x (.lst (l.set j z))):=by apply propext;symm;(· rintro⟨_,l,_,j,h1,h2,h3,h4,k⟩;cases h1;cases h2;show#[l,h3,j,h4,k]);(· rintro⟨l,h3,j,h4,k⟩;show#[_,l,_,j,rfl,rfl,h3,h4,k])
def UZ:Fp a ρ M q=a ρ M λx M1=>fJ x λp=>lstK (M1 p) λl=>q l (λM'=>M' p=some (.lst l)) M1:=by unfold Fp fJ lstK;congr 1;funext x M1;apply propext;symm;(· rintro⟨p,l,h1,h2,h⟩;show#[p,h1,l,h2,h]);(· rintro⟨p,h1,l,h2,h⟩;show#[p,l,h1,h2,h])
theorem Xp:RW a ρ M q=a ρ M λx M1=>tupK x λl=>q l (λ_=>True) M1:=rfl
def ya (xs:d3 W)(k:W ->Prop):Prop:= ∃x,xs= [x] /\ k x
def WN:ya [x] k=k x:=by apply propext;symm;(· rintro⟨_,h,k⟩;cases h;show k);(· intro h;show#[_,rfl,h])
def UY:Fo a ρ M q=a ρ M λxs M1=>ya xs λx=>Jj x λj=>gR (-(2 ^ 62) <=j /\ j<2 ^ 62) (q (fK 0 j.toNat) (λ_=>True) M1):=by unfold Fo ya Jj gR;congr 1;funext x M1;apply propext;symm;(· rintro⟨j,h1,h2,h3,h⟩;show#[_,h1,j,rfl,#[h2,h3],h]);(· rintro⟨_,h1,j,rfl,⟨h2,h3⟩,h⟩;show#[j,h1,h2,h3,h])
theorem Uo:Kr it own fr g c el ρ M q=it ρ M λxs keep M1=>sW xs keep own fr g c el ρ M1 q:=rfl
theorem VD:Qa ρ M q=q true M:=rfl
def sl2:(2<=sizeLine)=True:=by rw[cP];decide
def sl3:(3<=sizeLine)=True:=by rw[cP];decide
def sl0:(0<=sizeLine)=True:=by simp
def e9 [Decidable c](h1:c ->A)(h2:¬c ->B):iA (decide c) A B:=by unfold iA;by_cases h:c;rw[ap (cb h)];show h1 h;rw[ai ⇑h];show h2 h
def uq [Decidable c](h1:¬c ->A)(h2:c ->B):iA (!decide c) A B:=by unfold iA;by_cases h:c;rw[ai ⇑h];show h2 h;rw[ap ⇑h];show h1 h
theorem lR {M1:Mp}(f:W ->eB W)(hz:xs.length<=sizeLine)(jk: ∀M,Sm M1 M ->keep M)(hs: ∀ (i:Nat) x,xs[i]? =some x -> ∀ (M:Mp) (N:eB W ->Mp ->Prop),Sm M1 M ->N (f x) M ->g x (kZ own fr ρ) M λρ2 M2=>c ρ2 M2 λb M3=>iA b (el ρ2 M3 λy M4=>N (some y) M4) (N none M3))(hq: ∀p,M1 p=none ->q (wr p) (um M1 p (.lst (xs.filterMap f)))):sW xs keep own fr g c el ρ M1 q:=Cj f hz jk hs hq
end WL
namespace WL
def Sv (f:du ->Mp ->Prop)(ρ:du)(M:Mp):Prop:=f ρ M
theorem jC (h:f ρ M):Sv f ρ M:=h
theorem eE:HM a b D ρ M=a {nx:=Sv (b D),rt:=D.rt,bk:=D.bk,ct:=D.ct} ρ M:=rfl
theorem yG (Mid:du ->Mp ->Prop)(dU: ∀ρ M,Mid ρ M ->R D ρ M)(h: ∀N:du ->Mp ->Prop,(∀ρ M,Mid ρ M ->N ρ M) ->UC c a b {nx:=N,rt:=D.rt,bk:=D.bk,ct:=D.ct} ρ M):HM (UC c a b) R D ρ M:=h _ dU
theorem gJ (I:Nat ->du ->Mp ->Prop)(h0:I 0 ρ M1)(hk: ∀i ρ M,i<=xs.length ->I i ρ M ->keep M)(hs: ∀i x ρ M,xs[i]? =some x ->I i ρ M -> ∀N:du ->Mp ->Prop,(∀ρ' M',I (i+1) ρ' M' ->N ρ' M') ->g x ρ M λρ2 M2=>b {nx:=N,rt:=D.rt,bk:=D.nx,ct:=N} ρ2 M2)(hd: ∀ρ M,I xs.length ρ M ->D.nx ρ M):Te xs keep g b D ρ M1:=#[I,h0,hk,λi x ρ M hx hI=>hs i x ρ M hx hI _ λ_ _ h=>h,hd]
theorem Hn (I:Nat ->du ->Mp ->Prop)(m:Nat)(h0:I m ρ M)(hs: ∀m ρ M,I m ρ M -> ∀N:du ->Mp ->Prop,(∀m' ρ' M',m'<m ->I m' ρ' M' ->N ρ' M') ->c ρ M λk M1=>iA k (b {nx:=N,rt:=D.rt,bk:=D.nx,ct:=N} ρ M1) (D.nx ρ M1)):CW c b D ρ M:=#[I,#[m,h0],λm ρ M hI=>hs m ρ M hI _ λm' _ _ hm h=>#[m',hm,h]]
end WL
namespace WP
open PySem L2 WL
abbrev Pt:=d3 (Int×Int)
def look:Pt ->Int ->Int
 | [],_=>0
 | q::r,x=>if q.1=x then q.2 else look r x
def cy (p:Int)(l:Pt):Prop:=(∀q∈l,0<q.2 /\ q.2<p) /\ l.Pairwise (λa b=>a.1<b.1)
def dR:Pt ->Int ->Int
 | [],_=>0
 | q::r,x=>(if q.1=x then q.2 else 0)+dR r x
def ij (a b:Pt)(x:Int):dR (a++b) x=dR a x+dR b x:=by
 induction a with
 | nil=>simp[dR]
 | cons q r ih=>rw[List.cons_append,dR,dR,ih];lia
def l8 (a:Pt)(q:Int×Int)(x:Int):dR (a++ [q]) x=dR a x+if q.1=x then q.2 else 0:=by rw[ij];simp[dR]
def eC (h: ∀q∈l,q.1≠x):look l x=0:=by
 induction l with
 | nil=>rfl
 | cons q r ih=>rw[look,ai (h q (by simp)),ih λz hz=>h z (by simp[hz])]
def zq (h: ∀q∈l,q.1≠x):dR l x=0:=by
 induction l with
 | nil=>rfl
 | cons q r ih=>rw[dR,ai (h q (by simp)),ih λz hz=>h z (by simp[hz])];rfl
def vh (h:l.Pairwise (λa b=>a.1<b.1))(x:Int):dR l x=look l x:=by
 induction l with
 | nil=>rfl
 | cons q r ih=>rw[ci] at h;rw[dR,look,ih h.2];by_cases e:q.1=x;rw[ap e,ap e,eC];lia;intro z hz;have:=h.1 z hz;lia;rw[ai e,ai e];lia
def jz (hp:0<p)(h:cy p l)(x:Int):0<=look l x /\ look l x<p:=by
 induction l with
 | nil=>rw[look];lia
 | cons q r ih=>rw[look];split;have:=h.1 q (by simp);lia;show ih #[λz hz=>h.1 z (by simp[hz]),(ci.mp h.2).2]
theorem cy.tail {r:Pt}(h:cy p (q::r)):cy p r:=#[λz hz=>h.1 z (by simp[hz]),(ci.mp h.2).2]
theorem cy.nil:cy p []:=#[λ_ h=>absurd h (by simp),List.Pairwise.nil]
theorem oZ {p p':Int}: ∀ {a b:Pt},cy p a ->cy p' b ->(∀x,look a x=look b x) ->a=b
 | [],[],_,_,_=>rfl
 | [],q::r,_,hb,h=>by have:=h q.1;rw[look,look,ap rfl] at this;have:=hb.1 q (by simp);lia
 | q::r,[],ha,_,h=>by have:=h q.1;rw[look,look,ap rfl] at this;have:=ha.1 q (by simp);lia
 | q ::r,q'::r',ha,hb,h=>by
  have pa:=ha.1 q (by simp);have pb:=hb.1 q' (by simp);have sa:=(ci.mp ha.2).1;have sb:=(ci.mp hb.2).1;have e1:q.1=q'.1:=by obtain l | l | l:=Int.lt_trichotomy q.1 q'.1;have e:=h q.1;rw[look,ap rfl,look,ai ∅,eC (λz hz=>by have:=sb z hz;lia)] at e;lia;show l;have e:=h q'.1;rw[look,ai ∅,eC (λz hz=>by have:=sa z hz;lia),look,ap rfl] at e;lia
  have e2:q.2=q'.2:=by have e:=h q.1;rw[look,ap rfl,look,ap e1.symm] at e;show e
  have e:r=r':=oZ ha.tail hb.tail λx=>by by_cases hx:q.1=x;rw[eC (λz hz=>by have:=sa z hz;lia),eC (λz hz=>by have:=sb z hz;lia)];have e:=h x;rwa [look,ai hx,look,ai ∅] at e
  rw[e,Prod.ext e1 e2]
def iG (p:Int):Pt ->Int ->Int ->Pt
 | [],x,s=>if s % p=0 then [] else [(x,s % p)]
 | q::r,x,s=>if x<q.1 then(if s % p=0 then q::r else(x,s % p)::q::r) else if x=q.1 then(if(q.2+s) % p=0 then r else(x,(q.2+s) % p)::r) else q::iG p r x s
def jZ (p:Int)(ps:Pt):Pt:=ps.foldl (λa q=>iG p a q.1 q.2) []
def tE (h:z∈iG p l x s):z.1=x \/ z∈l:=by
 induction l with
 | nil=>rw[iG] at h;split at h;cases h;left;rw[ah.mp h]
 | cons q r ih=>rw[iG] at h;split at h;split at h;show .inr h;obtain h | h:=ar.mp h;left;rw[h];show .inr h;split at h;split at h;show .inr (by simp[h]);obtain h | h:=ar.mp h;left;rw[h];show .inr (by simp[h]);obtain h | h:=ar.mp h;show .inr (by simp[h]);obtain h | h:=ih h;show .inl h;show .inr (by simp[h])
def yj {p s:Int}(hp:0<p)(h:¬s % p=0):0<s % p /\ s % p<p:=by have:=cw s (show p≠0 by lia);have:=cj s hp;lia
def Cv (hp:0<p)(h:cy p l):cy p (iG p l x s):=by
 induction l with
 | nil=>rw[iG];split;show cy.nil;rename_i hs;show#[λq hq=>by rw[ah.mp hq];show yj hp hs,by simp]
 | cons q r ih=>have sa:=(ci.mp h.2).1;rw[iG];split;rename_i hx;split;show h;rename_i hs;exact#[λz hz=> ?_,ci.mpr #[λz hz=> ?_,h.2]];obtain rfl | hz:=ar.mp hz;show yj hp hs;show h.1 z hz;obtain rfl | hz:=ar.mp hz;show hx;have:=sa z hz;change x<z.1;lia;split;rename_i hx;split;show h.tail;rename_i hs;exact#[λz hz=> ?_,ci.mpr #[λz hz=> ?_,h.tail.2]];obtain rfl | hz:=ar.mp hz;show yj hp hs;show h.1 z (by simp[hz]);have:=sa z hz;change x<z.1;lia;rename_i h1 h2;have ih':=ih h.tail;exact#[λz hz=> ?_,ci.mpr #[λz hz=> ?_,ih'.2]];obtain rfl | hz:=ar.mp hz;show h.1 z (by simp);show ih'.1 z hz;obtain e | hz:=tE hz;lia;show sa z hz
def yo (hp:0<p)(h:cy p l)(y:Int):look (iG p l x s) y=if y=x then(look l x+s) % p else look l y:=by
 induction l with
 | nil=>rw[iG];by_cases hs:s % p=0;rw[ap hs];simp[look,hs];rw[ai hs];by_cases e:y=x;subst e;simp[look];rw[ai e];simp[look,aT e]
 | cons q r ih=>
  have sa:=(ci.mp h.2).1;have qr:=h.1 q (by simp);rw[iG];split;rename_i hx;have hn:look (q::r) x=0:=eC (λz hz=>by obtain rfl | hz:=ar.mp hz;lia;have:=sa z hz;lia);rw[hn,bO];split;rename_i hs;by_cases e:y=x;rw[ap e,e,hn,hs];rw[ai e];by_cases e:y=x;rw[ap e,look,ap e.symm];rw[ai e,look,ai (aT e)];split;rename_i hx;have hq:look (q::r) x=q.2:=by rw[look,ap hx.symm]
  rw[hq];split;rename_i hs;by_cases e:y=x;rw[ap e,hs,eC (λz hz=>by have:=sa z hz;lia)];rw[ai e,look,ai ∅];by_cases e:y=x;rw[ap e,look,ap e.symm];rw[ai e,look,ai (aT e),look,ai ∅];rename_i h1 h2;rw[look,ih h.tail];by_cases e:y=x;rw[ap e,ap e,ai ∅];conv=>rhs;rw[look,ai ∅]
  rw[ai e,ai e,look]
def mx (p:Int)(ps:Pt)(q:Int×Int):jZ p (ps++ [q])=iG p (jZ p ps) q.1 q.2:=by unfold jZ;rw[List.foldl_append];rfl
def d_ {α:Type}{P:d3 α ->Prop}(h0:P [])(h1: ∀l a,P l ->P (l++ [a]))(l:d3 α):P l:=by
 have key: ∀n:Nat, ∀l:d3 α,l.length=n ->P l:=by
  intro n;induction n with
  | zero=>intro l hl;rw[cQ.mp hl];show h0
  | succ n ih=>
   intro l hl;have c6:l≠ []:=by intro e;rw[e] at hl;cases hl
   rw[<- List.dropLast_concat_getLast c6];show h1 _ _ (ih _ (by rw[List.length_dropLast];lia))
 show key _ l rfl
def iM (hp:0<p)(ps:Pt):cy p (jZ p ps):=by
 induction ps using d_ with
 | h0=>show cy.nil
 | h1 l a ih=>rw[mx];show Cv hp ih
def j7 (hp:0<p)(ps:Pt)(x:Int):look (jZ p ps) x=dR ps x % p:=by
 induction ps using d_ with
 | h0=>simp[jZ,look,dR]
 | h1 l a ih=>rw[mx,yo hp (iM hp l),l8];by_cases e:x=a.1;subst e;rw[ap rfl,ap rfl,ih,Int.emod_add_emod];rw[ai e,ai (aT e),ih,bj]
def Cw:(iG p l x s).length<=l.length+1:=by
 induction l with
 | nil=>rw[iG];split<;>simp
 | cons q r ih=>rw[iG];split;split<;>simp;split;split<;>simp<;>lia;simp;show ih
def o_ (p:Int)(ps:Pt):(jZ p ps).length<=ps.length:=by
 induction ps using d_ with
 | h0=>simp[jZ]
 | h1 l a ih=>rw[mx,aG];show aS Cw (by simp;show ih)
def EW (h:z∈jZ p ps): ∃q∈ps,q.1=z.1:=by
 induction ps using d_ generalizing z with
 | h0=>simp[jZ] at h
 | h1 l a ih=>rw[mx] at h;obtain e | h:=tE h;show#[a,by simp,e.symm];let⟨q,h1,h2⟩:=ih h;show#[q,by simp[h1],h2]
def eY (m:Pt):d3 (cf×W):=m.map λq=>((Sum.inl q.1:cf),wi q.2)
def kW (m:Pt)(x v:Int):Pt:=if(m.any λq=>decide (q.1=x))=true then m.map (λq=>if q.1=x then(q.1,v) else q) else m++ [(x,v)]
def ng {m:Pt}:(m.any λq=>decide (q.1=x))=true↔x∈m.map (·.1):=by rw[List.any_eq_true,ag];symm;rintro⟨q,hq,e⟩;show#[q,hq, ⇑e];rintro⟨q,hq,e⟩;show#[q,hq, ⇑e]
def uw (a b:Int):decide ((Sum.inl a:cf)=Sum.inl b)=decide (a=b):=by simp
def oX (m:Pt)(x v:Int):jf (eY m) (.inl x) (wi v)=eY (kW m x v):=by
 unfold jf kW;have e:((eY m).any λkv=>decide (kv.1=(Sum.inl x:cf)))=m.any λq=>decide (q.1=x):=by unfold eY;rw[List.any_map];congr 1;funext q;show uw _ _
 rw[e];split;unfold eY;rw[aH,aH];apply bu;intro q _;change(if(Sum.inl q.1:cf)=Sum.inl x then((Sum.inl q.1:cf),wi v) else(Sum.inl q.1,wi q.2))=((Sum.inl (if q.1=x then(q.1,v) else q).1:cf),wi (if q.1=x then(q.1,v) else q).2)
 by_cases hq:q.1=x;rw[ap (by rw[hq]),ap hq];rw[ai (λz=>hq (Sum.inl.inj z)),ai hq];unfold eY;rw[aR];rfl
def tP (m:Pt)(x:Int):eX (eY m) (.inl x)=(m.find? λq=>decide (q.1=x)).map λq=>wi q.2:=by
 unfold eX eY;rw[List.find?_map,Option.map_map];have e:((λkv:cf×W=>decide (kv.1=(Sum.inl x:cf))) ∘ λq:Int×Int=>((Sum.inl q.1:cf),wi q.2))=λq=>decide (q.1=x):=by funext q;show uw _ _
 rw[e];rfl
def kO:(m.find? λq=>decide (q.1=x))=none /\ look m x=0 /\ x∉m.map (·.1) \/ ∃q,(m.find? λq=>decide (q.1=x))=some q /\ look m x=q.2:=by
 induction m with
 | nil=>show .inl #[rfl,rfl,by simp]
 | cons q r ih=>
  rw[br,look];by_cases e:q.1=x;simp![e,decide_true];show .inr #[q,rfl,by simp];simp![e,decide_false,be];rcases ih with⟨h1,h2,h3⟩ | h
  show .inl #[h1,h2,by rw[aE,ar,not_or];show#[aT e,h3]];show .inr h
def pi (m:Pt)(x:Int):(eX (eY m) (.inl x)).getD (wi 0)=wi (look m x):=by rw[tP];rcases kO (m:=m) (x:=x) with⟨h1,h2,_⟩ | ⟨q,h1,h2⟩ <;>rw[h1,h2] <;>rfl
def pA (h:x∈m.map (·.1)):eX (eY m) (.inl x)=some (wi (look m x)):=by
 rw[tP];rcases kO (m:=m) (x:=x) with⟨_,_,h3⟩ | ⟨q,h1,h2⟩
 show absurd h h3;rw[h1,h2];rfl
def v0 (m:Pt):(eY m).map (·.1)=(m.map (·.1)).map Sum.inl:=by unfold eY;rw[aH,aH];rfl
def sy:(kW m x v).map (·.1)=if x∈m.map (·.1) then m.map (·.1) else m.map (·.1)++ [x]:=by unfold kW;by_cases h:x∈m.map (·.1);rw[ap (ng.mpr h),ap h,aH];apply bu;intro q _;change(if q.1=x then(q.1,v) else q).1=q.1;split<;>rfl;rw[ai (λe=>h (ng.mp e)),ai h,aR];rfl
def uk (h:(m.map (·.1)).Nodup):((kW m x v).map (·.1)).Nodup:=by rw[sy];by_cases e:x∈m.map (·.1);rw[ap e];show h;rw[ai e];show Ab h e
def p6:(kW m x v).length<=m.length+1:=by unfold kW;split;rw[aa];lia;simp
def nN:look (kW m x v) y=if y=x then v else look m y:=by
 unfold kW;by_cases h:x∈m.map (·.1);rw [ap (ng.mpr h)];have key: ∀m:Pt,look (m.map (λq=>if q.1=x then(q.1,v) else q)) y=if y=x /\ x∈m.map (·.1) then v else look m y:=by
  intro m;induction m with
  | nil=>simp[look]
  | cons q r ih=>
   rw[aE,look,look,ih];by_cases hq:q.1=x;by_cases hy:y=x;subst hy;simp[hq];simp[hq,hy,aT hy];by_cases hy:y=x;subst hy;have:(y∈(q::r).map (·.1))=(y∈r.map (·.1)):=by rw[aE,ar];simp[aT hq]
   simp![this,hq,be];simp[hq,hy]
 rw[key];simp[h];rw [ai (λe=>h (ng.mp e))];have key: ∀m:Pt,x∉m.map (·.1) ->look (m++ [(x,v)]) y=if y=x then v else look m y:=by
  intro m;induction m with
  | nil=>intro _;by_cases e:y=x;simp[look,e];simp[look,e,aT e]
  | cons q r ih=>intro hn;rw[aE,ar,not_or] at hn;rw[List.cons_append,look,look,ih hn.2];by_cases e:y=x;subst e;simp[aT hn.1];simp[e]
 show key m h
def Pf (m:Pt)(ns:d3 Int):Pt:=ns.filterMap λx=>if look m x=0 then none else some (x,look m x)
theorem vX {m:Pt}{x:Int}: ∀ {ns:d3 Int},ns.Nodup ->look (Pf m ns) x=if x∈ns then look m x else 0
 | [],_=>rfl
 | n ::r,h=>by rw[bw] at h;have ih:=vX (m:=m) (x:=x) h.2;unfold Pf at ih ⊢;rw[List.filterMap_cons];by_cases e:look m n=0;rw[ap e];change look (r.filterMap _) x=_;rw[ih];by_cases hx:x=n;subst hx;rw[ai h.1,ap (by simp),e];simp[hx];rw[ai e];change look ((n,look m n)::r.filterMap _) x=_;rw[look,ih];by_cases hx:x=n;subst hx;rw[ap rfl,ap (by simp)];rw[ai (aT hx)];simp[hx]
def rQ {ns:d3 Int}(h1:ns.Pairwise (· <= ·))(h2:ns.Nodup):ns.Pairwise (· < ·):=by exact(List.Pairwise.and h1 h2).imp ?_;rintro a b ⟨h,n⟩;lia
def zK (hp:0<p)(hn:(m.map (·.1)).Nodup)(ht: ∀x,look m x=dR ps x % p)(cX:ns.Perm (m.map (·.1)))(hs:ns.Pairwise (· <= ·)):Pf m ns=jZ p ps:=by have nd:=cX.nodup_iff.mpr hn;have st:=rQ hs nd;exact oZ (p:=p) #[?_,?_] (iM hp ps) λx=> ?_;intro q hq;let⟨x,hx,e⟩:=List.mem_filterMap.mp hq;split at e;cases e;rename_i h0;cases e;have:=ht x;have:=cw (dR ps x) (show p≠0 by lia);have:=cj (dR ps x) hp;change 0<look m x /\ look m x<p;lia;unfold Pf;exact List.Pairwise.filterMap _ ?_ st;intro a b wu c hc d hd;split at hc<;>cases hc;split at hd<;>cases hd;show wu;rw[vX nd,j7 hp];split;show ht x;rename_i hx;rw[<- ht x,eC];intro q hq e;show hx (cX.mem_iff.mpr (by rw[<- e];show List.mem_map_of_mem hq))
def fZ {ks:d3 Int}: ∀ {l:d3 Int},ks.Nodup ->(∀k∈ks,k∈l) ->ks.length<=l.length:=by
 induction ks with
 | nil=>intro l _ _;simp
 | cons k r ih=>
  intro l hn hs;rw[bw] at hn;have hk:k∈l:=hs k (by simp);have:=ih (l:=l.erase k) hn.2 λz hz=>by have Xx:z≠k:=λe=>hn.1 (e▸hz);show(List.mem_erase_of_ne Xx).mpr (hs z (by simp[hz]))
  rw[List.length_erase_of_mem hk] at this;have:0<l.length:=List.length_pos_of_mem hk;rw[aK];lia
def Vw (_:Pt):Prop:=True
theorem F9:Vw ps:=trivial
theorem JR (h:ps.length<64):Vw ps:=trivial
def vW (h:k∈(kW m x v).map (·.1)):k=x \/ k∈m.map (·.1):=by rw[sy] at h;split at h;show .inr h;obtain h | h:=aA.mp h;show .inr h;show .inl (ah.mp h)
end WP
namespace WQ
open PySem L2 WL WP
def Rs:kn:=λxs M q=>gv λ(d l:gi) (n:Int)=>ja (xs= [wr d,wi n]) (Dr M d l) (0<n) (n<1073741824) (∀ (r:Int) (M':Mp),0<=r ->r<n ->Dr M' d l ->NB d M M' ->q (wi r) M')
def Lj:kn:=λxs M q=>gv λ(a:gi) (p:Int) (ps:Pt)=>nh (xs= [wi p,wr a]) (M a=some (.lst (ps.map dv))) (0<p) (Vw ps) (ps.length<=16000000) (q (dX (jZ p ps)) M)
def EJ:kn:=λxs M q=>J1 λ(d l:gi) (p most lx:Int)=>qW (xs= [wr d,wi p,wi most,wi lx]) (Dr M d l) (2<=p) (p<1000) (0<=most) (most<63) (0<=lx) (lx<100000000 /\ ∀ (ps:Pt) (M':Mp),(ps.length:Int) <=most ->(∀z∈ps, -lx<=z.1 /\ z.1<=lx /\ 0<z.2 /\ z.2<p) ->Dr M' d l ->NB d M M' ->q (dX (jZ p ps)) M')
def mv (m_:Int)(l:Pt):Pt:=l.map λz=>(z.1+m_,z.2)
def Wy:kn:=λxs M q=> ∃i:Int,xs= [wi i] /\ q (wb true) M
def Nw:kn:=λxs M q=>cJ λ(p:Int) (pat:Pt)=>fh (xs= [wi p,dX pat]) (cy p pat) (pat.length<=16000000) (q (wb true) M)
def tm (n:Int)(l:Pt):Pt:=l.map λz=>(z.1,z.2*n)
def uY (b n:Int)(l:Pt):Pt:=l.map λz=>(z.1+b,z.2*n)
def Wx:kn:=λxs M q=>J1 λ(p:Int) (a b:Pt) (y n:Int)=>CO (xs= [wi p,dX a,dX b,wi y,wi n]) (0<p) (Vw (a++uY y n b)) (a.length<=8000000) (b.length<=8000000) (∀z∈b,0<=z.2 /\ z.2<1000) (q (dX (jZ p (a++uY y n b))) M)
theorem big (h:n<=16000000):n<=sizeLine:=aS h (by rw[cP];decide)
theorem w6 (h:n<=16000000):n<sizeLine:=Nat.lt_of_le_of_lt h (by rw[cP];decide)
def US:mv 0 l=l:=by
 unfold mv;have:(λz:Int×Int=>(z.1+0,z.2))=id:=by funext z;rw[bj];rfl
 rw[this,List.map_id]
def UV:look (mv b l) x=look l (x - b):=by
 induction l with
 | nil=>rfl
 | cons q r ih=>change look ((q.1+b,q.2)::mv b r) x=_;rw[look,look,ih];by_cases e:q.1+b=x;rw[ap e,ap ∅];rw[ai e,ai ∅]
def tQ:dR (tm n l) x=dR l x*n:=by
 induction l with
 | nil=>simp[tm,dR]
 | cons q r ih=>change dR ((q.1,q.2*n)::tm n r) x=_;rw[dR,dR,ih,Int.add_mul];split<;>simp
def Dg:dR (mv b l) x=dR l (x - b):=by
 induction l with
 | nil=>rfl
 | cons q r ih=>change dR ((q.1+b,q.2)::mv b r) x=_;rw[dR,dR,ih];by_cases e:q.1+b=x;rw[ap e,ap ∅];rw[ai e,ai ∅]
def Gg (q:Int×Int):Hf (dv q)=some (.tup [.int q.1, .int q.2]):=by simp[dv,Hf,qv]
theorem qu: ∀l:Pt,qv (l.map dv)=some (l.map λq=> .tup [.int q.1, .int q.2])
 | []=>rfl
 | q::r=>by rw[aE,qv,Gg,qu r];rfl
def EI (l:Pt):Dt:= .tup (l.map λq=> .tup [.int q.1, .int q.2])
def AW (l:Pt):Hf (dX l)=some (EI l):=by rw[dX,Hf,qu];rfl
theorem qm: ∀l:Pt,uF (l.map λq=> .tup [.int q.1, .int q.2]) <=1
 | []=>by simp[uF]
 | q::r=>by rw[aE,uF];have:=qm r;simp![CN,uF];lia
def zG (K:RZ):Sp:=λvs H Q _=>cJ λ(a:gi) (ns:d3 Int)=>dh (vs= [.ref a]) (gC K H a (ns.map V.int)) (∀ (d l:gi) (ms:d3 Int) (H':Hp),d≠l ->H' d=some (.lst [.ref l, .int 0, .int 0, .int 11]) ->H' l=some (.lst (ms.map V.int)) ->Q (.ref d) H')
def vp (K:RZ):Sp:=λvs H Q _=>cJ λ(a:gi) (ns:d3 Int)=>dh (vs= [.ref a]) (gC K H a (ns.map V.int)) (∀H',Q (.bl true) H')
def Ry (F:CP K x qual st f fd)(S:iV N [z] (bD st))(hN:2<=N.length)(mR: ∀ (cdv:d4) (A:Around) (outer:d3 Env) (s:d5) (H:Hp) (E:XK),fU k (A.deeper (PyProof.Rows.envOfC qual (bD st) s.heap.objs.size f cdv)) ->∃ R,xp (qw jc P w K mg base N qual (bD st) f cdv A outer s H E).NE (eU st) (MQ (HE (zA (zG K) [] E0 (Dz (HC 0) MS)) (oi 1)) R) /\∃w',IS K R w' /\ ∀d l M,Dr M d l ->w' {nx:=λ_ _=>False,rt:=λx _=>x=wb true} (none::some (wr d)::List.replicate (N.length - 2) none) M): d8 P w K mg base jc (k+1) f fd [z] (vp K):=by
 exact CP.ok F S (λvs H Q E ⟨a,ns,h,_,_⟩=>by rw[h];rfl) λcdv A outer s H vs Q E hr h=> ?_;let⟨R,h1,w',h2,h3⟩:=mR cdv A outer s H E hr;let⟨a,ns,rfl,hs,hq⟩:=h;exact#[_,h1,?_];let⟨n,hn⟩: ∃n,N.length=n+2:=#[N.length - 2, ∅]
 have e0:L2.start N [V.ref a]=some (V.ref a)::none::List.replicate n none:=by unfold L2.start;rw[hn];rfl
 rw[e0];exact#[_,rfl,a,ns,rfl,hs,λd l ms H' c6 hd hl=> ?_];change R _ _ H';exact h2.imp (none::some (wr d)::List.replicate (N.length - 2) none) (um (um (λ_=>none) l (.lst (ms.map wi))) d (.lst [wr l,wi 0,wi 0,wi 11])) _ H' _ _ #[#[?_,λi y e=> ?_],λb o e=> ?_] (h3 d l _ #[ms,0,0,11,az,by rw[aD (aT c6),az],⋯,c6]) #[λ_ _ _ _ h=>h.elim,λy M' v H2 e _ _ r=> ?_,λ_ _ _ _ h=>h.elim,λ_ _ _ _ h=>h.elim];simp[hn];match i with
 | 0=>simp at e
 | 1=>simp at e;subst e;show#[.ref d,rfl,WR.v]
 | i+2=>simp[List.getElem?_replicate] at e
 by_cases hb:b=d;subst hb;rw[az] at e;cases e;show#[_,hd,cF.cons WR.v (cF.cons WR.v (cF.cons WR.v (cF.cons WR.v cF.nil)))];rw[aD hb] at e;by_cases sD:b=l;subst sD;rw[az] at e;cases e;show#[_,hl,cF.ofInts ms];rw[aD sD] at e;cases e;subst e;rw[r.eq];show hq H2
abbrev Rd:=Int×Pt
def jn (p:Int)(a b:Rd):Rd:=(a.1+b.1,jZ p (a.2++mv a.1 b.2))
def bk (p:Int)(a:Rd):Rd:=(-a.1,jZ p (tm (-1) (mv (-a.1) a.2)))
end WQ
namespace WL
open PySem PySem.Spec PyProof.Rows L2
theorem lY (bt:Nat ->Nat ->Bool): ∀k,PySem.argBest bt k<=k
 | 0=>ao _
 | k+1=>by unfold PySem.argBest;split;show ao _;show Nat.le_succ_of_le (lY bt k)
theorem oB (val:Nat ->Int): ∀k j,j<=k ->val j<=val (PySem.argBest (λi j=>decide (val i >val j)) k)
 | 0, j, h => by have:j=0:=by omega
                 subst this;show a4 _
 | k + 1,j,h=>by
  have ih:=oB val k;unfold PySem.argBest;by_cases hb:val (k+1) >val (PySem.argBest (λi j=>decide (val i >val j)) k);rw[ap (cb hb)];obtain h' | h':=dz j (k+1);have:=ih j (by omega);omega;have:j=k+1:=by omega
  subst this;show a4 _;rw[ai ⇑hb];obtain h' | h':=dz j (k+1);show ih j (by omega);have:j=k+1:=by omega
  subst this;omega
theorem oA (val:Nat ->Int): ∀k j,j<=k ->val (PySem.argBest (λi j=>decide (val i<val j)) k) <=val j
 | 0, j, h => by have:j=0:=by omega
                 subst this;show a4 _
 | k + 1,j,h=>by
  have ih:=oA val k;unfold PySem.argBest;by_cases hb:val (k+1) <val (PySem.argBest (λi j=>decide (val i<val j)) k);rw[ap (cb hb)];obtain h' | h':=dz j (k+1);have:=ih j (by omega);omega;have:j=k+1:=by omega
  subst this;show a4 _;rw[ai ⇑hb];obtain h' | h':=dz j (k+1);show ih j (by omega);have:j=k+1:=by omega
  subst this;omega
def oC (ns:d3 Int)(m:Int):Prop:=m∈ns /\ ∀x∈ns,x<=m
def gV (ns:d3 Int)(m:Int):Prop:=m∈ns /\ ∀x∈ns,m<=x
section
variable {X:Cx}
def Aq {ns:d3 Int}(rv:cD (ns.map V.int) its)(e:its.toArray[i]? =some v): ∃t,v= .int (ns.getD i 0) t /\ i<ns.length:=by
 have e':its[i]? =some v:= ⇑e;have dS:=rv.length;have hi:i<ns.length:=by have:=(ak.mp e').1;rw[aa] at dS;omega
 let⟨w',hw,tY⟩:=rv.get (i:=i) (x:= .int ns[i]) (by rw[aB,am hi];rfl);rw[e'] at hw;cases hw;let⟨t,rfl⟩:=tY;show#[t,by simp[List.getD,hi],hi]
def L5 {ns:d3 Int}(h:i<ns.length):ns.getD i 0=ns[i]:=by simp[List.getD,h]
def Tq (hn:ns≠ []):oC ns (ns.getD (PySem.argBest (λi j=>decide (ns.getD i 0 >ns.getD j 0)) (ns.length - 1)) 0):=by
 have hl:0<ns.length:=List.length_pos_iff.mpr hn;have hb:=lY (λi j=>decide (ns.getD i 0 >ns.getD j 0)) (ns.length - 1);have hi:PySem.argBest (λi j=>decide (ns.getD i 0 >ns.getD j 0)) (ns.length - 1) <ns.length:=by omega
 exact#[?_,λx hx=> ?_];rw[L5 hi];show cx hi;let⟨j,hj,rfl⟩:=List.mem_iff_getElem.mp hx;have:=oB (λi=>ns.getD i 0) (ns.length - 1) j (by omega);have e:ns.getD j 0=ns[j]:=by simp[List.getD,hj]
 simp![e] at this;show this
def Gs (hn:ns≠ []):gV ns (ns.getD (PySem.argBest (λi j=>decide (ns.getD i 0<ns.getD j 0)) (ns.length - 1)) 0):=by
 have hl:0<ns.length:=List.length_pos_iff.mpr hn;have hb:=lY (λi j=>decide (ns.getD i 0<ns.getD j 0)) (ns.length - 1);have hi:PySem.argBest (λi j=>decide (ns.getD i 0<ns.getD j 0)) (ns.length - 1) <ns.length:=by omega
 exact#[?_,λx hx=> ?_];rw[L5 hi];show cx hi;let⟨j,hj,rfl⟩:=List.mem_iff_getElem.mp hx;have:=oA (λi=>ns.getD i 0) (ns.length - 1) j (by omega);have e:ns.getD j 0=ns[j]:=by simp[List.getD,hj]
 simp![e] at this;show this
variable {K:RZ}
end
end WL
namespace WQ
open PySem L2 WL WP
def prc (p s:Int):Int:=if p - s<s then p - s else s
def KW (a:Rd):d3 Int:=0::a.1::a.2.map (·.1)
def Tw (i:Int):Int:=if i<0 then -i else i
def fwv (p:Int)(a:Rd)(lo hi:Int):Int:=2*(hi - lo) - Tw a.1+(a.2.map λz=>prc p z.2).sum
def gV.uniq (h:gV ns a)(h':gV ns b):a=b:=by have:=h.2 b h'.1;have:=h'.2 a h.1;lia
def oC.uniq (h:oC ns a)(h':oC ns b):a=b:=by have:=h.2 b h'.1;have:=h'.2 a h.1;lia
def rm (e n x:Int):Bool:=decide (x.fmod e=0) && (decide (0<=x.fdiv e) && decide (x.fdiv e<n))
end WQ
namespace EN
open PySem PySem.Spec PyProof.Rows L2
open Sem (wp)
open AutoSeq1 (wpAny_loadPart')
def yi (hj:s.heap.IsTupleIter j t i)(ht:s.heap.IsTuple t its)(hx:its[i]? =some x)(hQ: ∀h',h'.IsTupleIter j t (i+1) ->Heap.SameBut j s.heap h' ->Q x {s with heap:=h'}):wpAny (model prog w) A (Builtin.SmallTypes.nextOf (.ref j)) Q E s:=by let⟨oj,LM,hcj,JE⟩:=id hj;let⟨ot,XU,_,nt,Yq⟩:=ht;unfold Builtin.SmallTypes.nextOf;exact ae (wpAny_callSpecial?_slot (name:=Str.ofString "__next__") hj.typeIs F.slot_tuple_iterator_next (wpAny_call_entry F.slot_tuple_iterator_next hj.typeIs F.entry_tuple_iterator_next ?_ (F.args_tuple_iterator_next_1 _)));change wpAny _ _ (field (.ref j) 0 >>=_) _ _ s;exact ae (wpAny_field LM JE (x:= .ref t) rfl ?_);change wpAny _ _ (if(Value.ref t==Value.none)=true then _ else _) _ _ s;rw[ai (show ¬((Value.ref t==Value.none)=true) from λz=>aW z)];change wpAny _ _ (field (.ref j) 1 >>=_) _ _ s;exact ae (wpAny_field LM JE (x:= .int i 0) rfl ?_);change wpAny _ _ (seqItems? (.ref t) >>=_) _ _ s;exact ae (wpAny_seqItems XU Yq ?_);simp![Int.toNat_natCast,hx];exact ae (wpAny_setField LM JE (by simp) (ax #[x,rfl,ax (hQ _ ?_ (Heap.SameBut.update ..))]));show#[_,Heap.get?_update_self _ LM (Obj.isFreed_of_fields (Obj.data_mapFields JE _)),(Obj.cls_mapFields ..).trans hcj,by rw[Obj.data_mapFields JE];simp[rawInt]]
def Bx (hh:A.handled=none)(hj:s.heap.IsTupleIter j t i)(ht:s.heap.IsTuple t its)(hx:its[i]? =none)(hE: ∀h' e,Heap.ExtBut j s.heap h' ->(∃o,h'.get? e=some o /\ o.cls= .type "StopIteration") ->E (.ref e) {s with heap:=h'}):wpAny (model prog w) A (Builtin.SmallTypes.nextOf (.ref j)) Q E s:=by
 let⟨oj,LM,hcj,JE⟩:=id hj;let⟨ot,XU,_,nt,Yq⟩:=ht;unfold Builtin.SmallTypes.nextOf;exact ae (wpAny_callSpecial?_slot (name:=Str.ofString "__next__") hj.typeIs F.slot_tuple_iterator_next (wpAny_call_entry F.slot_tuple_iterator_next hj.typeIs F.entry_tuple_iterator_next ?_ (F.args_tuple_iterator_next_1 _)));change wpAny _ _ (field (.ref j) 0 >>=_) _ _ s;exact ae (wpAny_field LM JE (x:= .ref t) rfl ?_);change wpAny _ _ (if(Value.ref t==Value.none)=true then _ else _) _ _ s;rw[ai (show ¬((Value.ref t==Value.none)=true) from λz=>aW z)];change wpAny _ _ (field (.ref j) 1 >>=_) _ _ s;exact ae (wpAny_field LM JE (x:= .int i 0) rfl ?_);change wpAny _ _ (seqItems? (.ref t) >>=_) _ _ s;exact ae (wpAny_seqItems XU Yq ?_);simp![Int.toNat_natCast,hx];exact ae (wpAny_rule (ae (wpAny_setField LM JE (by simp) ?_)));change wpAny _ _ (newExc (.type "StopIteration") [] >>=_) _ _ _;exact ae ?_;simp![newExc,newTuple];exact ae (wpAny_newObj_type ?_ (by size_fits));exact ae (m:=firstArgMember _ _) (wpAny_of_eq (a:=Value.none) (by first | rfl | (simp![firstArgMember];rfl)) ?_);exact wpAny_newObj_type ?_ (by size_fits);simp![raiseNew];exact ae (wpAny_handled ?_);first | rw[show A.in1.handled=none from hh] | rw[hh]
 exact ae (ax (wpAny_throw ?_));show hE _ _ (((Heap.SameBut.update ..).extBut.push _).push _) #[_,aM _ rfl,rfl]
theorem Gc {prog:R1}{w:World}{A:Around}(hh:A.handled=none)(j t:gi)(c6:t≠j)(its:gX d4): Draws prog w A j [j,t] its.size (λi v=>its[i]? =some v) (λi h=>h.IsTupleIter j t i /\ h.IsTuple t its) where
 live:=λ_ _ st=>let ⟨o,ho,_⟩:=st.1;#[o,ho]
 frame:=λ_ _ _ st hk=>#[let ⟨o,ho,r⟩:=st.1;#[o,hk j (by simp) o ho,r],let ⟨o,ho,r⟩:=st.2;#[o,hk t (by simp) o ho,r]]
 item:=λi s Q E hi st hQ=>by exact yi st.1 st.2 (x:=its[i]) (by simp[hi]) λh' iH gk=> ?_;show hQ _ h' s.toks (by simp[hi]) #[iH,st.2.extBut gk.extBut c6] gk
 done:=λs Q E st hE=>Bx hh st.1 st.2 (by simp) hE
theorem NM (t:gi)(its:gX d4)(n:Nat)(Vn:eB gi)(sl:gX (eB d4)): Meets (Builtin.«enumerate.__new__» #[[.type "enumerate", .ref t],[]]) (λ_ R s=>s.heap.get? t=some {cls:= .type "tuple",dict:=Vn,data:= .seq its n,slots:=sl} /\R (.ok (.ret (.ref (s.heap.push {cls:= .type "tuple_iterator",data:= .fields (List.toArray [.ref t, .int 0 0])}).objs.size))) {s with heap:=(s.heap.push {cls:= .type "tuple_iterator",data:= .fields (List.toArray [.ref t, .int 0 0])}).push {cls:= .type "enumerate",data:= .fields (List.toArray [.none, .bool false, .ref s.heap.objs.size,rawInt 0, .none, .none])}}):= .of_wp λprog w A R s h=>by
 let⟨hp,g,d,tk,os⟩:=s;let⟨hl,h⟩:=h;have mO:=sub_enumerate;have hL:Heap.IsTuple (Shared.heap #[hp,g,d,tk,os]) t its:=#[_,hl,rfl,n,rfl]
 wp_walk using wpAny_loadPart' hl;exact wpAny_stack_any λst=>ax ?_;split;rename_i c _ _ _ _ _;cases (c==Value.type "enumerate");wp_walk using wpAny_loadPart' hl,wpAny_pyIter_tuple hL;show#[_,rfl,h];wp_walk using wpAny_loadPart' hl,wpAny_pyIter_tuple hL;show#[_,rfl,h];wp_walk using wpAny_loadPart' hl,wpAny_pyIter_tuple hL;show#[_,rfl,h]
def y9 (hL:s.heap.IsTuple t its)(h: ∀h',IsEnum h' (s.heap.objs.size+1) s.heap.objs.size 0 .none ->h'.IsTupleIter s.heap.objs.size t 0 ->h'.objs.size=s.heap.objs.size+2 ->(∀b o,s.heap.get? b=some o ->h'.get? b=some o) ->Q (.ref (s.heap.objs.size+1)) {s with heap:=h'}):wpAny (model prog w) A (call (.type "enumerate") [.ref t]) Q E s:=by
 let⟨⟨c,Vn,dt,sl⟩,hl,hc,n,hd⟩:=hL;replace hc:c= .type "tuple" :=hc;replace hd:dt= .seq its n:=hd;subst hc hd;exact callType_new F.called_enumerate ⋯ (F.typeCall_enumerate_1 _) (F.newCall_enumerate_1 _) (λobj=>F.args_object_init_2 obj _) F.entry_enumerate_new (NM t its n Vn sl) #[hl,?_];have hz:(s.heap.push {cls:= .type "tuple_iterator",data:= .fields (List.toArray [.ref t, .int 0 0])}).objs.size=s.heap.objs.size+1:=dM ..;change _ /\ _;rw[hz];have he:IsEnum ((s.heap.push {cls:= .type "tuple_iterator",data:= .fields (List.toArray [.ref t, .int 0 0])}).push {cls:= .type "enumerate",data:= .fields (List.toArray [.none, .bool false, .ref s.heap.objs.size,rawInt 0, .none, .none])}) (s.heap.objs.size+1) s.heap.objs.size 0 .none:=by have q:=aM (s.heap.push {cls:= .type "tuple_iterator",data:= .fields (List.toArray [.ref t, .int 0 0])}) (o:= {cls:= .type "enumerate",data:= .fields (List.toArray [.none, .bool false, .ref s.heap.objs.size,rawInt 0, .none, .none])}) rfl;rw[hz] at q;show q
 exact#[#[_,he,rfl],h _ he #[_,aq _ (aM _ rfl),rfl,rfl] (by rw[dM,hz]) λb o x=>aq _ (aq _ x)]
end EN
namespace EN
open PySem PySem.Spec PyProof.Rows L2 WL
def ut {σ:L2.St}(I:Inv X aj σ H s)(k: ∀b o,b≠e ->b≠j ->s.heap.get? b=some o ->h'.get? b=some o)(fe:jI X aj H e)(fj:jI X aj H j)(new:dn X.prog X.w (cO H s.heap.objs.size (.tup xs)) h' s.heap.objs.size (.tup xs)):Inv X aj σ (cO H s.heap.objs.size (.tup xs)) {s with heap:=h',toks:=t'}:=by
 have SQ:H s.heap.objs.size=none:=I.cT.fresh (ao _);have ne: ∀ {b u},H b=some u ->b≠e /\ b≠j:=λ{b u} q=>#[dc q fe.1,dc q fj.1]
 have nm: ∀ {b:gi},b∉ [e,j] ->b≠e /\ b≠j:=λ{b} q=> ⇑q;exact I.call (ch:= [e,j]) (g':=s.gens) (d':=s.drawn) #[λb o q n _ hc=>k b o (nm hc).1 (nm hc).2 q,λb o q n _ hc=>#[o.slots,k b o (nm hc).1 (nm hc).2 q],λb o q n hc=> ?_,λb o q hc=>#[o,k b o (nm hc).1 (nm hc).2 q],λb ys q=> ?_,λb o u q=> ?_,λb ps q=>#[#[],?_]] ?_ I.bare ?_;rw[bC (a5 (aF q))];show n;rw[bC (dc q SQ)];show q;rw[bC (dc q SQ)];show q;rw[bC (dc q SQ),q];simp;intro b u q;by_cases hb:b=s.heap.objs.size;subst hb;rw[bI] at q;cases q;show new;rw[bC hb] at q;exact(I.cT b u q).pE (λc v hc r=> ?_) (λc r=>by rw[bC (dc r SQ)];show r) λc ys r=>by rw[bC (dc r SQ)];show r
 obtain rfl | hc:=hc;show k _ v (ne q).1 (ne q).2 r;show k _ v (ne hc).1 (ne hc).2 r;intro b hb;obtain rfl | hb:=ar.mp hb;show#[fe.2.2.2.1,fe.2.1,fe.2.2.2.2.1,fe.2.2.2.2.2];rw[ah.mp hb];show#[fj.2.2.2.1,fj.2.1,fj.2.2.2.2.1,fj.2.2.2.2.2]
def GF (K:RZ)(a:gi):It:=#[λi H=>cJ λxs x=>i9 K H a xs /\ xs[i]? =some x,λi H v H'=>cJ λp x=>fh (H p=none) (H'=cO H p (.tup [.int i,x])) (v= .ref p) (∀xs,i9 K H a xs ->xs[i]? =some x),λi H=> ∃xs,i9 K H a xs /\ xs.length=i]
def GG (K:RZ)(a:gi):It:=#[λi H=>cJ λxs x=>gC K H a xs /\ xs[i]? =some x,λi H v H'=>cJ λp x=>fh (H p=none) (H'=cO H p (.tup [.int i,x])) (v= .ref p) (∀xs,gC K H a xs ->xs[i]? =some x),λi H=> ∃xs,gC K H a xs /\ xs.length=i]
def xC {P:R1}{w:World}{K:RZ}{rB:d3 Expr}{x1}{pos:Pos}(a e j:gi)(Oo:e≠j):qJ P w K (.Tuple rB x1 pos) (GF K a) [e,j] e (λi h=>(∃old,IsEnum h e j i old) /\ h.IsTupleIter j a i) where
 mem:=by simp
 obj:=λi h st b hb=>by let⟨⟨old,he⟩,o,hj,c,d⟩:=st;obtain rfl | hb:=ar.mp hb;show#[_,he,λv z=>nomatch z];rw[ah.mp hb];show#[o,hj,λv z=>by rw[d] at z;cases z]
 keep:=λi h h' st k=>by let⟨⟨old,he⟩,o,hj,r⟩:=st;show#[#[old,k e (by simp) _ he],o,k j (by simp) o hj,r]
 item := by
  intro X hP hw hK hc i aj s σ H E I hf st hg;subst hP hw hK;let⟨xs,x,hq,hx⟩:=hg;let⟨its,rv,p,hz⟩:=I.tuple hq;let⟨⟨old,he⟩,hj⟩:=st;have fe:=hf e (by simp);have fj:=hf j (by simp);have rm:s.heap.IsTuple a its.toArray:=p;have ha:a≠j:=λz=>by let⟨o,h1,c1,_⟩:=rm;let⟨o2,h2,c2,_⟩:=hj;rw[z] at h1;rw[h1] at h2;cases h2;rw[c1] at c2;simp at c2
  have Yx:a≠e:=λz=>by let⟨o,h1,c1,_⟩:=rm;rw[z] at h1;rw[he] at h1;cases h1;simp at c1
  have hi:i<its.toArray.size:=by have:=(ak.mp hx).1;have:=rv.length;simp;lia
  exact wpAny_pyNext_enum_itemD (Gc (show X.A.in1.handled=none from I.ok.hd hc) j a ha its.toArray) he #[hj,rm] hi Oo (by simp[Oo,aT Yx]) λy h' tk hy ho iB ht hsz hk=> ?_;exact#[_,rfl,wpAny_letOwnedTupleGo_enum ho λh2 Ha jN=> ?_];let⟨u,hu,ru⟩:=rv.get hx;have eu:u=y:=by have:its.toArray[i]? =some u:= ⇑hu;rw[hy] at this;show(bm this).symm
  subst eu;have LX:s.heap.objs.size≠e:=Nat.ne_of_gt (aF he);exact#[.ref s.heap.objs.size,cO H s.heap.objs.size (.tup [.int i,x]),ut (t':=tk+1) I (λb o hb sD q=>(jN.2 b hb).trans (hk b o hb sD q)) fe fj #[by rw[cP];change 2<=16777216;decide,[.int i tk,u], .cons #[_,rfl] (.cons ru .nil),?_],rfl,#[_,x,I.cT.fresh (ao _),rfl,rfl,λys FG=>by rw[I.nC FG hq];show hx],#[#[u, ⇑Ha],?_],λb hb=> ?_];show#[_,(jN.2 _ LX).trans ht,rfl,_,rfl,rfl];let⟨⟨o,h1,r⟩,_⟩:=iB;show#[o,(jN.2 j (aT Oo)).trans h1,r];have:H b=none:=(hf b hb).1;rw[bC (λz=> ?_)];show this;let⟨o,h1,_⟩:=hj;obtain rfl | hb:=ar.mp hb;show LX z.symm;rw[ah.mp hb] at z;show absurd (aF h1) (by rw[z];show cg _)
 done:=by
   intro X hP hw hK hc i aj s σ H E I hf st hg;subst hP hw hK;let⟨xs,hq,hx⟩:=hg;let⟨its,rv,p,hz⟩:=I.tuple hq;let⟨⟨old,he⟩,hj⟩:=st;have rm:s.heap.IsTuple a its.toArray:=p;have ha:a≠j:=λz=>by let⟨o,h1,c1,_⟩:=rm;let⟨o2,h2,c2,_⟩:=hj;rw[z] at h1;rw[h1] at h2;cases h2;rw[c1] at c2;simp at c2
   let⟨f0,f1,f2,f3,f4,f5⟩:=hf j (by simp);have hl:i=its.toArray.size:=by have:=rv.length;simp;lia
   exact wpAny_pyNext_enum_endD (Gc (show X.A.in1.handled=none from I.ok.hd hc) j a ha its.toArray) he #[hl▸hj,rm] λh2 eb=>#[rfl,I.turned (t':=s.toks) (λb o hb q=>eb b o hb q) f0 f1 f3 f4 f5]
 self:=λ_ _ _ _ _ st h=>let ⟨⟨_,he⟩,_⟩:=st;wpAny_pyIter_enum he h
def xD {P:R1}{w:World}{K:RZ}{rB:d3 Expr}{x1}{pos:Pos}(a e j:gi)(Oo:e≠j):qJ P w K (.Tuple rB x1 pos) (GG K a) [e,j] e (λi h=>(∃old,IsEnum h e j i old) /\ h.IsListIter j a i) where
 mem:=by simp
 obj:=λi h st b hb=>by let⟨⟨old,he⟩,o,hj,c,d⟩:=st;obtain rfl | hb:=ar.mp hb;show#[_,he,λv z=>nomatch z];rw[ah.mp hb];show#[o,hj,λv z=>by rw[d] at z;cases z]
 keep:=λi h h' st k=>by let⟨⟨old,he⟩,o,hj,r⟩:=st;show#[#[old,k e (by simp) _ he],o,k j (by simp) o hj,r]
 item := by
  intro X hP hw hK hc i aj s σ H E I hf st hg;subst hP hw hK;let⟨xs,x,hq,hx⟩:=hg;let⟨its,rv,p,hz⟩:=I.list hq;let⟨⟨old,he⟩,hj⟩:=st;have fe:=hf e (by simp);have fj:=hf j (by simp);have rm:s.heap.IsList a its.toArray:=p.isList;have ha:a≠j:=λz=>by let⟨o,h1,c1,_⟩:=rm;let⟨o2,h2,c2,_⟩:=hj;rw[z] at h1;rw[h1] at h2;cases h2;rw[c1] at c2;simp at c2
  have Yx:a≠e:=λz=>by let⟨o,h1,c1,_⟩:=rm;rw[z] at h1;rw[he] at h1;cases h1;simp at c1
  have hi:i<its.toArray.size:=by have:=(ak.mp hx).1;have:=rv.length;simp;lia
  exact wpAny_pyNext_enum_itemD (Draws.list (show X.A.in1.handled=none from I.ok.hd hc) j a ha its.toArray) he #[hj,rm] hi Oo (by simp[Oo,aT Yx]) λy h' tk hy ho iB ht hsz hk=> ?_;exact#[_,rfl,wpAny_letOwnedTupleGo_enum ho λh2 Ha jN=> ?_];let⟨u,hu,ru⟩:=rv.get hx;have eu:u=y:=by have:its.toArray[i]? =some u:= ⇑hu;rw[hy] at this;show(bm this).symm
  subst eu;have LX:s.heap.objs.size≠e:=Nat.ne_of_gt (aF he);exact#[.ref s.heap.objs.size,cO H s.heap.objs.size (.tup [.int i,x]),ut (t':=tk+1) I (λb o hb sD q=>(jN.2 b hb).trans (hk b o hb sD q)) fe fj #[by rw[cP];change 2<=16777216;decide,[.int i tk,u], .cons #[_,rfl] (.cons ru .nil),?_],rfl,#[_,x,I.cT.fresh (ao _),rfl,rfl,λys FG=>by rw[I.list_inj FG hq];show hx],#[#[u, ⇑Ha],?_],λb hb=> ?_];show#[_,(jN.2 _ LX).trans ht,rfl,_,rfl,rfl];let⟨⟨o,h1,r⟩,_⟩:=iB;show#[o,(jN.2 j (aT Oo)).trans h1,r];have:H b=none:=(hf b hb).1;rw[bC (λz=> ?_)];show this;let⟨o,h1,_⟩:=hj;obtain rfl | hb:=ar.mp hb;show LX z.symm;rw[ah.mp hb] at z;show absurd (aF h1) (by rw[z];show cg _)
 done:=by
   intro X hP hw hK hc i aj s σ H E I hf st hg;subst hP hw hK;let⟨xs,hq,hx⟩:=hg;let⟨its,rv,p,hz⟩:=I.list hq;let⟨⟨old,he⟩,hj⟩:=st;have rm:s.heap.IsList a its.toArray:=p.isList;have ha:a≠j:=λz=>by let⟨o,h1,c1,_⟩:=rm;let⟨o2,h2,c2,_⟩:=hj;rw[z] at h1;rw[h1] at h2;cases h2;rw[c1] at c2;simp at c2
   let⟨f0,f1,f2,f3,f4,f5⟩:=hf j (by simp);have hl:i=its.toArray.size:=by have:=rv.length;simp;lia
   exact wpAny_pyNext_enum_endD (Draws.list (show X.A.in1.handled=none from I.ok.hd hc) j a ha its.toArray) he #[hl▸hj,rm] λh2 eb=>#[rfl,I.turned (t':=s.toks) (λb o hb q=>eb b o hb q) f0 f1 f3 f4 f5]
 self:=λ_ _ _ _ _ st h=>let ⟨⟨_,he⟩,_⟩:=st;wpAny_pyIter_enum he h
def FE (K:RZ)(tl:TA):TI:=λσ H R=>tl σ H λvs H1=> ∃a,dh (vs= [.ref a]) (∃xs,i9 K H1 a xs) (R (GF K a) H1)
def FF (K:RZ)(tl:TA):TI:=λσ H R=>tl σ H λvs H1=> ∃a,dh (vs= [.ref a]) (∃xs,gC K H1 a xs) (R (GG K a) H1)
def Ev (et:tg= .Tuple rB x1 vg)(hg:Gl X "enumerate")(hm:X.mg "enumerate" =none)(ha:PA X [l] tl)(hs:starEach [l] X.env= [(false,eval l X.env)]:=by rfl):PI X tg (.Call (.Name "enumerate" p) [l] [] pos) (FE X.K tl):=by subst et;intro aj s σ H R I h;exact Call_ (gz I hg hm Boot.«enumerate» (bG (cY (ha pos aj s σ H _ I h) λus s1 ⟨vs,H1,I1,r1,q1⟩=> ?_) hs rfl));let⟨a,e,⟨xs,hq⟩,q⟩:=q1;subst e;let⟨v,rfl,Wp⟩:=vals1 r1;cases Wp;let⟨its,rv,ht,hz⟩:=I1.tuple hq;exact y9 (show s1.heap.IsTuple a its.toArray from ht) λh2 he hj hsz hk=> ?_;have I2:Inv X aj σ H1 {s1 with heap:=h2}:=I1.kept (t':=s1.toks) hk;exact wpAny_pyIter_enum he ?_;exact#[_,[s1.heap.objs.size+1,s1.heap.objs.size],_,_,H1,rfl,I2,xC a (s1.heap.objs.size+1) s1.heap.objs.size (Nat.succ_ne_self _),#[#[_,he],hj],λb hb=> ?_,q];obtain rfl | hb:=ar.mp hb;show I1.rA (Nat.le_succ _) (I1.cT.fresh (Nat.le_succ _));rw[ah.mp hb];show I1.rA (ao _) (I1.cT.fresh (ao _))
def Ew (et:tg= .Tuple rB x1 vg)(hg:Gl X "enumerate")(hm:X.mg "enumerate" =none)(ha:PA X [l] tl)(hs:starEach [l] X.env= [(false,eval l X.env)]:=by rfl):PI X tg (.Call (.Name "enumerate" p) [l] [] pos) (FF X.K tl):=by subst et;intro aj s σ H R I h;exact Call_ (gz I hg hm Boot.«enumerate» (bG (cY (ha pos aj s σ H _ I h) λus s1 ⟨vs,H1,I1,r1,q1⟩=> ?_) hs rfl));let⟨a,e,⟨xs,hq⟩,q⟩:=q1;subst e;let⟨v,rfl,Wp⟩:=vals1 r1;cases Wp;let⟨its,rv,ht,hz⟩:=I1.list hq;exact call_enumerate_list ht.isList λh2 he hj hsz hk=> ?_;have I2:Inv X aj σ H1 {s1 with heap:=h2}:=I1.kept (t':=s1.toks) hk;exact wpAny_pyIter_enum he ?_;exact#[_,[s1.heap.objs.size+1,s1.heap.objs.size],_,_,H1,rfl,I2,xD a (s1.heap.objs.size+1) s1.heap.objs.size (Nat.succ_ne_self _),#[#[_,he],hj],λb hb=> ?_,q];obtain rfl | hb:=ar.mp hb;show I1.rA (Nat.le_succ _) (I1.cT.fresh (Nat.le_succ _));rw[ah.mp hb];show I1.rA (ao _) (I1.cT.fresh (ao _))
end EN
namespace WL
open PySem PySem.Spec PyProof.Rows L2 EN
section
variable {X:Cx}
def Rk (K:RZ):d3 V ->Hp ->VK ->Prop:=λxs H Q=>cJ λ(l:gi) (bs:d3 Bool)=>dh (xs= [.ref l]) (gC K H l (bs.map V.bl)) (Q (.bl (bs.all id)) H)
def N4 {bs:d3 Bool}(rv:cD (bs.map V.bl) its)(e:its.toArray[i]? =some v):v= .bool (bs.getD i false) /\ i<bs.length:=by
 have e':its[i]? =some v:= ⇑e;have dS:=rv.length;have hi:i<bs.length:=by have:=(ak.mp e').1;rw[aa] at dS;lia
 let⟨w',hw,tY⟩:=rv.get (i:=i) (x:= .bl bs[i]) (by rw[aB,am hi];rfl);rw[e'] at hw;cases hw;cases tY;show#[by simp[List.getD,hi],hi]
def Bn (bs:d3 Bool):(List.range bs.length).all (λi=>bs.getD i false)=bs.all id:=by apply Bool.eq_iff_iff.mpr;rw[List.all_eq_true,List.all_eq_true];symm;intro h x hx;let⟨i,hi,rfl⟩:=List.mem_iff_getElem.mp hx;have:=h i (bS.mpr hi);simpa [List.getD,hi] using this;intro h i hi;rw[bS] at hi;have:=h bs[i] (cx hi);simpa [List.getD,hi] using this
def Cq (hc:X.calm=true):gL X (.builtin "all") (Rk X.K):=by
 intro aj s σ H xs us Q I r h;let⟨l,bs,rfl,hs,q⟩:=h;let⟨u,rfl,ru⟩:=vals1 r;cases ru;let⟨its,rv,ht,hz⟩:=I.list hs;have hh:X.A.in1.handled=none:=I.ok.hd hc;have dS:its.toArray.size=bs.length:=by have:=rv.length;rw[aa] at this;simpa using this.symm
 have fE:l<s.heap.objs.size:=by let⟨_,e,_⟩:=ht.isList;show aF e
 exact PySem.call_all_walkS (wpAny_pyIter_list ht.isList ?_);exact#[s.heap.objs.size,_,_,_,its.toArray.size,_,_,λi=>bs.getD i false,rfl,(Walks.list hh s.heap.objs.size l (a5 fE) its.toArray).toS,#[#[_,aM _ rfl,rfl,rfl],ht.isList.push _],λi v s' Q' E' e hq=> ?_,λs' hm=> ?_];let⟨rfl,_⟩:=N4 rv e;show c_ hq;have hk: ∀b o,s.heap.get? b=some o ->s'.heap.get? b=some o:=λb o e=>hm.heap b o (λhI=>absurd (aF e) (by rw[ah.mp hI];show cg _)) (aq _ e);rw[Moved.eq_with hm,dS,Bn];show#[.bl _,H,I.kept (t':=s'.toks) hk,rfl,q]
variable {K:RZ}
theorem cF.bools {H:Hp}: ∀ {bs:d3 Bool} {vs:d3 V},cF K H (bs.map wb) vs ->vs=bs.map V.bl
 | [],vs,h=>by simpa only[dB,cF] using h
 | n::r,vs,h=>by simp![aE,cF] at h;let⟨v,t,rfl,h1,h2⟩:=h;rw[cF.bools h2,h1.eq];rfl
def Qs:zc:=λxs M q=>cJ λ(a:gi) (bs:d3 Bool)=>dh (xs= [wr a]) (M a=some (.lst (bs.map wb))) (q (wb (bs.all id)) M)
instance:IC K (Rk K) Qs where
 imp:=by rintro xs v M H q Q m r1 ⟨a,ns,rfl,hl,h⟩ k;let⟨v,rfl,r⟩:=r1.one;cases r.eq;let⟨vs,hv,rr⟩:=m a _ hl;cases rr.bools;show#[a,ns,rfl,gC.of hv,k _ M _ H h (bi.refl H) m WR.v]
def fB (l:d3 W):d3 W:=(List.range l.length).map λ(i:Nat)=> .tup [wi i,l.getD i wn]
def AI {i:Nat}(h:(fB l)[i]? =some x): ∃y,l[i]? =some y /\ x= .tup [wi i,y]:=by unfold fB at h;rw[aB] at h;by_cases hi:i<l.length;rw[List.getElem?_range hi] at h;cases h;show#[l[i],am hi,by simp[List.getD,hi]];rw[List.getElem?_eq_none ⇑hi] at h;cases h
def wH:(fB l).length=l.length:=by simp[fB]
def JV {i:Nat}(h:l[i]? =some y):(fB l)[i]? =some (.tup [wi i,y]):=by let⟨hi,rfl⟩:=ak.mp h;unfold fB;rw[aB,List.getElem?_range hi];simp[List.getD,hi]
def yx (a:WA):WI:=λρ M q=>a ρ M λxs M1=> ∃l,xs= [.tup l] /\ q (fB l) (λ_=>True) M1
def yy (a:WA):WI:=λρ M q=>a ρ M λxs M1=>cJ λp l=>dh (xs= [wr p]) (M1 p=some (.lst l)) (q (fB l) (λM'=>M' p=some (.lst l)) M1)
def ww {i:Nat}(m:f_ K M H)(rr:cF K H l vs)(hi:vs[i]? =some x)(hp:H p=none): bi H (cO H p (.tup [.int i,x])) /\ f_ K M (cO H p (.tup [.int i,x])) /\ ∃z,(fB l)[i]? =some z /\ WR K (cO H p (.tup [.int i,x])) z (.ref p):=by let⟨d,hd,r⟩:=rr.back hi;have ts:=L2.ff.ts (bU (o:= .tup [.int i,x]) hp);show#[ts,m.new hp,_,JV hd,WR.Po (i9.of bI) (cF.cons WR.v (cF.cons (r.ts ts) cF.nil))]
def yC (hv:i9 K H1 p vs)(rr:cF K H1 l vs): ∀i M H,bi H1 H ->f_ K M H ->True ->((fB l).length=i ->(GF K p).stop i H) /\ (i< (fB l).length ->(GF K p).go i H) /\ ∀v H',i< (fB l).length ->(GF K p).Kh i H v H' ->bi H H' /\ f_ K M H' /\ ∃x,(fB l)[i]? =some x /\ WR K H' x v:=by intro i M H ts m _;have rf:=Un.Wg ts hv;have Lb:=rr.ts ts;have hl:=Lb.length;rw[wH];exact#[λh=>#[vs,rf, ∅],λh=>#[vs,vs[i]'∅,rf,by simp],λv H' hi y=> ?_];let⟨q,x,hq,rfl,rfl,y⟩:=y;show ww m Lb (y vs rf) hq
def yD: ∀i M H,bi H1 H ->f_ K M H ->M p=some (.lst l) ->((fB l).length=i ->(GG K p).stop i H) /\ (i< (fB l).length ->(GG K p).go i H) /\ ∀v H',i< (fB l).length ->(GG K p).Kh i H v H' ->bi H H' /\ f_ K M H' /\ ∃x,(fB l)[i]? =some x /\ WR K H' x v:=by intro i M H ts m hk;let⟨vs,hv,rr⟩:=m p _ hk;have hl:=rr.length;rw[wH];exact#[λh=>#[vs,gC.of hv, ∅],λh=>#[vs,vs[i]'∅,gC.of hv,by simp],λv H' hi y=> ?_];let⟨q,x,hq,rfl,rfl,y⟩:=y;show ww m rr (y vs (gC.of hv)) hq
instance {t:TA}{a:WA} [ia:IA K t a]:II K (FE K t) (yx a) where
 imp:=λρ M σ H q R o h k=>ia.imp ρ M σ H _ _ o h λxs M1 v H1 ⟨l,e,h1⟩ t1 m1 r1=>by subst e;let⟨v,rfl,r⟩:=r1.one;let⟨p,vs,rfl,hv,rr⟩:=r.tup;show#[p,rfl,#[vs,hv],k _ _ _ M1 H1 h1 t1 m1 (yC hv rr)]
instance {t:TA}{a:WA} [ia:IA K t a]:II K (FF K t) (yy a) where
 imp:=λρ M σ H q R o h k=>ia.imp ρ M σ H _ _ o h λxs M1 v H1 ⟨p,l,e,hp,h1⟩ t1 m1 r1=>by subst e;let⟨v,rfl,r⟩:=r1.one;cases r.eq;let⟨vs,hv,rr⟩:=m1 p _ hp;show#[p,rfl,#[vs,gC.of hv],k _ _ _ M1 H1 h1 t1 m1 yD]
def Fs:yx a ρ M q=a ρ M λxs M1=>ya xs λx=>tupK x λl=>q (fB l) (λ_=>True) M1:=by unfold yx ya tupK;congr 1;funext xs M1;apply propext;symm;rintro⟨l,h,k⟩;show#[_,h,l,rfl,k];rintro⟨_,h,l,rfl,k⟩;show#[l,h,k]
def Ft:yy a ρ M q=a ρ M λxs M1=>ya xs λx=>fJ x λp=>lstK (M1 p) λl=>q (fB l) (λM'=>M' p=some (.lst l)) M1:=by unfold yy ya fJ lstK;congr 1;funext xs M1;apply propext;symm;rintro⟨p,l,h,h2,k⟩;show#[_,h,p,rfl,l,h2,k];rintro⟨_,h,p,rfl,l,h2,k⟩;show#[p,l,h,h2,k]
end
end WL
namespace WL
open PySem L2
def Gj {M1:Mp}(hz:xs.length<=sizeLine)(h: ∀p,M1 p=none -> ∃I:Nat ->d3 W ->Mp ->Prop,fh (I 0 [] (um M1 p (.lst []))) (∀i ys M,i<=xs.length ->I i ys M ->keep M /\ M p=some (.lst ys) /\ ys.length<=i) (∀i x ys M,xs[i]? =some x ->I i ys M -> ∀N:d3 W ->Mp ->Prop,(∀ys M,I (i+1) ys M ->N ys M) ->g x (kZ own fr ρ) M λρ2 M2=>c ρ2 M2 λb M3=>iA b (el ρ2 M3 λy M4=>M4 p=some (.lst ys) /\ N (ys++ [y]) (um M4 p (.lst (ys++ [y])))) (N ys M3)) (∀ys M,I xs.length ys M ->q (wr p) M)):sW xs keep own fr g c el ρ M1 q:=by exact#[hz,λp hp=> ?_];let⟨I,h0,h1,h2,h3⟩:=h p hp;show#[I,h0,h1,λi x ys M hx hI=>h2 i x ys M hx hI _ λ_ _ z=>z,h3]
theorem MB {bs:d3 Bool}(h:M x=some (.lst (bs.map wb)))(k:q (wb (bs.all id)) M):Qs [wr x] M q:=#[x,bs,rfl,h,k]
end WL
namespace WQ
open PySem L2 WL WP
def Mo (p:Int)(l:d3 Int):Prop:=(∀x∈l,0<=x /\ x<p) /\ ∀x,l.getLast? =some x ->x≠0
def Gx (row:d3 Int)(k:Nat)(x:Int):d3 Int:=row.set k (row.getD k 0+x)
def f' (row:d3 Int)(o:Nat)(l:d3 Int)(n:Nat):d3 Int:=(List.range n).foldl (λr i=>Gx r (o+i) (l.getD i 0)) row
def RK (row:d3 Int)(k:Nat)(x:Int)(b:d3 Int):Nat ->d3 Int
 | 0=>row
 | j+1=>Gx (RK row k x b j) (k+j) (x*b.getD j 0)
def pw (p s:Int):Nat ->Int
 | 0=>1
 | n+1=>pw p s n*s % p
def EL:kn:=λxs M q=>cJ λ(p s:Int)=>ja (xs= [wi p,wi s]) (p=2 \/ p=3 \/ p=5 \/ p=7) (0<s) (s<p) (∀r,0<r ->r<p ->r*s % p=1 ->q (wi r) M)
def Nj: ∀ (p s:Int),(p=2 \/ p=3 \/ p=5 \/ p=7) ->0<s ->s<p ->0<pw p s (p - 2).toNat /\ pw p s (p - 2).toNat<p /\ pw p s (p - 2).toNat*s % p=1:=by intro p s hp h0 h1;have hs:s=1 \/ s=2 \/ s=3 \/ s=4 \/ s=5 \/ s=6:= ∅;obtain rfl | rfl | rfl | rfl:=hp <;>obtain rfl | rfl | rfl | rfl | rfl | rfl:=hs <;>first | decide | lia
end WQ
namespace WL
open PySem L2 PySem.Spec PyProof.Rows
abbrev WX:=gi ->Mp ->Prop
def up (e:WX):WX:=λC M'=> ∃M0,Sm M0 M' /\ e C M0
end WL
namespace WL
open PySem L2
def NF:W ->Bool
 | .v x=>decide (x=V.dY)
 | .tup _=>false
def Le:R2:=λx y H Q=>y= .dY /\ Q (.bl (!decide (x=V.dY))) H
def Qe:xo:=λx y M q=>y=wn /\ q (wb (!NF x)) M
instance {K:RZ}:IR K Le Qe where
 imp:=by
  rintro x y v u M H q Q m r1 r2 ⟨rfl,h⟩ k;exact#[r2.eq,k _ M _ H h (bi.refl H) m ?_];cases x with
  | v x=>rw[r1.eq];show WR.v
  | tup l=>let⟨a,vs,rfl,_⟩:=r1.tup;show WR.v
theorem EO:qP X (compareOp .IsNot) Le:=Iw
end WL
namespace L2
open PySem PySem.Spec PyProof.Rows
def Keeps (S:Nat ->Prop)(g:TG):Prop:= ∀ (σ:St) (v:V) (H:Hp) (Q:St ->Hp ->Prop),g v σ H Q ->g v σ H λσ2 H2=>(σ2.length=σ.length /\ ∀i,¬S i ->σ2[i]? =σ[i]?) /\ Q σ2 H2
def v8 (h:S n):Keeps S (oi n):=by intro σ v H Q q;exact#[#[by simp,λi hi=> ?_],q];rw[List.getElem?_set_ne];intro e;subst e;show hi h
def A4 (h:(jP own fr σ)[i]? =some (some v)):own<=i:=by unfold jP at h;obtain c | c:=dz i own;rw[bg ⇑c,List.getElem?_replicate,ap c] at h;cases h;show c
def inW (CV:TI)(g2:TG)(uW:TT)(te:TE)(σ2:St)(p:gi)(H4:Hp)(N:d3 V ->Hp ->Prop):Prop:=CV σ2 H4 λJ2 H5=> ∃Z:Nat ->Nat ->d3 V ->Hp ->Prop,(∃m zs,Z 0 m zs H5) /\ ∀j k zs H6,Z j k zs H6 ->H6 p=some (.lst zs) /\((J2.stop j H6 /\ N zs H6) \/ (J2.go j H6 /\ zs.length<sizeLine /\ ∀y H7,J2.Kh j H6 y H7 ->g2 y σ2 H7 λσ3 H8=>uW σ3 H8 λc H9=>if c=true then te σ3 H9 λz P8=> ∃ws,P8 p=some (.lst ws) /\ ws.length<sizeLine /\ ∃k',k'<k /\ Z (j+1) k' (ws++ [z]) (cO P8 p (.lst (ws++ [z]))) else ∃ws k',k'<k /\ Z (j+1) k' ws H9))
def Gk (J:It)(own:Nat)(fr:d3 Nat)(g:TG)(tc:TT)(CV:TI)(g2:TG)(uW:TT)(te:TE)(σ:St)(p:gi)(H1:Hp)(Q:VK):Prop:=∃ W :Nat ->Nat ->d3 V ->Hp ->Prop,(∃m,W 0 m [] (cO H1 p (.lst []))) /\ ∀i m ys H',W i m ys H' ->H' p=some (.lst ys) /\((J.stop i H' /\ Q (.ref p) H') \/ (J.go i H' /\ ∀x H2,J.Kh i H' x H2 ->g x (jP own fr σ) H2 λσ2 H3=>tc σ2 H3 λb H4=>if b=true then inW CV g2 uW te σ2 p H4 λzs H5=> ∃m',m'<m /\ W (i+1) m' zs H5 else ∃zs m',m'<m /\ W (i+1) m' zs H4))
def DA (wi:TI)(own:Nat)(fr:d3 Nat)(g:TG)(tc:TT)(CV:TI)(g2:TG)(uW:TT)(te:TE):TE:=λσ H Q=>wi σ H λJ H1=> ∀p,H1 p=none ->Gk J own fr g tc CV g2 uW te σ p H1 Q
abbrev ul (iZ tg iter:Expr)(iY:d3 Expr)(jS de:Expr)(fR:d3 Expr)(scope:Scope)(pos:Pos):Expr:= .ListComp iZ [#[tg,iter,iY,0],#[jS,de,fR,0]] scope pos
def Hy (iZ tg iter:Expr)(iY:d3 Expr)(jS de:Expr)(fR:d3 Expr)(scope:Scope)(pos:Pos)(it fg:d4)(env:Env): compTurn (ul iZ tg iter iY jS de fR scope pos) 0 it fg env=(do
 standAt iter.pos
 let r <- pyNext it
 match r with
 | none=>pure (.done .next)
 | some v=>do
  letOwnedTupleGo tg it v
  assign tg env v
  let ok <- forIn iY true λc r=>if r=true then do let ok <- isTrue c env (eval c env);pure (ForInStep.yield ok) else pure (ForInStep.yield r)
  if ok=true then do
   let x <- eval de env
   standAt de.pos
   let x <- foldedSetIterable de env x
   let i2 <- holding [x] (pyIter x)
   let _ <- runOwn (.compStart (ul iZ tg iter iY jS de fR scope pos) 1 i2 fg env) env
   again (.compLoop (ul iZ tg iter iY jS de fR scope pos) 0 it fg env)
  else again (.compLoop (ul iZ tg iter iY jS de fR scope pos) 0 it fg env)):=by rfl
def Hx (iZ tg iter:Expr)(iY:d3 Expr)(jS de:Expr)(fR:d3 Expr)(scope:Scope)(pos:Pos)(it fg:d4)(env:Env): compTurn (ul iZ tg iter iY jS de fR scope pos) 1 it fg env=(do
 standAt de.pos
 let r <- pyNext it
 match r with
 | none=>pure (.done .next)
 | some v=>do
  letOwnedTupleGo jS it v
  assign jS env v
  let ok <- forIn fR true λc r=>if r=true then do let ok <- isTrue c env (eval c env);pure (ForInStep.yield ok) else pure (ForInStep.yield r)
  if ok=true then do
   ((do let _ <- call (.builtin "list.append") [fg, <- eval iZ env]):Sem Unit)
   again (.compLoop (ul iZ tg iter iY jS de fR scope pos) 1 it fg env)
  else again (.compLoop (ul iZ tg iter iY jS de fR scope pos) 1 it fg env)):=by rfl
def DH (h0:codeAny (model prog w) A (.compLoop (ul iZ tg iter iY jS de fR scope pos) 1 it fg env) R s)(h:wpAny (model prog w) A (pyIter it) (λXs s'=>codeAny (model prog w) A (.compLoop (ul iZ tg iter iY jS de fR scope pos) 1 Xs fg env) R s') (notedBy (model prog w) A env λx s'=>R (.error x) s') s): codeAny (model prog w) A (.compStart (ul iZ tg iter iY jS de fR scope pos) 1 it fg env) R s:=by
 exact codeAny_of_tree ?_;change wpAny _ _ ((compStart (ul iZ tg iter iY jS de fR scope pos) 1 it fg env).onRaise (λx=>do noteFrame x env;standAt theWindowsPlace)) _ _ s;exact wpAny_notedAt ?_;unfold compStart;change wpAny _ _ (ask >>=_) _ _ s;exact ae (wpAny_askSetting (wpAny_ite ?_));split;first
 | show ae (ax (ax (And.intro rfl h0)))
 | show ax (And.intro rfl h0)
 first
 | show ae (wpAny_rule (ae (wpAny_standAt (ae (bM h (λXs s' h'=>ax (And.intro rfl h')) λ_ _ x=>x)))))
 | (exact ae (wpAny_rule ?_);change wpAny _ _ (standAt de.pos >>=_) _ _ s;show ae (wpAny_standAt (ae (bM h (λXs s' h'=>ax (And.intro rfl h')) λ_ _ x=>x))))
theorem IV (I:Nat ->d5 ->Prop)(turn : ∀n s,I n s ->wpAny (model prog w) A (pyNext it) (λr s₁=>match r with
   | none=>R (.ok .next) s₁
   | some v=>wpAny (model prog w) A (letOwnedTupleGo jS it v) (λ_ s₀=>wpAny (model prog w) A (assign jS env v) (λ_ s₂=>
    wpAny (model prog w) A (forIn fR true λc r=>if r=true then do let ok <- isTrue c env (eval c env);pure (ForInStep.yield ok) else pure (ForInStep.yield r)) (λok s₃=>if ok=true then wpAny (model prog w) A (eval iZ env) (λx s₄=>wpAny (model prog w) A (call (.builtin "list.append") [fg,x]) (λ_ s₅=> ∃m,m<n /\ I m s₅) (λ_ _=>False) s₄) (λ_ _=>False) s₃ else ∃m,m<n /\ I m s₃) (λ_ _=>False) s₂)
    (λ_ _=>False) s₀) (λ_ _=>False) s₁) (λ_ _=>False) s)(n:Nat)(h:I n s):codeAny (model prog w) A (.compLoop (ul iZ tg iter iY jS de fR scope pos) 1 it fg env) R s:=by
 exact codeAny_loop rfl I (λn s hI=> ?_) n h
 change wpAny _ A ((compTurn (ul iZ tg iter iY jS de fR scope pos) 1 it fg env).onRaise (λx=>do noteFrame x env;theTreesLotGoes x)) _ _ s
 exact wpAny_noted ?_
 rw[Hx]
 exact ae (wpAny_standAt (ae (bM (turn n s hI) (λr s₁ h₁=> ?_) λ_ _ h'=>h'.elim)))
 cases r with
 | none=>show ax h₁
 | some v=>
  exact ae (bM h₁ (λ_ s₀ R'=> ?_) λ_ _ h'=>h'.elim);exact ae (bM R' (λ_ s₂ h₂=> ?_) λ_ _ h'=>h'.elim);exact ae (bM h₂ (λRx s₃ h₃=> ?_) λ_ _ h'=>h'.elim);cases Rx with
  | false=>show ax #[rfl,h₃]
  | true=>show ae (ae (bM h₃ (λx s₄ h₄=>ae (bM h₄ (λ_ s₅ h₅=>ax (ax #[rfl,h₅])) λ_ _ h'=>h'.elim)) λ_ _ h'=>h'.elim))
theorem IW (I:Nat ->d5 ->Prop)(hs: ∀x,foldedSetIterable de env x=pure x)(turn : ∀n s,I n s ->wpAny (model prog w) A (pyNext it) (λr s₁=>match r with
   | none=>R (.ok .next) s₁
   | some v=>wpAny (model prog w) A (letOwnedTupleGo tg it v) (λ_ s₀=>wpAny (model prog w) A (assign tg env v) (λ_ s₂=>
    wpAny (model prog w) A (forIn iY true λc r=>if r=true then do let ok <- isTrue c env (eval c env);pure (ForInStep.yield ok) else pure (ForInStep.yield r)) (λok s₃=>if ok=true then wpAny (model prog w) A (eval de env) (λx s₄=>wpAny (model prog w) A (pyIter x) (λi2 s₅=>codeAny (model prog w) (A.mark none) (.compStart (ul iZ tg iter iY jS de fR scope pos) 1 i2 fg env) (λr s₆=>match r with | .ok _=> ∃m,m<n /\ I m s₆ | .error _=>False) s₅) (λ_ _=>False) s₄) (λ_ _=>False) s₃ else ∃m,m<n /\ I m s₃) (λ_ _=>False) s₂)
    (λ_ _=>False) s₀) (λ_ _=>False) s₁) (λ_ _=>False) s)(n:Nat)(h:I n s):codeAny (model prog w) A (.compLoop (ul iZ tg iter iY jS de fR scope pos) 0 it fg env) R s:=by
 exact codeAny_loop rfl I (λn s hI=> ?_) n h
 change wpAny _ A ((compTurn (ul iZ tg iter iY jS de fR scope pos) 0 it fg env).onRaise (λx=>do noteFrame x env;theTreesLotGoes x)) _ _ s
 exact wpAny_noted ?_
 rw[Hy]
 exact ae (wpAny_standAt (ae (bM (turn n s hI) (λr s₁ h₁=> ?_) λ_ _ h'=>h'.elim)))
 cases r with
 | none=>show ax h₁
 | some v=>
  exact ae (bM h₁ (λ_ s₀ R'=> ?_) λ_ _ h'=>h'.elim);exact ae (bM R' (λ_ s₂ h₂=> ?_) λ_ _ h'=>h'.elim);exact ae (bM h₂ (λRx s₃ h₃=> ?_) λ_ _ h'=>h'.elim);cases Rx with
  | false=>show ax #[rfl,h₃]
  | true=>
   exact ae (bM h₃ (λx s₄ h₄=> ?_) λ_ _ h'=>h'.elim);exact ae (wpAny_standAt ?_);rw[hs];exact ae (ax (ae (dg (bM h₄ (λi2 s₅ h₅=> ?_) λ_ _ h'=>h'.elim))));exact ae (wpAny_runOwn ?_);exact codeAny_mono h₅ λr s' z=> ?_;cases r with
   | ok f=>show ax #[rfl,z]
   | error e=>show z.elim
def wX {σ:St}{RR:d4 ->gi ->Result ->d5 ->Prop}(j8:X.calm=true)(S:eV X own fr N' scope)(hg: ∀s3 H3,PG (b8 X N' scope cl fp s3 H3) tg g)(Sy:n1<=own.length)(hw:Keeps (λi=>i<n1) g)(hc: ∀s3 H3,Mm (b8 X N' scope cl fp s3 H3) iY tc)(Yj: ∀s3 H3,PI (b8 X N' scope cl fp s3 H3) jS de CV)(Ym: ∀s3 H3,PG (b8 X N' scope cl fp s3 H3) jS g2)(XB:Keeps (λi=>n1<=i /\ i<own.length) g2)(PR: ∀s3 H3,Mm (b8 X N' scope cl fp s3 H3) fR uW)(he: ∀s3 H3,PE (b8 X N' scope cl fp s3 H3) iZ te)(jN: ∀s3 H3 x,foldedSetIterable de (b8 X N' scope cl fp s3 H3).env x=pure x)(ny: ∀x c,cl.lookup x=some c ->X.env.cells.lookup x=some c)(rq: ∀y∈scope.names,y.2= .free ->(cl.lookup y.1).isSome=true)(I:Inv X aj σ H s)(T:qJ X.prog X.w X.K tg J fp it tn)(st:tn 0 s.heap)(uB: ∀b∈fp,jI X aj H b)(h: ∀p,H p=none ->Gk J own.length fr g tc CV g2 uW te σ p H Q)(fin: ∀ (s3:d5) (H3:Hp),Inv X aj σ H3 s3 ->(∀b∈fp,jI X aj H3 b) -> ∀ (D:gi) (σ':St) (H':Hp) (s':d5) (t:Nat),D<s3.heap.objs.size ->Inv (b8 X N' scope cl fp s3 H3) [] σ' H' s' ->Q (.ref D) H' ->RR (.ref D) s3.heap.objs.size (.ok .next) s'): wpAny (model X.prog X.w) X.A (newList []) (λfg s₃=>wpAny (model X.prog X.w) X.A (newFunctionEnv scope X.env.globals cl [] X.env.qual none .none (some X.env)) (λGo s₄=>codeAny (model X.prog X.w) X.A (.compStart (ul iZ tg iter iY jS de fR scope pos) 0 (.ref it) fg {Go with scope:=relabel scope X.env}) (RR fg Go.locals) s₄) E s₃) E s:=by
 exact wpAny_newObj_type ?_;have hf:H s.heap.objs.size=none:=I.cT.fresh (ao _);let⟨W,⟨m0,w0⟩,turn⟩:=h _ hf;generalize e3:({s with heap:=s.heap.push {cls:= .type "list",dict:=none,data:= .seq ([]:d3 d4).toArray}}:d5)=s3;have MV:s3.heap.objs.size=s.heap.objs.size+1:=by rw[<- e3];show dM ..
 have V9: ∀b o,s.heap.get? b=some o ->s3.heap.get? b=some o:=λb o e=>by rw[<- e3];show aq _ e
 have I3:Inv X aj σ (cO H s.heap.objs.size (.lst [])) s3:=by rw[<- e3];show I.laid (t':=s.toks) (λb u e=>aq _ e) (ao _) #[cB _,[],0, .nil,aM _ rfl]
 have OJ: ∀b∈fp,b<s.heap.objs.size:=λb hb=>by let⟨o,e,_⟩:=T.obj 0 _ st b hb;show aF e
 have yL: ∀b∈fp,jI X aj (cO H s.heap.objs.size (.lst [])) b:=λb hb=>#[by rw[bC (a5 (OJ b hb))];show(uB b hb).1,(uB b hb).2]
 exact wpAny_newFunctionEnv S.pV (by intro y hy;simp at hy) (λh₁ Ob N8=> ?_) S.kind;have old: ∀b o,s3.heap.get? b=some o ->h₁.get? b=some o:=λb o e=>N8.extBut b o (a5 (aF e)) (aq _ e);have Ic:=wd (t:=s3.toks+([]:d3 (Str×d4)).length) S I3 ny rq yL (λb hb=>by rw[MV];show Nat.lt_succ_of_lt (OJ b hb)) Ob old;have Bi:tn 0 h₁:=T.keep 0 _ _ st λb hb o e=>old b o (V9 b o e);have pF: ∀ {H':Hp},(∀b∈fp,H' b=none) -> ∀b∈fp,jI (b8 X N' scope cl fp s3 (cO H s.heap.objs.size (.lst []))) [] H' b:=λhn b hb=>by exact#[hn b hb,?_,?_, .inl hb,λx c e=>(uB b hb).2.2.2.2.1 x c (ny x c e),λp hp=>absurd (show p∈([]:d3 (gi×Obj)) from hp) (by simp)];change b≠s3.heap.objs.size;rw[MV];show a5 (Nat.lt_succ_of_lt (OJ b hb));show Ic.ok.Ca b hb
 have loop : codeAny (model X.prog X.w) X.A (.compLoop (ul iZ tg iter iY jS de fR scope pos) 0 (.ref it) (.ref s.heap.objs.size) (compEnvC scope cl s3.heap.objs.size X.env)) (RR (.ref s.heap.objs.size) s3.heap.objs.size) {s3 with heap:=h₁,toks:=s3.toks+([]:d3 (Str×d4)).length}:=by
  exact IW (λn s'=>gv λi ys H'=>fh (Inv (b8 X N' scope cl fp s3 (cO H s.heap.objs.size (.lst []))) [] (jP own.length fr σ) H' s') (tn i s'.heap) (∀b∈fp,H' b=none) (W i n ys H')) (jN s3 H) ?_ m0 #[0,[],_,Ic,Bi,λb hb=>(yL b hb).1,w0];rintro n s4 ⟨i,ys,H4,I4,fV,JP,w4⟩;let⟨BY,alt⟩:=turn i n ys H4 w4;rcases alt with⟨stop,q⟩ | ⟨go,step⟩
  .exact cY (T.done (b8 X N' scope cl fp s3 (cO H s.heap.objs.size (.lst []))) rfl rfl rfl j8 i [] s4 _ H4 (λ_ _=>False) I4 (pF JP) fV stop) λr s5 ⟨hr,I5⟩=> ?_;subst hr;show fin s3 _ I3 yL _ _ H4 s5 s5.toks (by rw[MV];show Nat.lt_succ_self _) I5 q
  exact cY (T.item (b8 X N' scope cl fp s3 (cO H s.heap.objs.size (.lst []))) rfl rfl rfl j8 i [] s4 _ H4 (λ_ _=>False) I4 (pF JP) fV go) λr s5 ⟨u,hr,h5⟩=> ?_;subst hr;exact cY h5 λ_ s6 ⟨x,H6,I6,r6,y6,MY,Zt⟩=> ?_;have Z_:=I6.pinned (pF Zt) (T.obj _ _ MY);have KS:=hw _ x H6 _ (step x H6 y6);exact cY (hg s3 _ _ s6 _ H6 x u _ Z_ r6 KS) λ_ s7 ⟨σ7,H7,I7,wk,q7⟩=> ?_;have wk1: ∀ (j:Nat) v,(jP own.length fr σ)[j]? =some (some v) ->σ7[j]? =some (some v):=λj v e=>by rw[wk.2 j (by have:=A4 e;lia)];show e
  have wk2: ∀j,n1<=j ->j<own.length -> ∀v,σ7[j]? ≠some (some v):=λj h1 h2 v e=>by rw[wk.2 j ∅] at e;have:=A4 e;lia
  have again: ∀ {σ9:St} {H9:Hp} {s9:d5} {Mq:d3 V},σ9.length=σ7.length ->(∀ (j:Nat) v,σ7[j]? =some (some v) ->σ9[j]? =some (some v)) ->Inv (b8 X N' scope cl fp s3 (cO H s.heap.objs.size (.lst []))) ([]++iu fp s6.heap) σ9 H9 s9 ->(∃m',m'<n /\ W (i+1) m' Mq H9) ->∃m,m<n /\ gv λi ys H'=>fh (Inv (b8 X N' scope cl fp s3 (cO H s.heap.objs.size (.lst []))) [] (jP own.length fr σ) H' s9) (tn i s9.heap) (∀b∈fp,H' b=none) (W i m ys H'):=λ{σ9 H9 s9 Mq} hl9 hv9 I9 ⟨m',hm,w9⟩=>by exact#[m',hm,i+1,Mq,H9,(I9.je).weak ?_ λj v e=>hv9 j v (wk1 j v e),T.keep _ _ _ MY λb hb o e=>(I9.pin (b,o) (aX _ (aX _ (fq hb e)))).1,λb hb=> ?_,w9];rw[hl9,wk.1];let⟨o,e,d⟩:=T.obj _ _ MY b hb;show(I9.pin (b,o) (aX _ (aX _ (fq hb e)))).2.1
  exact cY (hc s3 _ _ s7 σ7 H7 _ I7 q7) λok s8 ⟨H8,I8,q8⟩=> ?_;cases ok with
  | false=>simp![ay,be] at q8 ⊢;let⟨zs,q8⟩:=q8;show again rfl (λ_ _ e=>e) I8 q8
  | true =>
   simp![bR] at q8 ⊢;exact cY (Yj s3 _ _ s8 σ7 H8 _ I8 q8) λv2 s9 h9=>cY h9 λRY Wn Vh=> ?_;let⟨v_,Td,_F,J2,P8,ZF,_b,T2,QV,f10,Z,⟨mz,z0,yH⟩,Qy⟩:=Vh;subst ZF;have DG: ∀ {H':Hp},(∀b∈Td,H' b=none) -> ∀b∈Td,jI (b8 X N' scope cl fp s3 (cO H s.heap.objs.size (.lst []))) ([]++iu fp s6.heap) H' b:=λhn b hb=>#[hn b hb,(f10 b hb).2]
   have Lr:codeAny (model X.prog X.w) X.A (.compLoop (ul iZ tg iter iY jS de fR scope pos) 1 (.ref v_) (.ref s.heap.objs.size) (compEnvC scope cl s3.heap.objs.size X.env)) (λr s₆=>match r with
   | .ok _=> ∃m,m<n /\ gv λi ys H'=>fh (Inv (b8 X N' scope cl fp s3 (cO H s.heap.objs.size (.lst []))) [] (jP own.length fr σ) H' s₆) (tn i s₆.heap) (∀b∈fp,H' b=none) (W i m ys H')
   | .error _=>False) Wn:=by
    exact IV (λk s'=>gv λj zs H'=>fh (Inv (b8 X N' scope cl fp s3 (cO H s.heap.objs.size (.lst []))) ([]++iu fp s6.heap) σ7 H' s') (_F j s'.heap) (∀b∈Td,H' b=none) (Z j k zs H')) ?_ mz #[0,z0,P8,_b,QV,λb hb=>(f10 b hb).1,yH]
    rintro k _Q ⟨j,zs,_d,I11,QU,Tc,z11⟩
    let⟨aay,ZX⟩:=Qy j k zs _d z11
    rcases ZX with⟨QQ,qN⟩ | ⟨go2,hsz2,QT⟩
    exact cY (T2.done (b8 X N' scope cl fp s3 (cO H s.heap.objs.size (.lst []))) rfl rfl rfl j8 j _ _Q _ _d (λ_ _=>False) I11 (DG Tc) QU QQ) λr s12 ⟨hr,I12⟩=> ?_
    subst hr
    show again rfl (λ_ _ e=>e) I12 qN
    exact cY (T2.item (b8 X N' scope cl fp s3 (cO H s.heap.objs.size (.lst []))) rfl rfl rfl j8 j _ _Q _ _d (λ_ _=>False) I11 (DG Tc) QU go2) λr s12 ⟨u2,hr,h12⟩=> ?_
    subst hr
    exact cY h12 λ_ _P ⟨x2,_c,I13,r13,y13,MZ,Zu⟩=> ?_
    have _a:=I13.pinned (DG Zu) (T2.obj _ _ MZ)
    have Wf:=XB _ x2 _c _ (QT x2 _c y13)
    exact cY (Ym s3 _ _ _P _ _c x2 u2 _ _a r13 Wf) λ_ s14 ⟨σ14,H14,I14,P_,q14⟩=> ?_
    have Mf: ∀ {H9:Hp} {s9:d5} {ws:d3 V},Inv (b8 X N' scope cl fp s3 (cO H s.heap.objs.size (.lst []))) (([]++iu fp s6.heap)++iu Td _P.heap) σ14 H9 s9 ->(∃k',k'<k /\ Z (j+1) k' ws H9) ->∃m,m<k /\ gv λj zs H'=>fh (Inv (b8 X N' scope cl fp s3 (cO H s.heap.objs.size (.lst []))) ([]++iu fp s6.heap) σ7 H' s9) (_F j s9.heap) (∀b∈Td,H' b=none) (Z j m zs H'):=λ{H9 s9 ws} I9 ⟨k',u8,z9⟩=>by exact#[k',u8,j+1,ws,H9,(I9.je).weak P_.1.symm λa v e=> ?_,T2.keep _ _ _ MZ λb hb o e=>(I9.pin (b,o) (aX _ (aX _ (fq hb e)))).1,λb hb=> ?_,z9];rw[P_.2 a λhS=>wk2 a hS.1 hS.2 v e];show e;let⟨o,e,d⟩:=T2.obj _ _ MZ b hb;show(I9.pin (b,o) (aX _ (aX _ (fq hb e)))).2.1
    exact cY (PR s3 _ _ s14 σ14 H14 _ I14 q14) λWU s15 ⟨H15,I15,Pk⟩=> ?_
    cases WU with
    | false=>simp![ay,be] at Pk ⊢;let⟨ws,Pk⟩:=Pk;show Mf I15 Pk
    | true=>simp![bR] at Pk ⊢;exact cY (he s3 _ _ s15 σ14 H15 _ I15 Pk) λy s16 ⟨yv,H16,I16,ry,ws,XR,Xy,q16⟩=> ?_;exact cY (nM _ s16 σ14 H16 (.ref s.heap.objs.size) [yv] (.ref s.heap.objs.size) [y] (λv H'=>H'=cO H16 s.heap.objs.size (.lst (ws++ [yv]))) I16 rfl (.cons ry .nil) #[_,ws,yv,rfl,rfl,XR,Xy,rfl]) λv s17 ⟨_,H17,I17,_,e17⟩=> ?_;subst e17;show Mf I17 q16
   change codeAny _ X.A _ _ Wn;show DH Lr (T2.self _ 0 _ _ _ QV Lr)
 show codeAny_compStart_list loop (T.self _ 0 _ _ _ Bi loop)
def EE {pos:Pos}(j8:X.calm=true)(S:eV X own fr N' scope)(hi:PI X tg iter wi)(hg: ∀cl fp s3 H3,PG (b8 X N' scope cl fp s3 H3) tg g)(Sy:n1<=own.length)(hw:Keeps (λi=>i<n1) g)(hc: ∀cl fp s3 H3,Mm (b8 X N' scope cl fp s3 H3) iY tc)(Yj: ∀cl fp s3 H3,PI (b8 X N' scope cl fp s3 H3) jS de CV)(Ym: ∀cl fp s3 H3,PG (b8 X N' scope cl fp s3 H3) jS g2)(XB:Keeps (λi=>n1<=i /\ i<own.length) g2)(PR: ∀cl fp s3 H3,Mm (b8 X N' scope cl fp s3 H3) fR uW)(he: ∀cl fp s3 H3,PE (b8 X N' scope cl fp s3 H3) iZ te)(hs: ∀x,foldedSetIterable iter X.env x=pure x:=by intro _;rfl)(jN: ∀cl fp s3 H3 x,foldedSetIterable de (b8 X N' scope cl fp s3 H3).env x=pure x:=by intro _ _ _ _ _;rfl):PE X (.ListComp iZ [#[tg,iter,iY,0],#[jS,de,fR,0]] scope pos) (DA wi own.length fr g tc CV g2 uW te):=by intro aj s σ H Q I h;let⟨cl,F4,ny,rq⟩:=qC (I.ok.cellsOf S);rw[eval_ListComp];exact wpAny_comprehension_free (use:=none) rfl hs F4 S.kind S.loc (cY (hi aj s σ H _ I h) λv s1 h1=>cY h1 λRY s2 h2=> ?_);let⟨it,fp,tn,J,H2,e,I2,T,lf,f2,h2⟩:=h2;subst e;exact wX (RR:=λfg C=>compPost (model X.prog X.w) X.A X.xe none (EP X aj σ Q) fg C) j8 S (hg cl fp) Sy hw (hc cl fp) (Yj cl fp) (Ym cl fp) XB (PR cl fp) (he cl fp) (jN cl fp) ny rq I2 T lf f2 h2 ?_;intro s3 H3 I3 f3 D σ' H' s' t hD Ic q;let⟨m,hn,_⟩:=Ic.loc;exact#[m,hn,λh' Sn=>#[.ref D,H',?_,rfl,q]];show sU I3 rfl (sV I3 f3 Ic) Ic.free Sn
end L2
namespace WL
open PySem L2
section
variable {K:RZ}
def N5 (uV:d3 W)(f7:Mp ->Prop)(g2:WG)(c2:WT)(el:WE)(ρ2:du)(p:gi)(ys:d3 W)(M4:Mp)(N:d3 W ->Mp ->Prop):Prop:=∃I2:Nat ->d3 W ->Mp ->Prop,fh (I2 0 ys M4) (∀j zs M,j<=uV.length ->I2 j zs M ->f7 M /\ M p=some (.lst zs) /\ zs.length<sizeLine) (∀j y zs M,uV[j]? =some y ->I2 j zs M ->g2 y ρ2 M λρ3 M5=>c2 ρ3 M5 λb M6=>if b=true then el ρ3 M6 λz M7=>M7 p=some (.lst zs) /\ I2 (j+1) (zs++ [z]) (um M7 p (.lst (zs++ [z]))) else I2 (j+1) zs M6) (∀zs M,I2 uV.length zs M ->N zs M)
def uL (xs:d3 W)(keep:Mp ->Prop)(own:Nat)(fr:d3 Nat)(g:WG)(c:WT)(v_:WI)(g2:WG)(c2:WT)(el:WE)(ρ:du)(M1:Mp)(q:WK):Prop:= ∀p,M1 p=none -> ∃I:Nat ->d3 W ->Mp ->Prop,fh (I 0 [] (um M1 p (.lst []))) (∀i ys M,i<=xs.length ->I i ys M ->keep M /\ M p=some (.lst ys)) (∀i x ys M,xs[i]? =some x ->I i ys M ->g x (kZ own fr ρ) M λρ2 M2=>c ρ2 M2 λb M3=>if b=true then v_ ρ2 M3 λuV f7 M4=>N5 uV f7 g2 c2 el ρ2 p ys M4 (I (i+1)) else I (i+1) ys M3) (∀ys M,I xs.length ys M ->q (wr p) M)
def Db (it:WI)(own:Nat)(fr:d3 Nat)(g:WG)(c:WT)(v_:WI)(g2:WG)(c2:WT)(el:WE):WE:=λρ M q=>it ρ M λxs keep M1=>uL xs keep own fr g c v_ g2 c2 el ρ M1 q
theorem Qo:Db it own fr g c v_ g2 c2 el ρ M q=it ρ M λxs keep M1=>uL xs keep own fr g c v_ g2 c2 el ρ M1 q:=rfl
instance {ti:TI}{own:Nat}{fr:d3 Nat}{g:TG}{tc:TT}{_G:TI}{g2:TG}{uW:TT}{te:TE}{it:WI}{w:WG}{c:WT}{v_:WI}{w2:WG}{c2:WT}{el:WE} [ii:II K ti it] [ig:IG K g w] [ic:IT K tc c] [ii2:II K _G v_] [ig2:IG K g2 w2] [ic2:IT K uW c2] [ie:IE K te el]: IE K (DA ti own fr g tc _G g2 uW te) (Db it own fr w c v_ w2 c2 el) where
 imp := λρ M σ H q Q o h k=>ii.imp ρ M σ H _ _ o h λxs keep J M1 H1 h1 t1 m1 ok=>by
  intro p hp;let⟨I,h0,hk,hs,hd⟩:=h1 p (m1.fresh hp);have tp:=L2.ff.ts (bU (o:= .lst []) hp);exact#[λi m vs H'=>m=xs.length - i /\ i<=xs.length /\ cJ λys M'=>ja (I i ys M') (bi H1 H') (f_ K M' H') (cF K H' ys vs) (H' p=some (.lst vs)),#[_,rfl,cB _,[],_,h0,tp,m1.oG hp cF.nil,cF.nil,bI],?_];rintro i m vs H' ⟨rfl,hi,ys,M',hI,ts,m',rv,hv⟩;exact#[hv,?_];let⟨kp,hMp⟩:=hk i ys M' hi hI;let⟨k1,k2,k3⟩:=ok i M' H' ts m' kp;by_cases fE:i<xs.length;exact .inr #[k2 fE,λv H2 y=> ?_];let⟨ty,my,x,hx,r⟩:=k3 v H2 fE y;replace ts:=ts.trans ty;have oc:Ok K (kZ own fr ρ) M' (jP own fr σ) H2:=#[(o.env.ts (t1.trans ts)).PZ own fr,my]
  exact ig.imp x v _ M' _ H2 _ _ oc r (hs i x ys M' hx hI) λρ3 M3 σ3 H3 h3 t3 o3=>ic.imp ρ3 M3 σ3 H3 _ _ o3 h3 λb M4 H4 h4 t4 m4=> ?_;cases b with
  | true=>
   simp![bR] at h4 ⊢;exact ii2.imp ρ3 M4 σ3 H4 _ _ (o3.mv t4 m4) h4 λuV f7 J2 M5 H5 h5 t5 m5 WU=> ?_;let⟨I2,h20,FW,jN,PN⟩:=h5;have tt5:=ts.trans ((t3.trans t4).trans t5);have at5: ∀ {M6:Mp} {H6:Hp} {zs:d3 W},M6 p=some (.lst zs) ->f_ K M6 H6 -> ∃vs,H6 p=some (.lst vs) /\ cF K H6 zs vs:=λh m=>by let⟨vs,hv,rr⟩:=m p _ h;show#[vs,hv,rr]
   let⟨Ku,FH,HQ⟩:=at5 (FW 0 ys M5 (cB _) h20).2.1 m5;exact#[λj m vs H'=>m=uV.length - j /\ j<=uV.length /\ cJ λzs M'=>ja (I2 j zs M') (bi H5 H') (f_ K M' H') (cF K H' zs vs) (H' p=some (.lst vs)),#[_,Ku,rfl,cB _,ys,M5,h20,bi.refl _,m5,HQ,FH],?_];rintro j m2 vs6 H6 ⟨rfl,hj,zs,M6,YH,Qz,m6,_R,hv6⟩;exact#[hv6,?_];let⟨IZ,aaL,hzl⟩:=FW j zs M6 hj YH;let⟨a1,a2,a3⟩:=WU j M6 H6 Qz m6 IZ;by_cases wj:j<uV.length;exact .inr #[a2 wj,by rw[_R.length];show hzl,λu7 H7 y7=> ?_];let⟨V_,my7,x7,hx7,r7⟩:=a3 u7 H7 wj y7;have o7:Ok K ρ3 M6 σ3 H7:=#[o3.env.ts ((t4.trans t5).trans (Qz.trans V_)),my7]
   exact ig2.imp x7 u7 ρ3 M6 σ3 H7 _ _ o7 r7 (jN j x7 zs M6 hx7 YH) λρ8 M8 σ8 H8 h8 t8 o8=>ic2.imp ρ8 M8 σ8 H8 _ _ o8 h8 λb9 M9 H9 h9 t9 m9=> ?_;cases b9 with
   | true=>simp![bR] at h9 ⊢;exact ie.imp ρ8 M9 σ8 H9 _ _ (o8.mv t9 m9) h9 λz M10 u P8 ⟨Vh,h11⟩ t10 m10 _U=> ?_;let⟨Hv,FI,DV⟩:=m10 p _ Vh;have _L:=nD (u:= .lst (Hv++ [u])) FI;exact#[Hv,FI,by rw[DV.length];show hzl,_,?_,rfl,wj,_,_,h11,((((Qz.trans V_).trans t8).trans t9).trans t10).trans _L,m10.putL FI (DV.snoc _U),(DV.snoc _U).ts _L,bI];lia
   | false=>simp![ay,be] at h9 ⊢;let⟨Hv,FI,DV⟩:=at5 (FW (j+1) zs M9 wj h9).2.1 m9;exact#[Hv,_,?_,rfl,wj,_,_,h9,((Qz.trans V_).trans t8).trans t9,m9,DV,FI];lia
   have e':j=uV.length:= ∅;subst e';exact .inl #[a1 rfl,_,?_,rfl,fE,zs,M6,PN zs M6 YH,tt5.trans Qz,m6,_R,hv6];lia
  | false=>simp![ay,be] at h4 ⊢;let⟨Ku,FH,HQ⟩:=m4 p _ (hk (i+1) ys M4 fE h4).2;exact#[Ku,_,?_,rfl,fE,_,_,h4,ts.trans (t3.trans t4),m4,HQ,FH];lia
  have e':i=xs.length:= ∅;subst e';show .inl #[k1 rfl,k _ M' _ H' (hd ys M' hI) (t1.trans ts) m' WR.v]
def j6 {α:Type}{f:α ->W}{l:d3 α}{i:Nat}(h:(l.map f)[i]? =some x): ∃a,l[i]? =some a /\ x=f a:=by
 rw[aB] at h;cases e:l[i]? with
 | none=>rw[e] at h;cases h
 | some a=>rw[e] at h;cases h;show#[a,rfl,rfl]
def PY {α β:Type}{l:d3 α}{fW:α ->W}(cW:α ->d3 β)(gW:β ->W)(eW:α ->β ->W){M1:Mp}(hz:(l.map λa=>(cW a).length).sum<sizeLine)(jk: ∀M,Sm M1 M ->keep M)(hs: ∀a∈l, ∀M,Sm M1 M -> ∀ (B:du ->d3 W ->(Mp ->Prop) ->Mp ->Prop) (N0:Mp ->Prop),(∀ρ2 f7,(∀M',Sm M1 M' ->f7 M') ->(∀b∈cW a, ∀M',Sm M1 M' -> ∀N:eB W ->Mp ->Prop,N (some (eW a b)) M' ->g2 (gW b) ρ2 M' λρ3 M5=>c2 ρ3 M5 λb M6=>iA b (el ρ3 M6 λz M7=>N (some z) M7) (N none M6)) ->B ρ2 ((cW a).map gW) f7 M) ->g (fW a) (kZ own fr ρ) M λρ2 M2=>c ρ2 M2 λb M3=>iA b (v_ ρ2 M3 λuV f7 M4=>B ρ2 uV f7 M4) (N0 M3))(hq: ∀p,M1 p=none ->q (wr p) (um M1 p (.lst (l.map λa=>(cW a).map (eW a)).flatten))): uL (l.map fW) keep own fr g c v_ g2 c2 el ρ M1 q:=by
 intro p hp;have dS: ∀k:d3 α,(k.map λa=>(cW a).map (eW a)).flatten.length=(k.map λa=>(cW a).length).sum:=λk=>by rw[List.length_flatten,aH];congr 1;apply bu;intro a _;simp
 have Sh: ∀i:Nat,((l.take i).map λa=>(cW a).length).sum<=(l.map λa=>(cW a).length).sum:=λi=>by
  have e:(l.map λa=>(cW a).length)=((l.take i).map λa=>(cW a).length)++((l.drop i).map λa=>(cW a).length):=by rw[<- aR,bn]
  rw[e,List.sum_append];lia
 exact#[λi ys M=>M=um M1 p (.lst ys) /\ ys=((l.take i).map λa=>(cW a).map (eW a)).flatten,#[rfl,by simp],?_,?_,?_];rintro i ys M hi ⟨rfl,rfl⟩;show#[jk _ (cK hp),az];rintro i x ys M hx ⟨rfl,rfl⟩;let⟨a,ha,rfl⟩:=j6 hx;have e:l.take (i+1)=l.take i++ [a]:=by rw[bo,ha];rfl
 have eF:((l.take (i+1)).map λa=>(cW a).map (eW a)).flatten=((l.take i).map λa=>(cW a).map (eW a)).flatten++(cW a).map (eW a):=by rw[e,aR,List.flatten_append];simp
 have eS:((l.take (i+1)).map λa=>(cW a).length).sum=((l.take i).map λa=>(cW a).length).sum+(cW a).length:=by rw[e,aR,List.sum_append];simp
 exact hs a (aw ha) _ (cK hp) (λρ2 uV f7 M4=>N5 uV f7 g2 c2 el ρ2 p ((l.take i).map λa=>(cW a).map (eW a)).flatten M4 λys M=>M=um M1 p (.lst ys) /\ ys=((l.take (i+1)).map λa=>(cW a).map (eW a)).flatten) (λM=>M=um M1 p (.lst ((l.take i).map λa=>(cW a).map (eW a)).flatten) /\ ((l.take i).map λa=>(cW a).map (eW a)).flatten=((l.take (i+1)).map λa=>(cW a).map (eW a)).flatten) ?_;intro ρ2 f7 FW jN;exact#[λj zs M=>M=um M1 p (.lst zs) /\ zs=((l.take i).map λa=>(cW a).map (eW a)).flatten++((cW a).take j).map (eW a),#[rfl,by simp],?_,?_,?_];rintro j zs M hj ⟨rfl,rfl⟩;exact#[FW _ (cK hp),az,?_];rw[aG,dS,aa,a7];have b3:=Sh (i+1);rw[eS] at b3;lia;rintro j y zs M hy ⟨rfl,rfl⟩;let⟨b,hb,rfl⟩:=j6 hy;have e2:(cW a).take (j+1)=(cW a).take j++ [b]:=by rw[bo,hb];rfl
 exact jN b (aw hb) _ (cK hp) (λo M4=>match o with
 | some z=>M4 p=some (.lst (((l.take i).map λa=>(cW a).map (eW a)).flatten++((cW a).take j).map (eW a))) /\ (um M4 p (.lst (((l.take i).map λa=>(cW a).map (eW a)).flatten++((cW a).take j).map (eW a)++ [z]))=um M1 p (.lst (((l.take i).map λa=>(cW a).map (eW a)).flatten++((cW a).take j).map (eW a)++ [z])) /\ ((l.take i).map λa=>(cW a).map (eW a)).flatten++((cW a).take j).map (eW a)++ [z]=((l.take i).map λa=>(cW a).map (eW a)).flatten++((cW a).take (j+1)).map (eW a))
 | none=>M4=um M1 p (.lst (((l.take i).map λa=>(cW a).map (eW a)).flatten++((cW a).take j).map (eW a))) /\ ((l.take i).map λa=>(cW a).map (eW a)).flatten++((cW a).take j).map (eW a)=((l.take i).map λa=>(cW a).map (eW a)).flatten++((cW a).take (j+1)).map (eW a)) ?_
 show#[az,rL,by rw[e2,aR];simp];rintro zs M ⟨rfl,rfl⟩;show#[rfl,by rw[eF,aa,bN]];rintro ys M ⟨rfl,rfl⟩;rw[aa,bN];show hq p hp
def qB {α:Type}{l:d3 α}{fW:α ->W}(pr:α ->Bool)(eW:α ->W){M1:Mp}(hz:l.length<=sizeLine)(jk: ∀M,Sm M1 M ->keep M)(hs: ∀a∈l, ∀ (M:Mp) (N:eB W ->Mp ->Prop),Sm M1 M ->N (if pr a=true then some (eW a) else none) M ->g (fW a) (kZ own fr ρ) M λρ2 M2=>c ρ2 M2 λb M3=>iA b (el ρ2 M3 λy M4=>N (some y) M4) (N none M3))(hq: ∀p,M1 p=none ->q (wr p) (um M1 p (.lst ((l.filter pr).map eW)))):sW (l.map fW) keep own fr g c el ρ M1 q:=by
 exact#[by rw[aa];show hz,λp hp=>#[λi ys M=>M=um M1 p (.lst ys) /\ ys=((l.take i).filter pr).map eW,#[rfl,by simp],?_,?_,?_]];rintro i ys M hi ⟨rfl,rfl⟩;exact#[jk _ (cK hp),az,?_];rw[aa];exact aS (List.length_filter_le _ _) ?_;rw[a7];lia;rintro i x ys M hx ⟨rfl,rfl⟩;let⟨a,ha,rfl⟩:=j6 hx;have e:l.take (i+1)=l.take i++ [a]:=by rw[bo,ha];rfl
 exact hs a (aw ha) _ (λo M4=>match o with
 | some y=>M4 p=some (.lst (((l.take i).filter pr).map eW)) /\ (um M4 p (.lst (((l.take i).filter pr).map eW++ [y]))=um M1 p (.lst (((l.take i).filter pr).map eW++ [y])) /\ ((l.take i).filter pr).map eW++ [y]=((l.take (i+1)).filter pr).map eW)
 | none=>M4=um M1 p (.lst (((l.take i).filter pr).map eW)) /\ ((l.take i).filter pr).map eW=((l.take (i+1)).filter pr).map eW) (cK hp) ?_
 cases hf:pr a with
 | false=>rw[ai (by simp)];show#[rfl,by rw[e,List.filter_append];simp[hf]]
 | true=>rw[ap rfl];show#[az,rL,by rw[e,List.filter_append];simp[hf]]
 rintro ys M ⟨rfl,rfl⟩;rw[aa,bN];show hq p hp
def wY {α:Type}{l:d3 α}{fW:α ->W}(eW:α ->W){M1:Mp}(hz:l.length<=sizeLine)(jk: ∀M,Sm M1 M ->keep M)(hs: ∀a∈l, ∀ (M:Mp) (N:eB W ->Mp ->Prop),Sm M1 M ->N (some (eW a)) M ->g (fW a) (kZ own fr ρ) M λρ2 M2=>c ρ2 M2 λb M3=>iA b (el ρ2 M3 λy M4=>N (some y) M4) (N none M3))(hq: ∀p,M1 p=none ->q (wr p) (um M1 p (.lst (l.map eW)))):sW (l.map fW) keep own fr g c el ρ M1 q:=by exact qB (λ_=>true) eW hz jk (λa ha M N s h=>hs a ha M N s ⇑h) λp hp=> ?_;have e:l.filter (λ_=>true)=l:=List.filter_eq_self.mpr λ_ _=>rfl;rw[e];show hq p hp
end
end WL
namespace L2
open PySem PySem.Spec PyProof.Rows
def GV (a b c:Int):Nat:=(Builtin.Range.rangeSize a b c).toNat
def vC:GV a b (-1)=(a - b).toNat:=by unfold GV Builtin.Range.rangeSize;rw[ai ⋯];split;rw[show -(-1:Int)=1 by decide,Int.ediv_one];lia;change(0:Int).toNat=_;lia
def O0 (lo c:Int)(n:Nat):It:=#[λi _=>i<n,λi H x H'=>H'=H /\ x= .int (lo+i*c),λi _=>n<=i]
def vd {P:R1}{w:World}{K:RZ}{tg:Expr}(it:gi)(lo c:Int)(n:Nat):qJ P w K tg (O0 lo c n) [it] it (λi h=>IsRangeIter h it (lo+(i:Nat)*c) ((n:Int) - (i:Nat)) c) where
 mem:=by simp
 obj :=λi h st b hb=>by have e:b=it:= ⇑hb;subst e;show#[_,st,λv z=>by have z':Data.fields _=Data.cell v:=z;cases z']
 keep:=λi h h' st k=>k it (by simp) _ st
 item:=by intro X hP hw hK hc i aj s σ H E I hf st hg;subst hP hw hK;let⟨f0,f1,f2,f3,f4,f5⟩:=hf it (by simp);have W:=Walks.range (prog:=X.prog) (w:=X.w) (I.ok.hd hc) it lo c n;exact W.item i s _ _ hg st λv h' tk hv bA kk=> ?_;let⟨t,rfl⟩:=hv;have I1:Inv X aj σ H {s with heap:=h',toks:=tk}:=I.turned (λb o hb e=>kk b o ⇑hb e) f0 f1 f3 f4 f5;show#[_,rfl,wv (s:= {s with heap:=h',toks:=tk}) (n:= "range_iterator") bA rfl rfl ⋯ #[.int (lo+i*c),H,I1,#[t,rfl],#[rfl,rfl],bA,λb hb=>(hf b hb).1]]
 done:=by intro X hP hw hK hc i aj s σ H E I hf st hg;subst hP hw hK;let⟨f0,f1,f2,f3,f4,f5⟩:=hf it (by simp);show wpAny_pyNext_range_end (I.ok.hd hc) st (by have:n<=i:=hg;lia) λh' eb=>#[rfl,I.turned (t':=s.toks) (λb o hb e=>eb b o hb e) f0 f1 f3 f4 f5]
 self:=λ_ _ _ _ _ st h=>wpAny_pyIter_rangeiter st h
def ze (a b c:Int):Prop:=c≠0 /\ c.natAbs<1000000 /\ a.natAbs<1000000000 /\ b.natAbs<1000000000
def nH (h:c≠0):0<=Builtin.Range.rangeSize a b c:=by unfold Builtin.Range.rangeSize;split;split;have:=Int.ediv_nonneg (a:=b - a - 1) (b:=c) ∅ ∅;lia;show a4 _;split;have:=Int.ediv_nonneg (a:=a - b - 1) (b:= -c) ∅ ∅;lia;show a4 _
def vt (h:ze a b c):Builtin.Range.small a b c=true:=by
 let⟨h0,h1,h2,h3⟩:=h;have hs:Builtin.Range.rangeSize a b c<=2000000001:=by unfold Builtin.Range.rangeSize;split;split;have:=Int.ediv_le_self (a:=b - a - 1) c ∅;lia;lia;split;have:=Int.ediv_le_self (a:=a - b - 1) (-c) ∅;lia;lia
 have u5:=nH (a:=a) (b:=b) h0;unfold Builtin.Range.small;simp![Builtin.Range.rangeFitsLong,Bool.and_eq_true,Bool.or_eq_true,c7,beq_iff_eq];exact#[#[#[#[#[∅, ∅], ∅, ∅], ∅, ∅], ∅, ∅], .inr ?_];split;rw[Bool.and_eq_true,c7,c7];lia;rw[Bool.and_eq_true,c7,c7];lia
def LB (ta:TA):TI:=λσ H R=>ta σ H λvs H1=>gv λ(i j c:Int)=>dh (vs= [.int i, .int j, .int c]) (ze i j c) (R (O0 i c (GV i j c)) H1)
def Br {tg:Expr}{p pos:Pos}(hg:Gl X "range")(hm:X.mg "range" =none)(ha:PA X [a,b,c] ta)(hs:starEach [a,b,c] X.env=(false,eval a X.env)::starEach [b,c] X.env:=by rfl)(jN:(backTo pos (starEach [b,c] X.env)).any (·.1)=false:=by rfl): PI X tg (.Call (.Name "range" p) [a,b,c] [] pos) (LB ta):=by
 intro aj s σ H R I h;exact Call_ (gz I hg hm boot_range (bG (cY (ha pos aj s σ H _ I h) λus s1 ⟨vs,H1,I1,r1,q1⟩=> ?_) hs jN));let⟨i,j,c,e,rg,q⟩:=q1;subst e;cases r1 with
 | cons r rr=>
  cases rr with
  | cons r' rr=>
   cases rr with
   | cons Rm rr=>
    cases rr;let⟨t,rfl⟩:=r;let⟨t',rfl⟩:=r';let⟨MU,rfl⟩:=Rm;exact call_range_3 rg.1 ?_ (.inl (PyProof.noPylong_small (by have:=rg.2.1;lia)));exact wpAny_pyIter_range (IsRange.new ..) (vt rg) ?_;have I2:Inv X aj σ H1 {s1 with heap:=s1.heap.push {cls:= .type "range",data:= .fields (List.toArray [.int i t, .int j t', .int c MU])},toks:=s1.toks}:=I1.kept λb o e=>aq _ e;exact#[(s1.heap.push {cls:= .type "range",data:= .fields (List.toArray [.int i t, .int j t', .int c MU])}).objs.size,[(s1.heap.push {cls:= .type "range",data:= .fields (List.toArray [.int i t, .int j t', .int c MU])}).objs.size],_,_,H1,rfl,I2.kept (t':=s1.toks) λb o e=>aq _ e,vd _ i c (GV i j c),?_,λb hb=> ?_,q];have e1:i+((0:Nat):Int)*c=i:=by simp
    have e2:((GV i j c:Nat):Int) - ((0:Nat):Int)=Builtin.Range.rangeSize i j c:=by unfold GV;have:=nH (a:=i) (b:=j) rg.1;lia
    change IsRangeIter _ _ (i+((0:Nat):Int)*c) (((GV i j c:Nat):Int) - ((0:Nat):Int)) c;rw[e1,e2];show aM _ rfl;have e:b=(s1.heap.push {cls:= .type "range",data:= .fields (List.toArray [.int i t, .int j t', .int c MU])}).objs.size:=by simpa using hb
    subst e;show I2.rA (ao _) (I2.cT.fresh (ao _))
end L2
namespace WL
open PySem L2
def nZ (lo c:Int)(n:Nat):d3 W:=(List.range n).map λ(k:Nat)=>wi (lo+(k:Int)*c)
def vo:(nZ lo c n).length=n:=by simp[nZ]
def step_at (h:(nZ lo c n)[i]? =some x):i<n /\ x=wi (lo+i*c):=by unfold nZ at h;rw[aB] at h;by_cases hi:i<n;rw[List.getElem?_range hi] at h;cases h;show#[hi,rfl];rw[List.getElem?_eq_none ⇑hi] at h;cases h
section
variable {K:RZ}
def Lz (a:WA):WI:=λρ M q=>a ρ M λxs M1=>gv λ(i j c:Int)=>dh (xs= [wi i,wi j,wi c]) (ze i j c) (q (nZ i c (GV i j c)) (λ_=>True) M1)
def BI:zf K H1 (O0 lo c n) (nZ lo c n) (λ_=>True):=by intro i M H ts m _;rw[vo];exact#[λh=>Nat.le_of_eq h,λh=>h,λv H' hi y=> ?_];let⟨rfl,y⟩:=y;exact#[bi.refl _,m,wi (lo+i*c),?_,by rw[y];show WR.v];simp[nZ,hi]
def cF.three (h:cF K H [x,y,z] vs):gv λv u t=>fh (vs= [v,u,t]) (WR K H x v) (WR K H y u) (WR K H z t):=by simp![cF] at h;let⟨v,t,rfl,h1,u,t',rfl,h2,s,MU,rfl,h3,rfl⟩:=h;show#[v,u,s,rfl,h1,h2,h3]
instance {t:TA}{a:WA} [ia:IA K t a]:II K (LB t) (Lz a) where
 imp:=λρ M σ H q R o h k=>ia.imp ρ M σ H _ _ o h λxs M1 v H1 ⟨i,j,c,e,h0,h2⟩ t1 m1 r1=>by subst e;let⟨v,u,s,rfl,r,r',Rm⟩:=r1.three;cases r.eq;cases r'.eq;cases Rm.eq;show#[i,j,c,rfl,h0,k _ _ _ M1 H1 h2 t1 m1 BI]
theorem Jh:Lz a ρ M q=a ρ M λxs M1=>gv λ(i j c:Int)=>dh (xs= [wi i,wi j,wi c]) (ze i j c) (q (nZ i c (GV i j c)) (λ_=>True) M1):=rfl
end
end WL
namespace WQ
open PySem L2 WL WP
def cv (a b:d3 Int):Nat ->Nat ->Int
 | 0,_=>0
 | k+1,n=>cv a b k n+if k<=n then a.getD k 0*b.getD (n - k) 0 else 0
structure IsPart (p:Int)(one other q r:List Int):Prop where
 qs:Mo p q
 rs:Mo p r
 len:r.length<other.length
 ql:q.length<=one.length
 eq: ∀n,one.getD n 0 % p=(cv q other q.length n+r.getD n 0) % p
end WQ
namespace L2
open PySem PySem.Spec PyProof.Rows
def OR {σ:St}(I:Inv X aj σ H s)(e:H a=some (.dK kvs))(ry:RelV (kV k) u)(rd:RelV d r)(z1:kvs.length<sizeLine)(h1: ∀v w' s',gN kvs k=some v ->Inv X aj σ H s' ->RelV v w' ->Q w' s')(h2: ∀s',gN kvs k=none ->Inv X aj σ (cO H a (.dK (f' kvs k d))) s' ->Q r s'): wpAny (model X.prog X.w) A (call (.builtin "dict.setdefault") [.ref a,u,r]) Q E s:=by
 let⟨z,hd,vs,rel,dd⟩:=wL I.cT e;have hz:vs.length<=sizeLine:=by rw[<- rel.length];show z
 have hl:(f' kvs k d).length<=sizeLine:=by have:=gI kvs k d;lia
 have rv:=rel.val k;exact call_meetsIn PySem.F.slot_dict_setdefault dd.typeIs PySem.F.entry_dict_setdefault (PySem.F.args_dict_setdefault_3 _ _ _) (kt_meets_setdefault (ce X.prog X.w) a (mH ry) hd r) #[vs,dd,hz,λv hv=> ?_,λhn h' wO hs=> ?_];rw[hv] at rv;cases hk:gN kvs k with
 | none=>rw[hk] at rv;show absurd rv (by intro h;cases h)
 | some x=>rw[hk] at rv;show h1 x v _ hk (I.tok _) (by first | show rv | (cases rv;assumption))
 rw[hn] at rv;cases hk:gN kvs k with
 | some x=>rw[hk] at rv;show absurd rv (by intro h;cases h)
 | none=>
  exact h2 _ hk ?_;have he: ∃q,h'.get? a=some q:=let ⟨q,_,_,hq,_⟩:=wO;#[q,hq]
  show jF I (by rw[e];show True.intro) hs he (qq hl hd (rel.put k rd) wO)
def Dw (td ty tx:TE):TE:=λσ H Q=>td σ H λx H1=> ∃a,x= .ref a /\ Z9 H1 a /\ ty σ H1 λy H2=>tx σ H2 λz H3=> ∃kvs k,H3 a=some (.dK kvs) /\ y=kV k /\ kvs.length<sizeLine /\(∀v,gN kvs k=some v ->Q v H3) /\ (gN kvs k=none ->Q z (cO H3 a (.dK (f' kvs k z))))
def ED (ho:PE X o td)(he:PE X e ty)(hf:PE X f tx)(m:M2 X o "setdefault" i0 e f fT):PE X (.Call (.Attribute o "setdefault" i0) [e,f] [] fT) (Dw td ty tx):=by intro aj s σ H Q I h;exact wpAny_Call_method m.base m.F9 m.line PySem.F.plainAttrs_dict PySem.F.slot_dict_setdefault PySem.F.type_dict_setdefault (cY (ho aj s σ H _ I h) λu s1 ⟨x,H1,I1,rx,a,ex,d,q1⟩=> ?_);subst ex;obtain rfl:u=Value.ref a:=rx;let⟨t1,t2,_⟩:=ur I1 d;exact#[t1,t2,?_];rw[m.trees];exact Calls.callWith_builtin rfl (Calls.evalArgs_plain (dq (cY (he aj s1 σ H1 _ I1 q1) λiv s2 ⟨y,H2,I2,ry,q2⟩=>dq (cY (hf aj s2 σ H2 _ I2 q2) λfv s3 ⟨z,H3,I3,rz,kvs,k,ea,ey,z1,q3,q4⟩=>Calls.spliced_nil ?_))));subst ey;show OR I3 ea ry rz z1 (λv w' s4 hv I4 tY=>#[_,H3,I4,tY,q3 v hv]) λs4 hn I4=>#[z,_,I4,rz,q4 hn]
end L2
namespace WL
open PySem L2
variable {K:RZ}
def xu (a b c:WE):WE:=λρ M q=>a ρ M λx M1=> ∃p,x=wr p /\ (∃kvs,M1 p=some (.dK kvs)) /\ b ρ M1 λy M2=>c ρ M2 λz M3=> ∃kvs k,M3 p=some (.dK kvs) /\ y=fD k /\ kvs.length<sizeLine /\ (∀x,eX kvs k=some x ->q x M3) /\ (eX kvs k=none ->q z (um M3 p (.dK (jf kvs k z))))
instance {t u s:TE}{a b c:WE} [ia:IE K t a] [ib:IE K u b] [ic:IE K s c]:IE K (Dw t u s) (xu a b c) where
 imp :=λρ M σ H q Q o h k=>ia.imp ρ M σ H _ _ o h λx M1 v H1 ⟨p,e,⟨kvs,hp⟩,h1⟩ t1 m1 r1=>by
  subst e;let⟨ks,hk,rr⟩:=m1 p _ hp;exact#[p,r1.eq, .inl #[ks, .inl hk],ib.imp ρ M1 σ H1 _ _ (o.mv t1 m1) h1 λy M2 u H2 h2 t2 m2 r2=>ic.imp ρ M2 σ H2 _ _ (o.mv (t1.trans t2) m2) h2 λz M3 u3 H3 ⟨kvs,ky,e2,e3,hl,h3,h4⟩ t3 m3 r3=> ?_];subst e3;let⟨ks,hk,rr⟩:=m3 p _ e2;have ts:=l7 (u:= .dK (f' ks ky u3)) hk;exact#[ks,ky,hk,kL (r2.ts t3),by rw[rr.length];show hl,λv hv=> ?_,λhn=> ?_];rcases rr.val ky with⟨n1,n2⟩ | ⟨x',v',n1,n2,rx⟩
  rw[n2] at hv;cases hv;rw[n2] at hv;cases hv;show k _ M3 _ H3 (h3 _ n1) ((t1.trans t2).trans t3) m3 rx;rcases rr.val ky with⟨n1,n2⟩ | ⟨x',v',n1,n2,rx⟩
  show k _ _ _ _ (h4 n1) (((t1.trans t2).trans t3).trans ts) (m3.putD hk (KR.put r3 rr)) (r3.ts ts);rw[n2] at hn;cases hn
def rT (o:eB W)(q:W ->Prop)(n:Prop):Prop:=(∀x,o=some x ->q x) /\ (o=none ->n)
def Qm:xu a b c ρ M q=a ρ M λx M1=>fJ x λp=>jE (M1 p) λ_=>b ρ M1 λy M2=>c ρ M2 λz M3=>nS y λk=>jE (M3 p) λkvs=>gR (kvs.length<sizeLine) (rT (eX kvs k) (λx=>q x M3) (q z (um M3 p (.dK (jf kvs k z))))):=by
 unfold xu fJ nS jE gR rT;congr 1;funext x M1;apply propext;symm;all_goals
  have e: ∀p:gi,(λy M2=>c ρ M2 λz M3=> ∃kvs k,M3 p=some (.dK kvs) /\ y=fD k /\ kvs.length<sizeLine /\ (∀x,eX kvs k=some x ->q x M3) /\ (eX kvs k=none ->q z (um M3 p (.dK (jf kvs k z)))))=(λy M2=>c ρ M2 λz M3=> ∃k,y=fD k /\ ∃kvs,M3 p=some (.dK kvs) /\ kvs.length<sizeLine /\ (∀x,eX kvs k=some x ->q x M3) /\ (eX kvs k=none ->q z (um M3 p (.dK (jf kvs k z))))):=λp=>by funext y M2;congr 1;funext z M3;apply propext;symm;rintro⟨a,b,c,d,e⟩;show#[b,d,a,c,e];rintro⟨b,d,a,c,e⟩;show#[a,b,c,d,e]
 rintro⟨p,h1,⟨kvs,h2⟩,h⟩;show#[p,h1,kvs,h2,e p▸h];rintro⟨p,h1,kvs,h2,h⟩;show#[p,h1,#[kvs,h2],(e p).symm▸h]
def HI:rT (some x) q n=q x:=by apply propext;unfold rT;symm;(· intro h;show h.1 x rfl);(· intro h;show#[λy e=>by cases e;show h,λe=>nomatch e])
def HJ:rT none q n=n:=by apply propext;unfold rT;symm;(· intro h;show h.2 rfl);(· intro h;show#[λy e=>(nomatch e),λ_=>h])
end WL
namespace WL
open PySem L2
def Gi {α:Type}{l:d3 α}{fW:α ->W}(eW:α ->W){M1:Mp}(hz:l.length<=sizeLine)(jk: ∀M,Sm M1 M ->keep M)(hs: ∀a∈l, ∀ (M:Mp) (N:eB W ->Mp ->Prop),Sm M1 M ->(∀M',Sm M M' ->N (some (eW a)) M') ->g (fW a) (kZ own fr ρ) M λρ2 M2=>c ρ2 M2 λb M3=>iA b (el ρ2 M3 λy M4=>N (some y) M4) (N none M3))(hq: ∀p M',M1 p=none ->Sm M1 M' ->M' p=some (.lst (l.map eW)) ->q (wr p) M'):sW (l.map fW) keep own fr g c el ρ M1 q:=by
 exact#[by rw[aa];show hz,λp hp=>#[λi ys M=>M p=some (.lst ys) /\ Sm M1 M /\ ys=(l.take i).map eW,#[az,cK hp,by simp],?_,?_,?_]];rintro i ys M hi ⟨h1,h2,rfl⟩;exact#[jk _ h2,h1,?_];rw[aa,a7];lia;rintro i x ys M hx ⟨h1,h2,rfl⟩;let⟨a,ha,rfl⟩:=j6 hx;have e:l.take (i+1)=l.take i++ [a]:=by rw[bo,ha];rfl
 exact hs a (aw ha) _ (λo M4=>match o with
 | some y=>M4 p=some (.lst ((l.take i).map eW)) /\ um M4 p (.lst ((l.take i).map eW++ [y])) p=some (.lst ((l.take i).map eW++ [y])) /\ Sm M1 (um M4 p (.lst ((l.take i).map eW++ [y]))) /\ (l.take i).map eW++ [y]=(l.take (i+1)).map eW
 | none=>M4 p=some (.lst ((l.take i).map eW)) /\ Sm M1 M4 /\ (l.take i).map eW=(l.take (i+1)).map eW) h2 λM' s'=>#[s' _ _ h1,az,λc o ec=>by rw[aD (cM ec hp)];show s' _ _ (h2 _ _ ec),by rw[e,aR];rfl]
 rintro ys M ⟨h1,h2,rfl⟩;rw[aa,bN] at h1;show hq p M hp h2 h1
end WL
namespace WQ
open PySem L2 WL WP
def cs (n r:Int)(l:Pt):Int:=((l.filter λz=>decide (z.1 % n=r)).map (·.2)).sum
end WQ
namespace L2
open PySem PySem.Spec PyProof.Rows
def Et {K:RZ}(hK:X.K=K)(hl:PE X l tl):PI X tg l (FA K tl):=by subst hK;show eR hl
end L2
namespace WQ
open PySem L2 WL WP
def Ji (P:W ->Prop)(h0:0<=y)(h1:y<xs.length)(hP: ∀x∈xs,P x)(k: ∀x,P x ->q x M):My (.tup xs) (wi y) M q:=by have hy:y.toNat<xs.length:= ∅;show#[xs,y,xs[y.toNat],rfl,rfl,A6 h0 (am hy),k _ (hP _ (cx hy))]
abbrev Cf:=Nat ->Int
def Vo:Nat ->Cf ->Cf ->Int
 | 0,f,g=>f 0*g 0
 | n+1,f,g=>f 0*g (n+1)+Vo n (λi=>f (i+1)) g
def co (l:d3 Int):Cf:=λi=>l.getD i 0
def Mult (p:Int)(a g:Cf):Prop:=cJ λ(E:Cf) (N:Nat)=>(∀i,N<=i ->E i % p=0) /\ ∀n,a n % p=Vo n E g % p
def tF (p:Int)(a g h:Cf):Prop:=gv λ(A B:Cf) (N:Nat)=>(∀i,N<=i ->A i % p=0 /\ B i % p=0) /\ ∀n,a n % p=(Vo n A g+Vo n B h) % p
def FV (p:Int)(a:Rd)(v:Int):Prop:=cJ λlo hi=>dh (gV (KW a) lo) (oC (KW a) hi) (v=fwv p a lo hi)
open Classical in
noncomputable def fv (p:Int) (a:Rd):Int:=if h: ∃v,FV p a v then h.choose else 0
def names:d3 Str:= ["on","back","up","down"]
def KS (p:Int)(s:Str):Rd:=if s= "on" then(1,[]) else if s= "back" then(-1,[]) else if s= "up" then(0,[(0,1)]) else(0,[(0,p - 1)])
noncomputable def lx (p:Int) (a:Rd) (s:Str):Bool:=decide (fv p (jn p a (KS p s)) >fv p a)
def MX (a b:Int):d3 Str:=List.replicate (a - b).natAbs (if a<=b then "on" else "back")
def MK (p s:Int):d3 Str:=if s<=p - s then List.replicate s.toNat "up" else List.replicate (p - s).toNat "down"
def xS (p:Int):Int ->Pt ->d3 Str
 | _,[]=> []
 | here,z::r=>MX here z.1++MK p z.2++xS p z.1 r
def pairsOf (p:Int)(z:Int×Int):Pt:=if z.2<=p - z.2 then List.replicate z.2.toNat (z.1,1) else List.replicate (p - z.2).toNat (z.1, -1)
def VC:Int ->Pt ->Int
 | _,[]=>0
 | here,z::r=>Tw (here - z.1)+VC z.1 r
end WQ
namespace L2
open PySem PySem.Spec PyProof.Rows
def Inv.freeze {σ:St}(I:Inv X aj σ H s)(e:H d=some v)(ho:s.heap.get? d=some o)(n1: ∀xs,HO.tup xs≠v:=by intro _ q;cases q)(n2: ∀a b,HO.jM a b≠v:=by intro _ _ q;cases q)(n3: ∀a,HO.own a≠v:=by intro _ q;cases q)(n4: ∀a,HO.Ky a≠v:=by intro _ q;cases q): Inv X aj σ (cO H d (.jM o v)) s:=by
 have ne: ∀ {b u},H b=some u ->u≠v ->b≠d:=λ{b u} h n z=>by subst z;rw[e] at h;show n (bm h).symm
 have IK: ∀ {b},H b=none ->b≠d:=λ{b} h z=>by subst z;rw[e] at h;cases h
 exact#[I.ok,I.os,I.bare,#[I.base.keep,I.base.slot,λb u h1 h2 h3=> ?_,I.base.there,λb xs h=> ?_,λb o' u h=> ?_,λb ps h=> ?_],I.loc,I.cell,?_,λx c h=> ?_,λp hp=> ?_,λb u h=> ?_,I.len];have z:=I.base.free b u h1 h2 h3;rw[bC (IK z)];show z;have z:=I.base.qZ b xs h;rw[bC (ne z (n1 _))];show z;have z:=I.base.oP b o' u h;rw[bC (ne z (n2 _ _))];show z;let⟨more,z⟩:=I.base.q_ b ps h;show#[more,by rw[bC (ne z (n4 _))];show z];rw[bC (IK I.free)];show I.free;rw[bC (IK (I.iC x c h))];show I.iC x c h;let⟨a1,a2,a3⟩:=I.pin p hp;show#[a1,by rw[bC (IK a2)];show a2,a3];have ow: ∀c,H c=some (.own b) ->cO H d (.jM o v) c=some (.own b):=λc r=>by rw[bC (ne r (n3 _))];show r
 have tu: ∀c xs,H c=some (.tup xs) ->cO H d (.jM o v) c=some (.tup xs):=λc xs r=>by rw[bC (ne r (n1 _))];show r
 by_cases hb:b=d;subst hb;rw[bI] at h;cases h;show#[ho,(I.cT b _ e).pE (λ_ _ _ h=>h) ow tu];rw[bC hb] at h;show(I.cT b u h).pE (λ_ _ _ h=>h) ow tu
def F6 {σ:St}(I:Inv X aj σ H s)(ho:o.data= .dict es ep)(e:H d=some (.jM o (.dK kvs))): ∃vs,KV kvs vs /\ s.heap.DictAt (ce X.prog X.w) d vs ep:=by
 let⟨h0,_,_,vs,rel,o',Th,Ti,h1,h2,h3,h4⟩:=(show dn X.prog X.w H s.heap d (.jM o (.dK kvs)) from I.cT d _ e)
 rw[h0] at h1;cases h1;rw[ho] at h3;cases h3;show#[vs,rel,o,es,h0,h2,ho,h4]
end L2
namespace WL
open PySem L2
variable {K:RZ}
theorem p8 {H:Hp}: ∀ {kvs:d3 (cf×W)} {vs:d3 (cf×V)},KR K H kvs vs ->kvs.length=vs.length
 | _,_, .nil=>rfl
 | _,_, .cons _ t=>by rw[aK,aK,p8 t]
end WL
namespace WQ
open PySem L2 WL WP
def Tl (n:Int):Pt ->Int ->Int
 | [],_=>0
 | z::r,k=>(if z.1 % n=k then z.2 else 0)+Tl n r k
theorem wG {α:Type} [DecidableEq α]{f:α ->Dt}(hf: ∀x y,oQ (f x) (f y)=decide (x=y)): ∀a b:d3 α,lQ (a.map f) (b.map f)=decide (a=b)
 | [],[]=>by simp[lQ]
 | [],y::b=>by simp[lQ]
 | x::a,[]=>by simp[lQ]
 | x::a,y::b=>by rw[aE,aE,lQ,hf,wG hf a b];by_cases h:x=y<;>by_cases h2:a=b<;>simp[h,h2]
def JU (a b:Pt):oQ (EI a) (EI b)=decide (a=b):=by unfold EI;rw[oQ];exact wG (λx y=> ?_) a b;simp![oQ,lQ,Bool.and_true];let⟨x1,x2⟩:=x;let⟨y1,y2⟩:=y;dsimp only;by_cases h:x1=y1<;>by_cases h2:x2=y2<;>simp[h,h2]
def JT {a b:Pt}(h:q (wb (decide (a=b))) M):Ql (dX a) (dX b) M q:=by exact#[_,_, .inl (AW a), .inl (AW b),rfl,?_,by rw[JU];show h];unfold EI;rw[CN];have:=qm a;lia
def fl (p:Int)(m:Nat)(f:Pt):d3 Int:=(List.range m).map λ(k:Nat)=>Tl m f k % p
end WQ
namespace L2
open PySem PySem.Spec PyProof.Rows
def DZ (i:Int)(n:Nat):d3 V:=(List.range n).map λ(k:Nat)=> .int (i+(k:Int))
def Du (ta:TA):TE:=λσ H Q=>ta σ H λvs H1=>cJ λ(i j:Int)=>fh (vs= [.int i, .int j]) (-(2 ^ 62) <=i /\ i<2 ^ 62 /\ -(2 ^ 62) <=j /\ j<2 ^ 62) ((j - i).toNat<=16000000) (∀l,H1 l=none ->Q (.ref l) (cO H1 l (.lst (DZ i (j - i).toNat))))
def Hw (h:ItemsOf (λj v=> ∃t,v=Value.int (i+(j:Int)*1) t) fg n):cD (DZ i n) fg.toList:=by
 let⟨hl,hv⟩:=h;have Oj:fg.toList.length=n:= ⇑hl;have key: ∀ (k:Nat) (l:d3 d4) (m:Nat),l.length=m ->(∀j v,l[j]? =some v -> ∃t,v=Value.int (i+((k+j:Nat):Int)) t) ->cD ((List.range' k m).map λ(k:Nat)=>V.int (i+(k:Int))) l:=by
  intro k l;induction l generalizing k with
  | nil=>intro m hm _;subst hm;show .nil
  | cons v r ih=>intro m hm hj;subst hm;rw[aK,List.range'_succ,aE];exact .cons ?_ (ih (k+1) r.length rfl λj v' e=> ?_);let⟨t,e⟩:=hj 0 v rfl;show#[t, ⇑e];let⟨t,e'⟩:=hj (j+1) v' (by rw[cR];show e);show#[t,by rw[e'];congr 2<;>lia]
 have:=key 0 fg.toList n Oj λj v e=>by let⟨t,e'⟩:=hv j v (by rw[<- Array.getElem?_toList];show e);show#[t,by rw[e'];congr 2<;>lia]
 unfold DZ;rw[List.range_eq_range'];show this
def x_ {p1 p2 Es ue:Pos}(SO:Gl X "list")(Oe:X.mg "list" =none)(hg:Gl X "range")(hm:X.mg "range" =none)(hc:X.calm=true)(ha:PA X [a,b] ta)(hs:starEach [a,b] X.env= [(false,eval a X.env),(false,eval b X.env)]:=by rfl)(jN:starEach [b] X.env= [(false,eval b X.env)]:=by rfl)(ht:starEach [.Call (.Name "range" p2) [a,b] [] ue] X.env= [(false,eval (.Call (.Name "range" p2) [a,b] [] ue) X.env)]:=by rfl): PE X (.Call (.Name "list" p1) [.Call (.Name "range" p2) [a,b] [] ue] [] Es) (Du ta):=by
 intro aj s σ H Q I h;exact Call_ (gz I SO Oe boot_list (bG ?_ ht rfl));rw[ht];exact dq (Call_ (gz I hg hm boot_range (bG (cY (ha ue aj s σ H _ I h) λus s1 ⟨vs,H1,I1,r1,q1⟩=> ?_) (by rw[hs,jN]) (by rw[jN];rfl))));let⟨i,j,e,⟨q1,q2,q3,q4⟩,hn,q⟩:=q1;subst e;cases r1 with
 | cons r rr=>
  cases rr with
  | cons r' rr=>cases rr;let⟨t,rfl⟩:=r;let⟨t',rfl⟩:=r';exact call_range_2 (Calls.spliced_nil ?_);have I2:Inv X aj σ H1 {s1 with heap:=s1.heap.push {cls:= .type "range",data:= .fields (List.toArray [.int i t, .int j t', .int 1 s1.toks])},toks:=s1.toks+1}:=I1.kept λb o e=>aq _ e;exact call_list_range (n:=(j - i).toNat) (I1.ok.hd hc) (IsRange.new ..) (small_one q1 q2 q3 q4) (by rw[rangeSize_one];split<;>lia) ∅ λh' tk OX c' kp FZ items=> ?_;have hv:=Hw items;exact#[.ref _,_,I2.laid (t':=tk) kp (ao _) (show dn X.prog X.w _ h' _ (.lst (DZ i (j - i).toNat)) from#[?_,OX.toList,c',hv, ⇑FZ]),rfl,q _ (I2.cT.fresh (ao _))];unfold DZ;rw[aa,cz];show aS hn (by rw[cP];decide)
end L2
namespace WL
open PySem L2
variable {K:RZ}
def C8 (a:WA):WE:=λρ M q=>a ρ M λxs M1=>cJ λ(i j:Int)=>fh (xs= [wi i,wi j]) (-(2 ^ 62) <=i /\ i<2 ^ 62 /\ -(2 ^ 62) <=j /\ j<2 ^ 62) ((j - i).toNat<=16000000) (∀l,M1 l=none ->q (wr l) (um M1 l (.lst (fK i (j - i).toNat))))
theorem DY {H:Hp}(i:Int): ∀ (l:d3 Nat),cF K H (l.map λ(k:Nat)=>wi (i+(k:Int))) (l.map λ(k:Nat)=>V.int (i+(k:Int)))
 | []=>by simp![dB,cF]
 | k::r=>by simp![aE,cF];show#[_,_,rfl,WR.v,DY i r]
instance {t:TA}{a:WA} [ia:IA K t a]:IE K (Du t) (C8 a) where
 imp:=λρ M σ H q Q o h k=>ia.imp ρ M σ H _ _ o h λxs M1 vs H1 ⟨i,j,ex,h1,h2,h3⟩ t1 m1 r1=>by subst ex;let⟨v,u,rfl,r,r'⟩:=r1.two;cases r.eq;cases r'.eq;show#[i,j,rfl,h1,h2,λp hp=>k _ _ _ _ (h3 p (m1.fresh hp)) (t1.trans (L2.ff.ts (bU hp))) (m1.oG hp (DY i _)) WR.v]
theorem C7:C8 a ρ M q=a ρ M λxs M1=>cJ λ(i j:Int)=>fh (xs= [wi i,wi j]) (-(2 ^ 62) <=i /\ i<2 ^ 62 /\ -(2 ^ 62) <=j /\ j<2 ^ 62) ((j - i).toNat<=16000000) (mD M1 λl=>q (wr l) (um M1 l (.lst (fK i (j - i).toNat)))):=rfl
end WL
namespace L2
open PySem PySem.Spec PyProof.Rows
theorem ml (hk:PE X k tk)(hv:PE X v tv):PE X (.Dict [some k] [v] pos) (Dv [(tk,tv)]):=Io (Er hk hv Ii) rfl rfl (by simp) (by simp)
end L2
namespace WL
open PySem L2
variable {K:RZ}
def C9 (a b:WE):WE:=λρ M q=> ∀p,M p=none ->a ρ (um M p (.dK [])) λx M1=>b ρ M1 λy M2=>M2 p=some (.dK []) /\ ∃k,x=fD k /\ q (wr p) (um M2 p (.dK [(k,y)]))
instance {tk tv:TE}{a b:WE} [ia:IE K tk a] [ib:IE K tv b]:IE K (Dv [(tk,tv)]) (C9 a b) where
 imp :=λρ M σ H q Q o h k=>λp hp=>by
  have t0:bi H (cO H p (.dK [])):=L2.ff.ts (bU hp);have m0:f_ K (um M p (.dK [])) (cO H p (.dK [])):=o.hp.put t0 #[[],bI, .nil];exact ia.imp ρ _ σ _ _ _ (o.mv t0 m0) (h p (o.hp.fresh hp)) λx M1 v H1 h1 t1 m1 r1=> ?_;exact ib.imp ρ M1 σ H1 _ _ (o.mv (t0.trans t1) m1) h1 λy M2 u H2 ⟨e1,ky,e2,h2⟩ t2 m2 r2=> ?_;subst e2;let⟨ks,hk,rr⟩:=m2 p _ e1;cases rr;have ev:v=kV ky:=by
   cases ky with
   | inl i=>show r1.eq
   | inr z=>show r1.eq
  exact#[hk,[(ky,u)],by rw[ev];rfl,by simp,?_];have t3:=l7 (u:= .dK (j5 [] [(ky,u)])) hk;exact k _ _ _ _ h2 (((t0.trans t1).trans t2).trans t3) (m2.put t3 #[_,bI,?_]) WR.v;change KR K _ [(ky,y)] (j5 [] [(ky,u)]);have em:j5 [] [(ky,u)]= [(ky,u)]:=rfl;rw[em];show .cons #[rfl,r2.ts t3] .nil
theorem va:C9 a b ρ M q=mD M λp=>a ρ (um M p (.dK [])) λx M1=>b ρ M1 λy M2=>M2 p=some (.dK []) /\ ∃k,x=fD k /\ q (wr p) (um M2 p (.dK [(k,y)])):=rfl
end WL
namespace L2
open PySem PySem.Spec PyProof.Rows
section
variable {prog:R1}{w:World}{A:Around}{R:Result ->d5 ->Prop}{I:gi}{fp wr:d3 gi}{n:Nat}{P:Nat ->d4 ->Prop}{St:Nat ->Heap ->Prop}{kw:d3 (Str×d4)}
def E_ (W:Walks prog w A.in1 I fp wr n P St)(bt:Nat ->Nat ->Bool)(F3:CmpOf prog w A.in1 .Lt P bt)(Z:gi)(hZ:Z∉fp): ∀ (k j:Nat) (s:d5) (x:d4) (c:Nat),n - (j+1)=k ->j+1<=n ->St (j+1) s.heap ->P (argBest bt j) x ->s.heap.get? Z=some {cls:= .type "list",dict:=none,data:= .seq (List.toArray [x,x]) c,slots:= #[]} ->(∀v h' tk,P (argBest bt (n - 1)) v ->(∀b o,b∉wr ->b≠Z ->s.heap.get? b=some o ->h'.get? b=some o) ->R (.ok (.ret v)) {s with heap:=h',toks:=tk}) ->codeAny (model prog w) A (.builtin "min.loop" #[[.ref I, .none, .ref Z],kw]) R s:=by
 have hw:Z∉wr:=λh=>hZ (W.sub _ h);have nm:(toString "min" ++toString ".loop" :String)= "min.loop" :=⋯
 intro k;induction k with
 | zero=>intro j s x c hk hj iB hP hS hR;have e0:j+1=n:= ∅;exact codeAny_builtin F.entry_min_loop ?_;rw[Around.under_plainId F.plain_min_loop _];change wpAny _ A.in1 (seqItems? (.ref Z) >>=_) _ _ s;exact ae (wpAny_seqItems hS rfl ?_);change wpAny _ A.in1 (tryCatch (pyNext (.ref I)) _ >>=_) _ _ s;exact ae (wpAny_tryCatch (W.done s _ _ (e0▸iB) λh1 tk u6=> ?_));have LZ:=u6 Z _ hw hS;change wpAny _ A.in1 (updateSeq Z (λ_=> #[]) >>=_) _ _ _;exact ae ?_;exact wpAny_updateSeq LZ rfl (ae (wpAny_letGo (ax ?_)));show hR x _ tk (by rw[<- e0];show hP) λb o n1 n2 e=>(dP _ _ (aT n2)).trans (u6 b o n1 e)
 | succ k ih=>
  intro j s x c hk hj iB hP hS hR;have fE:j+1<n:= ∅;exact codeAny_builtin F.entry_min_loop ?_;rw[Around.under_plainId F.plain_min_loop _];change wpAny _ A.in1 (seqItems? (.ref Z) >>=_) _ _ s;exact ae (wpAny_seqItems hS rfl ?_);change wpAny _ A.in1 (tryCatch (pyNext (.ref I)) _ >>=_) _ _ s;exact ae (wpAny_tryCatch (W.item (j+1) s _ _ fE iB λv h1 tk Hc Jn u6=> ?_));have LZ:=u6 Z _ hw hS;change wpAny _ A.in1 (tryCatch (holding [v,v] (richCompare .Lt v x >>=_)) _ >>=_) _ _ _;exact ae (wpAny_tryCatch (dg (ae (F3 (j+1) (argBest bt j) v x _ _ _ Hc hP ?_))));exact ae (dg (c_ ?_));exact ae (wpAny_letGo (ax ?_));cases hb:bt (j+1) (argBest bt j) with
  | true=>simp![bR];exact ae ?_;exact wpAny_updateSeq LZ rfl (ae (wpAny_letGo ?_));rw[nm];exact ax #[plainId_quiet F.plain_min_loop _,ih (j+1) _ v _ ∅ fE (W.frame _ _ _ Jn λb Yu o e=> ?_) (by simp![argBest,hb,bR];show Hc) (Heap.get?_update_self _ LZ rfl) λv2 h2 QB BZ FW=> ?_];show(dP _ _ (λh:Z=b=>hZ (by rw[h];show Yu))).trans e;show hR v2 h2 QB BZ λb o n1 n2 e=>FW b o n1 n2 ((dP _ _ (aT n2)).trans (u6 b o n1 e))
  | false=>simp![ay,be];exact ae (wpAny_letGo ?_);rw[nm];exact ax #[plainId_quiet F.plain_min_loop _,ih (j+1) _ x c ∅ fE Jn (by simp![argBest,hb,ay,be];show hP) LZ λv2 h2 QB BZ FW=> ?_];show hR v2 h2 QB BZ λb o n1 n2 e=>FW b o n1 n2 (u6 b o n1 e)
def vZ (W:Walks prog w A.in1 I fp wr n P St)(bt:Nat ->Nat ->Bool)(F3:CmpOf prog w A.in1 .Lt P bt)(Z:gi)(hZ:Z∉fp)(iB:St 0 s.heap)(hS:s.heap.get? Z=some {cls:= .type "list",dict:=none,data:= .seq #[] c,slots:= #[]})(h0:n=0 -> ∀h' tk,(∀b o,b∉wr ->b≠Z ->s.heap.get? b=some o ->h'.get? b=some o) ->R (.ok (.ret d)) {s with heap:=h',toks:=tk})(hR:0<n -> ∀v h' tk,P (argBest bt (n - 1)) v ->(∀b o,b∉wr ->b≠Z ->s.heap.get? b=some o ->h'.get? b=some o) ->R (.ok (.ret v)) {s with heap:=h',toks:=tk}):codeAny (model prog w) A (.builtin "min.loop" #[[.ref I, .none, .ref Z],[(nd,d)]]) R s:=by
 have hw:Z∉wr:=λh=>hZ (W.sub _ h);have nm:(toString "min" ++toString ".loop" :String)= "min.loop" :=⋯
 exact codeAny_builtin F.entry_min_loop ?_;rw[Around.under_plainId F.plain_min_loop _];change wpAny _ A.in1 (seqItems? (.ref Z) >>=_) _ _ s;exact ae (wpAny_seqItems hS rfl ?_);change wpAny _ A.in1 (tryCatch (pyNext (.ref I)) _ >>=_) _ _ s;obtain hn | hn:=Nat.eq_zero_or_pos n;subst hn;exact ae (wpAny_tryCatch (W.done s _ _ iB λh1 tk u6=> ?_));exact ae (wpAny_rule ?_);show ax (h0 rfl _ tk λb o n1 n2 e=>u6 b o n1 e);exact ae (wpAny_tryCatch (W.item 0 s _ _ hn iB λv h1 tk hP Jn u6=> ?_));have LZ:=u6 Z _ hw hS;change wpAny _ A.in1 (updateSeq Z (λ_=> (List.toArray [v,v])) >>=_) _ _ _;exact ae ?_;exact wpAny_updateSeq LZ rfl ?_;rw[nm];exact ax #[plainId_quiet F.plain_min_loop _,E_ W bt F3 Z hZ _ 0 _ v _ rfl hn (W.frame _ _ _ Jn λb Yu o e=> ?_) hP (Heap.get?_update_self _ LZ rfl) λv2 h2 QB BZ FW=> ?_];show(dP _ _ (λh:Z=b=>hZ (by rw[h];show Yu))).trans e;show hR hn v2 h2 QB BZ λb o n1 n2 e=>FW b o n1 n2 ((dP _ _ (aT n2)).trans (u6 b o n1 e))
def Cu (a d:d4):argsOk "min" #[[a],[("default",d)]]:=by unfold argsOk;kernel_rfl
variable {E:d4 ->d5 ->Prop}{s:d5}
def Cn (h:wpAny (model prog w) A.in1 (pyIter x) (λit t=>Mj λI fp wr n P St bt=>CO (it= .ref I) (Walks prog w A.in1 I fp wr n P St) (St 0 t.heap) (∀b∈fp,b<t.heap.objs.size) (CmpOf prog w A.in1 .Lt P bt) (n=0 -> ∀h' tk,(∀b o,b∉wr ->t.heap.get? b=some o ->h'.get? b=some o) ->Q d {t with heap:=h',toks:=tk}) (0<n -> ∀v h' tk,P (argBest bt (n - 1)) v ->(∀b o,b∉wr ->t.heap.get? b=some o ->h'.get? b=some o) ->Q v {t with heap:=h',toks:=tk})) E s): wpAny (model prog w) A (call (.builtin "min") [x] [("default",d)]) Q E s:=by
 have nm:(toString "min" ++toString ".loop" :String)= "min.loop" :=⋯
 exact wpAny_call (codeAny_call_builtin F.plain_min F.entry_min ?_);simp![checkBuiltinCall,F.kind_min];have ha:=Cu x d;cases Sj:Manifest.signature? "min" with
 | none=>show absurd (show(Manifest.signature? "min").isSome=true by kernel_rfl) (by rw[Sj];decide)
 | some sig=>
  have OA:Bind.checkArgs "min" sig #[[x],[("default",d)]]=pure ():=by simpa only[argsOk,Sj] using ha
  simp![OA];exact ax ?_;change wpAny _ A.in1 (Builtin.Builtins.bindParams "min" ["key","default"] 0 #[[],[("default",d)]] >>=_) _ _ s;exact ae (wpAny_of_eq (show Builtin.Builtins.bindParams "min" ["key","default"] 0 #[[],[("default",d)]]=pure [none,some d] from rfl) ?_);exact ae (ax ?_);exact ae (bM h (λit t h₂=> ?_) λ_ _ e=>e);let⟨I,fp,wr,n,P,St,bt,rfl,W,iB,uB,F3,YA,hQ⟩:=h₂;exact ae (wpAny_newObj_type ?_);have hZ:t.heap.objs.size∉fp:=λhm=>cg _ (uB _ hm);rw[nm];exact ax #[plainId_quiet F.plain_min_loop _,vZ W bt F3 t.heap.objs.size hZ (W.frame _ _ _ iB λb _ o e=>aq _ e) (aM _ rfl) (λhn h' tk hk=> ?_) λhn v h' tk hP hk=> ?_];show YA hn h' tk λb o n1 e=>hk b o n1 (a5 (aF e)) (aq _ e);show hQ hn v h' tk hP λb o n1 e=>hk b o n1 (a5 (aF e)) (aq _ e)
end
end L2
namespace WL
open PySem PySem.Spec PyProof.Rows L2
def KH (K:RZ)(te td:TE):TE:=λσ H Q=>te σ H λx H1=>td σ H1 λd H2=>cJ λ(l:gi) (ns:d3 Int)=>fh (x= .ref l) (gC K H2 l (ns.map V.int)) (ns= [] ->Q d H2) (∀m,gV ns m ->Q (.int m) H2)
def Il (hg:Gl X "min")(hm:X.mg "min" =none)(hc:X.calm=true)(ha:PE X e te)(hd:PE X ed td)(he:starEach [e] X.env= [(false,eval e X.env)]:=by rfl):PE X (.Call (.Name "min" p) [e] [#[some "default",ed,Xl]] pos) (KH X.K te td):=by
 intro aj s σ H Q I h;exact wpAny_Call_Name_kw (gz I hg hm Boot.«min» ?_ ⋯ ⋯);exact PyProof.Rows.callWith_kw ?_ (by rw[he];rfl) (by rw[he];rfl) rfl rfl;rw[he];exact dq (cY (ha aj s σ H _ I h) λu s1 ⟨x,H1,I1,r1,q1⟩=>Calls.spliced_nil ?_);exact kws_cons (cY (hd aj s1 σ H1 _ I1 q1) λu2 s2 ⟨d,H2,I2,r2,q2⟩=>kws_nil ?_);let⟨l,ns,rfl,hs,q0,q⟩:=q2;cases r1;change wpAny _ _ (call (.builtin "min") [.ref l] [("default",u2)]) _ _ s2;let⟨its,rv,ht,hz⟩:=I2.list hs;have hh:X.A.in1.handled=none:=I2.ok.hd hc;have dS:its.toArray.size=ns.length:=by have:=rv.length;rw[aa] at this;simpa using this.symm
 have fE:l<s2.heap.objs.size:=by let⟨_,e,_⟩:=ht.isList;show aF e
 exact Cn (wpAny_pyIter_list ht.isList ?_);have hk: ∀h':Heap,(∀b o,b∉ [s2.heap.objs.size] ->(s2.heap.push {cls:= .type "list_iterator",data:= .fields (List.toArray [.ref l, .int 0 s2.toks])}).get? b=some o ->h'.get? b=some o) -> ∀b o,s2.heap.get? b=some o ->h'.get? b=some o:=λh' hk b o e=>hk b o (λhI=>absurd (aF e) (by rw[ah.mp hI];show cg _)) (aq _ e);exact#[s2.heap.objs.size,_,_,its.toArray.size,_,_,λi j=>decide (ns.getD i 0<ns.getD j 0),rfl,Walks.list hh s2.heap.objs.size l (a5 fE) its.toArray,#[#[_,aM _ rfl,rfl,rfl],ht.isList.push _],λb hb=> ?_,PySem.CmpOf.ints_lt (λi=>ns.getD i 0) (λi v e=>let ⟨t,h,_⟩:=Aq rv e;#[t,h]),λhn h' tk hm=> ?_,λhn v h' tk e hm=> ?_];change b< (s2.heap.push _).objs.size;rw[dM];obtain rfl | hb:=ar.mp hb;show Nat.lt_succ_self _;rw[ah.mp hb];show Nat.lt_succ_of_lt fE;show#[d,H2,I2.kept (t':=tk) λb o e=>hm b o (λhI=>absurd (aF e) (by rw[ah.mp hI];show cg _)) (aq _ e),r2,q0 (cQ.mp ∅)];let⟨t,rfl,_⟩:=Aq rv e;rw[dS];show#[.int _,H2,I2.kept (t':=tk) λb o e=>hm b o (λhI=>absurd (aF e) (by rw[ah.mp hI];show cg _)) (aq _ e),#[t,rfl],q _ (Gs (List.length_pos_iff.mp ∅))]
def Ed (K:RZ):d3 V ->Hp ->VK ->Prop:=λxs H Q=>cJ λ(a:gi) (ks:d3 Int)=>dh (xs= [.ref a]) (gC K H a (ks.map V.int)) (∀ (p:gi) (ns:d3 Int),H p=none ->ns.Perm ks ->ns.Pairwise (· <= ·) ->Q (.ref p) (cO H p (.lst (ns.map V.int))))
def y8:gL X (.builtin "sorted") (Ed X.K):=by
 intro aj s σ H xs us Q I r h;let⟨a,ks,rfl,hs,q⟩:=h;let⟨u,rfl,ru⟩:=vals1 r;cases ru;let⟨its,rv,ht,hz⟩:=I.list hs;have hI:IntsAre its ks:=mJ rv;have hl:its.length=ks.length:=by have:=rv.length;rw[aa] at this;show this.symm
 rw[aa] at hz;exact Calls.call_function_entry kind_sorted plain_sorted entry_sorted (args_sorted1 _) ?_;unfold Builtin.«sorted»;exact ae (m:=checkCount "sorted" 1 1 _) (ax ?_);let⟨o,ho,hc,n,hd⟩:=ht.isList;exact ae (wpAny_collect_seq a (.inl rfl) ho hc hd (λh' FT=> ?_) (by simp![aU];lia));simp![List.toList_toArray];exact ae (wpAny_newList ?_ (by rw[hl];show hz));have ho:(h'.push (seqObj "list" its.toArray 0)).get? h'.objs.size=some (seqObj "list" its.toArray 0):=aM _ rfl;exact ae (dg (wpAny_call_entry slot_list_sort #[_,ho,rfl] entry_list_sort (TS.rR (s:= {s with heap:=h'.push (seqObj "list" its.toArray 0)}) ho hI (by rw[hl];show hz) λout ID a1 a2 a3=>#[_,rfl,?_]) (args_list_sort _)));let⟨ee,Oz⟩:=sortedHeap_at (out:=out) ho;have I':Inv X aj σ H {s with heap:=h'}:=I.kept (t':=s.toks) FT;exact ax #[_,rfl, .ref h'.objs.size,_,I'.laid (t':=s.toks) (o:= .lst (ID.map V.int)) (λb o hb=> ?_) (ao _) ?_,rfl,q _ ID (I'.cT.fresh (ao _)) a2 a3];have fE:b<h'.objs.size:=aF hb;rw[sortedHeap_old (a5 fE) (by rw[dM];show Nat.lt_succ_of_lt fE)];show aq _ hb;exact#[?_,out.toList,ee,kq a1, ⇑Oz];rw[aa,a2.length_eq];show hz
variable {K:RZ}
def C3 (a d:WE):WE:=λρ M q=>a ρ M λx M1=>d ρ M1 λy M2=>cJ λ(l:gi) (ns:d3 Int)=>fh (x=wr l) (M2 l=some (.lst (ns.map wi))) (ns= [] ->q y M2) (∀m,gV ns m ->q (wi m) M2)
instance {t td:TE}{a d:WE} [ia:IE K t a] [id:IE K td d]:IE K (KH K t td) (C3 a d) where
 imp:=λρ M σ H q Q o h k=>ia.imp ρ M σ H _ _ o h λx M1 v H1 h1 t1 m1 r1=>id.imp ρ M1 σ H1 _ _ (o.mv t1 m1) h1 λy M2 u H2 ⟨l,ns,e,hl,q0,q1⟩ t2 m2 r2=>by subst e;cases (r1.ts t2).eq;let⟨vs,hv,rr⟩:=m2 l _ hl;cases rr.ints;show#[l,ns,rfl,gC.of hv,λe=>k _ _ _ _ (q0 e) (t1.trans t2) m2 r2,λm hm=>k _ _ _ _ (q1 m hm) (t1.trans t2) m2 WR.v]
theorem Uj:C3 a d ρ M q=a ρ M λx M1=>d ρ M1 λy M2=>cJ λ(l:gi) (ns:d3 Int)=>fh (x=wr l) (M2 l=some (.lst (ns.map wi))) (ns= [] ->q y M2) (∀m,gV ns m ->q (wi m) M2):=rfl
def C1:zc:=λxs M q=>cJ λ(a:gi) (ks:d3 Int)=>dh (xs= [wr a]) (M a=some (.lst (ks.map wi))) (∀ (p:gi) (ns:d3 Int),M p=none ->ns.Perm ks ->ns.Pairwise (· <= ·) ->q (wr p) (um M p (.lst (ns.map wi))))
instance:IC K (Ed K) C1 where
 imp:=by rintro xs v M H q Q m r1 ⟨a,ks,rfl,hl,h⟩ k;let⟨v,rfl,r⟩:=r1.one;cases r.eq;let⟨vs,hv,rr⟩:=m a _ hl;cases rr.ints;show#[a,ks,rfl,gC.of hv,λp ns hp h1 h2=>k _ _ _ _ (h p ns (m.fresh hp) h1 h2) (L2.ff.ts (bU hp)) (m.oG hp (cF.ofInts ns)) WR.v]
end WL
namespace WQ
open PySem L2 WL WP
def bL (s x:Int):Int:=if s=0 then x else x % s
def hI (s x:Int):Int:=if s=0 then 0 else x / s
def fA:d3 Int ->Int
 | []=>0
 | a::r=>r.foldl (λm x=>if x<m then x else m) a
def sj:d3 Int ->Int
 | []=>0
 | a::r=>r.foldl (λm x=>if m<x then x else m) a
def B7 (r:d3 Int): ∀a,(r.foldl (λm x=>if x<m then x else m) a=a \/ r.foldl (λm x=>if x<m then x else m) a∈r) /\ r.foldl (λm x=>if x<m then x else m) a<=a /\ ∀x∈r,r.foldl (λm x=>if x<m then x else m) a<=x:=by
 induction r with
 | nil=>intro a;simp
 | cons b r ih=>intro a;let⟨h1,h2,h3⟩:=ih (if b<a then b else a);rw[List.foldl_cons];generalize List.foldl (λm x=>if x<m then x else m) (if b<a then b else a) r=z at h1 h2 h3;exact#[?_,by split at h2<;>lia,λx hx=> ?_];obtain h1 | h1:=h1;split at h1;rw[h1];show .inr aI;show .inl h1;show .inr (av _ h1);obtain rfl | hx:=ar.mp hx;split at h2<;>lia;show h3 x hx
def B8 (r:d3 Int): ∀a,(r.foldl (λm x=>if m<x then x else m) a=a \/ r.foldl (λm x=>if m<x then x else m) a∈r) /\ a<=r.foldl (λm x=>if m<x then x else m) a /\ ∀x∈r,x<=r.foldl (λm x=>if m<x then x else m) a:=by
 induction r with
 | nil=>intro a;simp
 | cons b r ih=>intro a;let⟨h1,h2,h3⟩:=ih (if a<b then b else a);rw[List.foldl_cons];generalize List.foldl (λm x=>if m<x then x else m) (if a<b then b else a) r=z at h1 h2 h3;exact#[?_,by split at h2<;>lia,λx hx=> ?_];obtain h1 | h1:=h1;split at h1;rw[h1];show .inr aI;show .inl h1;show .inr (av _ h1);obtain rfl | hx:=ar.mp hx;split at h2<;>lia;show h3 x hx
def fQ (h:l≠ []):gV l (fA l):=by
 cases l with
 | nil=>show absurd rfl h
 | cons a r=>let⟨h1,h2,h3⟩:=B7 r a;exact#[?_,λx hx=> ?_];obtain h1 | h1:=h1;change List.foldl _ a r∈a::r;rw[h1];show aI;show av _ h1;obtain rfl | hx:=ar.mp hx;show h2;show h3 x hx
def mE (h:l≠ []):oC l (sj l):=by
 cases l with
 | nil=>show absurd rfl h
 | cons a r=>let⟨h1,h2,h3⟩:=B8 r a;exact#[?_,λx hx=> ?_];obtain h1 | h1:=h1;change List.foldl _ a r∈a::r;rw[h1];show aI;show av _ h1;obtain rfl | hx:=ar.mp hx;show h2;show h3 x hx
def mN (s f:Int)(ns:d3 Int):d3 Int:=(ns.filter λx=>decide (bL s x=f)).map (hI s)
def d9 (l:Pt):d3 Int:=l.map (·.1)
def d7 (s:Int)(st:Pt):Int:=fA ((d9 st).map (bL s))
def f9 (s:Int)(st:Pt):Int:=sj (mN s (d7 s st) (d9 st))
theorem Na (ht:M t=none)(hp:um M t o1 p=none):Sm (um M p o2) (um (um M t o1) p o2):=λb o e=>by by_cases hb:b=p;subst hb;rw[az] at e ⊢;show e;rw[aD hb] at e ⊢;have:b≠t:=cM e ht;rw[aD this];show e
def WC:kn:=λxs M q=>cJ λ(x s:Int)=>fh (xs= [wi x,wi s]) (0<=s) (s<2 ^ 30) (q (wi (bL s x)) M)
def EM:kn:=λxs M q=>gv λ(a:gi) (ns:d3 Int) (s:Int)=>CO (xs= [wr a,wi s]) (M a=some (.lst (ns.map wi))) (ns.length<=16000000) (0<=s) (s<2 ^ 30) (ns= [] ->q wn M) (ns≠ [] ->q (wi (fA (ns.map (bL s)))) M)
def Wz:kn:=λxs M q=>jQ λ(a:gi) (ns:d3 Int) (s f:Int)=>nh (xs= [wr a,wi s,wi f]) (M a=some (.lst (ns.map wi))) (ns.length<=16000000) (0<=s) (s<2 ^ 30) (∀ (p:gi) (ms:d3 Int),M p=none ->ms.Perm (mN s f ns) ->ms.Pairwise (· <= ·) ->q (wr p) (um M p (.lst (ms.map wi))))
def tz (h:ms≠ []):lX (ms.map wi) (-1)=some (wi (ms.getLastD 0)):=by
 have hl:0<ms.length:=List.length_pos_iff.mpr h;have e:u4 (ms.map wi).length (-1)=some (ms.length - 1):=by rw[aa];unfold u4;simp;lia
 unfold lX;rw[e];change(ms.map wi)[ms.length - 1]? =_;rw[aB];have:ms[ms.length - 1]? =some (ms.getLastD 0):=by
  rw[<- List.getLast?_eq_getElem?];cases ms with
  | nil=>show absurd rfl h
  | cons a r=>simp[List.getLast?_cons]
 rw[this];rfl
def Ah (h:l.Pairwise (· <= ·))(hn:l≠ []):oC l (l.getLastD 0):=by
 induction l using WP.d_ with
 | h0=>show absurd rfl hn
 | h1 l a _=>
  have e:(l++ [a]).getLastD 0=a:=by simp
  rw[e];exact#[by simp,λx hx=> ?_];obtain hx | hx:=aA.mp hx;show(cC.mp h).2.2 x hx a (by simp);rw[ah.mp hx];show a4 _
def Cm (hs:0<s):x=bL s x+s*hI s x:=by unfold bL hI;rw[ai ∅,ai ∅];have:=Int.emod_add_mul_ediv x s;lia
def lB (d:gi)(M M':Mp):Prop:= ∀b o,b≠d ->M b=some o ->M' b=some o
theorem lB.refl (d:gi)(M:Mp):lB d M M:=λ_ _ _ h=>h
theorem lB.trans {M M1 M2:Mp}(a:lB d M M1)(b:lB d M1 M2):lB d M M2:=λc o n h=>b c o n (a c o n h)
theorem lB.nb (h:NB d M M'):lB d M M':=λb o n e=>(h b n).trans e
theorem lB.sm (h:Sm M M'):lB d M M':=λb o _ e=>h b o e
theorem lB.um (h:lB d M M')(hp:M p=none):lB d M (um M' p o):=λb u n e=>by rw[aD (cM e hp)];show h b u n e
def jp (s c:Int):Prop:=s=0 \/ (0<=c /\ c<s)
def jp.own (h:jp s c):bL s c=c:=by unfold bL;obtain h | ⟨h1,h2⟩:=h;rw[ap h];rw[ai ∅];show bQ h1 h2
def jp.on (h:jp s c)(k:Int):bL s (c+k*s)=c:=by have:=h.own;unfold bL at this ⊢;split;rename_i e;subst e;simp;rename_i e;rw[ai e] at this;rw[Int.add_mul_emod_self_right];show this
end WQ
namespace WL
theorem IY {α:Type}{l:d3 α}(h:l.length=1): ∃a,l= [a]:=List.length_eq_one_iff.mp h
def Xj {l:d3 α}(h:l.length=n+1):cJ λa r=>l=a::r /\ r.length=n:=by
 cases l with
 | nil=>cases h
 | cons a r=>show#[a,r,rfl, ⇑h]
def E9 {α:Type}{l:d3 α}(h:l.length=2): ∃a b,l= [a,b]:=by let⟨a,r,rfl,g⟩:=Xj h;let⟨b,rfl⟩:=IY g;show#[a,b,rfl]
end WL
namespace L2
open PySem
structure TU (K:PySem.W.Frag)(mg:Str ->Option Value)(x qual:Str)(ps:List Str)(st:Stmt)(C f:Addr)(fd:FuncData):Prop where
 at_:mg x=some (.ref C)
 mkr:Mk K C f
 cl:zi K C
 fn:CP K "__init__" qual st f fd
 bd:Binds K fd ps []
theorem jj {p pos:Pos}(M:TU X.K X.mg x qual ps st C f fd)(F:d8 X.prog X.w X.K X.mg X.base jc k f fd ps sp)(hr:fU (k+1) X.A)(hg:Gl X x)(ha:PA X (e::es) t)(F1:(x==("__debug__" :Str))=false:=by decide)(he:starEach (e::es) X.env=(false,eval e X.env)::starEach es X.env:=by rfl)(qc:(backTo pos (starEach es X.env)).any (·.1)=false:=by rfl): PE X (.Call (.Name x p) (e::es) [] pos) (Dq C sp [] E0 t):=Im M.mkr F hr hg M.at_ M.bd .nil Li ha F1 he qc
end L2
namespace WL
open PySem L2
section
variable {K:RZ}
theorem v6 {H:Hp}{f:Str}{x:W}: ∀ {fs:d3 (Str×W)} {ks:d3 (Str×V)},KR K H fs ks ->fs.lookup f=Option.some x -> ∃v,ks.lookup f=Option.some v /\ WR K H x v
 | _,_, .nil,h=>by cases h
 | (g,y)::fs,(g',v)::ks, .cons ⟨e,r⟩ t,h=>by
  cases (show g=g' from e);rw[List.lookup_cons] at h ⊢;cases hb:f==g with
  | true=>rw[hb] at h;cases h;show#[v,rfl,r]
  | false=>rw[hb] at h;show v6 t h
def jJ (f:Str)(v:W):d3 (Str×W) ->d3 (Str×W)
 | []=> [(f,v)]
 | (g,x)::r=>if g=f then(g,v)::r else(g,x)::jJ f v r
theorem Ak {H:Hp}{f:Str}{x:W}{v:V}(rx:WR K H x v): ∀ {fs:d3 (Str×W)} {ks:d3 (Str×V)},KR K H fs ks ->KR K H (jJ f x fs) (L2.jg f v ks)
 | _,_, .nil=> .cons #[rfl,rx] .nil
 | (g,y)::fs,(g',u)::ks, .cons ⟨e,r⟩ t=>by cases (show g=g' from e);unfold jJ L2.jg;split;show .cons #[rfl,rx] t;show .cons #[rfl,r] (Ak rx t)
theorem Al {H:Hp}: ∀ {kvs:d3 (Str×W)} {vs:d3 (Str×V)},KR K H kvs vs ->kvs.length=vs.length
 | _,_, .nil=>rfl
 | _,_, .cons _ t=>by rw[aK,aK,Al t]
def Mz (K:RZ)(a:WE)(f:Str):WE:=λρ M q=>a ρ M λx M1=>J1 λp C dx fs v=>nh (x=wr p) (M1 p=some (.ins C dx fs)) (zi K C) (dZ K C f) (fs.lookup f=some v) (q v M1)
instance {t:TE}{a:WE}{f:Str} [ia:IE K t a]:IE K (MT K t f) (Mz K a f) where
 imp:=λρ M σ H q Q o h k=>ia.imp ρ M σ H _ _ o h λx M1 v H1 ⟨p,C,dx,fs,y,ex,hp,hc,hn,hl,h1⟩ t1 m1 r1=>by subst ex;let⟨ks,e,r⟩:=m1 p _ hp;let⟨u,hu,ru⟩:=v6 r hl;show#[p,C,dx,ks,u,r1.eq,e,hc,hn,hu,k _ _ _ _ h1 t1 m1 ru]
def DT (K:RZ)(a b:WE)(f:Str):WS:=λD ρ M=>b ρ M λy M1=>a ρ M1 λx M2=>jQ λp C dx fs=>nh (x=wr p) (M2 p=some (.ins C dx fs)) (zi K C) (dZ K C f) (fs.length<1000) (D.nx ρ (um M2 p (.ins C dx (jJ f y fs))))
instance {t u:TE}{a b:WE}{f:Str} [ia:IE K t a] [ib:IE K u b]:IS K (Q4 K t u f) (DT K a b f) where
 imp:=λρ M σ H D' D o h e=>ib.imp ρ M σ H _ _ o h λy M1 v1 H1 h1 t1 m1 r1=>ia.imp ρ M1 σ H1 _ _ (o.mv t1 m1) h1 λx M2 v2 H2 ⟨p,C,dx,fs,ex,hp,hc,hn,hl,h2⟩ t2 m2 r2=>by subst ex;let⟨ks,ek,r⟩:=m2 p _ hp;have ts:=ML (u:= .ins C dx (jg f v1 ks)) ek;exact#[p,C,dx,ks,r2.eq,ek,hc,hn,by rw[<- Al r];show hl,e.nx ρ _ σ _ h2 ((t1.trans t2).trans ts) (o.mv ((t1.trans t2).trans ts) (m2.put ts #[_,bI,KR.ts ts (Ak (r1.ts t2) r)]))]
def Ko (C:gi)(p:kn)(a:WA):WE:=λρ M q=>a ρ M λxs M1=> ∀x dx,M1 x=none ->M1 dx=none ->dx≠x ->p (wr x::xs) (um M1 x (.ins C dx [])) λv M2=>v=wn /\ q (wr x) M2
instance {C:gi}{p:kn}{E:XK}{t:TA}{a:WA} [ia:IA K t a]:IE K (Dq C (l4 K p) [] E t) (Ko C p a) where
 imp:=λρ M σ H q Q o h k=>ia.imp ρ M σ H _ _ o h λxs M1 vs H1 h1 t1 m1 r1=>λx dx hx Oq c6=>by
  have LD:cO H1 dx (.own x) x=none:=by rw[bC (aT c6)];show hx
  have _E:bi H1 (cO H1 dx (.own x)):=L2.ff.ts (bU Oq);have QA:bi (cO H1 dx (.own x)) (cO (cO H1 dx (.own x)) x (.ins C dx [])):=L2.ff.ts (bU LD);exact#[wr x::xs,um M1 x (.ins C dx []),λv M2=>v=wn /\ q (wr x) M2,cF.cons WR.v (by rw[List.append_nil];show r1.ts (_E.trans QA)),(m1.new Oq).put QA #[[],bI, .nil],h1 x dx (m1.fresh hx) (m1.fresh Oq) c6,?_];rintro y M' u H' ⟨rfl,hq⟩ ts m' r';show#[r'.eq,k _ _ _ _ hq (t1.trans ((_E.trans QA).trans ts)) m' WR.v]
def Fz (o:eB MO)(k:gi ->gi ->d3 (Str×W) ->Prop):Prop:=gv λC dx fs=>o=some (.ins C dx fs) /\ k C dx fs
def Xu:Fz (some (.ins C dx fs)) k=k C dx fs:=by apply propext;symm;rintro⟨_,_,_,e,h⟩;cases e;show h;intro h;show#[_,_,_,rfl,h]
def V0:Mz K a f ρ M q=a ρ M λx M1=>fJ x λp=>Fz (M1 p) λC dx fs=>gR (zi K C) (gR (dZ K C f) (rc (fs.lookup f) λv=>q v M1)):=by unfold Mz fJ Fz gR rc;congr 1;funext x M1;apply propext;symm;rintro⟨p,C,dx,fs,v,e1,e2,e3,e4,e5,h⟩;show#[p,e1,C,dx,fs,e2,e3,e4,v,e5,h];rintro⟨p,e1,C,dx,fs,e2,e3,e4,v,e5,h⟩;show#[p,C,dx,fs,v,e1,e2,e3,e4,e5,h]
def UD:DT K a b f D ρ M=b ρ M λy M1=>a ρ M1 λx M2=>fJ x λp=>Fz (M2 p) λC dx fs=>gR (zi K C) (gR (dZ K C f) (gR (fs.length<1000) (D.nx ρ (um M2 p (.ins C dx (jJ f y fs)))))):=by unfold DT fJ Fz gR;congr 1;funext y M1;congr 1;funext x M2;apply propext;symm;rintro⟨p,C,dx,fs,e1,e2,e3,e4,e5,h⟩;show#[p,e1,C,dx,fs,e2,e3,e4,e5,h];rintro⟨p,e1,C,dx,fs,e2,e3,e4,e5,h⟩;show#[p,C,dx,fs,e1,e2,e3,e4,e5,h]
theorem l6:Ko C p a ρ M q=a ρ M λxs M1=> ∀x dx,M1 x=none ->M1 dx=none ->dx≠x ->Gr p (wr x::xs) (um M1 x (.ins C dx [])) λv M2=>v=wn /\ q (wr x) M2:=rfl
end
end WL
namespace L2
open PySem
def LA (s:Stmt)(j:Nat):Stmt:=match s with
 | .ClassDef _ _ _ b _ _ _ _ _ _ _=>b.getD j (.Pass #[0,0,0,0])
 | _=> .Pass #[0,0,0,0]
end L2
namespace L2
open PySem PySem.Spec PyProof.Rows
def Vu (d:gi)(o:Obj)(kvs:d3 (cf×V)):It:=#[λi H=>i<kvs.length /\ H d=some (.jM o (.dK kvs)),λi H x H'=>cJ λp kv=>fh (H p=none) (kvs[i]? =some kv) (H'=cO H p (.tup [kV kv.1,kv.2])) (x= .ref p),λi H=>kvs.length<=i /\ H d=some (.jM o (.dK kvs))]
theorem yq: ∀ {kvs:d3 (cf×V)} {vs:d3 (cf×d4)} {i:Nat} {q:cf×d4},KV kvs vs ->vs[i]? =some q -> ∃p,dh (kvs[i]? =some p) (p.1=q.1) (RelV p.2 q.2)
 | _,_,0,_, .cons ⟨e0,r⟩ _,e=>by cases e;show#[_,rfl,e0,r]
 | _,_,i+1,q, .cons _ t,e=>by have e':_=some q:=e;rw[cR] at e' ⊢;show yq t e'
def uo (h:lw k u=true):RelV (kV k) u:=by
 rcases ca h with⟨i,t,rfl,rfl⟩ | ⟨x,t,rfl,rfl⟩
 show#[t,rfl];show#[t,rfl]
def xB {P:R1}{w:World}{K:RZ}{rB:d3 Expr}{x1}{pos:Pos}{d it:gi}{o:Obj}{kvs:d3 (cf×V)}{es:gX DictEntry}{ep:Nat}(ho:o.data= .dict es ep)(c6:d≠it): qJ P w K (.Tuple rB x1 pos) (Vu d o kvs) [it] it (λi h=> ∃ok ov,IsItemIter h it d i kvs.length ep ok ov) where
 mem:=by simp
 obj:=λi h st b hb=>by have e:b=it:= ⇑hb;subst e;let⟨ok,ov,e⟩:=st;show#[_,e,λv z=>nomatch z]
 keep:=λi h h' ⟨ok,ov,e⟩ k=>#[ok,ov,k it (by simp) _ e]
 item:=by
  intro X hP hw hK hc i aj s σ H E I hf st hg;subst hP hw hK;let⟨hi,hH⟩:=hg;let⟨vs,rel,hd⟩:=F6 I ho hH;have hl:=rel.length;let⟨ok,ov,st⟩:=st;rw[hl] at st hi;have fp:=hf it (by simp);let⟨⟨k,x⟩,hx⟩: ∃q,vs[i]? =some q:=#[vs[i],by simp[hi]]
  let⟨p,hp,ZB,rp⟩:=yq rel hx;exact wpAny_pyNext_items_item st hd hx λkey h' qf XT ht hsz hk=> ?_;exact#[_,rfl,wpAny_letOwnedTupleGo_items XT λh2 Ha jN=> ?_];have LX:s.heap.objs.size≠it:=Nat.ne_of_gt (aF st);have rk:RelV (kV p.1) key:=by rw[ZB];show uo qf
  exact#[.ref s.heap.objs.size,cO H s.heap.objs.size (.tup [kV p.1,p.2]),EN.ut (t':=s.toks) I (λb o hb _ q=>(jN.2 b hb).trans (hk b o hb q)) fp fp #[by rw[cP];change 2<=16777216;decide,[key,x], .cons rk (.cons rp .nil),?_],rfl,#[_,p,I.cT.fresh (ao _),hp,rfl,rfl],#[key,x,by rw[hl];show Ha],λb hb=> ?_];show#[_,(jN.2 _ LX).trans ht,rfl,_,rfl,rfl];have e:b=it:=by simpa using hb
  subst e;rw[bC (aT LX)];show fp.1
 done:=by intro X hP hw hK hc i aj s σ H E I hf st hg;subst hP hw hK;let⟨hi,hH⟩:=hg;let⟨vs,rel,hd⟩:=F6 I ho hH;have hl:=rel.length;let⟨ok,ov,st⟩:=st;rw[hl] at st hi;let⟨f0,f1,f2,f3,f4,f5⟩:=hf it (by simp);show wpAny_pyNext_items_end (I.ok.hd hc) st hd (by simp;lia) λh' eb=>#[rfl,I.turned (t':=s.toks) (λb o hb e=>eb b o hb e) f0 f1 f3 f4 f5]
 self:=λ_ _ _ _ _ st h=>let ⟨_,_,e⟩:=st;W.kcp_self e h
section
variable {X:Cx}{rB:d3 Expr}{x1:_}{vg:Pos}{o:Expr}{td:TE}{i0 fT:Pos}
def FD (td:TE):TI:=λσ H R=>td σ H λx H1=>cJ λd kvs=>dh (x= .ref d) (H1 d=some (.dK kvs)) (∀o,R (Vu d o kvs) (cO H1 d (.jM o (.dK kvs))))
def vI (et:tg= .Tuple rB x1 vg)(ho:PE X o td)(wq:attributeBase o "items" X.env (eval o X.env)=eval o X.env:=by rfl)(wo:(i0.endLine==fT.line)=true:=by rfl):PI X tg (.Call (.Attribute o "items" i0) [] [] fT) (FD td):=by
 subst et;intro aj s σ H R I h;exact wpAny_Call_method0_late wq wo (cY (ho aj s σ H _ I h) λv s1 ⟨x,H1,I1,r1,d,kvs,ex,hd,q1⟩=> ?_);subst ex;obtain rfl:v=Value.ref d:=r1;let⟨t1,t2,DD⟩:=ur I1 (.inl #[kvs, .inl hd]);exact#["dict","dict.items",PySem.F.plainAttrs_dict,PySem.F.slot_dict_items,PySem.F.type_dict_items,t1,t2,Calls.callWith_builtin rfl (PySem.evalArgs_none ?_)];let⟨z,FL,vs,rel,dd⟩:=mY I1.cT (.inl hd);exact call_meetsIn PySem.F.slot_dict_items dd.typeIs PySem.F.entry_dict_items (PySem.F.args_dict_items_1 _) (meets_dict_items (ce X.prog X.w) d FL) #[#[vs,dd],?_];let⟨ob,es,ep,g1,g2,g3,g4⟩:=dd;have da:s1.heap.DictAt (ce X.prog X.w) d vs ep:=#[ob,es,g1,g2,g3,g4]
 have hdl:d<s1.heap.objs.size:=aF g1;exact wpAny_pyIter_items (d:=d) (kvs:=vs) (ep:=ep) (knd:=ce X.prog X.w) #[_,aM _ rfl,rfl,rfl] (da.push _) ?_;have I2:=I1.freeze hd g1;exact#[_,[_],_,Vu d ob kvs,_,rfl,I2.kept (t':=s1.toks) λb o e=>aq _ (aq _ e),xB g3 ?_,?_,λb hb=> ?_,q1 ob];change d≠(s1.heap.push _).objs.size;rw[dM];lia;rw[rel.length];show#[_,_,aM _ rfl];have I3:Inv X aj σ (cO H1 d (.jM ob (.dK kvs))) {s1 with heap:=s1.heap.push {cls:= .type "dict_items",data:= .fields #[.ref d]}}:=I2.kept (t':=s1.toks) λb o e=>aq _ e;have e:=ah.mp hb;subst e;show I3.rA (ao _) (I3.cT.fresh (ao _))
end
def Inv.Wc {σ:St}(I:Inv X aj σ H s)(e:H d=some (.jM o (.dK kvs)))(h0: ∀o u,X.H₀ d≠some (.jM o u)): Inv X aj σ (cO H d (.dK kvs)) s:=by
 have ne: ∀ {b u},H b=some u ->u≠ .jM o (.dK kvs) ->b≠d:=λ{b u} h n z=>by subst z;rw[e] at h;show n (bm h).symm
 have IK: ∀ {b},H b=none ->b≠d:=λ{b} h z=>by subst z;rw[e] at h;cases h
 exact#[I.ok,I.os,I.bare,#[I.base.keep,I.base.slot,λb u h1 h2 h3=> ?_,I.base.there,λb xs h=> ?_,λb o' u h=> ?_,λb ps h=> ?_],I.loc,I.cell,?_,λx c h=> ?_,λp hp=> ?_,λb u h=> ?_,I.len];have z:=I.base.free b u h1 h2 h3;rw[bC (IK z)];show z;have z:=I.base.qZ b xs h;rw[bC (ne z (λq=>nomatch q))];show z;have z:=I.base.oP b o' u h;have nb:b≠d:=λz=>h0 o' u (z▸h);rw[bC nb];show z;let⟨more,z⟩:=I.base.q_ b ps h;show#[more,by rw[bC (ne z (λq=>nomatch q))];show z];rw[bC (IK I.free)];show I.free;rw[bC (IK (I.iC x c h))];show I.iC x c h;let⟨a1,a2,a3⟩:=I.pin p hp;show#[a1,by rw[bC (IK a2)];show a2,a3];have ow: ∀c,H c=some (.own b) ->cO H d (.dK kvs) c=some (.own b):=λc r=>by rw[bC (ne r (λq=>nomatch q))];show r
 have tu: ∀c xs,H c=some (.tup xs) ->cO H d (.dK kvs) c=some (.tup xs):=λc xs r=>by rw[bC (ne r (λq=>nomatch q))];show r
 by_cases hb:b=d;subst hb;rw[bI] at h;cases h;have z:=(I.cT b _ e).pE (H':=cO H b (.dK kvs)) (h':=s.heap) (λ_ _ _ h=>h) ow tu;show z.2;rw[bC hb] at h;show(I.cT b u h).pE (λ_ _ _ h=>h) ow tu
def K4 (t:TS):TS:=λD σ H=>cJ λd kvs=>H d=some (.dK kvs) /\ t {D with nx:=λσ' H'=>cJ λo us=>H' d=some (.jM o (.dK us)) /\ D.nx σ' (cO H' d (.dK us))} σ H
def zV {st:Stmt}(h:PS X st t):PS X st (K4 t):=by
 rintro aj s σ H D I ⟨d,kvs,hd,ht⟩;have h0: ∀o u,X.H₀ d≠some (.jM o u):=λo u e=>by have:=I.base.oP d o u e;rw[hd] at this;cases this
 exact cY (h aj s σ H _ I ht) λfl s' hs=> ?_;cases fl with
 | next=>let⟨σ',H',I',o,us,e,q⟩:=hs;show#[σ',_,I'.Wc e h0,q]
 | ret v=>show hs
 | brk=>show hs
 | cont=>show hs
end L2
namespace WL
open PySem L2
variable {K:RZ}
def yw (a:WE):WI:=λρ M q=>a ρ M λx M1=>cJ λd kvs=>dh (x=wr d) (M1 d=some (.dK kvs)) (∀o ks,q (kvs.map λkv=> .tup [fD kv.1,kv.2]) (λM'=>M' d=some (.fz o ks kvs)) (um M1 d (.fz o ks kvs)))
theorem yr: ∀ {H:Hp} {kvs:d3 (cf×W)} {vs:d3 (cf×V)} {i:Nat} {q:cf×V},KR K H kvs vs ->vs[i]? =some q -> ∃p,dh (kvs[i]? =some p) (p.1=q.1) (WR K H p.2 q.2)
 | _,_,_,0,_, .cons ⟨e0,r⟩ _,e=>by cases e;show#[_,rfl,e0,r]
 | _,_,_,i+1,q, .cons _ t,e=>by have e':_=some q:=e;rw[cR] at e' ⊢;show yr t e'
def yB:zf K H1 (Vu d o ks) (kvs.map λkv=> .tup [fD kv.1,kv.2]) (λM'=>M' d=some (.fz o ks kvs)):=by intro i M H t m hM;let⟨e1,r1⟩:=m d _ hM;have hl:=p8 r1;rw[aa];exact#[λh=>#[∅,e1],λh=>#[∅,e1],λv H' hi ⟨p,kv,hp,hk,e2,e3⟩=> ?_];subst e2 e3;let⟨p2,XQ,e4,rp⟩:=yr r1 hk;have ts:bi H (cO H p (.tup [kV kv.1,kv.2])):=L2.ff.ts (bU hp);exact#[ts,m.new hp, .tup [fD p2.1,p2.2],by rw[aB,XQ];rfl,WR.Po (i9.of bI) (cF.cons ?_ (cF.cons (rp.ts ts) cF.nil))];rw[e4];cases kv.1<;>show WR.v
instance {t:TE}{a:WE} [ia:IE K t a]:II K (FD t) (yw a) where
 imp:=λρ M σ H q R o h k=>ia.imp ρ M σ H _ _ o h λx M1 v H1 ⟨d,kvs,ex,hd,h1⟩ t1 m1 r1=>by subst ex;let⟨ks,e,r⟩:=m1 d _ hd;exact#[d,ks,r1.eq,e,λob=>k _ _ _ _ _ (h1 ob ks) (t1.trans (l7 e)) (m1.put (l7 e) #[bI,KR.ts (l7 e) r]) yB]
def RX:yw a ρ M q=a ρ M λx M1=>fJ x λd=>jE (M1 d) λkvs=> ∀o ks,q (kvs.map λkv=> .tup [fD kv.1,kv.2]) (λM'=>M' d=some (.fz o ks kvs)) (um M1 d (.fz o ks kvs)):=by unfold yw fJ jE;congr 1;funext x M1;apply propext;symm;rintro⟨d,kvs,e1,e2,h⟩;show#[d,e1,kvs,e2,h];rintro⟨d,e1,kvs,e2,h⟩;show#[d,kvs,e1,e2,h]
def Nd (t:WS):WS:=λD ρ M=>cJ λd kvs=>M d=some (.dK kvs) /\ t {D with nx:=λρ' M'=>gv λo ks us=>M' d=some (.fz o ks us) /\ D.nx ρ' (um M' d (.dK us))} ρ M
theorem MM (h:H a=some (.jM o (.dK xs))):bi H (cO H a u):=ve h (λ_ z=>nomatch z) λ_ _ z=>nomatch z
instance {t:TS}{a:WS} [ia:IS K t a]:IS K (K4 t) (Nd a) where
 imp:=λρ M σ H D' D o ⟨d,kvs,hd,h⟩ e=>by let⟨ks,ek,r⟩:=o.hp d _ hd;exact#[d,ks,ek,ia.imp ρ M σ H _ _ o h #[?_,e.rt,e.bk,e.ct]];rintro ρ' M' σ' H' ⟨ob,us,ws,hM,hq⟩ ts ok;let⟨e1,r1⟩:=ok.hp d _ hM;have t2:=MM (u:= .dK us) e1;show#[ob,us,e1,e.nx ρ' _ σ' _ hq (ts.trans t2) (ok.mv t2 (ok.hp.put t2 #[us,bI,KR.ts t2 r1]))]
end WL
set_option maxHeartbeats 4000000
namespace DC
open PySem PySem.Spec PyProof.Rows
def IX:typeLookup (.type "tuple") "keys" =pure none:=by rw[typeLookup_type,builtinLookup_eq_fast];kernel_rfl
theorem qk:entryFor table "dict.update.loop" =some Builtin.«dict.update.loop» :=entryFor_of_tree (by kernel_rfl)
def jw:plainId "dict.update.loop" =true:=by decide+kernel
def IJ (hx:s.heap.get? a=some #[.type "tuple",none, .seq xs k,sl])(hA:A.handled=none)(h: ∀h' tk,(∀b o,s.heap.get? b=some o ->h'.get? b=some o) ->Q none {s with heap:=h',toks:=tk}):wpAny (model prog w) A (getAttr? (.ref a) "keys") Q E s:=by
 let⟨hp,g,d,tk,os⟩:=s;have hT: ∀Pc,(#[hp,g,d,Pc,os]:d5).TypeIs (.ref a) "tuple" :=λ_=>#[_,hx,rfl]
 have f1:=sub_AttributeError;have f3:=F.slot_tuple_getattribute.lookup;have f4:=F.slot_tuple_getattribute.bind (.ref a);have f5:=am_tuple_getattr_none;unfold getAttr? getAttrBy? getAttrBy;repeat (any_goals (first | assumption | show hT _ | ((with_reducible change wpAny _ _ (call (Value.builtin "tuple.__getattribute__") _ _) _ _ _);exact call_meets F.slot_tuple_getattribute (hT _) am_entry_tuple_getattribute (F.args_tuple_getattribute_2 _ _) (meets_getattribute_miss_tuple a xs k sl "keys" _ IX (by decide+kernel) (by size_fits)) #[hx,hA,λh' Pc e gq=> ?_]) | wp_step))
 let⟨t',u',he⟩:=gq.there;change wpAny _ _ (getattributeRaised _ _ _ _ _ _ _) _ _ _;unfold getattributeRaised;repeat (any_goals (first | assumption | wp_step))
 show h h' _ gq.keeps
section
variable {prog:R1}{w:World}{κ:Type} [DecidableEq κ]{knd:PySem.KeyKind prog w κ}{A:Around}{E:d4 ->d5 ->Prop}
structure Ml (knd:PySem.KeyKind prog w κ)(h:Heap)(its:Array Value)(ps:List (κ×Value)):Prop where
 len:its.size=ps.length
 at_: ∀ (i:Nat) (p:κ×Value),ps[i]? =some p -> ∃a key,its[i]? =some (.ref a) /\ knd.is p.1 key=true /\ h.IsTuple a (List.toArray [key,p.2])
theorem Ml.keeps (P:Ml knd h its ps)(hk: ∀b o,b≠x ->h.get? b=some o ->h'.get? b=some o)(hx: ∀o its n,h.get? x=some o ->o.data≠ .seq its n):Ml knd h' its ps:=#[P.len,λi p e=>by let⟨a,key,h1,h2,o,ho,hc,n,r⟩:=P.at_ i p e;show#[a,key,h1,h2,o,hk a o (λz=>hx o _ n (z▸ho) r) ho,hc,n,r]]
def putAll (kvs:d3 (κ×d4))(ps:d3 (κ×d4)):d3 (κ×d4):=ps.foldl (λm p=>stored m p.1 p.2) kvs
def xI (kvs:d3 (κ×d4))(k:κ)(v:d4):(stored kvs k v).length<=kvs.length+1:=by unfold stored;split;simp;simp
def loop (hA:A.in1.handled=none)(hn:ps.length<=1000000): ∀ (k i:Nat) {s:d5} (it d:gi) (tk:Tok) (kvs:d3 (κ×d4)),ps.length - i=k ->i<=ps.length ->kvs.length<=i ->s.heap.IsTupleIter it t i ->s.heap.IsTuple t its ->Ml knd s.heap its ps ->s.heap.DictOf knd d kvs ->d≠it ->d≠t ->t≠it ->(∀h' Pc,h'.DictOf knd d (putAll kvs (ps.drop i)) ->(∀b o,b≠d ->b≠it ->s.heap.get? b=some o ->h'.get? b=some o) ->R (.ok (.ret .none)) {s with heap:=h',toks:=Pc}) ->codeAny (model prog w) A (.builtin "dict.update.loop" #[[.ref d, .ref it, .int i tk, .none],[]]) R s:=by
 intro k;induction k with
 | zero=>
  intro i s it d tk kvs hk hi hl rm ht hP hd n1 n2 n3 hR;have e:i=ps.length:=by omega
  exact codeAny_builtin qk ?_;rw[Around.under_plainId jw _];change wpAny _ A.in1 (pyNext (.ref it) >>=_) _ _ s;exact ae (wpAny_pyNext_tuple_end hA rm ht (by rw[Array.getElem?_eq_none];rw[hP.len];omega) λh' hx=> ?_);change wpAny _ A.in1 (Builtin.Dict.addKeywords d [] >>=_) _ _ _;exact ae (ax (ax ?_));have e2:ps.drop i= []:=List.drop_eq_nil_of_le (by omega);exact hR h' s.toks ?_ λb o _ n4 eb=>hx b o n4 eb;rw[e2];show hd.extBut hx n1
 | succ k ih=>
  intro i s it d tk kvs hk hi hl rm ht hP hd n1 n2 n3 hR;have fE:i<ps.length:=by omega
  let⟨p,hp⟩: ∃p,ps[i]? =some p:=#[ps[i],am fE]
  let⟨a,key,h1,h2,h3⟩:=hP.at_ i p hp;exact codeAny_builtin qk ?_;rw[Around.under_plainId jw _];change wpAny _ A.in1 (pyNext (.ref it) >>=_) _ _ s;exact ae (wpAny_pyNext_tuple_item rm ht h1 λh' Yd gk=> ?_);have nc: ∀o its n,s.heap.get? it=some o ->o.data≠ .seq its n:=λo its n eo z=>by let⟨o2,e2,_,c2⟩:=rm;rw[eo] at e2;cases e2;rw[z] at c2;cases c2
  have S4:Ml knd h' its ps:=hP.keeps (λb o n4 e4=>gk.extBut b o n4 e4) nc;have kY:h'.DictOf knd d kvs:=hd.extBut gk.extBut n1;have nv:h'.IsTuple t its:=by let⟨o,ho,r⟩:=ht;show#[o,gk.extBut t o n3 ho,r]
  let⟨a',RV,JJ,CM,h3'⟩:=S4.at_ i p hp;let⟨oa,hoa,hca,na,hda⟩:=h3';have ea:a'=a:=by rw[h1] at JJ;cases JJ;rfl
  subst ea;have hT:(#[h',s.gens,s.drawn,s.toks,s.os]:d5).TypeIs (.ref a') "tuple" :=#[oa,hoa,hca]
  change wpAny _ A.in1 (holding [.ref a'] _ >>=_) _ _ _;exact ae (dg (ae (wpAny_tryCatch ?_)));unfold Builtin.Dict.pairItems;exact ae (wpAny_typeOf hT ?_);rw[ap (by simp)];exact ae (wpAny_seqItems hoa hda ?_);exact ax ?_;change wpAny _ A.in1 (holding [RV,p.2] (dictSet d RV p.2)) _ _ _;exact dg (wpAny_dictSet_pairs CM kY (λh2 PN jN=> ?_) (by rw[cP];omega));exact ax #[plainId_quiet jw _,?_];have ei:(rawInt ((i:Int)+1))=Value.int ((i+1:Nat):Int) 0:=by simp[rawInt]
  rw[ei];have BZ:Ml knd h2 its ps:=S4.keeps (x:=d) (λb o n4 e4=>jN.extBut b o n4 e4) (λo its n eo z=>by let⟨o2,_,_,e2,_,c2,_⟩:=kY;rw[eo] at e2;cases e2;rw[z] at c2;cases c2);exact ih (i+1) it d 0 (stored kvs p.1 p.2) (by omega) fE (by have:=xI kvs p.1 p.2;omega) ?_ ?_ BZ PN n1 n2 n3 λh3 tk3 Ou hk3=> ?_;let⟨o,ho,r⟩:=Yd;show#[o,jN.extBut it o (aT n1) ho,r];let⟨o,ho,r⟩:=nv;show#[o,jN.extBut t o (aT n2) ho,r];exact hR h3 tk3 ?_ λb o n4 n5 eb=>hk3 b o n4 n5 (jN.extBut b o n4 (gk.extBut b o n5 eb));have:ps.drop i=p::ps.drop (i+1):=by have:=dI fE;rw[this];rw[am fE] at hp;cases hp;rfl
  rw[this];show Ou
def iE (hA:A.in1.handled=none)(hn:ps.length<=1000000)(hx:s.heap.get? t=some #[.type "tuple",none, .seq its n,sl])(hP:Ml knd s.heap its ps)(h: ∀h' tk,h'.DictOf knd s.heap.objs.size (putAll [] ps) ->(∀b o,s.heap.get? b=some o ->h'.get? b=some o) ->Q (.ref s.heap.objs.size) {s with heap:=h',toks:=tk}): wpAny (model prog w) A (call (.type "dict") [.ref t]) Q E s:=by
 exact callType_codes (Q₁:=λobj s₁=>obj= .ref s.heap.objs.size /\ s₁= {s with heap:=s.heap.push {cls:= .type "dict",data:= .dict #[]}}) PySem.F.kt_called_dict (PySem.F.kt_typeCall_dict_1 _) PySem.F.entry_dict_init (PySem.kt_code_dict_new _ #[rfl,rfl]) ?_;rintro obj s₁ ⟨rfl,rfl⟩;have Jw:(s.heap.push {cls:= .type "dict",data:= .dict #[]}).DictOf knd s.heap.objs.size []:=Heap.DictOf.new s.heap;have U0:(s.heap.push {cls:= .type "dict",data:= .dict #[]}).get? t=some #[.type "tuple",none, .seq its n,sl]:=aq _ hx;have fE:t<s.heap.objs.size:=aF hx;exact#[Jw.typeIs,PySem.F.args_dict_init_2 _ _,?_];unfold Builtin.«dict.__init__»;exact ae ?_;unfold Builtin.Dict.selfAndRest;exact ae (wpAny_notOrdered_dict Jw.typeIs ?_);change wpAny _ _ (pure (s.heap.objs.size,[Value.ref t])) _ _ _;exact ax ?_;change wpAny _ _ (Builtin.Dict.updateFrom "dict.__init__" s.heap.objs.size (.ref t) [] .none) _ _ _;unfold Builtin.Dict.updateFrom;exact ae (wpAny_typeOf (T:= "tuple") #[_,U0,rfl] ?_);rw[ap ⋯];exact ae (IJ U0 hA λh1 Uv u6=> ?_);rw[ap (show(none:eB d4).isNone=true from rfl)];exact ae (wpAny_rule (ae ?_));have ht3:h1.IsTuple t its:=#[_,u6 t _ U0,rfl,n,rfl]
 exact wpAny_pyIter_tuple ht3 ?_;exact ax #[plainId_quiet jw _,?_];have Vc:h1.DictOf knd s.heap.objs.size []:=by let⟨o,es,ep,ho,r⟩:=Jw;show#[o,es,ep,u6 _ _ ho,r]
 have FM:s.heap.objs.size<h1.objs.size:=by let⟨o,es,ep,ho,r⟩:=Vc;show aF ho
 have Hc:Ml knd (h1.push {cls:= .type "tuple_iterator",data:= .fields (List.toArray [.ref t, .int 0 0])}) its ps:=#[hP.len,λi p e=>by let⟨a,key,e1,e2,o,ho,r⟩:=hP.at_ i p e;show#[a,key,e1,e2,o,aq _ (u6 a o (aq _ ho)),r]]
 have ei:(rawInt 0)=Value.int ((0:Nat):Int) 0:=rfl;rw[ei];have FK:t≠h1.objs.size:=a5 (aF (u6 t _ U0));have ht4:(h1.push {cls:= .type "tuple_iterator",data:= .fields (List.toArray [.ref t, .int 0 0])}).IsTuple t its:=let ⟨o,ho,r⟩:=ht3;#[o,aq _ ho,r]
 have rm:(h1.push {cls:= .type "tuple_iterator",data:= .fields (List.toArray [.ref t, .int 0 0])}).IsTupleIter h1.objs.size t 0:=#[_,aM _ rfl,rfl,rfl]
 have PN:=Vc.push {cls:= .type "tuple_iterator",data:= .fields (List.toArray [.ref t, .int 0 0])};exact loop (A:=A.in1) (knd:=knd) (ps:=ps) (its:=its) (t:=t) (s:= {s with heap:=h1.push {cls:= .type "tuple_iterator",data:= .fields (List.toArray [.ref t, .int 0 0])},toks:=Uv}) hA hn ps.length 0 h1.objs.size s.heap.objs.size 0 [] (by omega) (cB _) (ao _) rm ht4 Hc PN (a5 FM) (Nat.ne_of_gt fE) FK λh' Pc kY u8=> ?_;exact#[rfl,h h' Pc ?_ λb o eb=>u8 b o (a5 (aF eb)) (a5 (aF (u6 b o (aq _ eb)))) (aq _ (u6 b o (aq _ eb)))];simpa using kY
end
end DC
namespace L2
open PySem PySem.Spec PyProof.Rows
section
variable {X:Cx}{aj:d3 (gi×Obj)}{σ:St}{H H':Hp}{s:d5}{h':Heap}
def Inv.more (I:Inv X aj σ H s)(k: ∀b o,s.heap.get? b=some o ->h'.get? b=some o)(hx: ∀b o,H b=some o ->H' b=some o)(hn: ∀b,b<s.heap.objs.size ->H b=none ->H' b=none)(cT:k9 X.prog X.w H' h'): Inv X aj σ H' {s with heap:=h',toks:=t'}:=by exact I.call (ch:= []) (g':=s.gens) (d':=s.drawn) #[λb o q n _ _=>k b o q,λb o q n _ _=>#[o.slots,k b o q],λb o q n _=>hn b (aF q) n,λb o q _=>#[o,k b o q],λb ys q=>hx b _ q,λb o u q=>hx b _ q,λb ps q=>#[#[],by rw[hx b _ q];simp]] cT I.bare λb hb=>nomatch hb
def Ef (K:RZ):d3 V ->Hp ->VK ->Prop:=λxs H Q=> ∃ (a:gi) (vs:d3 V) (ps:d3 (cf×V)),xs= [.ref a] /\ i9 K H a vs /\ ps.length<=1000000 /\ vs.length=ps.length /\ (∀ (i:Nat) p,ps[i]? =some p -> ∃b,vs[i]? =some (.ref b) /\ i9 K H b [kV p.1,p.2]) /\ ∀q,H q=none ->Q (.ref q) (cO H q (.dK (ps.foldl (λm p=>f' m p.1 p.2) [])))
theorem En {K:RZ}{h:Heap}(tup: ∀ {b:gi} {xs:d3 V},i9 K H b xs -> ∃its:d3 d4,cD xs its /\ h.IsTuple b its.toArray): ∀ {ps:d3 (cf×V)} {vs:d3 V} {its:d3 d4},vs.length=ps.length ->(∀ (i:Nat) p,ps[i]? =some p -> ∃b,vs[i]? =some (.ref b) /\ i9 K H b [kV p.1,p.2]) ->cD vs its ->∃qs:d3 (cf×d4),KV ps qs /\ ∀ (i:Nat) q,qs[i]? =some q -> ∃a key,its[i]? =some (.ref a) /\ (ce X.prog X.w).is q.1 key=true /\ h.IsTuple a (List.toArray [key,q.2])
 | [],vs,its,hl,_,r=>by exact#[[], .nil,λi q e=> ?_];simp at e
 | p::ps,[],its,hl,_,r=>by simp at hl
 | p :: ps,v::vs,its,hl,ha,r=>by
  cases r with
  | @cons _ u _ us r1 r2=>
   let⟨qs,hq,XM⟩:=En tup (ps:=ps) (vs:=vs) (its:=us) ⇑hl (λi p e=> ⇑(ha (i+1) p ⇑e)) r2;let⟨b,hb,hs⟩:=ha 0 p rfl;have sD:v= .ref b:= ⇑hb;subst sD;have eu:u=Value.ref b:=r1;subst eu;let⟨js,rj,tj⟩:=tup hs;cases rj with
   | cons k1 k2=>
    cases k2 with
    | cons k3 k4=>
     cases k4;rename_i key val;exact#[(p.1,val)::qs, .cons #[rfl,k3] hq,λi q e=> ?_];cases i with
     | zero=>simp at e;subst e;show#[b,key,rfl,mH k1,tj]
     | succ i=>simpa using XM i q ⇑e
theorem sx: ∀ {ps:d3 (cf×V)} {qs:d3 (cf×d4)} {m:d3 (cf×V)} {n:d3 (cf×d4)},KV ps qs ->KV m n ->KV (ps.foldl (λm p=>f' m p.1 p.2) m) (DC.putAll n qs)
 | _,_,_,_, .nil,r=>r
 | _,_,_,_, .cons ⟨e,rv⟩ t,r=>by rw[List.foldl_cons];exact sx (n:=stored _ _ _) t ?_;rw[e];show r.put _ rv
theorem sv: ∀ (ps:d3 (cf×V)) (m:d3 (cf×V)),(ps.foldl (λm p=>f' m p.1 p.2) m).length<=m.length+ps.length
 | [],m=>by simp
 | p::ps,m=>by rw[List.foldl_cons,aK];have:=sv ps (f' m p.1 p.2);have:=gI m p.1 p.2;omega
def iE (hc:X.calm=true):gL X (.type "dict") (Ef X.K):=by intro aj s σ H xs us Q I r h;let⟨a,vs,ps,rfl,hq,hn,hl,qV,q⟩:=h;let⟨u,rfl,ru⟩:=vals1 r;cases ru;let⟨its,rv,⟨o,ho,hco,n,hd,Vb⟩,hz⟩:=I.De hq;let⟨qs,hk,XM⟩:=En (X:=X) (h:=s.heap) (λ{b xs} hs=>by let⟨js,rj,tj,_⟩:=I.tuple hs;show#[js,rj,tj]) hl qV rv;have dS:qs.length=ps.length:=hk.length.symm;let⟨c,Vn,dat,sl⟩:=o;simp only at hco hd Vb;subst hco hd Vb;exact DC.iE (knd:=ce X.prog X.w) (ps:=qs) (show X.A.in1.handled=none from I.ok.hd hc) (by rw[dS];show hn) ho #[by have:=rv.length;simp;omega,λi p e=> ⇑(XM i p e)] λh' tk kY FT=> ?_;exact#[.ref s.heap.objs.size,_,I.laid (t':=tk) FT (ao _) (qq ?_ (beq_eq_false_iff_ne.mpr (aT (a5 I.big))) (sx hk .nil) kY),rfl,q _ (I.cT.fresh (ao _))];have:=sv ps [];rw[cP];simp at this;omega
def Ee:d3 V ->Hp ->VK ->Prop:=λxs H Q=> ∃d kvs,xs= [.ref d] /\ Rd H d (.dK kvs) /\ ∀l,H l=none ->Q (.ref l) (cO H l (.lst (kvs.map λkv=>kV kv.1)))
theorem rK: ∀ {kvs:d3 (cf×V)} {vs:d3 (cf×d4)} {fg:d3 d4},KV kvs vs ->fg.length=vs.length ->(∀ (j:Nat) v,fg[j]? =some v -> ∃k x,vs[j]? =some (k,x) /\ lw k v=true) ->cD (kvs.map λkv=>kV kv.1) fg
 | _,_,[], .nil,_,_=> .nil
 | _,_,_::_, .nil,h,_=>by simp at h
 | _,_,[], .cons _ _,h,_=>by simp at h
 | _,_,u::us, .cons (a:=p) (b:=q) ⟨e,_⟩ t,h,hk=>by exact .cons ?_ (rK t ⇑h λj v ev=> ⇑(hk (j+1) v ⇑ev));let⟨k,x,e1,e2⟩:=hk 0 u rfl;simp at e1;change RelV (kV p.1) u;rw[e,e1];show uo e2
def iD (hc:X.calm=true):gL X (.type "list") Ee:=by intro aj s σ H xs us Q I r h;let⟨d,kvs,rfl,hd,q⟩:=h;let⟨u,rfl,ru⟩:=vals1 r;cases ru;let⟨z,FL,vs,rel,dd⟩:=mY I.cT hd;let⟨ep,Ay⟩:=dd.dictAt;exact W.kdl_call (W.kdl_dict (knd:=ce X.prog X.w) (kvs:=vs) (ep:=ep) FL) (I.ok.hd hc) Ay (by rw[<- rel.length];show z) λh' tk fg c FT hg items=> ?_;have hv:cD (kvs.map λkv=>kV kv.1) fg.toList:=rK rel (by rw[cu];show items.1) λj v e=>items.2 j v (by rw[<- Array.getElem?_toList];show e);exact#[.ref _,_,I.laid (t':=tk) FT (ao _) (show dn X.prog X.w _ h' _ (.lst _) from#[by rw[aa];show z,fg.toList,c,hv, ⇑hg]),rfl,q _ (I.cT.fresh (ao _))]
end
section
variable {X:Cx}{o:Expr}{td:TE}{i0 fT p1 Es:Pos}
theorem rJ: ∀as:d3 gi,cD (as.map V.ref) (as.map Value.ref)
 | []=> .nil
 | a::r=> .cons rfl (rJ r)
def zy (td:TE):TE:=λσ H Q=>td σ H λx H1=>cJ λd kvs=>dh (x= .ref d) (Rd H1 d (.dK kvs)) (∀ (l:gi) (vs:d3 V) (H2:Hp),H1 l=none ->ff H1 H2 ->H2 l=some (.lst vs) ->vs.length=kvs.length ->(∀ (i:Nat) kv,kvs[i]? =some kv -> ∃a,vs[i]? =some (.ref a) /\ H2 a=some (.tup [kV kv.1,kv.2])) ->(∀b u,H2 b=some u ->H1 b=some u \/ H1 b=none /\ (b=l \/ ∃xs,u= .tup xs)) ->Q (.ref l) H2)
def r8 (SO:Gl X "list")(Oe:X.mg "list" =none)(hc:X.calm=true)(ho:PE X o td)(wq:attributeBase o "items" X.env (eval o X.env)=eval o X.env:=by rfl)(wo:(i0.endLine==fT.line)=true:=by rfl) (ht:starEach [.Call (.Attribute o "items" i0) [] [] fT] X.env= [(false,eval (.Call (.Attribute o "items" i0) [] [] fT) X.env)]:=by rfl): PE X (.Call (.Name "list" p1) [.Call (.Attribute o "items" i0) [] [] fT] [] Es) (zy td):=by
 intro aj s σ H Q I h;exact Call_ (gz I SO Oe boot_list (bG ?_ ht rfl));rw[ht];exact dq (wpAny_Call_method0_late wq wo (cY (ho aj s σ H _ I h) λv s1 ⟨x,H1,I1,r1,d,kvs,ex,hd,q1⟩=> ?_));subst ex;obtain rfl:v=Value.ref d:=r1;let⟨t1,t2,DD⟩:=ur I1 (.inl #[kvs,hd]);exact#["dict","dict.items",PySem.F.plainAttrs_dict,PySem.F.slot_dict_items,PySem.F.type_dict_items,t1,t2,Calls.callWith_builtin rfl (PySem.evalArgs_none ?_)];let⟨z,FL,vs,rel,dd⟩:=mY I1.cT hd;exact call_meetsIn PySem.F.slot_dict_items dd.typeIs PySem.F.entry_dict_items (PySem.F.args_dict_items_1 _) (meets_dict_items (ce X.prog X.w) d FL) #[#[vs,dd],?_];exact Calls.spliced_nil ?_;let⟨ep,Ay⟩:=dd.dictAt;exact W.kdx_call (knd:=ce X.prog X.w) (kvs:=vs) (ep:=ep) (I1.ok.hd hc) #[_,aM _ rfl,rfl,rfl] (Ay.push _) (by rw[<- rel.length];show z) λh' tk fg c as hk hg hl hG BY=> ?_;have hsz:(s1.heap.push {cls:= .type "dict_items",data:= .fields #[.ref d]}).objs.size=s1.heap.objs.size+1:=dM ..;generalize hL:(s1.heap.push {cls:= .type "dict_items",data:= .fields #[.ref d]}).objs.size=L at hg hG ⊢;have Vf:s1.heap.objs.size<L:=by omega
 have U8:as.length=kvs.length:=by rw[hl,rel.length]
 have hnd:as.Nodup:=hG.rise.imp λh=>a5 h;let H2:Hp:=λb=>if b=L then some (.lst (as.map V.ref)) else match kvs[as.idxOf b]? with | some kv=>some (.tup [kV kv.1,kv.2]) | none=>H1 b
 have eL:H2 L=some (.lst (as.map V.ref)):=ap rfl;have eA: ∀ (j:Nat) a,as[j]? =some a -> ∃kv,kvs[j]? =some kv /\ H2 a=some (.tup [kV kv.1,kv.2]):=λj a e=>by
  have hj:j<as.length:=(ak.mp e).1;let⟨kv,yK⟩: ∃kv,kvs[j]? =some kv:=#[kvs[j],am (by omega)]
  have ej:as.idxOf a=j:=by have:=(ak.mp e).2;rw[<- this];show hnd.idxOf_getElem j hj
  exact#[kv,yK,?_];have na:a≠L:=Nat.ne_of_gt (hG.above a (aw e));change(if a=L then _ else _)=_;rw[ai na,ej,yK]
 have eO: ∀b,b≠L ->b∉as ->H2 b=H1 b:=λb n1 n2=>by change(if b=L then _ else _)=_;rw[ai n1,List.idxOf_eq_length n2,List.getElem?_eq_none (by omega)]
 have out: ∀b,b<s1.heap.objs.size ->b≠L /\ b∉as:=λb hb=>#[by omega,λz=>absurd (Nat.lt_trans hb (Nat.lt_trans Vf (hG.above b z))) (cg _)]
 have same:ff H1 H2:=λb u e=>by let⟨n1,n2⟩:=out b (I1.cT.lt e);rw[eO b n1 n2];show e
 have keep: ∀b ob,s1.heap.get? b=some ob ->h'.get? b=some ob:=λb ob e=>hk b ob (aq _ e);have cT:k9 X.prog X.w H2 h':=λb u e=>by by_cases n1:b=L;subst n1;rw[eL] at e;cases e;show#[by rw[aa,U8];show z,as.map Value.ref,c,rJ as,by rw[<- BY];simpa using hg];by_cases n2:b∈as;let⟨j,hj⟩:=bZ.mp n2;let⟨kv,yK,e2⟩:=eA j b hj;rw[e2] at e;cases e;let⟨key,k,x,hx,qf,ht⟩:=hG.pairs j b hj;let⟨p,hp,ZB,rp⟩:=yq rel hx;rw[yK] at hp;cases hp;exact#[by rw[cP];change 2<=16777216;decide,[key,x], .cons (by rw[ZB];show uo qf) (.cons rp .nil),_,ht,rfl,_,rfl,rfl];rw[eO b n1 n2] at e;show(I1.cT b u e).pE (λc v _ r=>keep c v r) (λc r=>same c _ r) λc ys r=>same c _ r
 exact#[.ref L,H2,I1.more (t':=tk) keep (λb u e=>same b u e) (λb hb e=>by let⟨n1,n2⟩:=out b hb;rw[eO b n1 n2];show e) cT,rfl,q1 L (as.map V.ref) H2 (I1.cT.fresh (Nat.le_of_lt Vf)) same eL (by rw[aa,U8]) (λi kv e=> ?_) λb u e=> ?_];let⟨a,ha⟩: ∃a,as[i]? =some a:=#[as[i]'(by have:=(ak.mp e).1;omega),am _]
 let⟨kv',h1,h2⟩:=eA i a ha;rw[e] at h1;cases h1;show#[a,by rw[aB,ha];rfl,h2];by_cases n1:b=L;show .inr #[by rw[n1];show I1.cT.fresh (Nat.le_of_lt Vf), .inl n1];by_cases n2:b∈as;let⟨j,hj⟩:=bZ.mp n2;let⟨kv,yK,e2⟩:=eA j b hj;rw[e2] at e;cases e;show .inr #[I1.cT.fresh (Nat.le_of_lt (Nat.lt_trans Vf (hG.above b n2))), .inr #[_,rfl]];rw[eO b n1 n2] at e;show .inl e
def wJ (i:Int)(n:Nat):d3 V:=(List.range n).map λ(k:Nat)=> .int (i - (k:Int))
def Ds (ta:TA):TE:=λσ H Q=>ta σ H λvs H1=>cJ λ(i j:Int)=>fh (vs= [.int i, .int j, .int (-1)]) (ze i j (-1)) ((i - j).toNat<=16000000) (∀l,H1 l=none ->Q (.ref l) (cO H1 l (.lst (wJ i (i - j).toNat))))
def Bb (h:ItemsOf (λj v=> ∃t,v=Value.int (i+(j:Int)*(-1)) t) fg n):cD (wJ i n) fg.toList:=by
 let⟨hl,hv⟩:=h;have Oj:fg.toList.length=n:= ⇑hl;have key: ∀ (k:Nat) (l:d3 d4) (m:Nat),l.length=m ->(∀j v,l[j]? =some v -> ∃t,v=Value.int (i - ((k+j:Nat):Int)) t) ->cD ((List.range' k m).map λ(k:Nat)=>V.int (i - (k:Int))) l:=by
  intro k l;induction l generalizing k with
  | nil=>intro m hm _;subst hm;show .nil
  | cons v r ih=>intro m hm hj;subst hm;rw[aK,List.range'_succ,aE];exact .cons ?_ (ih (k+1) r.length rfl λj v' e=> ?_);let⟨t,e⟩:=hj 0 v rfl;show#[t, ⇑e];let⟨t,e'⟩:=hj (j+1) v' (by rw[cR];show e);show#[t,by rw[e'];congr 2<;>omega]
 have:=key 0 fg.toList n Oj λj v e=>by let⟨t,e'⟩:=hv j v (by rw[<- Array.getElem?_toList];show e);show#[t,by rw[e'];congr 2<;>omega]
 unfold wJ;rw[List.range_eq_range'];show this
def xZ {q1 q2 Es ue:Pos}(SO:Gl X "list")(Oe:X.mg "list" =none)(hg:Gl X "range")(hm:X.mg "range" =none)(hc:X.calm=true)(ha:PA X [a,b,c] ta)(hs:starEach [a,b,c] X.env= [(false,eval a X.env),(false,eval b X.env),(false,eval c X.env)]:=by rfl)(jN:starEach [b,c] X.env= [(false,eval b X.env),(false,eval c X.env)]:=by rfl)(ht:starEach [.Call (.Name "range" q2) [a,b,c] [] ue] X.env= [(false,eval (.Call (.Name "range" q2) [a,b,c] [] ue) X.env)]:=by rfl): PE X (.Call (.Name "list" q1) [.Call (.Name "range" q2) [a,b,c] [] ue] [] Es) (Ds ta):=by
 intro aj s σ H Q I h;exact Call_ (gz I SO Oe boot_list (bG ?_ ht rfl));rw[ht];exact dq (Call_ (gz I hg hm boot_range (bG (cY (ha ue aj s σ H _ I h) λus s1 ⟨vs,H1,I1,r1,q1⟩=> ?_) (by rw[hs,jN]) (by rw[jN];rfl))));let⟨i,j,e,ok,hn,q⟩:=q1;subst e;cases r1 with
 | cons r rr=>
  cases rr with
  | cons r' rr=>
   cases rr with
   | cons Rm rr=>
    cases rr;let⟨t,rfl⟩:=r;let⟨t',rfl⟩:=r';let⟨MU,rfl⟩:=Rm;exact call_range_3 ⋯ (Calls.spliced_nil ?_);have I2:Inv X aj σ H1 {s1 with heap:=s1.heap.push {cls:= .type "range",data:= .fields (List.toArray [.int i t, .int j t', .int (-1) MU])},toks:=s1.toks}:=I1.kept λb o e=>aq _ e;have hsz:Builtin.Range.rangeSize i j (-1)=((i - j).toNat:Int):=by have:=vC (a:=i) (b:=j);have h0:=nH (a:=i) (b:=j) (c:= -1) ⋯;unfold GV at this;omega
    exact call_list_range (n:=(i - j).toNat) (I1.ok.hd hc) (IsRange.new ..) (vt ok) hsz (by omega) λh' tk OX c' kp FZ items=> ?_;have hv:=Bb items;exact#[.ref _,_,I2.laid (t':=tk) kp (ao _) (show dn X.prog X.w _ h' _ (.lst (wJ i (i - j).toNat)) from#[?_,OX.toList,c',hv, ⇑FZ]),rfl,q _ (I2.cT.fresh (ao _))];unfold wJ;rw[aa,cz];show aS hn (by rw[cP];decide)
end
end L2
namespace WL
open PySem L2
variable {K:RZ}
def MA:zc:=λxs M q=> ∃l:d3 (cf×W),dh (xs= [.tup (l.map λp=> .tup [fD p.1,p.2])]) (l.length<=1000000) (∀p,M p=none ->q (wr p) (um M p (.dK (l.foldl (λm p=>jf m p.1 p.2) []))))
def WR.key {v:V}(h:WR K H (fD k) v):v=kV k:=by cases k<;>show h.eq
theorem vL {H:Hp}: ∀ {l:d3 (cf×W)} {vs:d3 V},cF K H (l.map λp=> .tup [fD p.1,p.2]) vs -> ∃ps:d3 (cf×V),dh (KR K H l ps) (vs.length=ps.length) (∀ (i:Nat) p,ps[i]? =some p -> ∃b,vs[i]? =some (.ref b) /\ i9 K H b [kV p.1,p.2])
 | [],vs,h=>by simp![dB,cF] at h;subst h;show#[[], .nil,rfl,λi p e=>by simp at e]
 | (k,x)::l,vs,h=>by
  simp![aE,cF] at h;let⟨v,t,rfl,h1,h2⟩:=h;let⟨ps,r,hl,hp⟩:=vL h2;let⟨b,us,rfl,hs,hr⟩:=h1.tup;let⟨u1,u2,rfl,g1,g2⟩:=hr.two;cases g1.key;exact#[(k,u2)::ps, .cons #[rfl,g2] r,by simp[hl],λi p e=> ?_];cases i with
  | zero=>simp at e;subst e;show#[b,rfl,hs]
  | succ i=>simpa using hp i p ⇑e
theorem Am {H:Hp}: ∀ {l:d3 (cf×W)} {ps:d3 (cf×V)} {m:d3 (cf×W)} {n:d3 (cf×V)},KR K H l ps ->KR K H m n ->KR K H (l.foldl (λm p=>jf m p.1 p.2) m) (ps.foldl (λm p=>f' m p.1 p.2) n)
 | _,_,_,_, .nil,r=>r
 | _,_,_,_, .cons (a:=a) (b:=b) ⟨e,rv⟩ t,r=>by rw[List.foldl_cons,List.foldl_cons];exact Am t ?_;rw[e];show KR.put rv r
instance:IC K (Ef K) MA where
 imp:=by rintro xs v M H q Q m r1 ⟨l,rfl,hl,h⟩ k;let⟨v,rfl,r⟩:=r1.one;let⟨a,vs,rfl,hv,rr⟩:=r.tup;let⟨ps,hr,dS,hp⟩:=vL rr;exact#[a,vs,ps,rfl,hv,by rw[<- p8 hr];show hl,dS,hp,λp hp=> ?_];have ts:=L2.ff.ts (bU (o:= .dK (ps.foldl (λm p=>f' m p.1 p.2) [])) hp);show k _ _ _ _ (h p (m.fresh hp)) ts (m.put ts #[_,bI,KR.ts ts (Am hr .nil)]) WR.v
def Mw:zc:=λxs M q=>cJ λd kvs=>dh (xs= [wr d]) (M d=some (.dK kvs)) (∀p,M p=none ->q (wr p) (um M p (.lst (kvs.map λkv=>fD kv.1))))
theorem v7 {H:Hp}: ∀ {l:d3 (cf×W)} {vs:d3 (cf×V)},KR K H l vs ->cF K H (l.map λkv=>fD kv.1) (vs.map λkv=>kV kv.1)
 | _,_, .nil=>cF.nil
 | _,_, .cons (a:=a) (b:=b) ⟨e,_⟩ t=>by exact cF.cons ?_ (v7 t);change WR K H (fD a.1) (kV b.1);rw[e];cases b.1<;>show WR.v
instance:IC K Ee Mw where
 imp:=by rintro xs v M H q Q m r1 ⟨d,kvs,rfl,hd,h⟩ k;let⟨v,rfl,r⟩:=r1.one;cases r.eq;let⟨ks,ek,rr⟩:=m d _ hd;show#[d,ks,rfl, .inl ek,λp hp=>k _ _ _ _ (h p (m.fresh hp)) (L2.ff.ts (bU hp)) (m.oG hp (v7 rr)) WR.v]
def tM (a:WE):WE:=λρ M q=>a ρ M λx M1=>cJ λd kvs=>dh (x=wr d) (M1 d=some (.dK kvs)) (∀p,M1 p=none ->q (wr p) (um M1 p (.lst (kvs.map λkv=> .tup [fD kv.1,kv.2]))))
def O9:tM a ρ M q=a ρ M λx M1=>fJ x λd=>jE (M1 d) λkvs=>mD M1 λp=>q (wr p) (um M1 p (.lst (kvs.map λkv=> .tup [fD kv.1,kv.2]))):=by unfold tM fJ jE mD;congr 1;funext x M1;apply propext;symm;rintro⟨d,kvs,e1,e2,h⟩;show#[d,e1,kvs,e2,h];rintro⟨d,e1,kvs,e2,h⟩;show#[d,kvs,e1,e2,h]
instance {t:TE}{a:WE} [ia:IE K t a]:IE K (zy t) (tM a) where
 imp :=λρ M σ H q Q o h k=>ia.imp ρ M σ H _ _ o h λx M1 v H1 ⟨d,kvs,ex,hd,h1⟩ t1 m1 r1=>by
  subst ex;let⟨ks,ek,rr⟩:=m1 d _ hd;exact#[d,ks,r1.eq, .inl ek,λl vs H2 hl sm el dS Ay Jw=> ?_];have ts:bi H1 H2:=L2.ff.ts sm;exact k _ _ _ _ (h1 l (m1.fresh hl)) (t1.trans ts) (λb x e=> ?_) WR.v;by_cases hb:b=l;subst hb;rw[az] at e;cases e;exact#[vs,el,cF.mk (by rw[dS,aa,p8 rr]) λj d' v' e1 e2=> ?_];rw[aB] at e1;cases e3:kvs[j]? with
  | none=>rw[e3] at e1;cases e1
  | some kv=>
   rw[e3] at e1;cases e1;let⟨UW,e4⟩: ∃UW,ks[j]? =some UW:=#[ks[j]'(by rw[<- p8 rr];show(ak.mp e3).1),am _]
   let⟨p2,e5,e6,rp⟩:=yr rr e4;rw[e3] at e5;cases e5;let⟨a2,e7,e8⟩:=Ay j UW e4;rw[e2] at e7;cases e7;exact WR.Po (i9.of e8) (cF.cons ?_ (cF.cons (rp.ts ts) cF.nil));rw[e6];cases UW.1<;>show WR.v
  rw[aD hb] at e;have hm:=m1 b x e;let⟨u,hu⟩:=hm.some;show hm.mv ts (by rw[hu];show sm b u hu)
def AK (i:Int)(n:Nat):d3 W:=(List.range n).map λ(k:Nat)=>wi (i - (k:Int))
def C6 (a:WA):WE:=λρ M q=>a ρ M λxs M1=>cJ λ(i j:Int)=>fh (xs= [wi i,wi j,wi (-1)]) (ze i j (-1)) ((i - j).toNat<=16000000) (∀l,M1 l=none ->q (wr l) (um M1 l (.lst (AK i (i - j).toNat))))
theorem AJ {H:Hp}(i:Int): ∀ (l:d3 Nat),cF K H (l.map λ(k:Nat)=>wi (i - (k:Int))) (l.map λ(k:Nat)=>V.int (i - (k:Int)))
 | []=>by simp![dB,cF]
 | k::r=>by simp![aE,cF];show#[_,_,rfl,WR.v,AJ i r]
instance {t:TA}{a:WA} [ia:IA K t a]:IE K (Ds t) (C6 a) where
 imp:=λρ M σ H q Q o h k=>ia.imp ρ M σ H _ _ o h λxs M1 vs H1 ⟨i,j,ex,h1,h2,h3⟩ t1 m1 r1=>by subst ex;simp![cF] at r1;let⟨v1,t2,rfl,g1,v2,t3,rfl,g2,v3,t4,rfl,g3,rfl⟩:=r1;cases g1.eq;cases g2.eq;cases g3.eq;show#[i,j,rfl,h1,h2,λp hp=>k _ _ _ _ (h3 p (m1.fresh hp)) (t1.trans (L2.ff.ts (bU hp))) (m1.oG hp (AJ i _)) WR.v]
end WL
namespace WQ
open PySem L2 WL WP
def GD (p:Int)(m:Pt):Prop:=(m.map (·.1)).Nodup /\ ∀z∈m,0<z.2 /\ z.2<p
def gl (m:Pt)(x:Int):Pt:=m.filter λq=>decide (q.1≠x)
def Ga (m:Pt)(x:Int):sL (eY m) (.inl x)=eY (gl m x):=by unfold sL eY gl;rw[List.filter_map];congr 1;apply List.filter_congr;intro q _;simp
theorem d6: ∀ {m:Pt},(m.map (·.1)).Nodup -> ∀x,dR m x=look m x
 | [],_,x=>rfl
 | q ::r,h,x=>by rw[aE,bw] at h;have ih:=d6 h.2 x;rw[dR,look,ih];by_cases e:q.1=x;rw[ap e,ap e];have:look r x=0:=eC λz hz ez=>h.1 (ag.mpr #[z,hz,by rw[ez,e]]);rw[this];lia;rw[ai e,ai e];lia
def iz (h:(m.map (·.1)).Nodup)(hz:z∈m):look m z.1=z.2:=by
 induction m with
 | nil=>cases hz
 | cons q r ih=>rw[aE,bw] at h;rw[look];obtain rfl | oJ:=ar.mp hz;rw[ap rfl];rw[ai (λe=>h.1 (ag.mpr #[z,oJ,e.symm]))];show ih h.2 oJ
def yn (m:Pt)(x y:Int):look (gl m x) y=if y=x then 0 else look m y:=by
 induction m with
 | nil=>simp[gl,look]
 | cons q r ih=>unfold gl at ih ⊢;rw[List.filter_cons];by_cases e:q.1=x;simp![e,ne_eq,not_true_eq_false,decide_false,ay,be];rw[ih,look];by_cases ey:y=x;rw[ap ey,ap ey];rw[ai ey,ai ey,ai (by rw[e];show aT ey)];simp![ne_eq,e,not_false_eq_true,decide_true,bR];rw[look,look,ih];by_cases ey:q.1=y;rw[ap ey,ap ey,ai (by rw[<- ey];show e)];rw[ai ey,ai ey]
def GD.range (hp:0<p)(h:GD p m)(x:Int):0<=look m x /\ look m x<p:=by by_cases hx: ∃z∈m,z.1=x;let⟨z,hz,rfl⟩:=hx;rw[iz h.1 hz];have:=h.2 z hz;lia;rw[eC λz hz e=>hx #[z,hz,e]];lia
def GD.drop (h:GD p m)(x:Int):GD p (gl m x):=by exact#[h.1.sublist (List.Sublist.map _ List.filter_sublist),λz hz=>h.2 z (aP.mp hz).1]
def IQ (h:z∈kW m x v):z=(x,v) \/ z∈m:=by unfold kW at h;split at h;let⟨q,hq,e⟩:=ag.mp h;split at e;rename_i e2;left;rw[<- e,e2];right;rw[<- e];show hq;obtain h | h:=aA.mp h;show .inr h;show .inl (ah.mp h)
theorem GD.put (h:GD p m)(h0:0<v)(h1:v<p):GD p (kW m x v):=#[uk h.1,λz hz=>by obtain rfl | hz:=IQ hz;show#[h0,h1];show h.2 z hz]
def JG (h:look m x≠0):(eX (eY m) (.inl x)).isSome=true:=by
 rw[tP];rcases kO (m:=m) (x:=x) with⟨_,e,_⟩ | ⟨q,e,_⟩
 show absurd e h;rw[e];rfl
def NZ (p n:Int):Prop:= ∀y,0<y ->y<p ->y*n % p≠0
def K1 (m_:Int)(b:Pt):Pt:=b.map λz=>(z.1+m_,z.2)
theorem zp (m_:Int): ∀ (b:Pt) (x:Int),dR (K1 m_ b) x=dR b (x - m_)
 | [],x=>rfl
 | z::r,x=>by change dR ((z.1+m_,z.2)::K1 m_ r) x=_;rw[dR,dR,zp m_ r x];by_cases e:z.1+m_=x;rw[ap e,ap ∅];rw[ai e,ai ∅]
def Ru:kn:=λxs M q=>Mj λ(h o:gi) (p m_ n:Int) (a b:Pt)=>qW (xs= [wi p,wr h,wr o,wi m_,wi n]) (h≠o) (M h=some (.dK (eY a))) (M o=some (.dK (eY b))) (0<p) (p<1000) (GD p a) (fh (GD p b) (NZ p n) (a.length+b.length<=16000000) (∀c,GD p c ->c.length<=a.length+b.length ->(∀x,look c x=(look a x+look b (x - m_)*n) % p) ->q wn (um M h (.dK (eY c)))))
theorem BD (m:Pt)(x:Int):(gl m x).length<=m.length:=List.length_filter_le _ _
def Nv (C:gi):kn:=λxs M q=>jQ λ(s dx:gi) (l r:W)=>dh (xs= [wr s,l,r]) (M s=some (.ins C dx [])) (q wn (um M s (.ins C dx [("lamps",l),("parts",r)])))
def EK (R C:gi):kn:=λxs M q=>Gy λ(s dx r dr:gi) (l u f g:W)=> ∃ (e:W),ja (xs= [wr s,wr r,f,g,e]) (s≠r) (M s=some (.ins C dx [])) (M r=some (.ins R dr [("lamps",l),("parts",u)])) (q wn (um M s (.ins C dx [("lamps",l),("parts",u),("first",f),("length",g),("foot",e)])))
end WQ
namespace WL
open PySem L2
def Q6:xQ a b D ρ M=a ρ M λx M1=>b ρ M1 λy M2=>fJ x λp=>nS y λk=>jE (M2 p) λkvs=>gR ((eX kvs k).isSome=true) (D.nx ρ (um M2 p (.dK (sL kvs k)))):=by unfold xQ fJ nS jE gR;congr 1;funext x M1;congr 1;funext y M2;apply propext;symm;rintro⟨p,kvs,k,e1,e2,e3,e4,h⟩;show#[p,e1,k,e3,kvs,e2,e4,h];rintro⟨p,e1,k,e3,kvs,e2,e4,h⟩;show#[p,kvs,k,e1,e2,e3,e4,h]
end WL
namespace WQ
open PySem L2 WL WP
abbrev Pq:=d3 (Int×gi×Pt)
def l5 (P:Pq):d3 (cf×W):=P.map λt=>((Sum.inl t.1:cf),wr t.2.1)
def pf (P:Pq)(w:Int):Pt:=match P.find? (λt=>decide (t.1=w)) with
 | some t=>t.2.2
 | none=> []
def bJ (rl rp:gi)(P:Pq):d3 gi:=rl::rp::P.map λt=>t.2.1
structure cG (p:Int)(M:Mp)(rl rp:Addr)(a:Pt)(P:Pq):Prop where
 lam:M rl=some (.dK (eY a))
 par:M rp=some (.dK (l5 P))
 At: ∀t∈P,M t.2.1=some (.dK (eY t.2.2))
 ga:GD p a
 gp: ∀t∈P,GD p t.2.2
 lO:(P.map (·.1)).Nodup
 Lo:(bJ rl rp P).Nodup
def eQ (M M':Mp)(L:d3 gi):Prop:= ∀d o,M d=some o ->d∉L ->M' d=some o
theorem eQ.trans {M M1 M2:Mp}(h:eQ M M1 L)(h':eQ M1 M2 L')(hs: ∀x∈L',x∈L \/ M x=none):eQ M M2 L:=λd o e n=>h' d o (h d o e n) λhd=>(hs d hd).elim n λz=>by rw[e] at z;cases z
theorem eQ.sm (h:Sm M M')(L:d3 gi):eQ M M' L:=λd o e _=>h d o e
theorem gy {α β:Type}{f:α ->β}: ∀ {l:d3 α},(l.map f).Nodup -> ∀ {x y:α},x∈l ->y∈l ->f x=f y ->x=y
 | [],_,x,_,hx,_,_=>by cases hx
 | z ::r,h,x,y,hx,hy,e=>by rw[aE,bw] at h;obtain ex | hx:=ar.mp hx;obtain ey | hy:=ar.mp hy;rw[ex,ey];show absurd (ag.mpr #[y,hy,by rw[<- e,ex]]) h.1;obtain ey | hy:=ar.mp hy;show absurd (ag.mpr #[x,hx,by rw[e,ey]]) h.1;show gy h.2 hx hy e
theorem gB {P:Pq}(h:P.find? (λt=>decide (t.1=w))=some t):t∈P /\ t.1=w:=#[List.mem_of_find?_eq_some h, ⇑(List.find?_some h)]
theorem B9 {P:Pq}(h:P.find? (λt=>decide (t.1=w))=none):w∉P.map (·.1):=λhm=>by let⟨t,ht,e⟩:=ag.mp hm;have:=List.find?_eq_none.mp h t ht;simp[e] at this
def tO (P:Pq)(w:Int):eX (l5 P) (.inl w)=(P.find? λt=>decide (t.1=w)).map λt=>wr t.2.1:=by
 induction P with
 | nil=>rfl
 | cons t r ih=>
  unfold eX l5 at ih ⊢;rw[aE,br,br];have e:decide ((Sum.inl t.1:cf)=Sum.inl w)=decide (t.1=w):=uw _ _;simp![e];cases decide (t.1=w) with
  | true=>rfl
  | false=>show ih
def Eg (h:w∉P.map (·.1)):jf (l5 P) (.inl w) (wr e)=l5 (P++ [(w,e,c)]):=by
 unfold jf;have:((l5 P).any λkv=>decide (kv.1=Sum.inl w))=false:=by rw[List.any_eq_false];intro kv yK;let⟨t,ht,rfl⟩:=ag.mp yK;simp![c7,Sum.inl.injEq];show λew=>h (ag.mpr #[t,ht,ew])
 rw[this];unfold l5;rw[aR];rfl
def lE (P:Pq)(w:Int)(c:Pt):Pq:=P.map λu=>if u.1=w then(u.1,u.2.1,c) else u
def Iq (P:Pq)(w:Int)(c:Pt):l5 (lE P w c)=l5 P:=by unfold l5 lE;rw[aH];apply bu;intro t _;simp![Function.comp];split<;>rfl
def xa (P:Pq)(w:Int)(c:Pt):(lE P w c).map (λt=>t.2.1)=P.map λt=>t.2.1:=by unfold lE;rw[aH];apply bu;intro t _;simp![Function.comp];split<;>rfl
def v9 (P:Pq)(w:Int)(c:Pt):(lE P w c).map (·.1)=P.map (·.1):=by unfold lE;rw[aH];apply bu;intro t _;simp![Function.comp];split<;>rfl
def iL (t:Int×gi×Pt)(P:Pq)(w:Int):pf (t::P) w=if t.1=w then t.2.2 else pf P w:=by unfold pf;rw[br];by_cases e:t.1=w;simp[e];simp[e]
def z4 (v:Int)(h:w∈P.map (·.1)):pf (lE P w c) v=if v=w then c else pf P v:=by
 induction P with
 | nil=>cases h
 | cons t r ih=>
  change pf ((if t.1=w then(t.1,t.2.1,c) else t)::lE r w c) v=_;by_cases e:t.1=w;rw [ap e,iL,iL];by_cases ev:v=w;rw[ap (show t.1=v by rw[ev,e]),ap ev];rw [ai (show ¬t.1=v from λz=>ev (z.symm.trans e)),ai ev,ai (show ¬t.1=v from λz=>ev (z.symm.trans e))];by_cases hr:w∈r.map (·.1);rw[ih hr,ai ev];have:lE r w c=r:=by unfold lE;exact(bu (g:=id) λu hu=> ?_).trans (List.map_id r);show ai λeu=>hr (ag.mpr #[u,hu,eu])
  rw[this];rw[ai e,iL,iL];have hr:w∈r.map (·.1):=by obtain z | z:=ar.mp (show w∈t.1::r.map (·.1) from h);show absurd z.symm e;show z
  by_cases ev:t.1=v;rw[ap ev,ap ev,ai (λz=>e (ev.trans z))];rw[ai ev,ai ev,ih hr]
def xY (v:Int)(h:w∉P.map (·.1)):pf (P++ [(w,e,c)]) v=if v=w then c else pf P v:=by
 induction P with
 | nil=>rw[List.nil_append,iL];by_cases ev:v=w;rw[ap ev.symm,ap ev];rw[ai (aT ev),ai ev]
 | cons t r ih=>rw[List.cons_append,iL,iL];have hr:w∉r.map (·.1):=λz=>h (av _ z);by_cases ev:t.1=v;rw[ap ev,ap ev,ai (λz=>h (by rw[<- z, <- ev];show aI))];rw[ai ev,ai ev,ih hr]
def kF (h:w∉P.map (·.1)):pf P w= []:=by
 unfold pf;cases e:P.find? (λt=>decide (t.1=w)) with
 | none=>rfl
 | some t=>let⟨h1,h2⟩:=gB e;show absurd (ag.mpr #[t,h1,h2]) h
def nJ (h:(P.map (·.1)).Nodup)(ht:t∈P):pf P t.1=t.2.2:=by
 induction P with
 | nil=>cases ht
 | cons u r ih=>rw[aE,bw] at h;rw[iL];obtain rfl | nv:=ar.mp ht;rw[ap rfl];rw[ai (λe=>h.1 (ag.mpr #[t,nv,e.symm]))];show ih h.2 nv
theorem cG.same (h:cG p M rl rp a P)(hk: ∀d∈bJ rl rp P,M' d=M d):cG p M' rl rp a P:=#[(hk rl (by simp[bJ])).trans h.lam,(hk rp (by simp[bJ])).trans h.par,λt ht=>(hk _ (by simp![bJ,ar,ag];show .inr (.inr #[t,ht,rfl]))).trans (h.At t ht),h.ga,h.gp,h.lO,h.Lo]
def cG.mem (h:cG p M rl rp a P)(hd:d∈bJ rl rp P): ∃kvs,M d=some (.dK kvs):=by simp![bJ,ar,ag] at hd;obtain rfl | rfl | ⟨t,ht,rfl⟩:=hd;show#[_,h.lam];show#[_,h.par];show#[_,h.At t ht]
theorem cG.keep (h:cG p M rl rp a P)(hk:eQ M M' L)(hd: ∀d∈bJ rl rp P,d∉L):cG p M' rl rp a P:=h.same λd kY=>by let⟨kvs,e⟩:=h.mem kY;rw[e];show hk d _ e (hd d kY)
def cG.Xk (h:cG p M rl rp a P)(gc:GD p c):cG p (um M rl (.dK (eY c))) rl rp c P:=by have nd:=bw.mp h.Lo;exact#[az,?_,λt ht=> ?_,gc,h.gp,h.lO,h.Lo];rw[aD (λe=>nd.1 (by rw[<- e];show aI))];show h.par;rw[aD (λe=>nd.1 (by rw[<- e];show av _ (ag.mpr #[t,ht,rfl])))];show h.At t ht
def cG.set (h:cG p M rl rp a P)(ht:t∈P)(gc:GD p c):cG p (um M t.2.1 (.dK (eY c))) rl rp a (lE P t.1 c):=by
 have nd:=bw.mp h.Lo;have UQ:=bw.mp nd.2;have ea:bJ rl rp (lE P t.1 c)=bJ rl rp P:=by unfold bJ;rw[xa]
 exact#[?_,?_,λu hu=> ?_,h.ga,λu hu=> ?_,by rw[v9];show h.lO,by rw[ea];show h.Lo];rw[aD (λe=>nd.1 (by rw[e];show av _ (ag.mpr #[t,ht,rfl])))];show h.lam;rw[aD (λe=>UQ.1 (by rw[e];show ag.mpr #[t,ht,rfl])),Iq];show h.par;let⟨v,hv,rfl⟩:=ag.mp hu;by_cases e:v.1=t.1;rw[ap e];have:v=t:=gy h.lO hv ht e;rw[this];show az;rw[ai e,aD (λea=> ?_)];show h.At v hv;show e (by rw[gy UQ.2 hv ht ea]);let⟨v,hv,rfl⟩:=ag.mp hu;split;show gc;show h.gp v hv
def cG.new (h:cG p M rl rp a P)(he:M e=none)(hw:w∉P.map (·.1))(gc:GD p c):cG p (um (um M e (.dK (eY c))) rp (.dK (l5 (P++ [(w,e,c)])))) rl rp a (P++ [(w,e,c)]):=by
 have nd:=bw.mp h.Lo;have UQ:=bw.mp nd.2;have ne: ∀d∈bJ rl rp P,d≠e:=λd hd z=>by let⟨kvs,q⟩:=h.mem hd;rw[z,he] at q;cases q
 have erl:=ne rl (by simp[bJ]);have erp:=ne rp (by simp[bJ]);have ein: ∀t∈P,t.2.1≠e:=λt ht=>ne _ (by simp![bJ,ar,ag];show .inr (.inr #[t,ht,rfl]));exact#[?_,az,λu hu=> ?_,h.ga,λu hu=> ?_,?_,?_];rw[aD (λz=>nd.1 (by rw[z];show aI)),aD erl];show h.lam;obtain hu | hu:=aA.mp hu;rw[aD (λz=>UQ.1 (by rw[<- z];show ag.mpr #[u,hu,rfl])),aD (ein u hu)];show h.At u hu;rw[ah.mp hu,aD (aT erp),az];obtain hu | hu:=aA.mp hu;show h.gp u hu;rw[ah.mp hu];show gc;rw[aR];exact List.nodup_append.mpr #[h.lO,by simp,λx hx y hy=> ?_];simp at hy;subst hy;show λz=>hw (z▸hx);have:bJ rl rp (P++ [(w,e,c)])=bJ rl rp P++ [e]:=by unfold bJ;rw[aR];rfl
 rw[this];exact List.nodup_append.mpr #[h.Lo,by simp,λx hx y hy=> ?_];simp at hy;subst hy;show ne x hx
def qS (R S:gi)(M:Mp)(o ol op:gi):Prop:=(∃d,M o=some (.ins R d [("lamps",wr ol),("parts",wr op)])) \/ jQ λd f g e=>M o=some (.ins S d [("lamps",wr ol),("parts",wr op),("first",f),("length",g),("foot",e)])
theorem qS.keep (h:qS R S M o ol op)(k:eQ M M' L)(n:o∉L):qS R S M' o ol op:=h.imp (λ⟨d,e⟩=>#[d,k _ _ e n]) λ⟨d,f,g,e',e⟩=>#[d,f,g,e',k _ _ e n]
def Lk (R S:gi):kn:=λxs M q=>Gy λ(r rl rp o ol op:gi) (p s:Int)=>Gy λ(sh n:Int) (a b:Pt) (P Q:Pq) (B C:Nat)=>qW (xs= [wi p,wi s,wr r,wr o,wi sh,wi n]) (qS R S M r rl rp) (qS R S M o ol op) (0<p) (p<1000) (0<=s) (s<2 ^ 30) (qW (NZ p n) (cG p M rl rp a P) (cG p M ol op b Q) (∀x∈bJ rl rp P,x∉bJ ol op Q) (a.length+b.length<=16000000) (P.length+Q.length<=16000000) (∀t∈P,t.2.2.length<=B) (dh (∀t∈Q,t.2.2.length<=C) (B+C<=16000000) (∀M' c P',cG p M' rl rp c P' ->(∀x,look c x=(look a x+look b (x - s*sh)*n) % p) ->(∀w x,look (pf P' w) x=(look (pf P w) x+look (pf Q w) (x - sh)*n) % p) ->eQ M M' (bJ rl rp P) ->(∀x∈bJ rl rp P',x∈bJ rl rp P \/ M x=none) ->(∀x∈bJ rl rp P,x∈bJ rl rp P') ->c.length<=a.length+b.length ->P'.length<=P.length+Q.length ->(∀t∈P',t.2.2.length<=B+C) ->(∀w∈P'.map (·.1),w∈P.map (·.1) \/ w∈Q.map (·.1)) ->q wn M')))
def z3 {Q:Pq}(hn:(Q.map (·.1)).Nodup)(h:Q[i]? =some t)(w:Int):pf (Q.take (i+1)) w=if w=t.1 then t.2.2 else pf (Q.take i) w:=by
 have Oc:t.1∉(Q.take i).map (·.1):=λhm=>by rw[List.map_take] at hm;let⟨j,hj,e⟩:=List.mem_iff_getElem.mp hm;rw[a7,aa] at hj;rw[List.getElem_take] at e;let⟨hi,e2⟩:=ak.mp h;have:=bv.mp hn j i (by simp;lia) ⇑hi ∅;apply this;rw[e];simp[e2]
 rw[bo,h];let⟨t1,t2,t3⟩:=t;show xY w Oc
theorem Dk {Q:Pq}(hn:(Q.map (·.1)).Nodup)(h:Q[i]? =some t):t.1∉(Q.take i).map (·.1):=λhm=>by rw[List.map_take] at hm;let⟨j,hj,e⟩:=List.mem_iff_getElem.mp hm;rw[a7,aa] at hj;rw[List.getElem_take] at e;let⟨hi,e2⟩:=ak.mp h;have:=bv.mp hn j i (by simp;lia) ⇑hi ∅;apply this;rw[e];simp[e2]
theorem GD.nil:GD p []:=#[List.nodup_nil,λz hz=>by cases hz]
theorem df (p0:0<p)(h:GD p m)(x:Int):look m x % p=look m x:=bQ (h.range p0 x).1 (h.range p0 x).2
def cG.Ey (h:cG p M rl rp a P)(w:Int):GD p (pf P w):=by
 unfold pf;cases e:P.find? (λt=>decide (t.1=w)) with
 | none=>show GD.nil
 | some t=>show h.gp t (gB e).1
def mX (a:Int)(n:Nat):d3 Int:=(List.range n).map λ(k:Nat)=>a - (k:Int)
def vc (a:Int)(n:Nat):d3 Int:=(List.range n).map λ(k:Nat)=>a+(k:Int)
def pD (ns:d3 Int)(len:Int):d3 Int:=if len=0 \/ ns= [] then ns else mX (ns.getLastD 0) (ns.getLastD 0 - (len - 1)).toNat++vc (ns.headD 0) (0 - ns.headD 0).toNat
def Ww:kn:=λxs M q=>gv λ(f:gi) (ns:d3 Int) (len:Int)=>CO (xs= [wr f,wi len]) (M f=some (.lst (ns.map wi))) (0<=len) (len<4000000) (ns.length<=16000000) (∀x∈ns, -4000000<x /\ x<4000000) (∀p M',Sm M M' ->M' p=some (.lst ((pD ns len).map wi)) ->q (wr p) M')
end WQ
namespace WL
open PySem L2
def Df (h:M x=some (.lst l)):MP M (.v (.ref x)) k=k (!l.isEmpty):=by apply propext;symm;rintro⟨b,⟨l',h1,h2⟩ | ⟨l',h1,_⟩,z⟩;rw[h] at h1;cases h1;rw[h2] at z;show z;rw[h] at h1;cases h1;intro z;show#[_, .inl #[l,h,rfl],z]
theorem C5:C6 a ρ M q=a ρ M λxs M1=>cJ λ(i j:Int)=>fh (xs= [wi i,wi j,wi (-1)]) (ze i j (-1)) ((i - j).toNat<=16000000) (mD M1 λl=>q (wr l) (um M1 l (.lst (AK i (i - j).toNat)))):=rfl
end WL
namespace WQ
open PySem L2 WL WP
def kK {l:d3 Int}(h:l≠ []):l.getLastD 0∈l:=by
 induction l using WP.d_ with
 | h0=>show absurd rfl h
 | h1 l a _=>simp
def i_ (len h:Int):Int:=if h<0 then h else h - len
structure Hs (hs:List Int)(len:Int):Prop where
 out: ∀h∈hs,h<0 \/ len<=h
 ord: ∀ (i j:Nat) h g,j<i ->hs[i]? =some h ->hs[j]? =some g ->¬(0<=g - i_ len h /\ g - i_ len h<=len)
 clo: ∀h∈hs, ∀y,i_ len h<=y ->y<=i_ len h+len ->y∈hs \/ (0<=y /\ y<len)
def kJ:x∈mX a n↔a - n<x /\ x<=a:=by unfold mX;rw[ag];symm;rintro⟨k,hk,rfl⟩;have:=bS.mp hk;lia;rintro⟨h1,h2⟩;show#[(a - x).toNat,bS.mpr ∅, ∅]
def kI:x∈vc a n↔a<=x /\ x<a+n:=by unfold vc;rw[ag];symm;rintro⟨k,hk,rfl⟩;have:=bS.mp hk;lia;rintro⟨h1,h2⟩;show#[(x - a).toNat,bS.mpr ∅, ∅]
def w_ (h:(mX a n)[i]? =some x):i<n /\ x=a - i:=by unfold mX at h;rw[aB] at h;by_cases hi:i<n;rw[List.getElem?_range hi] at h;cases h;show#[hi,rfl];rw[List.getElem?_eq_none (by simp;lia)] at h;cases h
def Gv (h:(vc a n)[i]? =some x):i<n /\ x=a+i:=by unfold vc at h;rw[aB] at h;by_cases hi:i<n;rw[List.getElem?_range hi] at h;cases h;show#[hi,rfl];rw[List.getElem?_eq_none (by simp;lia)] at h;cases h
def Ax {l:d3 Int}(h:l.Pairwise (· <= ·)): ∀x∈l,l.headD 0<=x:=by
 cases l with
 | nil=>intro x hx;cases hx
 | cons a r=>intro x hx;obtain rfl | hx:=ar.mp hx;show a4 _;show(ci.mp h).1 x hx
def Di (l0:0<=len)(hs:ns.Pairwise (· <= ·))(hn:ns.Nodup):Hs (pD ns len) len /\ ∀y∈ns,y∈pD ns len \/ (0<=y /\ y<len):=by
 unfold pD;by_cases hc:len=0 \/ ns= []
 rw [ap hc];obtain hz | hz:=hc;subst hz;exact#[#[λh _=> ∅,λi j h g SK hi hj=> ?_,λh hh y h1 h2=> .inl ?_],λy hy=> .inl hy];have c6:g≠h:=λe=>by let⟨a1,a2⟩:=ak.mp hi;let⟨b1,b2⟩:=ak.mp hj;show bv.mp hn j i b1 a1 SK (by rw[a2,b2,e])
 unfold i_;split<;>lia;have:y=h:=by unfold i_ at h1 h2;split at h1<;>lia
 rw[this];show hh;subst hz;show#[#[(λh hh=>nomatch hh),(λi j h g _ hi _=>by simp at hi),(λh hh=>nomatch hh)],(λy hy=>nomatch hy)];rw [ai hc];have hl:0<len:=by have:=λe=>hc (.inl e);lia
 have c6:ns≠ []:=λe=>hc (.inr e);have LR:=Ah hs c6;have LU:=Ax hs;generalize ns.getLastD 0=b at LR;generalize ns.headD 0=a at LU;have mem: ∀x,x∈mX b (b - (len - 1)).toNat++vc a (0 - a).toNat↔(len<=x /\ x<=b) \/ (a<=x /\ x<0):=λx=>by rw[aA,kJ,kI];symm<;>(intro h;lia)
 exact#[#[λh hh=> ?_,λi j h g SK hi hj=> ?_,λh hh y h1 h2=> ?_],λy hy=> ?_];rw[mem] at hh;lia;rw [List.getElem?_append] at hi hj;unfold i_;split at hi;let⟨_,e1⟩:=w_ hi;split at hj;let⟨_,e2⟩:=w_ hj;have:=(kJ (a:=b) (x:=h) (n:=(b - (len - 1)).toNat)).mp (aw hi);split<;>lia;rename_i q1 q2;lia;let⟨r1,e1⟩:=Gv hi;split at hj;have:=(kJ (a:=b) (x:=g) (n:=(b - (len - 1)).toNat)).mp (aw hj);split<;>lia;let⟨_,e2⟩:=Gv hj;split<;>lia;rw[mem] at hh ⊢;unfold i_ at h1 h2;split at h1<;>lia;rw[mem];have:=LR.2 y hy;have:=LU y hy;lia
structure zd (s p:Int)(b:Pt)(f len foot:Int):Prop where
 ok:jp s f
 l0:0<=len
 s0:s=0 ->len=0
 ge: ∀x,look b x≠0 ->f<=bL s x
 qg: ∀x,look b x≠0 ->bL s x=f ->0<=hI s x /\ hI s x<=len
 top:look b (f+len*s)=1
 bot:look b f*foot % p=1
 ft:0<foot /\ foot<p
def wZ (x k:Int):bL s (x+k*s)=bL s x:=by unfold bL;split;rename_i e;subst e;simp;rw[Int.add_mul_emod_self_right]
def pe (h:s≠0)(x k:Int):hI s (x+k*s)=hI s x+k:=by unfold hI;rw[ai h,ai h,Int.add_mul_ediv_right _ _ h]
def mT (ok:jp s f)(h:s≠0)(k:Int):hI s (f+k*s)=k:=by
 rw[pe h];have:hI s f=0:=by unfold hI;rw[ai h];obtain z | ⟨z1,z2⟩:=ok;show absurd z h;show Int.ediv_eq_zero_of_lt z1 z2
 rw[this,bO]
def qH (s0:0<=s)(e:bL s x=f):x=f+hI s x*s:=by obtain h | h:=Int.lt_or_eq_of_le s0;have:=Cm (x:=x) h;rw[e] at this;rw[bP];show this;subst h;have:x=f:=e;rw[this];simp
def dw (g:Int ->Int)(js:d3 (Int×Int)):Int:=js.foldr (λj r=>g j.1*j.2+r) 0
theorem cq (g:Int ->Int)(j:Int×Int)(js:d3 (Int×Int)):dw g (j::js)=g j.1*j.2+dw g js:=rfl
def se (hp:p=2 \/ p=3 \/ p=5 \/ p=7)(hn:n % p≠0):NZ p n:=by
 intro y y0 y1 e;have e2:y*(n % p) % p=0:=by rw[bT,cS _ (Int.dvd_refl p), <- bT];show e
 have r0:=cw n (show p≠0 by lia);have r1:=cj n (show 0<p by lia);generalize n % p=r at hn e2 r0 r1;have key: ∀p∈([2,3,5,7]:d3 Nat), ∀y∈List.range p, ∀r∈List.range p,y≠0 ->r≠0 ->y*r % p≠0:=⋯
 let⟨p',rfl⟩:=Int.eq_ofNat_of_zero_le (show 0<=p by lia);let⟨y',rfl⟩:=Int.eq_ofNat_of_zero_le (show 0<=y by lia);let⟨r',rfl⟩:=Int.eq_ofNat_of_zero_le r0;exact key p' (by simp;lia) y' (bS.mpr ∅) r' (bS.mpr ∅) ∅ ∅ ?_;have:((y'*r' % p':Nat):Int)=0:=by push_cast;show e2
 lia
structure nr (s p f len:Int)(b a:Pt)(hs:List Int)(i:Nat)(c:Pt)(js:List (Int×Int)):Prop where
 rel: ∀x,look c x=(look a x+dw (λsh=>look b (x - s*sh)) js) % p
 ZL: ∀ (j:Nat) g,j<i ->hs[j]? =some g ->look c (f+g*s)=0
 sup: ∀x,bL s x=f ->look c x≠0 ->hI s x∈hs \/ (0<=hI s x /\ hI s x<len)
 NQ: ∀x,bL s x<f ->look c x=look a x
theorem nr.skip (st:nr s p f len b a hs i c js)(hh:hs[i]? =some h)(hz:look c (f+h*s)=0):nr s p f len b a hs (i+1) c js:=#[st.rel,λj g hj hg=>by obtain z | z:=dz j i;show st.ZL j g z hg;have:j=i:= ∅;subst this;rw[hh] at hg;cases hg;show hz,st.sup,st.NQ]
def gF (s x sh:Int):bL s (x - s*sh)=bL s x:=by have:=wZ (s:=s) x (-sh);rw[show x+ -sh*s=x - s*sh by rw[Int.neg_mul,bP s sh];lia] at this;show this
def j9 (hs:s≠0)(x sh:Int):hI s (x - s*sh)=hI s x - sh:=by have:=pe hs x (-sh);rw[show x+ -sh*s=x - s*sh by rw[Int.neg_mul,bP s sh];lia] at this;rw[this];lia
def nr.step (F:zd s p b f len foot)(H:Hs hs len)(s0:0<=s)(p0:0<p)(yH:s=0 -> ∀h∈hs,h=0)(gc:GD p c)(Vi:GD p c')(st:nr s p f len b a hs i c js)(hh:hs[i]? =some h)(hn:n=if h<0 then -(look c (f+h*s))*foot else -(look c (f+h*s)))(e: ∀x,look c' x=(look c x+look b (x - s*i_ len h)*n) % p):nr s p f len b a hs (i+1) c' ((i_ len h,n)::js):=by
 have hm:=aw hh;have quiet: ∀x,look b (x - s*i_ len h)=0 ->look c' x=look c x:=λx hx=>by rw[e,hx,bE,bj,df p0 gc]
 have here:look c' (f+h*s)=0:=by
  rw[e,hn];by_cases jO:h<0;rw[ap jO];have e1:f+h*s - s*i_ len h=f:=by unfold i_;rw[ap jO,bP s h];lia
  rw[e1];generalize look c (f+h*s)=v;have e2:v+look b f*(-v*foot)=v - v*(look b f*foot):=by rw[Int.neg_mul,Int.mul_neg, <- Int.mul_assoc,bP (look b f) v,Int.mul_assoc];lia
  rw[e2,Int.sub_emod,bT,F.bot];rw[Int.mul_one,cS _ (Int.dvd_refl p),Int.sub_self];rfl;rw[ai jO];have e1:f+h*s - s*i_ len h=f+len*s:=by unfold i_;rw[ai jO,bP s (h - len),Int.sub_mul];lia
  rw[e1,F.top,Int.one_mul];rw[show look c (f+h*s)+ -look c (f+h*s)=0 by lia];rfl
 exact#[λx=> ?_,λj g hj hg=> ?_,λx hx c6=> ?_,λx hx=> ?_];rw[e,st.rel,Int.emod_add_emod,cq,Int.add_assoc,Int.add_comm (dw _ js)];obtain z | z:=dz j i;rw [quiet];show st.ZL j g z hg;by_cases c6:look b (f+g*s - s*i_ len h)=0;show c6;exfalso;have rn:bL s (f+g*s - s*i_ len h)=f:=by rw[gF,F.ok.on]
 have hr:=F.qg _ c6 rn;by_cases u5:s=0;have g0:=yH u5 g (aw hg);have h0:=yH u5 h hm;have:=H.ord i j h g z hh hg;have l0:=F.s0 u5;subst l0;rw[g0,h0] at this;show this (by unfold i_;simp);rw[j9 u5,mT F.ok u5] at hr;show H.ord i j h g z hh hg hr;have:j=i:= ∅;subst this;rw[hh] at hg;cases hg;show here;by_cases hb:look b (x - s*i_ len h)=0;rw[quiet x hb] at c6;show st.sup x hx c6;have rn:bL s (x - s*i_ len h)=f:=by rw[gF];show hx
 have hr:=F.qg _ hb rn;by_cases u5:s=0;have h0:=yH u5 h hm;have:hI s x=0:=by unfold hI;rw[ap u5]
 left;rw[this, <- h0];show hm;rw[j9 u5] at hr;show H.clo h hm _ ∅ ∅;rw [quiet x];show st.NQ x hx;by_cases hb:look b (x - s*i_ len h)=0;show hb;have:=F.ge _ hb;rw[gF] at this;lia
theorem nr.low (st:nr s p f len b a hs hs.length c js)(s0:0<=s): ∀x,bL s x=f ->look c x≠0 ->0<=hI s x /\ hI s x<len:=λx hx c6=>by obtain z | z:=st.sup x hx c6;exfalso;let⟨j,hj⟩:=bZ.mp z;have:=st.ZL j _ (ak.mp hj).1 hj;rw[<- qH s0 hx] at this;show c6 this;show z
def Wt (Z:Int)(m:Pt):Prop:= ∀x,look m x≠0 -> -Z<=x /\ x<=Z
def Wt.len (g:GD p m)(h:Wt Z m)(z0:0<=Z):m.length<=(2*Z+1).toNat:=by
 have:=fZ (l:=vc (-Z) (2*Z+1).toNat) g.1 λk hk=>by
  let⟨z,hz,rfl⟩:=ag.mp hk;have c6:look m z.1≠0:=by rw[iz g.1 hz];have:=g.2 z hz;lia
  have:=h z.1 c6;show kI.mpr ∅
 rw[aa] at this;unfold vc at this;rw[aa,cz] at this;show this
def kM (hn:ns.Nodup)(s0:0<=s):(mN s f ns).Nodup:=by unfold mN;have h2:(ns.filter λx=>decide (bL s x=f)).Nodup:=hn.sublist List.filter_sublist;exact List.Pairwise.map _ (R:=λx y=>x≠y /\ bL s x=f /\ bL s y=f) (λx y h e=> ?_) ?_;show h.1 (by rw[qH s0 h.2.1,qH s0 h.2.2,e]);exact List.Pairwise.imp_of_mem (λ{x y} hx hy h=>#[h,?_,?_]) h2;simpa using(aP.mp hx).2;simpa using(aP.mp hy).2
def DF (s p f len foot:Int)(b:Pt)(g:Int ->Int)(h:Int):Int ->Int:=if g (f+h*s)=0 then g else λx=>(g x+look b (x - s*i_ len h)*(if h<0 then -(g (f+h*s))*foot else -(g (f+h*s)))) % p
def yY (s p f len foot:Int)(b:Pt)(hs:d3 Int)(g:Int ->Int):Int ->Int:=hs.foldl (DF s p f len foot b) g
def sT {hs:d3 Int}(e:hs[i]? =some h):yY s p f len foot b (hs.take (i+1)) g=DF s p f len foot b (yY s p f len foot b (hs.take i) g) h:=by unfold yY;rw[bo,e,List.foldl_append];rfl
def Ki (h: ∀t∈P,Wt B t.2.2)(w:Int):Wt B (pf P w):=by
 unfold pf;cases e:P.find? (λu=>decide (u.1=w)) with
 | none=>intro x hx;show absurd rfl hx
 | some u=>show h u (gB e).1
theorem Wt.up (h:Wt Z m)(l:Z<=Z'):Wt Z' m:=λx hx=>by have:=h x hx;lia
def WB (R S:gi):kn:=λxs M q=>Gy λ(r rl rp o ds ol op:gi) (p:Int)=>Gy λ(s f len foot:Int) (a b:Pt) (P Q:Pq)=>jQ λ(B C Z D:Int)=>qW (xs= [wi p,wi s,wr r,wr o]) (qS R S M r rl rp) (M o=some (.ins S ds [("lamps",wr ol),("parts",wr op),("first",wi f),("length",wi len),("foot",wi foot)])) (p=2 \/ p=3 \/ p=5 \/ p=7) (0<=s) (s<=8) (len<3000000) (qW (zd s p b f len foot) (cG p M rl rp a P) (cG p M ol op b Q) (∀x∈bJ rl rp P,x∉bJ ol op Q) (Wt Z a) (Wt D b) (0<=Z) (qW (Z<=1000000) (0<=D) (D<=1000000) (∀t∈P,Wt B t.2.2) (∀t∈Q,Wt C t.2.2) (0<=B) (B<=1000000) (fh (0<=C) (C<=1000000) (P.length+Q.length<=1000) (∀M' c P' js,cG p M' rl rp c P' ->(∀x,look c x=(look a x+dw (λsh=>look b (x - s*sh)) js) % p) ->(∀w x,look (pf P' w) x=(look (pf P w) x+dw (λsh=>look (pf Q w) (x - sh)) js) % p) ->(s=0 -> ∀j∈js,j.1=0) ->(∀x,bL s x=f ->look c x≠0 ->0<=hI s x /\ hI s x<len) ->(∀x,bL s x<f ->look c x=look a x) ->Wt (Z+D+s) c ->eQ M M' (bJ rl rp P) ->(∀x∈bJ rl rp P',x∈bJ rl rp P \/ M x=none) ->(∀x∈bJ rl rp P,x∈bJ rl rp P') ->(∀t∈P',Wt (max B (C+Z+1)) t.2.2) ->(∀w∈P'.map (·.1),w∈P.map (·.1) \/ w∈Q.map (·.1)) ->(∃ms:d3 Int,fh (ms.Perm (mN s f (d9 a))) (ms.Pairwise (· <= ·)) (look c=yY s p f len foot b (pD ms len) (look a)) (∀j∈js, ∃h∈pD ms len,j.1=i_ len h)) ->(∀j∈js, -Z - 1<=j.1 /\ j.1<=Z) ->q wn M'))))
def Fl {P P' Q:Pq}(hn:(P'.map (·.1)).Nodup)(h: ∀w∈P'.map (·.1),w∈P.map (·.1) \/ w∈Q.map (·.1)):P'.length<=P.length+Q.length:=by have:=fZ (l:=P.map (·.1)++Q.map (·.1)) hn λk hk=>aA.mpr (h k hk);rw[aa,aG,aa,aa] at this;show this
def mF (a:Pt):(eY a).map (λkv=>fD kv.1)=(d9 a).map wi:=by unfold eY d9;rw[aH,aH];rfl
def S9 {s f x Z:Int}(s0:0<=s)(s8:s<=8)(h: -Z<=x /\ x<=Z)(z0:0<=Z): -Z - 1<=hI s x /\ hI s x<=Z:=by
 unfold hI;split;lia;rename_i hs;have FM:1<=s:= ∅;have h1:=Int.emod_add_mul_ediv x s;have h2:=cw x hs;have h3:=cj x (show 0<s by lia);generalize x / s=y at h1;generalize x % s=m at h1 h2 h3;symm;obtain q | q:=dC y (-Z - 1);have:s*y<=s*(-Z - 2):=a9 ∅ ∅;have e:s*(-Z - 2)= -(s*Z) - 2*s:=by rw[Int.mul_sub,Int.mul_neg];lia
 have:Z<=s*Z:=by have:=bf FM z0;lia
 lia;show q;obtain q | q:=dC Z y;have:s*(Z+1) <=s*y:=a9 ∅ ∅;have e:s*(Z+1)=s*Z+s:=by rw[Int.mul_add];lia
 have:Z<=s*Z:=by have:=bf FM z0;lia
 lia;show q
def Dj (l0:0<=len)(hh:h∈pD ns len):(h<0 -> ∃m∈ns,m<=h) /\ (0<=h -> ∃m∈ns,h<=m):=by
 unfold pD at hh;by_cases hc:len=0 \/ ns= []
 rw[ap hc] at hh;show#[λ_=>#[h,hh,a4 _],λ_=>#[h,hh,a4 _]];rw[ai hc,aA,kJ,kI] at hh;have c6:ns≠ []:=λe=>hc (.inr e);have hl:0<len:=by have:=λe=>hc (.inl e);lia
 have h1:ns.getLastD 0∈ns:=kK c6;have h2:ns.headD 0∈ns:=by cases ns with | nil=>show absurd rfl c6 | cons x r=>show aI
 show#[λz=>#[_,h2, ∅],λz=>#[_,h1, ∅]]
def HB (l0:0<=len)(z0:0<=Z)(hb: ∀x∈ns, -Z - 1<=x /\ x<=Z)(hn:ns.length<=n):(pD ns len).length<=max n (2*Z+2).toNat:=by
 unfold pD;by_cases hc:len=0 \/ ns= []
 rw[ap hc];lia;rw[ai hc,aG];have c6:ns≠ []:=λe=>hc (.inr e);have hl:0<len:=by have:=λe=>hc (.inl e);lia
 have h1:ns.getLastD 0∈ns:=kK c6;have h2:ns.headD 0∈ns:=by cases ns with | nil=>show absurd rfl c6 | cons x r=>show aI
 have b1:=hb _ h1;have b2:=hb _ h2;unfold mX vc;rw[aa,aa,cz,cz];lia
def yQ (s0:0<s):x - s<s*hI s x /\ s*hI s x<=x:=by unfold hI;rw[ai ∅];have h1:=Int.emod_add_mul_ediv x s;have h2:=cw x (show s≠0 by lia);have h3:=cj x s0;show#[∅, ∅]
def di (h:look m x≠0):x∈d9 m:=by
 rcases kO (m:=m) (x:=x) with⟨h1,h2,_⟩ | ⟨q,h1,h2⟩
 show absurd h2 h;have h3:=List.find?_some h1;have h4:=List.mem_of_find?_eq_some h1;exact ag.mpr #[q,h4,?_];first | show of_decide_eq_true h3 | show beq_iff_eq.mp h3 | simpa using h3
def eD (ga:GD p a)(h:x∈d9 a):0<look a x /\ look a x<p:=by let⟨z,hz,rfl⟩:=ag.mp h;rw[iz ga.1 hz];show ga.2 z hz
def uR (s0:0<=s)(hh:h∈mN s f (d9 a)):f+h*s∈d9 a /\ bL s (f+h*s)=f:=by let⟨x,hx,e⟩:=ag.mp hh;have h1:=(aP.mp hx).1;have h2:bL s x=f:= ⇑((aP.mp hx).2);have h3:=qH s0 h2;rw[e] at h3;rw[<- h3];show#[h1,h2]
theorem iX (h:x∈d9 a)(e:bL s x=f):hI s x∈mN s f (d9 a):=ag.mpr #[x,aP.mpr #[h, ⇑e],rfl]
def uN (s0:0<=s):jp s (bL s x):=by unfold jp bL;by_cases h:s=0;show .inl h;rw[ai h];show .inr #[cw _ h,cj _ ∅]
structure Mn (s f m t:Int)(a:Pt):Prop where
 mn:gV ((d9 a).map (bL s)) f
 lo:m∈mN s f (d9 a)
 hi:t∈mN s f (d9 a)
 bd: ∀h∈mN s f (d9 a),m<=h /\ h<=t
def Mn.ok (h:Mn s f m t a)(s0:0<=s):jp s f:=by let⟨x,_,e⟩:=ag.mp h.mn.1;rw[<- e];show uN s0
def vm {f t m s:Int}:f+(t - m)*s+s*m=f+t*s:=by rw[Int.sub_mul,bP s m];lia
def Bh (p1:1<p)(s0:0<=s)(ga:GD p a)(N:Mn s f m t a)(FK:tn*look a (f+t*s) % p=1)(e: ∀x,look b x=look a (x+s*m)*tn % p)(SR:foot*look b f % p=1)(f0:0<foot)(f1:foot<p):zd s p b f (t - m) foot:=by
 have lit: ∀x,look b x≠0 ->x+s*m∈d9 a:=λx hx=>di λz=>hx (by rw[e,z,bE];rfl);have col: ∀x,bL s (x+s*m)=bL s x:=λx=>by rw[bP];show wZ x m
 exact#[N.ok s0,by have:=N.bd _ N.lo;lia,λz=> ?_,λx hx=> ?_,λx hx hc=> ?_,?_,by rw[bP];show SR,f0,f1];let⟨x,_,e1⟩:=ag.mp N.lo;let⟨y,_,e2⟩:=ag.mp N.hi;rw[<- e1, <- e2];unfold hI;rw[ap z,ap z];rfl;rw[<- col x];show N.mn.2 _ (ag.mpr #[_,lit x hx,rfl]);have h1:=N.bd _ (iX (lit x hx) ((col x).trans hc));by_cases z:s=0;have h2:=N.bd _ N.lo;unfold hI;rw[ap z];lia;rw[bP,pe z] at h1;lia;rw[e,vm,bP];show FK
def xJ (s0:0<=s)(p0:0<p)(ga:GD p a)(N:Mn s f m t a)(nz:NZ p tn)(e: ∀x,look b x=look a (x+s*m)*tn % p):0<look b f /\ look b f<p:=by have h1:=eD ga (uR s0 N.lo).1;have h2:=nz _ h1.1 h1.2;rw[e,bP s m];have h3:=cw (look a (f+m*s)*tn) (show p≠0 by lia);have h4:=cj (look a (f+m*s)*tn) p0;lia
def RN {a:Pt}(c6:a≠ [])(cX:ms.Perm (mN s (fA ((d9 a).map (bL s))) (d9 a)))(gT:ms.Pairwise (· <= ·)): ms≠ [] /\ Mn s (fA ((d9 a).map (bL s))) (ms.headD 0) (ms.getLastD 0) a:=by
 have qc:d9 a≠ []:=λe=>c6 (List.map_eq_nil_iff.mp e);have mn:=fQ (l:=(d9 a).map (bL s)) (λe=>qc (List.map_eq_nil_iff.mp e));let⟨x,hx,e⟩:=ag.mp mn.1;have nw:ms≠ []:=λz=>by have:=cX.mem_iff.mpr (iX hx e);rw[z] at this;cases this
 have hl:=Ah gT nw;exact#[nw,mn,cX.mem_iff.mp ?_,cX.mem_iff.mp (kK nw),λh hh=>#[Ax gT h (cX.mem_iff.mpr hh),hl.2 h (cX.mem_iff.mpr hh)]];cases ms with | nil=>show absurd rfl nw | cons x r=>show aI
def Nt (R S:gi):kn:=λxs M q=>Gy λ(r dr rl rp:gi) (p s:Int) (a:Pt) (P:Pq)=>cJ λ(B:Nat) (D:Int)=>qW (xs= [wi p,wi s,wr r]) (M r=some (.ins R dr [("lamps",wr rl),("parts",wr rp)])) (p=2 \/ p=3 \/ p=5 \/ p=7) (0<=s) (s<=8) (cG p M rl rp a P) (a≠ []) (CO (Wt D a) (0<=D) (D<=2000000) (∀t∈P,t.2.2.length<=B) (B<=8000000) (P.length<=1000) (∀M' o ds ol op b Q f m t foot tn,M' o=some (.ins S ds [("lamps",wr ol),("parts",wr op),("first",wi f),("length",wi (t - m)),("foot",wi foot)]) ->cG p M' ol op b Q ->zd s p b f (t - m) foot ->Mn s f m t a ->0<tn ->tn<p ->tn*look a (f+t*s) % p=1 ->(∀x,look b x=look a (x+s*m)*tn % p) ->(∀w x,look (pf Q w) x=look (pf P w) (x+m)*tn % p) ->Sm M M' ->(∀x∈o::bJ ol op Q,M x=none) ->(∀t∈Q,t.2.2.length<=B) ->(∀w∈Q.map (·.1),w∈P.map (·.1)) ->q (wr o) M'))
end WQ
namespace WL
open PySem L2
theorem K0 (h:WQ.lB p M M'):WQ.lB p M (um M' p o):=λb u n e=>by rw[aD n];show h b u n e
def y3 {α β:Type}{l:d3 α}{fW:α ->W}(gW:β ->W)(R:α ->d3 W ->Prop)(n:Nat){M1:Mp}(hz:l.length*n<sizeLine)(jk: ∀p M,M1 p=none ->WQ.lB p M1 M ->keep M)(hs: ∀a∈l, ∀p M ys,M1 p=none ->WQ.lB p M1 M ->M p=some (.lst ys) -> ∀ (B:du ->d3 W ->(Mp ->Prop) ->Mp ->Prop) (N0:Mp ->Prop),(∀ρ2 f7 (bs:d3 β) (eW:β ->W) M4,WQ.lB p M M4 ->M4 p=some (.lst ys) ->R a (bs.map eW) ->bs.length<=n ->(∀M',WQ.lB p M4 M' ->f7 M') ->(∀b∈bs, ∀M',WQ.lB p M4 M' -> ∀N:eB W ->Mp ->Prop,N (some (eW b)) M' ->g2 (gW b) ρ2 M' λρ3 M5=>c2 ρ3 M5 λb M6=>iA b (el ρ3 M6 λz M7=>N (some z) M7) (N none M6)) ->B ρ2 (bs.map gW) f7 M4) ->g (fW a) (kZ own fr ρ) M λρ2 M2=>c ρ2 M2 λb M3=>iA b (v_ ρ2 M3 λuV f7 M4=>B ρ2 uV f7 M4) (N0 M3))(hq: ∀p M (yss:d3 (d3 W)),M1 p=none ->WQ.lB p M1 M ->M p=some (.lst yss.flatten) ->yss.length=l.length ->(∀ (i:Nat) a zs,l[i]? =some a ->yss[i]? =some zs ->R a zs) ->q (wr p) M): uL (l.map fW) keep own fr g c v_ g2 c2 el ρ M1 q:=by
 intro p hp;exact#[λi ys M=>WQ.lB p M1 M /\ M p=some (.lst ys) /\ ∃yss:d3 (d3 W),fh (yss.length=i) (ys=yss.flatten) (ys.length<=i*n) (∀ (j:Nat) a zs,l[j]? =some a ->yss[j]? =some zs ->R a zs),#[K0 (WQ.lB.refl p M1),az,[],rfl,rfl,cB _,λj a zs _ h=>by simp at h],?_,?_,?_];rintro i ys M hi ⟨h1,h2,_⟩;show#[jk p M hp h1,h2];rintro i x ys M hx ⟨h1,h2,yss,h3,h4,h5,h6⟩;let⟨a,ha,rfl⟩:=j6 hx;have JC:=(ak.mp ha).1;have gM:(i+1)*n<=l.length*n:=Nat.mul_le_mul_right _ JC;have JB:(i+1)*n=i*n+n:=by rw[Nat.add_mul,Nat.one_mul]
 exact hs a (aw ha) p M ys hp h1 h2 (λρ2 uV f7 M4=>N5 uV f7 g2 c2 el ρ2 p ys M4 _) (λM3=>_) ?_;intro ρ2 f7 bs eW M4 k1 k2 k3 k4 k5 k6;exact#[λj zs M'=>WQ.lB p M4 M' /\ M' p=some (.lst zs) /\ zs=ys++(bs.take j).map eW,#[WQ.lB.refl p M4,k2,by simp],?_,?_,?_];rintro j zs M' hj ⟨z1,z2,rfl⟩;exact#[k5 M' z1,z2,?_];rw[aG,aa,a7];lia;rintro j y zs M' hy ⟨z1,z2,rfl⟩;let⟨b,hb,rfl⟩:=j6 hy;have e2:bs.take (j+1)=bs.take j++ [b]:=by rw[bo,hb];rfl
 exact k6 b (aw hb) M' z1 (λo M5=>match o with
 | some z=>M5 p=some (.lst (ys++(bs.take j).map eW)) /\ (WQ.lB p M4 (um M5 p (.lst (ys++(bs.take j).map eW++ [z]))) /\ um M5 p (.lst (ys++(bs.take j).map eW++ [z])) p=some (.lst (ys++(bs.take j).map eW++ [z])) /\ ys++(bs.take j).map eW++ [z]=ys++(bs.take (j+1)).map eW)
 | none=>WQ.lB p M4 M5 /\ M5 p=some (.lst (ys++(bs.take j).map eW)) /\ ys++(bs.take j).map eW=ys++(bs.take (j+1)).map eW) ?_
 show#[z2,K0 z1,az,by rw[e2,aR];simp];rintro zs M' ⟨z1,z2,rfl⟩;rw[aa,bN] at*;exact#[h1.trans (k1.trans z1),z2,yss++ [bs.map eW],by simp[h3],by rw[h4];simp,?_,λj a' zs' OA Pw=> ?_];rw[aG,aa];lia;rw [List.getElem?_append] at Pw;split at Pw;show h6 j a' zs' OA Pw;rename_i hj;have iH:j=i:=by let⟨q1,_⟩:=ak.mp Pw;simp at q1;lia
 subst iH;rw[ha] at OA;cases OA;rw[h3,Nat.sub_self] at Pw;cases Pw;show k3;rintro ys M ⟨h1,h2,yss,h3,h4,h5,h6⟩;rw[aa] at h3;show hq p M yss hp h1 (h4▸h2) h3 h6
end WL
namespace WQ
open PySem L2 WL WP
abbrev lZ:=Int×Int×Int
def lq (t:lZ):W:= .tup [wi t.1,wi t.2.1,wi t.2.2]
def rM (p n:Int)(P:Pq):d3 lZ:=P.flatMap λt=>t.2.2.map λz=>(t.1,z.1,z.2*n % p)
def Rr:kn:=λxs M q=>Mj λ(rl rp:gi) (p n:Int) (a:Pt) (P:Pq) (B:Nat)=>qW (xs= [wi p,wr rp,wi n]) (0<p) (p<1000) (-1000<n) (n<1000) (cG p M rl rp a P) (P.length<=1000) (fh (∀t∈P,t.2.2.length<=B) (B<=16000000) (P.length*B<=16000000) (∀t M' (tl:d3 lZ),Sm M M' ->M t=none ->M' t=some (.lst (tl.map lq)) ->tl.Perm (rM p n P) ->q (wr t) M'))
def Dh (g:(m.map (·.1)).Nodup){xk:d3 Int}(h:xk.Perm (d9 m)):(xk.map λsh=>((w,sh,look m sh*n % p):lZ)).Perm (m.map λz=>(w,z.1,z.2*n % p)):=by
 have h1:=h.map λsh=>((w,sh,look m sh*n % p):lZ)
 have e:(d9 m).map (λsh=>((w,sh,look m sh*n % p):lZ))=m.map λz=>(w,z.1,z.2*n % p):=by unfold d9;rw[aH];apply bu;intro z hz;simp![Function.comp];rw[iz g hz]
 rw[e] at h1;show h1
theorem rN {p n:Int}{P:Pq}(hg: ∀w,((pf P w).map (·.1)).Nodup): ∀ {ws:d3 Int} {yss:d3 (d3 W)},yss.length=ws.length ->(∀ (i:Nat) a zs,ws[i]? =some a ->yss[i]? =some zs -> ∃xk:d3 Int,xk.Perm (d9 (pf P a)) /\ zs=xk.map λsh=>lq (a,sh,look (pf P a) sh*n % p)) ->∃tl:d3 lZ,yss.flatten=tl.map lq /\ tl.Perm (ws.flatMap λw=>(pf P w).map λz=>(w,z.1,z.2*n % p))
 | [],[],_,_=>#[[],rfl, .nil]
 | [],_::_,h,_=>by cases h
 | _::_,[],h,_=>by cases h
 | w::ws,zs::yss,h,hR=>by let⟨xk,h1,e1⟩:=hR 0 w zs rfl rfl;let⟨tl,e2,h2⟩:=rN hg (ws:=ws) (yss:=yss) ⇑h λi a z ha hz=>hR (i+1) a z ⇑ha ⇑hz;exact#[(xk.map λsh=>((w,sh,look (pf P w) sh*n % p):lZ))++tl,?_,?_];rw[List.flatten_cons,e2,e1,aR,aH];rfl;rw[List.flatMap_cons];show(Dh (hg w) h1).append h2
def Bd (nd:(P.map (·.1)).Nodup)(hg: ∀w,((pf P w).map (·.1)).Nodup){ws:d3 Int}(cX:ws.Perm (P.map (·.1))){yss:d3 (d3 W)}(dS:yss.length=ws.length)(hR: ∀ (i:Nat) a zs,ws[i]? =some a ->yss[i]? =some zs -> ∃xk:d3 Int,xk.Perm (d9 (pf P a)) /\ zs=xk.map λsh=>lq (a,sh,look (pf P a) sh*n % p)): ∃tl:d3 lZ,yss.flatten=tl.map lq /\ tl.Perm (rM p n P):=by
 let⟨tl,e,h⟩:=rN hg dS hR;exact#[tl,e,h.trans ?_];have h2:=cX.flatMap_right λw=>(pf P w).map λz=>((w,z.1,z.2*n % p):lZ)
 exact h2.trans (List.Perm.of_eq ?_);unfold rM;rw[List.flatMap_def,List.flatMap_def,aH];congr 1;apply bu;intro t ht;simp![Function.comp];rw[nJ nd ht]
theorem m7 (G:Int ->Int)(x:Int): ∀d:Pt,dw G d=G x*dR d x+dw G (gl d x)
 | []=>by simp[dw,dR,gl]
 | z ::r=>by
  have ih:=m7 G x r;rw[cq,ih];unfold gl;rw[List.filter_cons];by_cases e:z.1=x;rw[ai ⇑e];have:dR (z::r) x=z.2+dR r x:=by change(if z.1=x then z.2 else 0)+dR r x=_;rw[ap e]
  rw[this,e,Int.mul_add];show(Int.add_assoc _ _ _).symm;rw[ap ⇑e,cq];have:dR (z::r) x=dR r x:=by change(if z.1=x then z.2 else 0)+dR r x=_;rw[ai e,bO]
  rw[this];show Int.add_left_comm _ _ _
theorem kt (x y:Int): ∀d:Pt,dR (gl d x) y=if y=x then 0 else dR d y
 | []=>by simp[gl,dR]
 | z ::r=>by have ih:=kt x y r;have e1:dR (z::r) y=(if z.1=y then z.2 else 0)+dR r y:=rfl;unfold gl at ih ⊢;rw[List.filter_cons];by_cases e:z.1=x;rw[ai ⇑e,ih,e1];by_cases ey:y=x;rw[ap ey,ap ey];rw[ai ey,ai ey,ai (λq=>ey (by rw[<- q,e])),bO];rw[ap ⇑e];change(if z.1=y then z.2 else 0)+_=_;rw[ih,e1];by_cases ey:y=x;rw[ap ey,ap ey,ai (λq=>e (by rw[q,ey]))];rfl;rw[ai ey,ai ey]
theorem kg {p:Int}(G:Int ->Int): ∀ (n:Nat) (d:Pt),d.length<=n ->(∀x,dR d x % p=0) ->dw G d % p=0
 | n,[],_,_=>Int.zero_emod _
 | 0,_::_,h,_=>by simp at h
 | n +1,z::r,h,ht=>by
  rw[m7 G z.1];have hl:(gl (z::r) z.1).length<=n:=by unfold gl;rw[List.filter_cons,ai (by simp)];have:=List.length_filter_le (λq:Int×Int=>decide (q.1≠z.1)) r;simp![aK] at h;lia
  have ih:=kg G n _ hl λx=>by rw[kt];split;rfl;show ht x
  rw[a6,ih,bT,ht,c9];simp
theorem m8 (G:Int ->Int)(b:Pt): ∀a:Pt,dw G (a++b)=dw G a+dw G b
 | []=>by change dw G b=0+_;rw[bO]
 | z::r=>by rw[List.cons_append,cq,cq,m8 G b r,Int.add_assoc]
theorem qy (G:Int ->Int)(k:Int): ∀a:Pt,dw G (tm k a)=dw G a*k
 | []=>by change(0:Int)=0*k;simp
 | z::r=>by have:tm k (z::r)=(z.1,z.2*k)::tm k r:=rfl;rw[this,cq,cq,qy G k r,Int.add_mul,Int.mul_assoc]
def px (G:Int ->Int)(h: ∀x,dR a x % p=dR b x % p):dw G a % p=dw G b % p:=by
 have h1:=kg (p:=p) G _ (a++tm (-1) b) (ao _) λx=>by rw[ij,tQ,Int.mul_neg,Int.mul_one, <- Int.sub_eq_add_neg];show aV.mp (h x)
 rw[m8,qy,Int.mul_neg,Int.mul_one, <- Int.sub_eq_add_neg] at h1;show aV.mpr h1
theorem uK (x:Int): ∀js:Pt,dw (λsh=>if x - sh=0 then 1 else 0) js=dR js x
 | []=>rfl
 | z::r=>by rw[cq,uK x r];change _=(if z.1=x then z.2 else 0)+dR r x;by_cases e:z.1=x;rw[ap e,ap ∅,Int.one_mul];rw[ai e,ai ∅,bE]
def AZ (js:Pt):dw (λ_=>0) js=0:=by
 induction js with
 | nil=>rfl
 | cons z r ih=>rw[cq,ih,bE];rfl
def ku (s:Int)(sts:d3 Pt)(P:Pq)(x:Int):Nat ->Int
 | 0=>0
 | n+1=>ku s sts P x n+dw (λsh=>look (sts.getD n []) (x - s*sh)) (pf P n)
theorem vi {s p:Int}{sts:d3 Pt}{P P':Pq}(hP: ∀w,((pf P w).map (·.1)).Nodup)(S4: ∀w,((pf P' w).map (·.1)).Nodup)(x:Int): ∀n:Nat,(∀w:Nat,w<n -> ∀y,look (pf P' w) y % p=look (pf P w) y % p) ->ku s sts P' x n % p=ku s sts P x n % p
 | 0,_=>rfl
 | n+1,h=>by have ih:=vi (s:=s) (sts:=sts) (p:=p) hP S4 x n λw hw=>h w ∅;rw[ku,ku,a6,ih,px (p:=p) _ (a:=pf P' n) (b:=pf P n) λy=>by rw[d6 (S4 n),d6 (hP n)];show h n ∅ y, <- a6]
theorem IN: ∀ {a b:d3 Int},a.Pairwise (· <= ·) ->b.Pairwise (· <= ·) ->a.Perm b ->a=b:=λ{a b} ha hb h=>List.Perm.eq_of_pairwise (le:=(· <= ·)) (λx y _ _ h1 h2=> ∅) ha hb h
structure Sr (s p:Int)(st:Pt)(c len D:Int):Prop where
 pat:cy p st
 ok:jp s c
 l0:0<=len
 s0:s=0 ->len=0
 ge: ∀x∈d9 st,c<=bL s x
 qg: ∀x∈d9 st,bL s x=c ->0<=hI s x /\ hI s x<=len
 bot:c∈d9 st
 top:look st (c+len*s)=1
 wt:Wt D st
def yP (ok:jp s c):hI s c=0:=by unfold hI;obtain h | h:=ok;rw[ap h];rw[ai ∅];show Int.ediv_eq_zero_of_lt h.1 h.2
theorem Sr.HA (h:Sr s p st c len D):c+len*s∈d9 st:=di (by rw[h.top];decide)
def Sr.zt (h:Sr s p st c len D):hI s (c+len*s)=len:=by by_cases z:s=0;rw[h.s0 z];unfold hI;rw[ap z];show mT h.ok z len
def Sr.uniq (h:Sr s p st c len D)(h':Sr s p st c' re D'):c=c' /\ len=re:=by
 have e:c=c':=by have h1:=h.ge c' h'.bot;have h2:=h'.ge c h.bot;rw[h'.ok.own] at h1;rw[h.ok.own] at h2;lia
 subst e;have h1:=h'.qg _ h.HA (h.ok.on len);have h2:=h.qg _ h'.HA (h.ok.on re);rw[h.zt] at h1;rw[h'.zt] at h2;show#[rfl, ∅]
def Sr.mn (h:Sr s p st c len D)(s0:0<=s)(N:Mn s f m t st):f=c /\ m=0 /\ t=len:=by
 have e:f=c:=gV.uniq N.mn #[ag.mpr #[c,h.bot,h.ok.own],λx hx=>by let⟨y,hy,rfl⟩:=ag.mp hx;show h.ge y hy];subst e;have b1:=N.bd _ (iX h.bot h.ok.own);have b2:=N.bd _ (iX h.HA (h.ok.on len));rw[yP h.ok] at b1;rw[h.zt] at b2;have qE: ∀y∈mN s f (d9 st),0<=y /\ y<=len:=λy hy=>by let⟨x,hx,e⟩:=ag.mp hy;have:=h.qg x (aP.mp hx).1 ⇑((aP.mp hx).2);rw[e] at this;show this
 have b3:=qE _ N.lo;have b4:=qE _ N.hi;show#[rfl, ∅, ∅]
def _g (s p:Int)(st:Pt)(g g':Int ->Int):Prop:=Mj λ(a b:Pt) (f len D foot:Int) (ms:d3 Int)=>qW (GD p a) (look a=g) (look b=look st) (Sr s p st f len D) (0<foot) (foot<p) (foot*look st f % p=1) (dh (ms.Perm (mN s f (d9 a))) (ms.Pairwise (· <= ·)) (g'=yY s p f len foot b (pD ms len) g))
def TkI (s p:Int)(sts:d3 Pt)(g0:Int ->Int):Nat ->(Int ->Int) ->Prop
 | 0,g=>g=g0
 | i+1,g'=> ∃g,TkI s p sts g0 i g /\ _g s p (sts.getD i []) g g'
structure qK (s p:Int)(sts:List Pt)(D:Int):Prop where
 each: ∀ (i:Nat) st,sts[i]? =some st ->cJ λc len=>Sr s p st c len D /\ len<3000000
 xT: ∀ (i j:Nat) st bA c len c' re,i<j ->sts[i]? =some st ->sts[j]? =some bA ->Sr s p st c len D ->Sr s p bA c' re D ->c<c'
structure ko (s p:Int)(sts:List Pt)(D Y:Int)(pat dU:Pt)(P:Pq)(n:Nat):Prop where
 chain:TkI s p sts (look pat) n (look dU)
 low: ∀ (i:Nat) st c len,i<n ->sts[i]? =some st ->Sr s p st c len D -> ∀x,bL s x=c ->look dU x≠0 ->0<=hI s x /\ hI s x<len
 rel: ∀x,look dU x=(look pat x+ku s sts P x n) % p
 keys: ∀w∈P.map (·.1),0<=w /\ w< (n:Int)
 KU:s=0 -> ∀w x,look (pf P w) x≠0 ->x=0
 Pg: ∀w x,look (pf P w) x≠0 -> -Y - 1<=x /\ x<=Y
 nd:(P.map (·.1)).Nodup
 gp: ∀t∈P,GD p t.2.2
def Nr:kn:=λxs M q=>Mj λ(p s D Z Zm:Int) (sts:d3 Pt) (pat:Pt)=>qW (xs= [wi p,wi s, .tup (sts.map dX),dX pat]) (p=2 \/ p=3 \/ p=5 \/ p=7) (0<=s) (s<=8) (qK s p sts D) (cy p pat) (Wt Z pat) (CO (0<=Z) (0<=D) (D<=400000) (Z+sts.length*(D+s) <=Zm) (Zm<=400000) (sts.length<=13) (∀t M' dU (tl:d3 lZ) P,cy p dU ->Wt Zm dU ->ko s p sts D Zm pat dU P sts.length ->tl.Perm (rM p (-1) P) ->Sm M M' ->M t=none ->M' t=some (.lst (tl.map lq)) ->q (.tup [dX dU,wr t]) M'))
def Ei (h:x∉m.map (·.1)):kW m x v=m++ [(x,v)]:=by unfold kW;rw[ai (λe=>h (ng.mp e))]
def Eo (m:Pt):d3 (cf×W):=m.map λz=>((Sum.inl z.1:cf),wi z.2)
def uH (m:Pt)(nd:(m.map (·.1)).Nodup):(Eo m).foldl (λm p=>jf m p.1 p.2) []=eY m:=by
 have key: ∀ (b a:Pt),((a++b).map (·.1)).Nodup ->(Eo b).foldl (λm p=>jf m p.1 p.2) (eY a)=eY (a++b):=by
  intro b;induction b with
  | nil=>intro a _;rw[List.append_nil];rfl
  | cons z r ih=>
   intro a h;have hx:z.1∉a.map (·.1):=λhm=>by rw[aR,aE] at h;show(List.nodup_append.mp h).2.2 _ hm _ aI rfl
   change(Eo r).foldl _ (jf (eY a) (.inl z.1) (wi z.2))=_;rw[oX,Ei hx,ih (a++ [z]) (by rw[bW];show h),bW];rfl
 show key m [] nd
def uh (m:Pt):dX m= .tup ((Eo m).map λp=> .tup [fD p.1,p.2]):=by unfold dX Eo;rw[aH];rfl
theorem jW (h:cy p m):GD p m:=#[(cc.mpr h.2).imp λh e=>by rw[e] at h;show absurd h (Int.lt_irrefl _),h.1]
theorem eI {g:Int ->Int}: ∀ {js:Pt},(∀j∈js,g j.1=0) ->dw g js=0
 | [],_=>rfl
 | z::r,h=>by rw[cq,h z aI,bE,eI (js:=r) λj hj=>h j (av _ hj)];rfl
theorem ko.ext (h:ko s p sts D Y pat a P n)(e:look b=look a):ko s p sts D Y pat b P n:=#[by rw[e];show h.chain,by rw[e];show h.low,by rw[e];show h.rel,h.keys,h.KU,h.Pg,h.nd,h.gp]
def Ex (gp: ∀t∈P,GD p t.2.2)(w:Int):((pf P w).map (·.1)).Nodup:=by
 unfold pf;cases e:P.find? (λt=>decide (t.1=w)) with
 | none=>show List.nodup_nil
 | some t=>show(gp t (gB e).1).1
def Cb {p a b b' c c':Int}(h1:b' % p=b % p)(h2:c' % p=c % p):(a+b+c) % p=(a+(b'+c')) % p:=by
 have h3:(b+c) % p=(b'+c') % p:=by rw[a6, <- h1, <- h2, <- a6]
 rw[Int.add_assoc,a6,h3, <- a6]
def ko.step {js:Pt}(tk:ko s p sts D Y pat c P i)(p0:0<p)(s0:0<=s)(gr:qK s p sts D)(iB:sts[i]? =some st)(sr:Sr s p st cl len D)(eb:look b=look st)(f0:0<foot)(f1:foot<p)(hf:foot*look st cl % p=1)(gc:GD p c)(RE:(P'.map (·.1)).Nodup)(YJ: ∀t∈P',GD p t.2.2)(ec: ∀x,look c' x=(look c x+dw (λsh=>look b (x - s*sh)) js) % p)(ep: ∀w x,look (pf P' w) x=(look (pf P w) x+dw (λsh=>look (pf Q w) (x - sh)) js) % p)(eq: ∀w x,look (pf Q w) x=if w=(i:Int) /\ x=0 then 1 else 0)(ej:s=0 -> ∀j∈js,j.1=0)(rC: ∀x,bL s x=cl ->look c' x≠0 ->0<=hI s x /\ hI s x<len)(lz: ∀x,bL s x<cl ->look c' x=look c x)(CJ: ∀w∈P'.map (·.1),w∈P.map (·.1) \/ w=(i:Int))(xm: ∃ms:d3 Int,dh (ms.Perm (mN s cl (d9 c))) (ms.Pairwise (· <= ·)) (look c'=yY s p cl len foot b (pD ms len) (look c)))(G9: ∀j∈js, -Y - 1<=j.1 /\ j.1<=Y):ko s p sts D Y pat c' P' (i+1):=by
 have JD:sts.getD i []=st:=by rw[bB,iB];rfl
 let⟨ms,m1,m2,m3⟩:=xm;have Oc:(i:Int)∉P.map (·.1):=λh=>by have:=(tk.keys _ h).2;lia
 have q0: ∀w,w≠(i:Int) -> ∀x,dw (λsh=>look (pf Q w) (x - sh)) js=0:=λw hw x=>eI λj _=>by rw[eq,ai (λz=>hw z.1)]
 exact#[#[look c,tk.chain,#[c,b,cl,len,D,foot,ms,gc,rfl,by rw[JD];show eb,by rw[JD];show sr,f0,f1,by rw[JD];show hf,m1,m2,m3]],λj bA c2 E9 hj Jo QW x hx c6=> ?_,λx=> ?_,λw hw=> ?_,λhs w x c6=> ?_,λw x c6=> ?_,RE,YJ];obtain z | z:=dz j i;have fE:=gr.xT j i bA st c2 E9 cl len z Jo iB QW sr;rw[lz x ∅] at c6;show tk.low j bA c2 E9 z Jo QW x hx c6;have:j=i:= ∅;subst this;rw[iB] at Jo;cases Jo;let⟨rfl,rfl⟩:=sr.uniq QW;show rC x hx c6;rw [ec,tk.rel,Int.emod_add_emod];have h1:=vi (s:=s) (p:=p) (sts:=sts) (Ex tk.gp) (Ex YJ) x i λw hw y=>by rw[ep,q0 w ∅,bj,cA]
 have h2:=px (p:=p) (λsh=>look st (x - s*sh)) (a:=pf P' i) (b:=js) λy=>by
  rw[d6 (Ex YJ i),ep,kF Oc];have:dw (λsh=>look (pf Q i) (y - sh)) js=dw (λsh=>if y - sh=0 then 1 else 0) js:=by congr 1;funext sh;rw[eq];by_cases z:y - sh=0;rw[ap #[rfl,z],ap z];rw[ai (λq=>z q.2),ai z]
  rw[this,uK];change(0+_) % p % p=_;rw[bO,cA]
 rw[ku,JD,eb];show Cb h1 h2;obtain z | z:=CJ w hw;have:=tk.keys w z;push_cast;lia;rw[z];push_cast;lia;by_cases z:x=0;show z;exfalso;exact c6 ?_;rw[ep];have h1:look (pf P w) x=0:=by by_cases y:look (pf P w) x=0;show y;show absurd (tk.KU hs w x y) z
 rw[h1,eI λj hj=>by rw[eq,ej hs j hj,ai (λq=>z (by have:=q.2;lia))]];rfl;by_cases h1:look (pf P w) x=0;by_cases z: -Y - 1<=x /\ x<=Y;show z;exfalso;exact c6 ?_;rw[ep,h1,eI λj hj=>by rw[eq,ai (λq=>z (by have:=G9 j hj;have:=q.2;lia))]];rfl;show tk.Pg w x h1
def ko.len (h:ko s p sts D Y pat a P n):P.length<=n:=by have:=fZ (l:=vc 0 n) h.nd λk hk=>kI.mpr (by have:=h.keys k hk;lia);rw[aa] at this;unfold vc at this;rw[aa,cz] at this;show this
def Iy {Q:Pq}(nd:(Q.map (·.1)).Nodup)(h: ∀w∈Q.map (·.1),w∈ [i]):Q.length<=1:=by have:=fZ (l:= [i]) nd h;rw[aa] at this;show this
def putL (s:Int)(sts:d3 Pt)(tl:d3 lZ):Pt:=tl.flatMap λt=>(sts.getD t.1.toNat []).map λz=>(z.1+t.2.1*s,z.2*t.2.2)
def Sr.uD (h:Sr s p st c len D):d7 s st=c:=by
 have c6:(d9 st).map (bL s)≠ []:=by intro e;have:=List.mem_map_of_mem (f:=bL s) h.bot;rw[e] at this;cases this
 show gV.uniq (fQ c6) #[ag.mpr #[c,h.bot,h.ok.own],λx hx=>by let⟨y,hy,rfl⟩:=ag.mp hx;show h.ge y hy]
def Sr.oU (h:Sr s p st c len D):f9 s st=len:=by
 unfold f9;rw[h.uD];have hm:len∈mN s c (d9 st):=by have:=iX h.HA (h.ok.on len);rw[h.zt] at this;show this
 have c6:mN s c (d9 st)≠ []:=λe=>by rw[e] at hm;cases hm
 exact oC.uniq (mE c6) #[hm,λy hy=> ?_];let⟨x,hx,e⟩:=ag.mp hy;have:=h.qg x (aP.mp hx).1 ⇑((aP.mp hx).2);rw[e] at this;show this.2
def jg (s x:Int)(sts:d3 Pt)(t:lZ):Int:=dR (sts.getD t.1.toNat []) (x - t.2.1*s)*t.2.2
end WQ
namespace L2
open PySem
def CG:Nat ->(d3 d4 ->Prop) ->Prop
 | 0,p=>p []
 | n+1,p=> ∀v,CG n λus=>p (v::us)
theorem CG.to: ∀ {n:Nat} {p:d3 d4 ->Prop},CG n p -> ∀us,us.length=n ->p us
 | 0,_,h,[],_=>h
 | _+1,_,h,v::us,e=>CG.to (h v) us (Nat.succ.inj e)
theorem dH {kV kc pm cdv ct:d4}(X:K.In h)(G:h.Ns mainGlobals mg)(a:W.nsIn K mainGlobals x=some (some (.ref f)))(l:K.lookup f=some #[oc,od, .func (W.fnOf x x (gm st) (eU st) (bD st) .none kV kc pm an cdv ct),CH])(c:W.codeIn K cdv x=true)(k:W.keepIn K (.ref f)=true)(b: ∀ (kV kc pm:d4) (an:eB gi) (cdv ct:d4),CG ps.length λus=>bindArgs (W.fnOf x x (gm st) (eU st) (bD st) .none kV kc pm an cdv ct) #[us,[]]=pure (ps.zip us):=by(repeat intro _);rfl): nj K mg x ps st f (W.fnOf x x (gm st) (eU st) (bD st) .none kV kc pm an cdv ct):=#[W.mg_of X G a,uC l c k,(uC (st:=st) l c k).binds λkV kc pm an cdv ct us e=>(b kV kc pm an cdv ct).to us e]
theorem Gn {kV kc pm cdv ct:d4}(X:K.In h)(G:h.Ns mainGlobals mg)(a:W.nsIn K mainGlobals x=some (some (.ref C)))(g:W.findIn K (.ref C) "__init__" =some (some (.ref f)))(l:K.lookup f=some #[oc,od, .func (W.fnOf "__init__" q (gm st) (eU st) (bD st) .none kV kc pm an cdv ct),CH])(c:W.codeIn K cdv q=true)(k:W.keepIn K (.ref f)=true)(h1:W.makesIn K C=true)(h2:W.isFn K (.ref f)=true)(h3:W.keepIn K (.ref C)=true)(h4:W.plainGet K C Str.empty=true)(h5:W.hasDictIn K C=true)(h6:W.plainOver K C=true)(h7:W.findIn K (.ref C) "__setattr__" =some (some (.builtin "object.__setattr__")))(b: ∀ (kV kc pm:d4) (an:eB gi) (cdv ct:d4),CG ps.length λus=>bindArgs (W.fnOf "__init__" q (gm st) (eU st) (bD st) .none kV kc pm an cdv ct) #[us,[]]=pure (ps.zip us):=by(repeat intro _);rfl): TU K mg x q ps st C f (W.fnOf "__init__" q (gm st) (eU st) (bD st) .none kV kc pm an cdv ct):=#[W.mg_of X G a,#[h1,g,h2,h3],#[h4,h5,h6,h7],uC l c k,(uC (st:=st) l c k).binds λkV kc pm an cdv ct us e=>(b kV kc pm an cdv ct).to us e]
theorem pW (_:TU K mg x q ps st C f fd)(a:Str)(e:W.findIn K (.ref C) a=some none):dZ K C a:=e
def NT {l:W.OpenLaw}(T:nj K mg "law" [p] st f fd)(hfa:mg "law" =some (.ref fa))(hb: ∀ (kV kc pm:d4) (an:eB gi) (cdv ct v:d4),bindArgs (W.fnOf "law" "law" (gm st) (eU st) (bD st) .none kV kc pm an cdv ct) #[[v],[]]=pure [(p,v)])(ok: ∀base,d8 l.prog w K mg base jc kd f fd [p] (WQ.vp K)): ∃fd:FuncData,(∀ (s:d5) (v:d4),BindsTo s fd #[[v],[]] [(p,v)]) /\ ∀base:Heap,K.In base ->base.Ns mainGlobals mg ->d8 l.prog w K mg base jc kd fa fd [p] (WQ.vp K):=by have e:=hfa.symm.trans T.at_;cases e;let⟨oc,od,kV,kc,pm,an,cdv,ct,CH,rfl,lk,BW⟩:=T.fn.ex;show#[_,λs v=> .of_eq (hb kV kc pm an cdv ct v),λbase _ _=>ok base]
end L2
namespace WQ
open PySem L2 WL WP
theorem qz {p:Int}(G:Int ->Int): ∀ (n:Nat) (d:Pt),d.length<=n ->(∀x,G x*dR d x % p=0) ->dw G d % p=0
 | n,[],_,_=>Int.zero_emod _
 | 0,_::_,h,_=>by simp at h
 | n +1,z::r,h,ht=>by
  rw[m7 G z.1];have hl:(gl (z::r) z.1).length<=n:=by unfold gl;rw[List.filter_cons,ai (by simp)];have:=List.length_filter_le (λq:Int×Int=>decide (q.1≠z.1)) r;simp![aK] at h;lia
  have ih:=qz G n _ hl λx=>by rw[kt];split;rw[c9];rfl;show ht x
  rw[a6,ih,ht];rfl
theorem nV (v:Int): ∀js:Pt,dw (λ_=>v) js=v*dw (λ_=>1) js
 | []=>by change(0:Int)=v*0;simp
 | z::r=>by rw[cq,cq,nV v r,Int.mul_add,Int.one_mul]
def kr (h:dR d x≠0):x∈d.map (·.1):=by exact au λhn=>h (zq λq hq e=>hn (ag.mpr #[q,hq,e]))
def qA (G:Int ->Int)(d:Pt)(m:Int)(h: ∀y,y≠m ->G y*dR d y % p=0):dw G d % p=G m*dR d m % p:=by rw[m7 G m,a6,qz (p:=p) G _ (gl d m) (ao _) λx=>by rw[kt];split;rw[c9];rfl;rename_i e;show h x e];rw[bj,cA]
def Sr.out (h:Sr s p st c len D)(hs:s≠0)(hk:¬(0<=k /\ k<=len)):look st (c+k*s)=0:=by exact au λhn=>hk ?_;have:=h.qg _ (di hn) (h.ok.on k);rwa [mT h.ok hs] at this
def A1 {st js:Pt}(hp:p=2 \/ p=3 \/ p=5 \/ p=7)(s0:0<=s)(sr:Sr s p st c len D)(low: ∀x,bL s x=c ->dw (λsh=>look st (x - s*sh)) js % p≠0 ->0<=hI s x /\ hI s x<len)(x:Int):dw (λsh=>look st (x - s*sh)) js % p=0:=by
 have p0:0<p:= ∅;by_cases z:s=0;have e: ∀x,dw (λsh=>look st (x - s*sh)) js=look st x*dw (λ_=>1) js:=λx=>by rw[<- nV];congr 1;funext sh;rw[z,bE,Int.sub_zero]
 have ht:=sr.top;rw[z,c9,bj] at ht;have h0:dw (λ_=>1) js % p=0:=by exact au λhn=> ?_;have:=low c sr.ok.own (by rw[e,ht,Int.one_mul];show hn);have:=sr.s0 z;lia
 rw[e,bT,h0,c9];rfl;have aas:0<s:= ∅;have hmul: ∀a b:Int,c+a*s - s*b=c+(a - b)*s:=λa b=>by rw[Int.sub_mul,bP s b];lia
 suffices yN: ∀y,dR js y % p=0 by show kg _ _ _ (ao _) yN
 intro y;exact au λhy=> ?_;have c6:(js.map (·.1)).filter (λy=>decide (dR js y % p≠0))≠ []:=λe=>by have:y∈(js.map (·.1)).filter (λy=>decide (dR js y % p≠0)):=aP.mpr #[kr λe0=>hy (by rw[e0];rfl),cb hy];rw[e] at this;cases this
 let⟨ma,mb⟩:=mE c6;let⟨la,lb⟩:=fQ c6;generalize sj _=m at ma mb;generalize fA _=k at la lb;have hm:dR js m % p≠0:= ⇑((aP.mp ma).2);have hk:dR js k % p≠0:= ⇑((aP.mp la).2);have At: ∀y,dR js y % p≠0 ->k<=y /\ y<=m:=λy h=>by have:y∈(js.map (·.1)).filter (λy=>decide (dR js y % p≠0)):=aP.mpr #[kr λe0=>h (by rw[e0];rfl),cb h];show#[lb y this,mb y this]
 have out: ∀y,¬(k<=y /\ y<=m) ->dR js y % p=0:=λy h=>au λh2=>h (At y h2);have h1:=low (c+(len+m)*s) (sr.ok.on _) (by rw[qA _ js m λy ne=> ?_,hmul,show len+m - m=len by lia,sr.top,Int.one_mul];show hm;rw[hmul];obtain h | h:=dC m y;rw[bT,out y ∅,c9];rfl;rw[sr.out z ∅,bE];rfl);rw[mT sr.ok z] at h1;have hc:=eD (jW sr.pat) sr.bot;have h2:=low (c+k*s) (sr.ok.on _) (by rw[qA _ js k λy ne=> ?_,hmul,Int.sub_self,bE,bj];show se hp hk _ hc.1 hc.2;rw[hmul];obtain h | h:=dC y k;rw[bT,out y ∅,c9];rfl;rw[sr.out z ∅,bE];rfl);rw[mT sr.ok z] at h2;have:=(At k hk).2;lia
def fk (s:Int)(sts:d3 Pt)(J:Nat ->Pt)(x:Int):Nat ->Int
 | 0=>0
 | n+1=>fk s sts J x n+dw (λsh=>look (sts.getD n []) (x - s*sh)) (J n)
theorem zu (s:Int)(sts:d3 Pt)(P:Pq)(x:Int): ∀n,ku s sts P x n=fk s sts (λi=>pf P i) x n
 | 0=>rfl
 | n+1=>by rw[ku,fk,zu s sts P x n]
theorem tT (s:Int)(sts:d3 Pt)(J J':Nat ->Pt)(x:Int): ∀n,fk s sts (λi=>J i++J' i) x n=fk s sts J x n+fk s sts J' x n
 | 0=>rfl
 | n+1=>by rw[fk,fk,fk,tT s sts J J' x n,m8];lia
theorem pH (s:Int)(sts:d3 Pt)(J:Nat ->Pt)(k x:Int): ∀n,fk s sts (λi=>tm k (J i)) x n=fk s sts J x n*k
 | 0=>by change(0:Int)=0*k;simp
 | n+1=>by rw[fk,fk,pH s sts J k x n,qy,Int.add_mul]
theorem zD (s:Int)(sts:d3 Pt)(x:Int): ∀n,fk s sts (λ_=> []) x n=0
 | 0=>rfl
 | n+1=>by rw[fk,zD s sts x n];rfl
theorem tS {s p:Int}{sts:d3 Pt}{J:Nat ->Pt}{x:Int}{i:Nat}: ∀n,i<n ->(∀j,j<n ->j≠i ->dw (λsh=>look (sts.getD j []) (x - s*sh)) (J j) % p=0) ->fk s sts J x n % p=dw (λsh=>look (sts.getD i []) (x - s*sh)) (J i) % p
 | 0,h,_=>absurd h (Nat.not_lt_zero _)
 | n + 1,h,hj=>by
  rw[fk];by_cases e:i=n;subst e;have: ∀m,m<=i ->fk s sts J x m % p=0:=λm=>by
   induction m with
   | zero=>intro _;show Int.zero_emod _
   | succ m ih=>intro hm;rw[fk,a6,ih ∅,hj m ∅ ∅];rfl
  rw[a6,this i (ao _),bO,cA];rw[a6,tS n ∅ (λj h1 h2=>hj j ∅ h2),hj n ∅ (λq=>e q.symm),bj,cA]
def Z5 (s p:Int)(sts:d3 Pt)(D:Int)(g:Int ->Int):Prop:= ∀ (i:Nat) st c len,sts[i]? =some st ->Sr s p st c len D -> ∀x,bL s x=c ->g x % p≠0 ->0<=hI s x /\ hI s x<len
def zE (hp:p=2 \/ p=3 \/ p=5 \/ p=7)(s0:0<=s)(gr:qK s p sts D)(e: ∀x,g x % p=fk s sts J x sts.length % p)(low:Z5 s p sts D g)(x:Int):fk s sts J x sts.length % p=0:=by
 have get: ∀i st,sts[i]? =some st ->sts.getD i []=st:=λi st h=>by rw[bB,h];rfl
 have key : ∀ (i:Nat),i<sts.length -> ∀x,dw (λsh=>look (sts.getD i []) (x - s*sh)) (J i) % p=0:=λi=>by
  induction i using Nat.strongRecOn with
  | ind i ih=>intro hi x;let⟨c,len,sr,_⟩:=gr.each i _ (am hi);rw[get i _ (am hi)];exact A1 hp s0 sr (λx hx c6=> ?_) x;exact low i _ c len (am hi) sr x hx ?_;rw[e,tS (i:=i) _ hi λj hj SK=> ?_,get i _ (am hi)];show c6;obtain h | h:=dz j i;show ih j h hj x;let⟨c2,E9,_M,_⟩:=gr.each j _ (am hj);have fE:=gr.xT i j _ _ c len c2 E9 ∅ (am hi) (am hj) sr _M;rw[get j _ (am hj)];rw[eI λk _=> ?_];rfl;exact au λhn=> ?_;have:=_M.ge _ (di hn);rw[gF,hx] at this;lia
 have: ∀m,m<=sts.length ->fk s sts J x m % p=0:=λm=>by
  induction m with
  | zero=>intro _;show Int.zero_emod _
  | succ m ih=>intro hm;rw[fk,a6,ih ∅,key m ∅];rfl
 show this _ (ao _)
def OZ (s p:Int)(sts:d3 Pt)(D:Int)(r:Pt):Prop:= ∀ (i:Nat) st c len,sts[i]? =some st ->Sr s p st c len D -> ∀x,bL s x=c ->look r x≠0 ->0<=hI s x /\ hI s x<len
def D0 {f:Int ->Int}(hp:p=2 \/ p=3 \/ p=5 \/ p=7)(s0:0<=s)(gr:qK s p sts D)(h:cy p r)(h':cy p r')(l:OZ s p sts D r)(l':OZ s p sts D r')(e: ∀x,look r x % p=(f x+fk s sts J x sts.length) % p)(e': ∀x,look r' x % p=(f x+fk s sts J' x sts.length) % p):r=r':=by
 have p0:0<p:= ∅;exact oZ h h' λx=> ?_;have k: ∀x,(look r x - look r' x) % p=fk s sts (λi=>J i++tm (-1) (J' i)) x sts.length % p:=λx=>by rw[tT,pH,Int.sub_emod,e,e', <- Int.sub_emod];congr 1;lia
 have hz:=zE hp s0 gr k (λi st c len hi sr x hx c6=>by by_cases z:look r x=0;by_cases z':look r' x=0;exact absurd ?_ c6;change(look r x - look r' x) % p=0;rw[z,z'];rfl;show l' i st c len hi sr x hx z';show l i st c len hi sr x hx z) x;rw[<- k x] at hz;have a:=jz p0 h x;have b:=jz p0 h' x;have:=cS;obtain q | q:=dC (look r x) (look r' x);have h2:(look r x - look r' x+p) % p=0:=by rw[Int.add_emod_right];show hz
 rw[bQ ∅ ∅] at h2;lia;rw[bQ ∅ ∅] at hz;lia
theorem ko.lowP (h:ko s p sts D Y pat r P sts.length):OZ s p sts D r:=λi st c len hi=>h.low i st c len (ak.mp hi).1 hi
def ko.eqv (h:ko s p sts D Y pat r P sts.length)(x:Int):look r x % p=(look pat x+fk s sts (λi=>pf P i) x sts.length) % p:=by rw[h.rel,zu,cA]
def Nu:kn:=λxs M q=>Mj λ(p s D Z Zm:Int) (sts:d3 Pt) (pat:Pt)=>qW (xs= [wi p,wi s, .tup (sts.map dX),dX pat]) (p=2 \/ p=3 \/ p=5 \/ p=7) (0<=s) (s<=8) (qK s p sts D) (cy p pat) (Wt Z pat) (CO (0<=Z) (0<=D) (D<=400000) (Z+sts.length*(D+s) <=Zm) (Zm<=400000) (sts.length<=13) (∀dU P,cy p dU ->Wt Zm dU ->ko s p sts D Zm pat dU P sts.length ->q (dX dU) M))
def dQ (s p:Int)(sts:d3 Pt)(f:Int ->Int):Prop:= ∃J:Nat ->Pt, ∀x,f x % p=fk s sts J x sts.length % p
theorem dQ.ext (h:dQ s p sts f)(e: ∀x,g x % p=f x % p):dQ s p sts g:=h.elim λJ hJ=>#[J,λx=>(e x).trans (hJ x)]
theorem dQ.zero:dQ s p sts λ_=>0:=#[λ_=> [],λx=>by rw[zD]]
def dQ.add (h:dQ s p sts f)(h':dQ s p sts g):dQ s p sts λx=>f x+g x:=by let⟨J,hJ⟩:=h;let⟨J',Vg⟩:=h';show#[λi=>J i++J' i,λx=>by rw[tT,a6,hJ,Vg, <- a6]]
def dQ.mul (h:dQ s p sts f)(k:Int):dQ s p sts λx=>f x*k:=by let⟨J,hJ⟩:=h;show#[λi=>tm k (J i),λx=>by rw[pH,bT,hJ, <- bT]]
theorem uJ (G:Int ->Int)(k:Int): ∀js:Pt,dw (λsh=>G (sh+k)) js=dw G (mv k js)
 | []=>rfl
 | z::r=>by have:mv k (z::r)=(z.1+k,z.2)::mv k r:=rfl;rw[this,cq,cq,uJ G k r]
theorem DI (s:Int)(sts:d3 Pt)(J:Nat ->Pt)(k x:Int): ∀n,fk s sts (λi=>mv k (J i)) x n=fk s sts J (x - s*k) n
 | 0=>rfl
 | n+1=>by rw[fk,fk,DI s sts J k x n, <- uJ];congr 2;funext sh;rw[Int.mul_add];congr 1;lia
def dQ.shift (h:dQ s p sts f)(k:Int):dQ s p sts λx=>f (x - s*k):=by let⟨J,hJ⟩:=h;show#[λi=>mv k (J i),λx=>by rw[DI,hJ]]
theorem dQ.dw {s p:Int}{sts:d3 Pt}{f:Int ->Int}(h:dQ s p sts f): ∀js:Pt,dQ s p sts λx=>dw (λsh=>f (x - s*sh)) js
 | []=>dQ.zero
 | z::r=>((h.shift z.1).mul z.2).add (dQ.dw h r)
theorem pI (s:Int)(sts:d3 Pt)(k:Nat)(v:Pt)(x:Int): ∀n,fk s sts (λi=>if i=k then v else []) x n=if k<n then dw (λsh=>look (sts.getD k []) (x - s*sh)) v else 0
 | 0=>rfl
 | n +1=>by rw[fk,pI s sts k v x n];by_cases e:n=k;subst e;rw[ap rfl,ai (cg _),ap (Nat.lt_succ_self _),bO];rw[ai e];by_cases h:k<n;rw[ap h,ap ∅];change _+0=_;rw[bj];rw[ai h,ai ∅];rfl
def dQ.of (h:st∈sts):dQ s p sts (look st):=by let⟨i,hi⟩:=bZ.mp h;have hl:=(ak.mp hi).1;exact#[λj=>if j=i then [(0,1)] else [],λx=> ?_];rw[pI,ap hl,bB,hi];change _=(look st (x - s*0)*1+0) % p;rw[c9,Int.sub_zero,Int.mul_one,bj]
theorem dQ.fk {s p:Int}{sts:d3 Pt}{sts':d3 Pt}(h: ∀st∈sts,dQ s p sts' (look st))(J:Nat ->Pt): ∀n,n<=sts.length ->dQ s p sts' λx=>fk s sts J x n
 | 0,_=>dQ.zero
 | n+1,hn=>by
  have hm:sts.getD n []∈sts:=by rw[bB,am ∅];show cx _
  show(dQ.fk h J n ∅).add ((h _ hm).dw (J n))
def dQ.trans (hf:dQ s p sts f)(h: ∀st∈sts,dQ s p sts' (look st)):dQ s p sts' f:=by let⟨J,hJ⟩:=hf;show(dQ.fk h J _ (ao _)).ext hJ
theorem kz (s:Int)(A B:d3 Pt)(J:Nat ->Pt)(x:Int): ∀n,fk s (A++B) J x (A.length+n)=fk s A J x A.length+fk s B (λi=>J (A.length+i)) x n
 | 0 =>by
  have: ∀n,n<=A.length ->fk s (A++B) J x n=fk s A J x n:=λn=>by
   induction n with
   | zero=>intro _;rfl
   | succ n ih=>
    intro h;rw[fk,fk,ih ∅];have e:(A++B).getD n []=A.getD n []:=by rw[bB,bB,bg ∅]
    rw[e]
  rw[Nat.add_zero,this _ (ao _)];change _=_+0;rw[bj]
 | n +1=>by
  have e:(A++B).getD (A.length+n) []=B.getD n []:=by rw[bB,bB,aY ∅,Nat.add_sub_cancel_left]
  rw[<- Nat.add_assoc,fk,kz s A B J x n,fk,e,Int.add_assoc]
def zb (p:Nat):Nat ->d3 (d3 Int)
 | 0=> [[]]
 | n+1=>(List.range p).flatMap λa:Nat=>(zb p n).map λv=>(a:Int)::v
theorem kj {p:Nat}: ∀ {n:Nat} {v:d3 Int},v∈zb p n↔v.length=n /\ ∀a∈v,0<=a /\ a<p
 | 0,v=>by change v∈ [[]]↔_;rw[ah];symm;rintro rfl;show#[rfl,λa h=>by cases h];rintro⟨h,_⟩;show cQ.mp h
 | n + 1,v=>by
  change v∈(List.range p).flatMap _↔_;rw[List.mem_flatMap];symm;rintro⟨a,ha,hv⟩;let⟨u,hu,rfl⟩:=ag.mp hv;let⟨h1,h2⟩:=kj.mp hu;have:=bS.mp ha;exact#[by rw[aK,h1],λb hb=> ?_];obtain rfl | hb:=ar.mp hb;show#[∅, ∅];show h2 b hb;rintro⟨h1,h2⟩;cases v with
  | nil=>cases h1
  | cons a u=>have ha:=h2 a aI;exact#[a.toNat,bS.mpr ∅,ag.mpr #[u,kj.mpr #[Nat.succ.inj h1,λb hb=>h2 b (av _ hb)],?_]];rw[show((a.toNat:Nat):Int)=a by lia]
theorem qI (p:Nat): ∀n,(zb p n).length=p ^ n
 | 0=>rfl
 | n +1=>by
  change((List.range p).flatMap _).length=_;rw[List.length_flatMap];have:((List.range p).map λa:Nat=>((zb p n).map λv=>(a:Int)::v).length)=List.replicate p (p ^ n):=by exact List.eq_replicate_iff.mpr #[by simp,λb hb=> ?_];let⟨a,_,rfl⟩:=ag.mp hb;rw[aa,qI p n]
  rw[this,List.sum_replicate_nat,Nat.pow_succ,Nat.mul_comm]
theorem A8 (p:Nat): ∀n,(zb p n).Nodup
 | 0=>by change([[]]:d3 (d3 Int)).Nodup;simp
 | n +1=>by change((List.range p).flatMap _).Nodup;rw[List.Nodup,List.pairwise_flatMap];exact#[λa _=> ?_,?_];rw[cc];show(A8 p n).imp λh e=>h (List.cons.inj e).2;exact List.Pairwise.imp_of_mem (R:=(· ≠ ·)) (λ{a b} _ _ h=> ?_) List.nodup_range;intro v h1 v' h2 ev;let⟨u1,_,e1⟩:=ag.mp h1;let⟨u2,_,e2⟩:=ag.mp h2;rw[<- ev, <- e1] at e2;show h (by have:=(List.cons.inj e2).1;lia)
def EZ {α:Type} [DecidableEq α]{ks:d3 α}: ∀ {l:d3 α},ks.Nodup ->(∀k∈ks,k∈l) ->ks.length<=l.length:=by
 induction ks with
 | nil=>intro l _ _;simp
 | cons k r ih=>
  intro l hn hs;rw[bw] at hn;have hk:k∈l:=hs k (by simp);have:=ih (l:=l.erase k) hn.2 λz hz=>by have Xx:z≠k:=λe=>hn.1 (e▸hz);show(List.mem_erase_of_ne Xx).mpr (hs z (by simp[hz]))
  rw[List.length_erase_of_mem hk] at this;have:0<l.length:=List.length_pos_of_mem hk;rw[aK];lia
def lc:d3 Int ->d3 (Int ->Int) ->Int ->Int
 | v::vs,g::gs,x=>v*g x+lc vs gs x
 | _,_,_=>0
def NS (x:Int): ∀ (gs:d3 (Int ->Int)) (v u:d3 Int),v.length=gs.length ->u.length=gs.length ->lc (List.zipWith (· - ·) v u) gs x=lc v gs x - lc u gs x:=by
 intro gs;induction gs with
 | nil=>intro v u h1 h2;cases cQ.mp h1;cases cQ.mp h2;rfl
 | cons g gs ih=>
  intro v u h1 h2;cases v with
  | nil=>cases h1
  | cons a v=>
   cases u with
   | nil=>cases h2
   | cons b u=>change(a - b)*g x+lc (List.zipWith (· - ·) v u) gs x=a*g x+lc v gs x - (b*g x+lc u gs x);rw[ih v u (Nat.succ.inj h1) (Nat.succ.inj h2),Int.sub_mul];lia
def CQ: ∀ {v u:d3 Int},v.length=u.length ->(∀a∈List.zipWith (· - ·) v u,a % p=0) ->(∀a∈v,0<=a /\ a<p) ->(∀a∈u,0<=a /\ a<p) ->v=u:=by
 intro v;induction v with
 | nil=>intro u h _ _ _;show(cQ.mp h.symm).symm
 | cons a v ih=>
  intro u h hz hv hu;cases u with
  | nil=>cases h
  | cons b u=>
   have h1:=hz (a - b) aI;have h2:=ih (Nat.succ.inj h) (λc hc=>hz c (av _ hc)) (λc hc=>hv c (av _ hc)) (λc hc=>hu c (av _ hc));have ha:=hv a aI;have hb:=hu b aI;have e:a=b:=by have:=aV.mpr h1;rwa [bQ ha.1 ha.2,bQ hb.1 hb.2] at this
   rw[e,h2]
def OQ {p:Nat}(p2:2<=p){X:d3 Int}(h: ∀v:d3 Int,v.length=gs.length ->(∀x∈X,lc v gs x % (p:Int)=0) -> ∀a∈v,a % (p:Int)=0):gs.length<=X.length:=by
 have p0:(0:Int) <p:= ∅;have key:((zb p gs.length).map λv=>X.map λx=>lc v gs x % (p:Int)).Nodup:=by rw[List.Nodup,cc];exact List.Pairwise.imp_of_mem (λ{v u} hv hu c6 e=>c6 ?_) (A8 p gs.length);let⟨v1,v2⟩:=kj.mp hv;let⟨u1,u2⟩:=kj.mp hu;exact CQ (p:=p) (v1.trans u1.symm) (h _ (by rw[List.length_zipWith,v1,u1,Nat.min_self]) λx hx=> ?_) v2 u2;rw[NS x gs v u v1 u1];show aV.mp (List.map_inj_left.mp e x hx)
 have:=EZ (l:=zb p X.length) key λk hk=>by let⟨v,_,rfl⟩:=ag.mp hk;exact kj.mpr #[by rw[aa],λa ha=> ?_];let⟨x,_,rfl⟩:=ag.mp ha;show#[cw _ ∅,cj _ p0]
 rw[aa,qI,qI] at this;show(Nat.pow_le_pow_iff_right ∅).mp this
def L7 (s:Int)(b:Pt):Int ->Nat ->d3 (Int ->Int)
 | _,0=> []
 | lo,n+1=>(λx=>look b (x - s*lo))::L7 s b (lo+1) n
def Bp:Int ->d3 Int ->Pt
 | _,[]=> []
 | lo,a::v=>(lo,a)::Bp (lo+1) v
theorem pj (s:Int)(b:Pt): ∀ (n:Nat) (lo:Int),(L7 s b lo n).length=n
 | 0,_=>rfl
 | n+1,lo=>by change(L7 s b (lo+1) n).length+1=_;rw[pj s b n]
theorem Fa (s:Int)(b:Pt)(x:Int): ∀ (v:d3 Int) (n:Nat) (lo:Int),v.length=n ->lc v (L7 s b lo n) x=dw (λsh=>look b (x - s*sh)) (Bp lo v)
 | [],_,lo,rfl=>rfl
 | a::v,_,lo,rfl=>by change a*look b (x - s*lo)+lc v (L7 s b (lo+1) v.length) x=_;rw[Fa s b x v _ (lo+1) rfl];have e:Bp lo (a::v)=(lo,a)::Bp (lo+1) v:=rfl;rw[e,cq,bP]
theorem ud: ∀ (v:d3 Int) (lo:Int), ∀z∈Bp lo v,lo<=z.1 /\ z.1<lo+v.length
 | [],_,z,h=>by cases h
 | a::v,lo,z,h=>by rw[aK];obtain rfl | h:=ar.mp h;show#[a4 _,by change lo<lo+_;push_cast;lia];have:=ud v (lo+1) z h;push_cast;lia
theorem vH {p:Int}: ∀ (v:d3 Int) (lo:Int),(∀y,dR (Bp lo v) y % p=0) -> ∀a∈v,a % p=0
 | [],_,_,a,h=>by cases h
 | b ::v,lo,ht,a,h=>by
  have e: ∀y,dR (Bp lo (b::v)) y=(if lo=y then b else 0)+dR (Bp (lo+1) v) y:=λy=>rfl;have h0:dR (Bp (lo+1) v) lo=0:=zq λq hq e=>by have:=ud v (lo+1) q hq;lia
  obtain rfl | h:=ar.mp h;have:=ht lo;rwa [e,ap rfl,h0,bj] at this;exact vH v (lo+1) (λy=> ?_) a h;by_cases z:lo=y;rw[<- z,h0];rfl;have:=ht y;rwa [e,ai z,bO] at this
theorem Fc (x:Int): ∀ (v1:d3 Int) (g1:d3 (Int ->Int)) (v2:d3 Int) (g2:d3 (Int ->Int)),v1.length=g1.length ->lc (v1++v2) (g1++g2) x=lc v1 g1 x+lc v2 g2 x
 | [],[],v2,g2,_=>by change lc v2 g2 x=0+_;rw[bO]
 | a::v1,g::g1,v2,g2,h=>by change a*g x+lc (v1++v2) (g1++g2) x=a*g x+lc v1 g1 x+_;rw[Fc x v1 g1 v2 g2 (Nat.succ.inj h),Int.add_assoc]
def Md (s:Int)(G:d3 (Pt×Int×Nat)):d3 (Int ->Int):=G.flatMap λg=>L7 s g.1 g.2.1 g.2.2
theorem AX (s:Int): ∀G:d3 (Pt×Int×Nat),(Md s G).length=(G.map λg=>g.2.2).sum
 | []=>rfl
 | g::G=>by change(L7 s g.1 g.2.1 g.2.2++Md s G).length=_;rw[aG,pj,AX s G];rfl
theorem Fb {p:Int}(s:Int): ∀ (G:d3 (Pt×Int×Nat)) (v:d3 Int),v.length=(Md s G).length -> ∃J:Nat ->Pt,dh (∀x,lc v (Md s G) x=fk s (G.map (·.1)) J x G.length) (∀i g,G[i]? =some g -> ∀z∈J i,g.2.1<=z.1 /\ z.1<g.2.1+g.2.2) ((∀i,i<G.length -> ∀y,dR (J i) y % p=0) -> ∀a∈v,a % p=0)
 | [],v,h=>by cases cQ.mp h;show#[λ_=> [],λx=>rfl,λi g h=>by simp at h,λ_ a h=>by cases h]
 | g ::G,v,h=>by
  have e:Md s (g::G)=L7 s g.1 g.2.1 g.2.2++Md s G:=rfl;rw[e,aG,pj] at h;let⟨J,h1,h2,h3⟩:=Fb (p:=p) s G (v.drop g.2.2) (by rw[List.length_drop,h];lia);have l1:(v.take g.2.2).length=g.2.2:=by rw[a7,h];lia
  exact#[λi=>match i with | 0=>Bp g.2.1 (v.take g.2.2) | i+1=>J i,λx=> ?_,λi u hu z hz=> ?_,λhz a ha=> ?_];have hc:=kz s [g.1] (G.map (·.1)) (λi=>match i with | 0=>Bp g.2.1 (v.take g.2.2) | i+1=>J i) x G.length;have e3:(λi=>(λi:Nat=>match i with | 0=>Bp g.2.1 (v.take g.2.2) | i+1=>J i) ([g.1].length+i))=J:=by funext i;change(match 1+i with | 0=>_ | i+1=>J i)=_;rw[Nat.add_comm]
  rw[e3] at hc;rw[e, <- bn g.2.2 v,Fc x _ _ _ _ (by rw[l1,pj]),bn,Fa s g.1 x _ _ _ l1,h1 x,aK,Nat.add_comm];change _=fk s ([g.1]++G.map (·.1)) _ x ([g.1].length+G.length);rw[hc];change _=0+dw (λsh=>look ([g.1].getD 0 []) (x - s*sh)) (Bp g.2.1 (v.take g.2.2))+_;rw[bO];rfl;cases i with
  | zero=>cases (show g=u from by simpa using hu);have:=ud _ _ z hz;rw[l1] at this;show this
  | succ i=>show h2 i u ⇑hu z hz
  rw[<- bn g.2.2 v] at ha;obtain ha | ha:=aA.mp ha;show vH _ _ (hz 0 (Nat.succ_pos _)) a ha;show h3 (λi hi=>hz (i+1) (by rw[aK];lia)) a ha
def tH (s p:Int)(bs:d3 Pt):Prop:= ∀J:Nat ->Pt,(∀x,fk s bs J x bs.length % p=0) -> ∀i,i<bs.length -> ∀y,dR (J i) y % p=0
def J7 (s p:Int)(sts:d3 Pt)(D:Int):Prop:= ∀ (i j:Nat) st bA c len,i<j ->sts[i]? =some st ->sts[j]? =some bA ->Sr s p bA c len D -> ∀x,bL s x=c ->look st x≠0 ->0<=hI s x /\ hI s x<len
def kN {sts:d3 Pt}(h:sts[i]? =some st):sts.getD i []=st:=by rw[bB,h];rfl
theorem zF {s:Int}{bs:d3 Pt}{J:Nat ->Pt}{x:Int}: ∀n,(∀i,i<n -> ∀z∈J i,look (bs.getD i []) (x - s*z.1)=0) ->fk s bs J x n=0
 | 0,_=>rfl
 | n+1,h=>by rw[fk,zF n λi hi=>h i ∅,eI λz hz=>h n ∅ z hz];rfl
def qx {w h an:Nat}(hp:p=2 \/ p=3 \/ p=5 \/ p=7)(s0:0<s)(gr:qK s p sts D)(trim:an=0 \/ J7 s p sts D)(F5:bs.length=sts.length)(ind:tH s p bs)(gM: ∀b∈bs,dQ s p sts (look b))(hw: ∀b∈bs, ∀x,look b x≠0 -> -(w:Int) <=hI s x /\ hI s x<=w)(ht:t∈sts)(hh:2*w<=h)(YF: ∀st∈sts,f9 s st<=Lm)(hLh:Lm<=h)(a0:0<=alo)(a1:alo+an+Lm<=h)(out: ∀js:Pt,(∀z∈js,alo<=z.1 /\ z.1<alo+an) ->(∀x,¬(0<=hI s x /\ hI s x<h) ->dw (λsh=>look t (x - s*sh)) js % p=0) -> ∀y,dR js y % p=0): sts.length*(h - 2*w)+an+(sts.map λst=>(f9 s st).toNat).sum<=sts.length*h:=by
 have p0:0<p:= ∅;have sn:s≠0:= ∅;have lC: ∀ (i:Nat) st,sts[i]? =some st ->Sr s p st (d7 s st) (f9 s st) D:=λi st hi=>by let⟨c,len,sr,_⟩:=gr.each i st hi;rw[sr.uD,sr.oU];show sr
 let G:d3 (Pt×Int×Nat):=bs.map (λb=>(b,(w:Int),h - 2*w))++((t,alo,an)::sts.map λst=>([(d7 s st,1)],0,(f9 s st).toNat))
 let X:d3 Int:=sts.flatMap λst=>(List.range h).map λη:Nat=>d7 s st+(η:Int)*s
 have hX:X.length=sts.length*h:=by change(sts.flatMap _).length=_;rw[List.length_flatMap];have:(sts.map λst=>((List.range h).map λη:Nat=>d7 s st+(η:Int)*s).length)=List.replicate sts.length h:=List.eq_replicate_iff.mpr #[by simp,λb hb=>by let⟨a,_,rfl⟩:=ag.mp hb;simp];rw[this,List.sum_replicate_nat]
 have hG:(Md s G).length=sts.length*(h - 2*w)+an+(sts.map λst=>(f9 s st).toNat).sum:=by rw[AX];change((bs.map (λb=>(b,(w:Int),h - 2*w))++((t,alo,an)::sts.map λst=>([(d7 s st,1)],0,(f9 s st).toNat))).map λg:Pt×Int×Nat=>g.2.2).sum=_;rw[aR,List.sum_append,aE,List.sum_cons,aH,aH];have:(bs.map ((λg:Pt×Int×Nat=>g.2.2) ∘ λb=>(b,(w:Int),h - 2*w)))=List.replicate bs.length (h - 2*w):=List.eq_replicate_iff.mpr #[by simp,λb hb=>by let⟨a,_,rfl⟩:=ag.mp hb;rfl];rw[this,List.sum_replicate_nat,F5,Nat.add_assoc];rfl
 rw[<- hG, <- hX];let⟨P,hP⟩: ∃P:Nat,(P:Int)=p:=#[p.toNat, ∅]
 exact OQ (p:=P) ∅ λv hv hz=> ?_;rw[hP] at hz ⊢;let⟨J,e1,e2,e3⟩:=Fb (p:=p) s G v hv;have GB:G.map (·.1)=bs++(t::sts.map λst=> [(d7 s st,1)]):=by change(bs.map (λb=>(b,(w:Int),h - 2*w))++((t,alo,an)::sts.map λst=>([(d7 s st,1)],0,(f9 s st).toNat))).map (·.1)=_;rw[aR,aE,aH,aH];congr 1;show List.map_id _
 have GL:G.length=bs.length+(1+sts.length):=by change(bs.map (λb=>(b,(w:Int),h - 2*w))++((t,alo,an)::sts.map λst=>([(d7 s st,1)],0,(f9 s st).toNat))).length=_;rw[aG,aa,aK,aa];lia
 let C:Int ->Int:=λx=>fk s (sts.map λst=> [(d7 s st,1)]) (λi=>J (bs.length+(1+i))) x sts.length
 let B:Int ->Int:=λx=>dw (λsh=>look t (x - s*sh)) (J bs.length)
 let U:Int ->Int:=λx=>fk s bs J x bs.length
 have eJ: ∀x,lc v (Md s G) x=U x+(B x+C x):=λx=>by rw[e1,GB,GL,kz];have:=kz s [t] (sts.map λst=> [(d7 s st,1)]) (λi=>J (bs.length+i)) x sts.length;change U x+fk s ([t]++sts.map λst=> [(d7 s st,1)]) (λi=>J (bs.length+i)) x ([t].length+sts.length)=_;rw[this];change U x+(0+dw (λsh=>look t (x - s*sh)) (J (bs.length+0))+C x)=_;rw[bO,Nat.add_zero]
 have kU: ∀i,i<bs.length -> ∀z∈J i,(w:Int) <=z.1 /\ z.1< (w:Int)+((h - 2*w:Nat):Int):=λi hi z oJ=>by have:=e2 i (bs[i],(w:Int),h - 2*w) (by change(bs.map _++_)[i]? =_;rw[bg ⇑hi,aB,am hi];rfl) z oJ;show this
 have kB: ∀z∈J bs.length,alo<=z.1 /\ z.1<alo+an:=λz oJ=>by have:=e2 bs.length (t,alo,an) (by change(bs.map _++_)[bs.length]? =_;rw[aY (by simp)];simp) z oJ;show this
 have kC: ∀i st,sts[i]? =some st -> ∀z∈J (bs.length+(1+i)),0<=z.1 /\ z.1<f9 s st:=λi st hi z oJ=>by have:=e2 (bs.length+(1+i)) ([(d7 s st,1)],0,(f9 s st).toNat) (by change(bs.map _++_)[_]? =_;rw[aY (by simp),aa,Nat.add_sub_cancel_left,Nat.add_comm,cR,aB,hi];rfl) z oJ;have h2:=(lC i st hi).l0;exact#[this.1,?_];have h3:=this.2;simp![bO] at h3;lia
 have zU: ∀x,¬(0<=hI s x /\ hI s x<h) ->U x=0:=λx hx=>zF _ λi hi z oJ=>au λc6=>hx (by
  have hb:bs.getD i []∈bs:=by rw[kN (am hi)];show cx _
  have h1:=hw _ hb _ c6;rw[j9 sn] at h1;have h2:=kU i hi z oJ;lia)
 have single: ∀ (c x:Int),look [(c,1)] x≠0 ->x=c:=λc x c6=>au λhn=>c6 (eC λq hq e=>hn (by rw[ah.mp hq] at e;show e.symm));have atC: ∀x i st,sts[i]? =some st ->bL s x=d7 s st ->C x % p=dw (λsh=>look [(d7 s st,1)] (x - s*sh)) (J (bs.length+(1+i))) % p:=λx i st hi hx=>by
  have hl:=(ak.mp hi).1;have h1:=tS (s:=s) (p:=p) (sts:=sts.map λst=> [(d7 s st,1)]) (J:=λi=>J (bs.length+(1+i))) (x:=x) (i:=i) sts.length hl λj hj SK=>by
   have iH:sts[j]? =some sts[j]:=am hj;rw[kN (st:= [(d7 s sts[j],1)]) (by rw[aB,iH];rfl)];rw[eI λz oJ=>au λc6=> ?_];rfl;have h2:=single _ _ c6;have h3:bL s (x - s*z.1)=d7 s sts[j]:=by rw[h2];show(lC j _ iH).ok.own
   rw[gF,hx] at h3;obtain q | q:=dz i j;have:=gr.xT i j st _ _ _ _ _ q hi iH (lC i st hi) (lC j _ iH);lia;have:=gr.xT j i _ st _ _ _ _ ∅ iH hi (lC j _ iH) (lC i st hi);lia
  have e4:(sts.map λst=> [(d7 s st,(1:Int))]).getD i []= [(d7 s st,1)]:=kN (by rw[aB,hi];rfl);rw[e4] at h1;show h1
 have dlt: ∀ (c x:Int) (js:Pt),dw (λsh=>look [(c,1)] (x - s*sh)) js=dw (λsh=>if x - s*sh=c then 1 else 0) js:=λc x js=>by congr 1;funext sh;by_cases e:x - s*sh=c;rw[ap e,e];show ap rfl;rw[ai e];show eC λq hq e'=>e (by rw[ah.mp hq] at e';show e'.symm)
 have Tv : ∀i st,sts[i]? =some st -> ∀x,bL s x=d7 s st ->(U x+B x+C x) % p=0:=λi st hi x hx=>by
  by_cases hr:0<=hI s x /\ hI s x<h;have:x∈X:=List.mem_flatMap.mpr #[st,aw hi,ag.mpr #[(hI s x).toNat,bS.mpr ∅,by rw[show(((hI s x).toNat:Nat):Int)=hI s x by lia];show(qH ∅ hx).symm]];have:=hz x this;rwa [eJ, <- Int.add_assoc] at this;have hb:B x=0:=eI λz oJ=>au λc6=>hr (by
    have h2:=kB z oJ;let⟨k,hk⟩:=bZ.mp ht;have hc:bL s (x - s*z.1)=d7 s st:=by rw[gF];show hx
    have h3:0<=hI s (x - s*z.1) /\ hI s (x - s*z.1) <=Lm:=by obtain an0 | trim:=trim;exfalso;lia;obtain q | q | q:=Nat.lt_trichotomy k i;have:=trim k i t st _ _ q hk hi (lC i st hi) _ hc c6;have:=YF st (aw hi);lia;subst q;rw[hk] at hi;cases hi;have:=(lC k t hk).qg _ (di c6) hc;have:=YF t ht;lia;have h5:=gr.xT i k st t _ _ _ _ q hi hk (lC i st hi) (lC k t hk);have:=(lC k t hk).ge _ (di c6);lia
    rw[j9 sn] at h3;lia)
  have hc:C x % p=0:=by
   rw[atC x i st hi hx,eI λz oJ=>au λc6=>hr ?_];rfl;have h2:=single _ _ c6;have h3:hI s (x - s*z.1)=0:=by rw[h2];show yP (lC i st hi).ok
   rw[j9 sn] at h3;have:=kC i st hi z oJ;have:=YF st (aw hi);lia
  rw[zU x hr,hb,a6,hc];rfl
 have hUB:dQ s p sts λx=>U x+B x:=(dQ.fk gM J _ (ao _)).add ((dQ.of ht).dw _);have hzero: ∀x,(U x+B x) % p=0:=by
  let⟨J',Vg⟩:=hUB;intro x;rw[Vg];exact zE hp ∅ gr Vg (λi st c len hi sr x hx c6=> ?_) x;have e5:=sr.uniq (lC i st hi);rw[e5.1] at hx;have h0:=Tv i st hi x hx;have PQ:C x % p≠0:=λe=>c6 (by rw[a6,e,bj,cA] at h0;show h0);rw[atC x i st hi hx,dlt] at PQ;have: ∃z∈J (bs.length+(1+i)),x - s*z.1=d7 s st:=au λhn=>PQ (by rw[eI λz oJ=>ai λe=>hn #[z,oJ,e]];rfl);let⟨z,Px,R_⟩:=this;have h3:hI s (x - s*z.1)=0:=by rw[R_];show yP (lC i st hi).ok
  rw[j9 sn] at h3;have:=kC i st hi z Px;rw[e5.2];show#[∅, ∅]
 have hB0: ∀y,dR (J bs.length) y % p=0:=out _ kB λx hx=>by have h1:=hzero x;rw[zU x hx,bO] at h1;show h1
 have hBx: ∀x,B x % p=0:=λx=>kg _ _ _ (ao _) hB0;have hU0:=ind J λx=>by have h1:=hzero x;rw[a6,hBx,bj,cA] at h1;show h1
 exact e3 λi hi y=> ?_;rw[GL] at hi;obtain q | q | q:=Nat.lt_trichotomy i bs.length;show hU0 i q y;rw[q];show hB0 y;let⟨k,rfl⟩: ∃k,i=bs.length+(1+k):=#[i - bs.length - 1, ∅]
 have hk:sts[k]? =some sts[k]:=am ∅;have hx:bL s (d7 s sts[k]+y*s)=d7 s sts[k]:=(lC k _ hk).ok.on y;have h0:=Tv k _ hk _ hx;rw[a6,hzero,bO,cA,atC _ k _ hk hx,dlt] at h0;have e6:(λsh=>if d7 s sts[k]+y*s - s*sh=d7 s sts[k] then(1:Int) else 0)=λsh=>if y - sh=0 then 1 else 0:=by
  funext sh;have e7:d7 s sts[k]+y*s - s*sh=d7 s sts[k]+(y - sh)*s:=by rw[Int.sub_mul,bP s sh];lia
  by_cases z:y - sh=0;rw[ap z,e7,z,ap ∅];rw[ai z,e7,ai];intro e8;have:(y - sh)*s=0:= ∅;obtain h9 | h9:=Int.mul_eq_zero.mp this;show z h9;show sn h9
 rw[e6,uK] at h0;show h0
def qK.of (gr:qK s p sts D)(h:st∈sts):Sr s p st (d7 s st) (f9 s st) D:=by let⟨i,hi⟩:=bZ.mp h;let⟨c,len,sr,_⟩:=gr.each i st hi;rw[sr.uD,sr.oU];show sr
theorem xH {α:Type}{f:α ->Nat}: ∀ {l:d3 α} {a:α},a∈l ->f a<=(l.map f).sum
 | b::l,a,h=>by rw[aE,List.sum_cons];obtain rfl | h:=ar.mp h;lia;have:=xH (f:=f) h;lia
def pX (hh:2*w<=h)(e:m*(h - 2*w)+a<=m*h):a<=2*m*w:=by
 have:m*(h - 2*w)+m*(2*w)=m*h:=by rw[<- Nat.mul_add];congr 1;lia
 have e2:m*(2*w)=2*m*w:=by rw[Nat.mul_left_comm,Nat.mul_assoc]
 lia
def Af {w:Nat}(hp:p=2 \/ p=3 \/ p=5 \/ p=7)(s0:0<s)(gr:qK s p sts D)(F5:bs.length=sts.length)(ind:tH s p bs)(gM: ∀b∈bs,dQ s p sts (look b))(hw: ∀b∈bs, ∀x,look b x≠0 -> -(w:Int) <=hI s x /\ hI s x<=w): (sts.map λst=>(f9 s st).toNat).sum<=2*sts.length*w:=by
 cases hs:sts with
 | nil=>show cB _
 | cons t r=>
  rw[<- hs];have ht:t∈sts:=by rw[hs];show aI
  have hL: ∀st∈sts,f9 s st<=(((sts.map λst=>(f9 s st).toNat).sum:Nat):Int):=λst h=>by have:=xH (f:=λst=>(f9 s st).toNat) h;have:=(gr.of h).l0;lia
  have:=qx (t:=t) (w:=w) (h:=2*w+(sts.map λst=>(f9 s st).toNat).sum) (an:=0) (alo:=0) (Lm:=(((sts.map λst=>(f9 s st).toNat).sum:Nat):Int)) hp s0 gr (.inl rfl) F5 ind gM hw ht ∅ hL (by push_cast;lia) (a4 _) (by push_cast;lia) λjs hk _ y=>by
   have:js= []:=by
    cases js with
    | nil=>rfl
    | cons z r=>have:=hk z aI;simp at this;lia
   rw[this];rfl
  rw[Nat.add_zero] at this;show pX ∅ this
def D_ {w:Nat}(hp:p=2 \/ p=3 \/ p=5 \/ p=7)(s0:0<s)(gr:qK s p sts D)(trim:J7 s p sts D)(F5:bs.length=sts.length)(ind:tH s p bs)(gM: ∀b∈bs,dQ s p sts (look b))(hw: ∀b∈bs, ∀x,look b x≠0 -> -(w:Int) <=hI s x /\ hI s x<=w)(ht:t∈sts)(hx:look t x≠0): -((2*sts.length*w:Nat):Int) <=hI s x /\ hI s x<=((2*sts.length*w:Nat):Int):=by
 have sn:s≠0:= ∅;have p0:0<p:= ∅;have hL: ∀st∈sts,f9 s st<=(((sts.map λst=>(f9 s st).toNat).sum:Nat):Int):=λst h=>by have:=xH (f:=λst=>(f9 s st).toNat) h;have:=(gr.of h).l0;lia
 have gt:=jW (gr.of ht).pat;have c6:mN s (bL s x) (d9 t)≠ []:=λe=>by have:=iX (di hx) (rfl:bL s x=bL s x);rw[e] at this;cases this
 let⟨ma,mb⟩:=mE c6;let⟨la,lb⟩:=fQ c6;generalize sj _=H at ma mb;generalize fA _=B at la lb;have hxH:=mb _ (iX (di hx) rfl);have hxB:=lb _ (iX (di hx) rfl);let⟨mh,mc⟩:=uR ∅ ma;let⟨lh,lc'⟩:=uR ∅ la;have Iz:jp s (bL s x):=uN ∅;have Iv: ∀k,H<k ->look t (bL s x+k*s)=0:=λk hk=>au λhn=>by have:=mb _ (iX (di hn) (Iz.on k));rw[mT Iz sn] at this;lia
 have WD: ∀k,k<B ->look t (bL s x+k*s)=0:=λk hk=>au λhn=>by have:=lb _ (iX (di hn) (Iz.on k));rw[mT Iz sn] at this;lia
 have hmul: ∀a b:Int,bL s x+a*s - s*b=bL s x+(a - b)*s:=λa b=>by rw[Int.sub_mul,bP s b];lia
 have S:=Af hp s0 gr F5 ind gM hw;have vq: ∀js:Pt,(∃y,dR js y % p≠0) ->(js.map (·.1)).filter (λy=>decide (dR js y % p≠0))≠ []:=λjs ⟨y,hy⟩ e=>by have:y∈(js.map (·.1)).filter (λy=>decide (dR js y % p≠0)):=aP.mpr #[kr λe0=>hy (by rw[e0];rfl),cb hy];rw[e] at this;cases this
 have Fm: ∀ (js:Pt) y,dR js y % p≠0 ->y∈(js.map (·.1)).filter (λy=>decide (dR js y % p≠0)):=λjs y hy=>aP.mpr #[kr λe0=>hy (by rw[e0];rfl),cb hy];generalize hΛ:(sts.map λst=>(f9 s st).toNat).sum=Λ at hL S;symm;obtain hb | hb:=dC B 0;have :=qx (t:=t) (w:=w) (h:=(-B).toNat+Λ+2*w) (an:=(-B).toNat) (alo:=0) (Lm:=(Λ:Int)) hp s0 gr (.inr trim) F5 ind gM hw ht ∅ hL (by push_cast;lia) (a4 _) (by push_cast;lia) λjs hk hz y=>by
  exact au λhy=> ?_;let⟨k1,k2⟩:=fQ (vq js #[y,hy]);generalize fA _=k at k1 k2;have Yb:dR js k % p≠0:= ⇑((aP.mp k1).2);let⟨z,Px,R_⟩:=ag.mp (aP.mp k1).1;have X_:=hk z Px;rw[R_] at X_;have h1:=hz (bL s x+(B+k)*s) (by rw[mT Iz sn];lia);rw[qA _ js k λy' ne=> ?_,hmul,show B+k - k=B by lia] at h1;have hv:=eD gt lh;show se hp Yb _ hv.1 hv.2 h1;rw[hmul];obtain h | h:=dC y' k;have:dR js y' % p=0:=au λh2=>by have:=k2 _ (Fm js y' h2);lia
  rw[bT,this,c9];rfl;rw[WD _ ∅,bE];rfl
 rw[hΛ,Nat.add_assoc] at this;have:=pX ∅ this;lia;lia;obtain hb | hb:=dC (Λ:Int) H;have :=qx (t:=t) (w:=w) (h:=H.toNat+2*w) (an:=(H - Λ).toNat) (alo:=2*w) (Lm:=(Λ:Int)) hp s0 gr (.inr trim) F5 ind gM hw ht ∅ hL (by push_cast;lia) ∅ (by push_cast;lia) λjs hk hz y=>by
  exact au λhy=> ?_;let⟨k1,k2⟩:=mE (vq js #[y,hy]);generalize sj _=k at k1 k2;have Yb:dR js k % p≠0:= ⇑((aP.mp k1).2);let⟨z,Px,R_⟩:=ag.mp (aP.mp k1).1;have X_:=hk z Px;rw[R_] at X_;have h1:=hz (bL s x+(H+k)*s) (by rw[mT Iz sn];push_cast;lia);rw[qA _ js k λy' ne=> ?_,hmul,show H+k - k=H by lia] at h1;have hv:=eD gt mh;show se hp Yb _ hv.1 hv.2 h1;rw[hmul];obtain h | h:=dC k y';have:dR js y' % p=0:=au λh2=>by have:=k2 _ (Fm js y' h2);lia
  rw[bT,this,c9];rfl;rw[Iv _ ∅,bE];rfl
 rw[hΛ,Nat.add_assoc] at this;have:=pX ∅ this;lia;lia
def wy (hp:p=2 \/ p=3 \/ p=5 \/ p=7)(s0:0<=s)(gr:qK s p sts D)(h:dQ s p sts A)(hz: ∀x,bL s x<c ->A x % p=0)(hx: ∃x,bL s x=c /\ A x % p≠0):c∈sts.map (d7 s):=by
 let⟨J,hJ⟩:=h;let⟨x0,hx0,c6⟩:=hx;exact au λhc=>c6 ?_;have get: ∀i st,sts[i]? =some st ->sts.getD i []=st:=λi st h=>kN h;have sr: ∀i (hi:i<sts.length),Sr s p sts[i] (d7 s sts[i]) (f9 s sts[i]) D:=λi hi=>gr.of (cx _);have later: ∀i j (hi:i<sts.length) (hj:j<sts.length),i<j -> ∀x,bL s x<=d7 s sts[i] ->dw (λsh=>look sts[j] (x - s*sh)) (J j)=0:=λi j hi hj gU x hx=>eI λz _=>au λhn=>by have h1:=(sr j hj).ge _ (di hn);rw[gF] at h1;have:=gr.xT i j _ _ _ _ _ _ gU (am hi) (am hj) (sr i hi) (sr j hj);lia
 have key: ∀ (i:Nat) (hi:i<sts.length),d7 s sts[i] <c -> ∀x,dw (λsh=>look sts[i] (x - s*sh)) (J i) % p=0:=λi=>by
  induction i using Nat.strongRecOn with
  | ind i ih=>intro hi fE x;exact A1 hp s0 (sr i hi) (λx hx hn=> ?_) x;exfalso;exact hn ?_;have h1:=hz x ∅;rw[hJ,tS (i:=i) _ hi λj hj SK=> ?_,get i _ (am hi)] at h1;show h1;rw[get j _ (am hj)];obtain q | q:=dz j i;have:=gr.xT j i _ _ _ _ _ _ q (am hj) (am hi) (sr j hj) (sr i hi);show ih j q hj ∅ x;rw[later i j hi hj ∅ x ∅];rfl
 rw[hJ];have : ∀ m,m<=sts.length ->fk s sts J x0 m % p=0:=λm=>by
  induction m with
  | zero=>intro _;show Int.zero_emod _
  | succ m ih=>
   intro hm;have U6:m<sts.length:= ∅;rw[fk,a6,ih ∅,get m _ (am U6)];have h2:dw (λsh=>look sts[m] (x0 - s*sh)) (J m) % p=0:=by obtain q | q | q:=Int.lt_trichotomy (d7 s sts[m]) c;show key m U6 q x0;show absurd (ag.mpr #[_,cx U6,q]) hc;rw[eI λz _=>au λhn=>by have h1:=(sr m U6).ge _ (di hn);rw[gF] at h1;lia];rfl
   rw[h2];rfl
 show this _ (ao _)
theorem pq (F G:Int ->Int): ∀js:Pt,dw (λt=>F t+G t) js=dw F js+dw G js
 | []=>rfl
 | z::r=>by rw[cq,cq,cq,pq F G r,Int.add_mul];lia
theorem AY (F:Int ->Int)(k:Int): ∀js:Pt,dw (λt=>F t*k) js=dw F js*k
 | []=>by change(0:Int)=0*k;simp
 | z::r=>by rw[cq,cq,AY F k r,Int.add_mul];congr 1;rw[Int.mul_assoc,Int.mul_assoc,bP k]
theorem wW (f:Int ->Int)(s x:Int)(q:Pt): ∀a:Pt,dw (λsh=>dw (λt=>f (x - s*sh - s*t)) q) a=dw (λt=>dw (λsh=>f (x - s*t - s*sh)) a) q
 | []=>by rw[show(λt:Int=>dw (λsh=>f (x - s*t - s*sh)) [])=λ_=>0 from rfl,AZ];rfl
 | z::r=>by have e:(λt=>dw (λsh=>f (x - s*t - s*sh)) (z::r))=λt=>f (x - s*t - s*z.1)*z.2+dw (λsh=>f (x - s*t - s*sh)) r:=rfl;rw[cq,wW f s x q r,e,pq,AY];congr 2;congr 1;funext t;congr 1;lia
theorem A0 {p:Int}{F G:Int ->Int}(h: ∀t,F t % p=G t % p): ∀js:Pt,dw F js % p=dw G js % p
 | []=>rfl
 | z::r=>by rw[cq,cq,a6,A0 h r,bT,h, <- bT, <- a6]
def yF (hp:p=2 \/ p=3 \/ p=5 \/ p=7)(s0:0<s)(gr:qK s p sts D)(HH:qK s p sts' D')(ind:tH s p bs)(gM: ∀b∈bs,dQ s p sts (look b))(dS:sts.length<sts'.length)(hq: ∀st∈sts', ∃q:Pt,dQ s p sts λx=>look st x - dw (λsh=>look P (x - s*sh)) q):tH s p (bs++ [P]):=by
 have sn:s≠0:= ∅;intro J hJ;have wg: ∀x,(fk s bs J x bs.length+dw (λsh=>look P (x - s*sh)) (J bs.length)) % p=0:=λx=>by
  have h1:=hJ x;rw[aG,bF,kz s bs [P] J x 1] at h1;have e:fk s [P] (λi=>J (bs.length+i)) x 1=dw (λsh=>look P (x - s*sh)) (J bs.length):=by change 0+dw (λsh=>look ([P].getD 0 []) (x - s*sh)) (J (bs.length+0))=_;rw[bO];rfl
  rw[e] at h1;show h1
 have a0 : ∀ y,dR (J bs.length) y % p=0:=by
  intro y;exact au λhy=> ?_;have hP:dQ s p sts λx=>dw (λsh=>look P (x - s*sh)) (J bs.length):=by exact((dQ.fk gM J _ (ao _)).mul (-1)).ext λx=> ?_;have h1:=wg x;exact aV.mpr ?_;rw[<- h1];congr 1;lia
  have hA: ∀st∈sts',dQ s p sts λx=>dw (λsh=>look st (x - s*sh)) (J bs.length):=λst iB=>by let⟨q,hq⟩:=hq st iB;exact((hq.dw (J bs.length)).add (hP.dw q)).ext λx=> ?_;rw[<- wW (look P) s x q (J bs.length), <- pq];congr 2;funext sh;lia
  have c6:((J bs.length).map (·.1)).filter (λy=>decide (dR (J bs.length) y % p≠0))≠ []:=λe=>by have:y∈((J bs.length).map (·.1)).filter (λy=>decide (dR (J bs.length) y % p≠0)):=aP.mpr #[kr λe0=>hy (by rw[e0];rfl),cb hy];rw[e] at this;cases this
  let⟨k1,k2⟩:=mE c6;generalize sj _=m at k1 k2;have hm:dR (J bs.length) m % p≠0:= ⇑((aP.mp k1).2);have SY: ∀c∈sts'.map (d7 s),c∈sts.map (d7 s):=λc hc=>by
   let⟨st,iB,rfl⟩:=ag.mp hc;have sr:=HH.of iB;have hmul: ∀a b:Int,d7 s st+a*s - s*b=d7 s st+(a - b)*s:=λa b=>by rw[Int.sub_mul,bP s b];lia
   exact wy hp ∅ gr (hA st iB) (λx hx=> ?_) #[d7 s st+(f9 s st+m)*s,sr.ok.on _,?_];rw[eI λz _=>au λhn=>by have h1:=sr.ge _ (di hn);rw[gF] at h1;lia];rfl;rw [qA _ (J bs.length) m λy' ne=> ?_,hmul,show f9 s st+m - m=f9 s st by lia,sr.top,Int.one_mul];show hm;rw [hmul];obtain h | h:=dC m y';have:dR (J bs.length) y' % p=0:=au λh2=>by have:=k2 y' (aP.mpr #[kr λe0=>h2 (by rw[e0];rfl),cb h2]);lia
   rw[bT,this,c9];rfl;rw[sr.out sn ∅,bE];rfl
  have nd:(sts'.map (d7 s)).Nodup:=by rw[List.Nodup,cc,bv];intro i j hi hj gU e;have:=HH.xT i j _ _ _ _ _ _ gU (am hi) (am hj) (HH.of (cx _)) (HH.of (cx _));lia
  have:=fZ nd SY;rw[aa,aa] at this;lia
 intro i hi y;rw[aG,bF] at hi;obtain q | q:=dz i bs.length;exact ind J (λx=> ?_) i q y;have h1:=wg x;rw[a6,kg _ _ _ (ao _) a0,bj,cA] at h1;show h1;rw[show i=bs.length by lia];show a0 y
def nB (s Z l h:Int)(a:Pt):Prop:=(∀x,look a x≠0 -> -l<=hI s x /\ hI s x<=h) /\ (s=0 ->Wt Z a)
def nY (s l h:Int)(P:Pq):Prop:= ∀w x,look (pf P w) x≠0 -> -l<=x /\ x<=h
theorem nB.up (x:nB s Z l h a)(hl:l<=l')(hh:h<=h'):nB s Z l' h' a:=#[λy hy=>by have:=x.1 y hy;lia,x.2]
theorem nY.up (x:nY s l h P)(hl:l<=l')(hh:h<=h'):nY s l' h' P:=λw y hy=>by have:=x w y hy;lia
theorem mS (x:Int):hI 0 x=0:=ap rfl
theorem nB.wt (x:nB s Z l h a)(s0:0<=s)(s8:s<=8)(z0:0<=Z)(hl:l<=E)(hh:h<=E)(e0:0<=E):Wt (Z+8*(E+1)) a:=λy hy=>by by_cases z:s=0;have:=x.2 z y hy;lia;have h1:=x.1 y hy;have h2:=yQ (s:=s) (x:=y) ∅;have h3:=a9 (show hI s y<=E by lia) s0;have h4:=a9 (show -E<=hI s y by lia) s0;have h5:=bf s8 e0;rw[Int.mul_neg] at h4;lia
theorem nY.wt (x:nY s l h P)(nd:(P.map (·.1)).Nodup)(hl:l<=E)(hh:h<=E): ∀t∈P,Wt E t.2.2:=λt ht y hy=>by rw[<- nJ nd ht] at hy;have:=x t.1 y hy;lia
def nB.cut {js:Pt}(ha:nB s Z l h a)(PU:nB s Z lb hb b)(ec: ∀x,look c x=(look a x+dw (λsh=>look b (x - s*sh)) js) % p)(hj: ∀j∈js, -jl<=j.1 /\ j.1<=jh)(G_:s=0 -> ∀j∈js,j.1=0)(hl:l<=l')(Oj:lb+jl<=l')(hh:h<=h')(hh2:hb+jh<=h'):nB s Z l' h' c:=by
 have one: ∀x,look c x≠0 ->look a x≠0 \/ ∃j∈js,look b (x - s*j.1)≠0:=λx hx=>by by_cases z:look a x=0;exact .inr (au λhn=>hx ?_);rw[ec,z,eI λj iH=>au λhq=>hn #[j,iH,hq]];rfl;show .inl z
 exact#[λx hx=> ?_,λz x hx=> ?_];obtain q | ⟨j,iH,q⟩:=one x hx;have:=ha.1 x q;lia;have h1:=PU.1 _ q;have h2:=hj j iH;by_cases z:s=0;have h3:=G_ z j iH;rw[z,mS] at h1 ⊢;lia;rw[j9 z] at h1;lia;obtain q | ⟨j,iH,q⟩:=one x hx;show ha.2 z x q;have:=PU.2 z _ q;rw[z,bE,Int.sub_zero] at this;show this
theorem nY.cut {js:Pt}(ha:nY s l h P)(PU:nY s lb hb Q)(ec: ∀w x,look (pf P' w) x=(look (pf P w) x+dw (λsh=>look (pf Q w) (x - sh)) js) % p)(hj: ∀j∈js, -jl<=j.1 /\ j.1<=jh)(hl:l<=l')(Oj:lb+jl<=l')(hh:h<=h')(hh2:hb+jh<=h'):nY s l' h' P':=λw x hx=>by by_cases z:look (pf P w) x=0;have: ∃j∈js,look (pf Q w) (x - j.1)≠0:=au λhn=>hx (by rw[ec,z,eI λj iH=>au λhq=>hn #[j,iH,hq]];rfl);let⟨j,iH,q⟩:=this;have h1:=PU w _ q;have h2:=hj j iH;lia;have:=ha w x z;lia
def nB.stood (ha:nB s Z l h a)(eb: ∀x,look b x=look a (x+s*m)*tn % p)(hm:s=0 ->m=0):nB s Z (l+m) (h - m) b:=by have one: ∀x,look b x≠0 ->look a (x+s*m)≠0:=λx hx e=>hx (by rw[eb,e,bE];rfl);exact#[λx hx=> ?_,λz x hx=> ?_];have h1:=ha.1 _ (one x hx);by_cases z:s=0;have h2:=hm z;rw[z,mS] at h1 ⊢;lia;rw[bP,pe z] at h1;lia;have:=ha.2 z _ (one x hx);rw[z,bE,bj] at this;show this
theorem nY.stood (ha:nY s l h P)(eb: ∀w x,look (pf Q w) x=look (pf P w) (x+m)*tn % p):nY s (l+m) (h - m) Q:=λw x hx=>by have:=ha w (x+m) (λe=>hx (by rw[eb,e,bE];rfl));lia
theorem xE {f len bl bh:Int}{js:Pt}(l0:0<=len)(hs:ms.Pairwise (· <= ·))(hn:ms.Nodup)(hm: ∀m∈ms,bl<=m /\ m<=bh)(hj: ∀j∈js, ∃h∈pD ms len,j.1=i_ len h): ∀j∈js,(bl<=j.1 /\ j.1<0) \/ (0<=j.1 /\ j.1<=bh - len):=λj iH=>by let⟨h,hh,e⟩:=hj j iH;have H:=(Di l0 hs hn).1.out h hh;have B:=Dj l0 hh;rw[e];unfold i_;split;rename_i z;let⟨m,h1,h2⟩:=B.1 z;have:=hm m h1;show .inl #[∅,z];rename_i z;let⟨m,h1,h2⟩:=B.2 ∅;have:=hm m h1;show .inr #[∅, ∅]
structure nX (s p:Int)(aQ:List Pt)(b:Pt)(Q:Pq):Prop where
 is: ∀x,look b x % p=ku s aQ Q x aQ.length % p
 key: ∀w∈Q.map (·.1),0<=w /\ w< (aQ.length:Int)
def AA (q js:Pt):Pt:=js.flatMap λj=>tm j.2 (mv j.1 q)
theorem zr (q:Pt)(y:Int): ∀js:Pt,dR (AA q js) y=dw (λsh=>dR q (y - sh)) js
 | []=>rfl
 | j::r=>by change dR (tm j.2 (mv j.1 q)++AA q r) y=_;rw[ij,zr q y r,cq,tQ,Dg]
theorem A2 (G:Int ->Int)(q:Pt): ∀js:Pt,dw G (AA q js)=dw (λj=>dw (λsh=>G (sh+j)) q) js
 | []=>rfl
 | j::r=>by change dw G (tm j.2 (mv j.1 q)++AA q r)=_;rw[m8,A2 G q r,cq,qy, <- uJ]
theorem zv {s p:Int}{aQ:d3 Pt}{P P' Q:Pq}{js:Pt}(nP: ∀w,((pf P w).map (·.1)).Nodup)(UR: ∀w,((pf P' w).map (·.1)).Nodup)(nQ: ∀w,((pf Q w).map (·.1)).Nodup) (ep: ∀w x,look (pf P' w) x=(look (pf P w) x+dw (λsh=>look (pf Q w) (x - sh)) js) % p) (x:Int): ∀n,ku s aQ P' x n % p=(ku s aQ P x n+dw (λsh=>ku s aQ Q (x - s*sh) n) js) % p
 | 0=>by change(0:Int) % p=(0+dw (λ_=>0) js) % p;rw[AZ];rfl
 | n +1=>by
  have h1:=px (p:=p) (λsh=>look (aQ.getD n []) (x - s*sh)) (a:=pf P' n) (b:=pf P n++AA (pf Q n) js) λy=>by rw[ij,zr,d6 (UR n),d6 (nP n),ep,cA];congr 2;congr 1;funext sh;rw[d6 (nQ n)]
  rw[m8,A2] at h1;have e:(λsh=>ku s aQ Q (x - s*sh) (n+1))=λsh=>ku s aQ Q (x - s*sh) n+dw (λt=>look (aQ.getD n []) (x - s*sh - s*t)) (pf Q n):=rfl;have e2:(λj=>dw (λsh=>look (aQ.getD n []) (x - s*(sh+j))) (pf Q n))=λsh=>dw (λt=>look (aQ.getD n []) (x - s*sh - s*t)) (pf Q n):=by funext j;congr 1;funext sh;congr 1;rw[Int.mul_add];lia
  rw[e2] at h1;rw[ku,ku,e,pq,a6,zv nP UR nQ ep x n,h1, <- a6];congr 1;lia
theorem rP {s p m tn:Int}{aQ:d3 Pt}{P Q:Pq}(nP: ∀w,((pf P w).map (·.1)).Nodup)(nQ: ∀w,((pf Q w).map (·.1)).Nodup)(ep: ∀w x,look (pf Q w) x=look (pf P w) (x+m)*tn % p)(x:Int): ∀n,ku s aQ Q x n % p=ku s aQ P (x+s*m) n*tn % p
 | 0=>by change(0:Int) % p=0*tn % p;rw[bE]
 | n +1=>by
  have h1:=px (p:=p) (λsh=>look (aQ.getD n []) (x - s*sh)) (a:=pf Q n) (b:=tm tn (mv (-m) (pf P n))) λy=>by rw[tQ,Dg,d6 (nQ n),d6 (nP n),ep,cA,Int.sub_neg]
  rw[qy, <- uJ] at h1;have e2:(λsh=>look (aQ.getD n []) (x - s*(sh+ -m)))=λsh=>look (aQ.getD n []) (x+s*m - s*sh):=by funext sh;congr 1;rw[Int.mul_add,Int.mul_neg];lia
  rw[e2] at h1;rw[ku,ku,Int.add_mul,a6,rP nP nQ ep x n,h1, <- a6]
theorem nX.cut {js:Pt}(ha:nX s p aQ a P)(hb:nX s p aQ b Q)(nP: ∀w,((pf P w).map (·.1)).Nodup)(UR: ∀w,((pf P' w).map (·.1)).Nodup)(nQ: ∀w,((pf Q w).map (·.1)).Nodup)(ec: ∀x,look c x=(look a x+dw (λsh=>look b (x - s*sh)) js) % p)(ep: ∀w x,look (pf P' w) x=(look (pf P w) x+dw (λsh=>look (pf Q w) (x - sh)) js) % p)(hk: ∀w∈P'.map (·.1),w∈P.map (·.1) \/ w∈Q.map (·.1)):nX s p aQ c P':=#[λx=>by rw[ec,cA,zv nP UR nQ ep,a6,ha.is,A0 (λsh=>hb.is (x - s*sh)) js, <- a6],λw hw=>(hk w hw).elim (ha.key w) (hb.key w)]
theorem nX.stood (ha:nX s p aQ a P)(nP: ∀w,((pf P w).map (·.1)).Nodup)(nQ: ∀w,((pf Q w).map (·.1)).Nodup)(eb: ∀x,look b x=look a (x+s*m)*tn % p)(ep: ∀w x,look (pf Q w) x=look (pf P w) (x+m)*tn % p)(hk: ∀w∈Q.map (·.1),w∈P.map (·.1)):nX s p aQ b Q:=#[λx=>by rw[eb,cA,rP nP nQ ep,bT,ha.is, <- bT],λw hw=>ha.key w (hk w hw)]
def dQ.back {js:Pt}(hc:dQ s p G (look c))(hb:dQ s p G (look b))(ec: ∀x,look c x=(look a x+WQ.dw (λsh=>look b (x - s*sh)) js) % p):dQ s p G (look a):=by exact(hc.add ((hb.dw js).mul (-1))).ext λx=> ?_;rw[ec,Int.emod_add_emod];congr 1;lia
def dQ.zn (hp:p=2 \/ p=3 \/ p=5 \/ p=7)(t0:0<tn)(t1:tn<p)(hb:dQ s p G (look b))(eb: ∀x,look b x=look a (x+s*m)*tn % p):dQ s p G (look a):=by
 let⟨u,hu⟩: ∃u:Int,tn*u % p=1:=by obtain rfl | rfl | rfl | rfl:=hp;show#[1,by rw[show tn=1 by lia];rfl];have:tn=1 \/ tn=2:= ∅;obtain rfl | rfl:=this;show#[1,rfl];show#[2,rfl];have:tn=1 \/ tn=2 \/ tn=3 \/ tn=4:= ∅;obtain rfl | rfl | rfl | rfl:=this;show#[1,rfl];show#[3,rfl];show#[2,rfl];show#[4,rfl];have:tn=1 \/ tn=2 \/ tn=3 \/ tn=4 \/ tn=5 \/ tn=6:= ∅;obtain rfl | rfl | rfl | rfl | rfl | rfl:=this;show#[1,rfl];show#[4,rfl];show#[5,rfl];show#[2,rfl];show#[3,rfl];show#[6,rfl]
 exact((hb.shift m).mul u).ext λx=> ?_;rw[eb,bT,cA, <- bT,show x - s*m+s*m=x by lia,Int.mul_assoc,bT,hu,Int.mul_one,cA]
structure eN where
 c:Int
 o:Addr
 ds:Addr
 ol:Addr
 op:Addr
 len:Int
 foot:Int
 b:Pt
 Q:Pq
def eN.adr (t:eN):d3 gi:=bJ t.ol t.op t.Q
def kX (L:d3 eN):d3 (cf×W):=L.map λt=>((Sum.inl t.c:cf),wr t.o)
structure tG (S:Addr)(s p:Int)(M:Mp)(t:eN):Prop where
 ins:M t.o=some (.ins S t.ds [("lamps",wr t.ol),("parts",wr t.op),("first",wi t.c),("length",wi t.len),("foot",wi t.foot)])
 row:cG p M t.ol t.op t.b t.Q
 jU:zd s p t.b t.c t.len t.foot
structure l3 (S:Addr)(s p:Int)(M:Mp)(hd:Addr)(L:List eN):Prop where
 sM:M hd=some (.dK (kX L))
 each: ∀t∈L,tG S s p M t
 nd:(L.map (·.c)).Nodup
 nA:L.Pairwise λt u=> ∀x∈t.adr,x∉u.adr
 sC: ∀t∈L,hd∉t.adr
def gG (L:d3 eN)(t:eN):d3 eN:=L.map λu=>if u.c=t.c then t else u
def xx (L:d3 eN)(c:Int):eX (kX L) (.inl c)=(L.find? λt=>decide (t.c=c)).map λt=>wr t.o:=by
 have:kX L=l5 (L.map λt=>(t.c,t.o,[])):=by unfold kX l5;rw[aH];rfl
 rw[this,tO,List.find?_map];cases e:L.find? (λt=>decide (t.c=c)) with
 | none=>rw[show((λt:Int×gi×Pt=>decide (t.1=c)) ∘ λt:eN=>(t.c,t.o,[]))=λt=>decide (t.c=c) from rfl,e];rfl
 | some t=>rw[show((λt:Int×gi×Pt=>decide (t.1=c)) ∘ λt:eN=>(t.c,t.o,[]))=λt=>decide (t.c=c) from rfl,e];rfl
theorem lD {L:d3 eN}(h:L.find? (λt=>decide (t.c=c))=some t):t∈L /\ t.c=c:=#[List.mem_of_find?_eq_some h, ⇑(List.find?_some h)]
theorem pJ {L:d3 eN}(h:L.find? (λt=>decide (t.c=c))=none):c∉L.map (·.c):=λhm=>by let⟨t,ht,e⟩:=ag.mp hm;have:=List.find?_eq_none.mp h t ht;simp[e] at this
def rS {L:d3 eN}(nd:(L.map (·.c)).Nodup)(h:t∈L):L.find? (λu=>decide (u.c=t.c))=some t:=by
 cases e:L.find? (λu=>decide (u.c=t.c)) with
 | none=>show absurd (ag.mpr #[t,h,rfl]) (pJ e)
 | some u=>let⟨h1,h2⟩:=lD e;rw[gy nd h1 h h2]
def H_ (hc:t.c=c)(h:c∉L.map (·.c)):jf (kX L) (.inl c) (wr t.o)=kX (L++ [t]):=by
 have e1:kX L=l5 (L.map λt=>(t.c,t.o,[])):=by unfold kX l5;rw[aH];rfl
 rw[e1,Eg (c:= []) (by rw[aH];show h)];unfold kX l5;rw[aR,aR,aH, <- hc];rfl
def H0 (h:t.c∈L.map (·.c)):jf (kX L) (.inl t.c) (wr t.o)=kX (gG L t):=by
 unfold jf kX gG;have e:((L.map λt=>((Sum.inl t.c:cf),wr t.o)).any λq=>decide (q.1= .inl t.c))=true:=by rw[List.any_eq_true];let⟨u,hu,e⟩:=ag.mp h;show#[_,ag.mpr #[u,hu,rfl],by simp[e]]
 rw[ap e,aH,aH];exact bu λu _=> ?_;change(if(Sum.inl u.c:cf)= .inl t.c then((Sum.inl u.c:cf),wr t.o) else((Sum.inl u.c:cf),wr u.o))=((Sum.inl (if u.c=t.c then t else u).c:cf),wr (if u.c=t.c then t else u).o)
 by_cases z:u.c=t.c;rw[ap (by rw[z]),ap z,z];rw[ai (λq=>z (Sum.inl.inj q)),ai z]
def mG (L:d3 eN)(t:eN):(gG L t).map (·.c)=L.map (·.c):=by unfold gG;rw[aH];exact bu λu _=> ?_;change(if u.c=t.c then t else u).c=u.c;by_cases z:u.c=t.c;rw[ap z,z];rw[ai z]
def eM (h:u∈gG L t):u=t \/ (u∈L /\ u.c≠t.c):=by let⟨v,hv,e⟩:=ag.mp h;by_cases z:v.c=t.c;rw[ap z] at e;show .inl e.symm;rw[ai z] at e;subst e;show .inr #[hv,z]
theorem tG.keep (h:tG S s p M t)(k:eQ M M' F)(ho:t.o∉F)(ha: ∀x∈t.adr,x∉F):tG S s p M' t:=#[k _ _ h.ins ho,h.row.keep k ha,h.jU]
theorem tG.nd (h:tG S s p M t)(w:Int):((pf t.Q w).map (·.1)).Nodup:=(h.row.Ey w).1
theorem cG.Nm (h:cG p M rl rp a P)(w:Int):((pf P w).map (·.1)).Nodup:=(h.Ey w).1
def uG (h:l3 S s p M hd L)(ht:t∈L)(hu:u∈L)(ne:t.c≠u.c): ∀x∈t.adr,x∉u.adr:=by
 have sym: ∀ {L:d3 eN},L.Pairwise (λt u=> ∀x∈t.adr,x∉u.adr) ->t∈L ->u∈L ->t≠u -> ∀x∈t.adr,x∉u.adr:=λ{L}=>by
  induction L with
  | nil=>intro _ h;cases h
  | cons v r ih=>intro hp h1 h2 h3;let⟨q1,q2⟩:=ci.mp hp;obtain e1 | k1:=ar.mp h1;obtain e2 | k2:=ar.mp h2;show absurd (e1.trans e2.symm) h3;rw[e1];show q1 u k2;obtain e2 | k2:=ar.mp h2;rw[e2];show λx hx gq=>q1 t k1 x gq hx;show ih q2 k1 k2 h3
 show sym h.nA ht hu λe=>ne (by rw[e])
def Mi (s c:Int):Int:=if s=0 then 0 else c
def rb (s Z c:Int):Nat:=if s=0 then(Z - c+1).toNat else(s - c).toNat
def wx (hd:gi)(L:d3 eN)(rl rp:gi)(P:Pq):d3 gi:=hd::(L.flatMap (·.adr)++bJ rl rp P)
structure Z3 (R S:Addr)(s p:Int)(M:Mp)(hd r dr rl rp:Addr)(aQ:List Pt)(a:Pt)(P:Pq)(L:List eN):Prop where
 ins:M r=some (.ins R dr [("lamps",wr rl),("parts",wr rp)])
 held:l3 S s p M hd L
 row:cG p M rl rp a P
 nA: ∀t∈L, ∀x∈bJ rl rp P,x∉t.adr
 sC:hd∉bJ rl rp P
 md:nX s p aQ a P
 sk: ∀t∈L,nX s p aQ t.b t.Q
def nX.len (h:nX s p aQ b Q)(nd:(Q.map (·.1)).Nodup):Q.length<=aQ.length:=by have:=fZ (l:=vc 0 aQ.length) nd λk hk=>kI.mpr (by have:=h.key k hk;lia);rw[aa] at this;unfold vc at this;rw[aa,cz] at this;show this
structure oS (s Z E EP:Int)(t:eN):Prop where
 bx:nB s Z E E t.b
 len:t.len<=E
 bp:nY s EP EP t.Q
def Is (R S:gi):kn:=λxs M q=>Gy λ(hd r dr rl rp:gi) (p s Z:Int)=>Mj λ(K w KP:Int) (aQ:d3 Pt) (a:Pt) (P:Pq) (L:d3 eN)=>qW (xs= [wi p,wi s,wr hd,wr r]) (p=2 \/ p=3 \/ p=5 \/ p=7) (0<=s) (s<=8) (Z3 R S s p M hd r dr rl rp aQ a P L) (0<=Z) (0<=K) (qW (0<=w) (0<=KP) (s=0 ->K=0 /\ w=0) (Z+8*(2*(w+16*K)+2*K+2) <=400000) (KP+10*(w+18*K) <=900000) (aQ.length<=100) (L.length<=1000) (fh (nB s Z w w a) (nY s KP KP P) (∀t∈L,oS s Z K KP t) (∀M' L',l3 S s p M' hd L' ->eQ M M' (wx hd L rl rp P) ->(∀t∈L', ∀x∈t.adr,x∈wx hd L rl rp P \/ M x=none) ->(∀f,dQ s p (L.map (·.b)++ [a]) f ->dQ s p (L'.map (·.b)) f) ->(∀t∈L',nX s p aQ t.b t.Q) ->(∀t∈L',oS s Z (2*(w+2*K*s)) (KP+(s+1)*(w+2*K*s+2*K)) t) ->L'.length<=L.length+1 ->(∀c∈L.map (·.c),c∈L'.map (·.c)) ->q wn M')))
section
variable {s Z K w KP c c2 dr:Int}{a c1:Pt}{P P1:Pq}{L:d3 eN}{t:eN}
def eA (s K w c:Int):Int:=w+2*K*Mi s c
def eP (s K w KP c:Int):Int:=KP+Mi s c*(w+2*K*s+2*K)
structure qO (s Z K w KP:Int):Prop where
 s0:0<=s
 k0:0<=K
 w0:0<=w
 RT:0<=KP
 u5:s=0 ->K=0 /\ w=0
theorem qO.E0 (h:qO s Z K w KP):0<=2*K*s:=cI (by have:=h.k0;lia) h.s0
def qO.step (h:qO s Z K w KP)(hc:c<c2):eA s K w c+2*K<=eA s K w c2:=by unfold eA Mi;by_cases z:s=0;have:=h.u5 z;rw[ap z,ap z];lia;rw[ai z,ai z];have:=a9 (show c+1<=c2 by lia) (show 0<=2*K by have:=h.k0;lia);rw[Int.mul_add,Int.mul_one] at this;lia
def qO.top (h:qO s Z K w KP)(hc:s≠0 ->c+1<=s):eA s K w c+2*K<=w+2*K*s:=by unfold eA Mi;by_cases z:s=0;have:=h.u5 z;rw[ap z,z];lia;rw[ai z];have:=a9 (hc z) (show 0<=2*K by have:=h.k0;lia);rw[Int.mul_add,Int.mul_one] at this;lia
def qO.low (h:qO s Z K w KP)(hc:s≠0 ->0<=c):w<=eA s K w c:=by unfold eA Mi;by_cases z:s=0;rw[ap z];lia;rw[ai z];have:=cI (show 0<=2*K by have:=h.k0;lia) (hc z);lia
def qO.QS (h:qO s Z K w KP)(hc:c<c2):eP s K w KP c+(w+2*K*s)+2*K<=eP s K w KP c2:=by unfold eP Mi;by_cases z:s=0;have:=h.u5 z;rw[ap z,ap z,z];lia;rw[ai z,ai z];have h0:=h.E0;have:=bf (show c+1<=c2 by lia) (show 0<=w+2*K*s+2*K by have:=h.k0;have:=h.w0;lia);rw[Int.add_mul,Int.one_mul] at this;lia
def qO.Wb (h:qO s Z K w KP)(hc:s≠0 ->c+1<=s):eP s K w KP c+(w+2*K*s)+2*K<=KP+s*(w+2*K*s+2*K):=by unfold eP Mi;by_cases z:s=0;have:=h.u5 z;rw[ap z,z];lia;rw[ai z];have h0:=h.E0;have:=bf (hc z) (show 0<=w+2*K*s+2*K by have:=h.k0;have:=h.w0;lia);rw[Int.add_mul,Int.one_mul] at this;lia
def qO.lowP (h:qO s Z K w KP)(hc:s≠0 ->0<=c):KP<=eP s K w KP c:=by unfold eP Mi;by_cases z:s=0;rw[ap z];lia;rw[ai z];have h0:=h.E0;have:=cI (hc z) (show 0<=w+2*K*s+2*K by have:=h.k0;have:=h.w0;lia);lia
def qO.KY (h:qO s Z K w KP):K<=w+2*K*s:=by by_cases z:s=0;have:=h.u5 z;rw[z];lia;have:=a9 (show 1<=s by have:=h.s0;lia) (show 0<=2*K by have:=h.k0;lia);have:=h.w0;have:=h.k0;lia
def qO.TL (h:qO s Z K w KP):KP<=KP+s*(w+2*K*s+2*K):=by have h0:=h.E0;have:=cI h.s0 (show 0<=w+2*K*s+2*K by have:=h.k0;have:=h.w0;lia);lia
theorem oS.up {E EP E' EP':Int}(h:oS s Z E EP t)(h1:E<=E')(h2:EP<=EP'):oS s Z E' EP' t:=#[h.bx.up h1 h1,by have:=h.len;lia,h.bp.up h2 h2]
structure TB (s Z K w KP c:Int)(a:Pt)(P:Pq)(L:List eN):Prop where
 bx:nB s Z (eA s K w c) (eA s K w c) a
 bp:nY s (eP s K w KP c) (eP s K w KP c) P
 ge: ∀u∈L,c<=u.c ->oS s Z K KP u
 lt: ∀u∈L,u.c<c ->oS s Z (w+2*K*s) (KP+s*(w+2*K*s+2*K)) u
structure J9 (s Z K w KP c dr:Int)(a:Pt)(P:Pq)(L:List eN)(t:eN):Prop where
 mem:t∈L
 at_:t.c=c
 shr:t.len<dr
 dk:dr<=K
 col: ∀x,bL s x=c ->look a x≠0 ->0<=hI s x /\ hI s x<=dr
 bx:nB s Z (eA s K w c+2*K - dr) (eA s K w c+2*K - dr) a
 bt:nB s Z (eA s K w c+2*K - t.len) (eA s K w c+2*K - dr) t.b
 bp:nY s (eP s K w KP c+(w+2*K*s)+2*K - dr) (eP s K w KP c+(w+2*K*s)+2*K - dr) P
 bq:nY s (eP s K w KP c+(w+2*K*s)+2*K - t.len) (eP s K w KP c+(w+2*K*s)+2*K - dr) t.Q
 gt: ∀u∈L,c<u.c ->oS s Z K KP u
 lt: ∀u∈L,u.c<c ->oS s Z (w+2*K*s) (KP+s*(w+2*K*s+2*K)) u
structure zh (s Z K w KP c:Int)(c1:Pt)(P1:Pq)(t:eN)(la lp:Int):Prop where
 bx:nB s Z la la c1
 bp:nY s lp lp P1
 low: ∀x,bL s x=c ->look c1 x≠0 ->0<=hI s x /\ hI s x<t.len
variable {p:Int}{js:Pt}{ms:d3 Int}
def TB.cut (h:qO s Z K w KP)(ph:TB s Z K w KP c a P L)(yM:s≠0 ->0<=c)(Ov:s≠0 ->c+1<=s)(ht:t∈L)(e:t.c=c)(l0:0<=t.len)(ga:GD p a) (nw:ms.Perm (mN s c (d9 a))) (LJ:ms.Pairwise (· <= ·)) (LS: ∀j∈js, ∃h∈pD ms t.len,j.1=i_ t.len h) (ej:s=0 -> ∀j∈js,j.1=0) (ec: ∀x,look c1 x=(look a x+dw (λsh=>look t.b (x - s*sh)) js) % p) (ep: ∀w x,look (pf P1 w) x=(look (pf P w) x+dw (λsh=>look (pf t.Q w) (x - sh)) js) % p) (low: ∀x,bL s x=c ->look c1 x≠0 ->0<=hI s x /\ hI s x<t.len): zh s Z K w KP c c1 P1 t (eA s K w c+K) (eP s K w KP c+eA s K w c):=by
 have f:=ph.ge t ht ∅;have hw:=h.low yM;have hk:=h.lowP yM;have w0:=h.w0;have k0:=h.k0;have hj:=xE (f:=c) (bl:= -(eA s K w c)) (bh:=eA s K w c) l0 LJ (nw.nodup_iff.mpr (kM ga.1 h.s0)) (λm hm=>by let⟨x,hx,e1⟩:=ag.mp (nw.mem_iff.mp hm);have:=ph.bx.1 x (by have:=eD ga (aP.mp hx).1;lia);lia) LS;have G': ∀j∈js, -(eA s K w c) <=j.1 /\ j.1<=eA s K w c:=λj iH=>by have:=hj j iH;lia
 show#[ph.bx.cut f.bx ec G' ej ∅ ∅ ∅ ∅,ph.bp.cut f.bp ep G' ∅ ∅ ∅ ∅,low]
def J9.cut (h:qO s Z K w KP)(ph:J9 s Z K w KP c dr a P L t)(l0:0<=t.len)(ga:GD p a) (nw:ms.Perm (mN s c (d9 a))) (LJ:ms.Pairwise (· <= ·)) (LS: ∀j∈js, ∃h∈pD ms t.len,j.1=i_ t.len h) (ej:s=0 -> ∀j∈js,j.1=0) (ec: ∀x,look c1 x=(look a x+dw (λsh=>look t.b (x - s*sh)) js) % p) (ep: ∀w x,look (pf P1 w) x=(look (pf P w) x+dw (λsh=>look (pf t.Q w) (x - sh)) js) % p) (low: ∀x,bL s x=c ->look c1 x≠0 ->0<=hI s x /\ hI s x<t.len): zh s Z K w KP c c1 P1 t (eA s K w c+2*K - t.len) (eP s K w KP c+(w+2*K*s)+2*K - t.len):=by
 have q:=ph.shr;have hj:=xE (f:=c) (bl:=0) (bh:=dr) l0 LJ (nw.nodup_iff.mpr (kM ga.1 h.s0)) (λm hm=>by let⟨x,hx,e1⟩:=ag.mp (nw.mem_iff.mp hm);have:=ph.col x ⇑((aP.mp hx).2) (by have:=eD ga (aP.mp hx).1;lia);lia) LS;have G': ∀j∈js, -0<=j.1 /\ j.1<=dr - t.len:=λj iH=>by have:=hj j iH;lia
 show#[ph.bx.cut ph.bt ec G' ej ∅ ∅ ∅ ∅,ph.bp.cut ph.bq ep G' ∅ ∅ ∅ ∅,low]
def zh.on (h:qO s Z K w KP)(d:zh s Z K w KP c c1 P1 t la lp)(PF:la<=eA s K w c+2*K)(X4:lp<=eP s K w KP c+(w+2*K*s)+2*K)(hc:c<c2)(CK: ∀u∈L,c<u.c ->oS s Z K KP u)(fE: ∀u∈L,u.c<c ->oS s Z (w+2*K*s) (KP+s*(w+2*K*s+2*K)) u)(Ay: ∀u∈L,u.c=c ->oS s Z (w+2*K*s) (KP+s*(w+2*K*s+2*K)) u):TB s Z K w KP c2 c1 P1 L:=by have h1:=h.step hc;have h2:=h.QS hc;exact#[d.bx.up ∅ ∅,d.bp.up ∅ ∅,λu hu U7=>CK u hu ∅,λu hu U7=> ?_];obtain q | q | q:=Int.lt_trichotomy u.c c;show fE u hu q;show Ay u hu q;show(CK u hu q).up h.KY h.TL
def zh.turn (d:zh s Z K w KP c c1 P1 t la lp)(PF:la<=eA s K w c+2*K - t.len)(X4:lp<=eP s K w KP c+(w+2*K*s)+2*K - t.len)(tk:t.len<=K)(N:Mn s c m tt c1)(ga:GD p c1)(dS:t'.len=tt - m)(JF:t'.c=c)(jU:zd s p t.b c t.len t.foot)(X3:s=0 ->m=0)(hbt:nB s Z (eA s K w c+2*K - t.len) (eA s K w c+2*K - t.len) t.b)(hbq:nY s (eP s K w KP c+(w+2*K*s)+2*K - t.len) (eP s K w KP c+(w+2*K*s)+2*K - t.len) t.Q)(eb: ∀x,look t'.b x=look c1 (x+s*m)*tn % p)(eq: ∀w x,look (pf t'.Q w) x=look (pf P1 w) (x+m)*tn % p)(CK: ∀u∈L,c<u.c ->oS s Z K KP u)(fE: ∀u∈L,u.c<c ->oS s Z (w+2*K*s) (KP+s*(w+2*K*s+2*K)) u)(BS:t'∈gG L t'):J9 s Z K w KP c t.len t.b t.Q (gG L t') t':=by
 have hb: ∀h∈mN s c (d9 c1),0<=h /\ h<t.len:=λh hh=>by let⟨x,hx,e1⟩:=ag.mp hh;have:=d.low x ⇑((aP.mp hx).2) (by have:=eD ga (aP.mp hx).1;lia);lia
 have h1:=hb _ N.lo;have h2:=hb _ N.hi;have h3:=N.bd _ N.lo;have b1:=d.bx.stood eb X3;have b2:=d.bp.stood (s:=s) eq;exact#[BS,JF, ∅,tk,λx hx c6=>jU.qg x c6 hx,hbt,b1.up ∅ ∅,hbq,b2.up ∅ ∅,λu hu qg=> ?_,λu hu hl=> ?_];obtain e | ⟨e,_⟩:=eM hu;rw[e,JF] at qg;lia;show CK u e qg;obtain e | ⟨e,_⟩:=eM hu;rw[e,JF] at hl;lia;show fE u e hl
end
structure TC (R S:Addr)(s p:Int)(aQ:List Pt)(M0:Mp)(F0:List Addr)(G0:List Pt)(L0:List eN)(hd:Addr)(M:Mp)(r dr rl rp:Addr)(a:Pt)(P:Pq)(L:List eN):Prop where
 jR:Z3 R S s p M hd r dr rl rp aQ a P L
 kp:eQ M0 M F0
 fr: ∀t∈L, ∀x∈t.adr,x∈F0 \/ M0 x=none
 Ta: ∀x∈bJ rl rp P,x∈F0 \/ M0 x=none
 sp: ∀f,dQ s p G0 f ->dQ s p (L.map (·.b)++ [a]) f
 len:L.length=L0.length
 key:L.map (·.c)=L0.map (·.c)
def eQ.free (k:eQ M0 M F)(h:M x=none):x∈F \/ M0 x=none:=by
 cases e:M0 x with
 | none=>show .inr rfl
 | some u=>exact .inl (au λhn=> ?_);rw[k x u e hn] at h;cases h
theorem uI (row:cG p M rl rp a P)(h:M x=some (.ins C d fs)):x∉bJ rl rp P:=λhx=>by let⟨kvs,e⟩:=row.mem hx;rw[h] at e;cases e
def TC.cut {M0 M M2:Mp}{js:Pt}(tc:TC R S s p aQ M0 F0 G0 L0 hd M r dr rl rp a P L)(ht:t∈L)(kT:cG p M2 rl rp c1 P1)(ec: ∀x,look c1 x=(look a x+dw (λsh=>look t.b (x - s*sh)) js) % p)(ep: ∀w x,look (pf P1 w) x=(look (pf P w) x+dw (λsh=>look (pf t.Q w) (x - sh)) js) % p)(kp:eQ M M2 (bJ rl rp P))(fr: ∀x∈bJ rl rp P1,x∈bJ rl rp P \/ M x=none)(hk: ∀w∈P1.map (·.1),w∈P.map (·.1) \/ w∈t.Q.map (·.1)): TC R S s p aQ M0 F0 G0 L0 hd M2 r dr rl rp c1 P1 L:=by let⟨ins,fO,row,nA,sC,md,sk⟩:=tc.jR;have st:=fO.each t ht;exact#[#[kp _ _ ins (uI row ins),#[kp _ _ fO.sM sC,λu hu=>(fO.each u hu).keep kp (uI row (fO.each u hu).ins) (λx hx gq=>nA u hu x gq hx),fO.nd,fO.nA,fO.sC],kT,λu hu x hx gq=> ?_,λhx=> ?_,md.cut (sk t ht) row.Nm kT.Nm st.nd ec ep hk,sk],tc.kp.trans kp tc.Ta,tc.fr,λx hx=> ?_,λf hf=> ?_,tc.len,tc.key];obtain z | z:=fr x hx;show nA u hu x z gq;let⟨kvs,e⟩:=(fO.each u hu).row.mem gq;rw[z] at e;cases e;obtain z | z:=fr hd hx;show sC z;rw[fO.sM] at z;cases z;obtain z | z:=fr x hx;show tc.Ta x z;show tc.kp.free z;exact(tc.sp f hf).trans λb hb=> ?_;obtain hb | hb:=aA.mp hb;show dQ.of (aA.mpr (.inl hb));rw[ah.mp hb];show dQ.back (dQ.of (aA.mpr (.inr (ah.mpr rfl)))) (dQ.of (aA.mpr (.inl (ag.mpr #[t,ht,rfl])))) ec
def TC.sm {M0 M M2:Mp}(tc:TC R S s p aQ M0 F0 G0 L0 hd M r dr rl rp a P L)(sm:Sm M M2):TC R S s p aQ M0 F0 G0 L0 hd M2 r dr rl rp a P L:=by let⟨i1,i2,i3,i4,i5,i6,i7⟩:=tc.jR;show#[#[sm _ _ i1,#[sm _ _ i2.sM,λt ht=>(i2.each t ht).keep (eQ.sm sm []) (λh=>by cases h) (λ_ _ h=>by cases h),i2.nd,i2.nA,i2.sC],i3.keep (eQ.sm sm []) (λ_ _ h=>by cases h),i4,i5,i6,i7],tc.kp.trans (eQ.sm sm []) (λ_ h=>by cases h),tc.fr,tc.Ta,tc.sp,tc.len,tc.key]
def l_ (h:t'.c∈L.map (·.c)):t'∈gG L t':=by let⟨u,hu,e⟩:=ag.mp h;show ag.mpr #[u,hu,ap e]
theorem kA (h:u∈L)(ne:u.c≠t'.c):u∈gG L t':=ag.mpr #[u,h,ai ne]
def DO (nd:(L.map (·.c)).Nodup)(h:L.Pairwise λt u=> ∀x∈t.adr,x∉u.adr)(hf: ∀u∈L, ∀x∈t'.adr,x∉u.adr):(gG L t').Pairwise λt u=> ∀x∈t.adr,x∉u.adr:=by unfold gG;rw[cc];have RE:L.Pairwise λa b=>a.c≠b.c:=cc.mp nd;exact(List.pairwise_and_iff.mpr #[h,RE] |>.imp_of_mem λ{u v} hu hv q=> ?_);by_cases z:u.c=t'.c;rw[ap z];by_cases y:v.c=t'.c;show absurd (z.trans y.symm) q.2;rw[ai y];show hf v hv;rw[ai z];by_cases y:v.c=t'.c;rw[ap y];show λx hx gq=>hf u hu x gq hx;rw[ai y];show q.1
def TC.turn (hp:p=2 \/ p=3 \/ p=5 \/ p=7)(tc:TC R S s p aQ M0 F0 G0 L0 hd M r dr rl rp a P L)(PM:hd∈F0)(ht:t∈L)(hc:t'.c=t.c)(sm:Sm M M3)(ins:M3 t'.o=some (.ins S t'.ds [("lamps",wr t'.ol),("parts",wr t'.op),("first",wi t'.c),("length",wi t'.len),("foot",wi t'.foot)]))(Bl:cG p M3 t'.ol t'.op t'.b t'.Q)(jU:zd s p t'.b t'.c t'.len t'.foot)(t0:0<tn)(t1:tn<p)(eb: ∀x,look t'.b x=look a (x+s*m)*tn % p)(eq: ∀w x,look (pf t'.Q w) x=look (pf P w) (x+m)*tn % p)(fr: ∀x∈t'.o::t'.adr,M x=none)(hk: ∀w∈t'.Q.map (·.1),w∈P.map (·.1))(hD:D=kX (gG L t'))(mP:um M3 hd (.dK D) r'=none): TC R S s p aQ M0 F0 G0 L0 hd (um (um M3 hd (.dK D)) r' (.ins R dx [("lamps",wr t.ol),("parts",wr t.op)])) r' dx t.ol t.op t.b t.Q (gG L t'):=by
 subst hD;let⟨_,fO,row,nA,sC,md,sk⟩:=tc.jR;have Va:hd≠r':=cM az mP;have N9:M3 r'=none:=by rw[aD (aT Va)] at mP;show mP
 have Ou:=sm _ _ fO.sM;have Pr:eQ M (um (um M3 hd (.dK (kX (gG L t')))) r' (.ins R dx [("lamps",wr t.ol),("parts",wr t.op)])) [hd]:=λd o e nd=>by have e3:=sm _ _ e;rw[aD (cM e3 N9),aD (λz=>nd (ah.mpr z))];show e3
 have Pu: ∀ {d o},M3 d=some o ->d≠hd ->um (um M3 hd (.dK (kX (gG L t')))) r' (.ins R dx [("lamps",wr t.ol),("parts",wr t.op)]) d=some o:=λe ne=>by rw[aD (cM e N9),aD ne];show e
 have OL: ∀x∈t'.o::t'.adr,x≠hd:=λx hx e=>by have:=fr x hx;rw[e,fO.sM] at this;cases this
 have st:=fO.each t ht;have NI: ∀ {x C d fs},M x=some (.ins C d fs) ->x∉ [hd]:=λe hx=>by rw[ah.mp hx,fO.sM] at e;cases e
 have gM:t'.c∈L.map (·.c):=by rw[hc];show ag.mpr #[t,ht,rfl]
 have ZA: ∀u∈L,u.c=t'.c ->u=t:=λu hu e=>gy fO.nd hu ht (e.trans hc);have Vj: ∀u∈L, ∀x∈t'.adr,x∉u.adr:=λu hu x hx gq=>by let⟨kvs,e⟩:=(fO.each u hu).row.mem gq;rw[fr x (av _ hx)] at e;cases e
 exact#[#[az,#[by rw[aD Va];show az,λu hu=> ?_,by rw[mG];show fO.nd,DO fO.nd fO.nA Vj,λu hu hx=> ?_],st.row.keep Pr λx hx gq=>fO.sC t ht (by rw[ah.mp gq] at hx;show hx),λu hu x hx gq=> ?_,fO.sC t ht,sk t ht,λu hu=> ?_],tc.kp.trans Pr λx hx=> .inl (by rw[ah.mp hx];show PM),λu hu x hx=> ?_,tc.fr t ht,λf hf=> ?_,by unfold gG;rw[aa];show tc.len,by rw[mG];show tc.key];obtain e | ⟨e,_⟩:=eM hu;rw[e];exact#[Pu ins (OL _ aI),Bl.same λd kY=> ?_,jU];let⟨kvs,e2⟩:=Bl.mem kY;rw[Pu e2 (OL d (av _ kY)),e2];show(fO.each u e).keep Pr (NI (fO.each u e).ins) λx hx gq=>fO.sC u e (by rw[ah.mp gq] at hx;show hx);obtain e | ⟨e,_⟩:=eM hu;rw[e] at hx;show OL hd (av _ hx) rfl;show fO.sC u e hx;obtain e | ⟨e,ne⟩:=eM hu;rw[e] at gq;show Vj t ht x gq hx;show uG fO ht e (λz=>ne (by rw[hc,z])) x hx gq;obtain e | ⟨e,_⟩:=eM hu;rw[e];show md.stood row.Nm Bl.Nm eb eq hk;show sk u e;obtain e | ⟨e,_⟩:=eM hu;rw[e] at hx;show tc.kp.free (fr x (av _ hx));show tc.fr u e x hx;exact(tc.sp f hf).trans λb hb=> ?_;have sD:dQ s p ((gG L t').map (·.b)++ [t.b]) (look t'.b):=dQ.of (aA.mpr (.inl (ag.mpr #[t',l_ gM,rfl])));obtain hb | hb:=aA.mp hb;let⟨u,hu,rfl⟩:=ag.mp hb;by_cases z:u.c=t'.c;rw[ZA u hu z];show dQ.of (aA.mpr (.inr (ah.mpr rfl)));show dQ.of (aA.mpr (.inl (ag.mpr #[u,kA hu z,rfl])));rw[ah.mp hb];show dQ.zn hp t0 t1 sD eb
def TC.new (hp:p=2 \/ p=3 \/ p=5 \/ p=7)(tc:TC R S s p aQ M0 F0 G0 L0 hd M r dr rl rp a P L)(PM:hd∈F0)(hc:t'.c∉L.map (·.c))(sm:Sm M M3)(ins:M3 t'.o=some (.ins S t'.ds [("lamps",wr t'.ol),("parts",wr t'.op),("first",wi t'.c),("length",wi t'.len),("foot",wi t'.foot)]))(Bl:cG p M3 t'.ol t'.op t'.b t'.Q)(jU:zd s p t'.b t'.c t'.len t'.foot)(t0:0<tn)(t1:tn<p)(eb: ∀x,look t'.b x=look a (x+s*m)*tn % p)(eq: ∀w x,look (pf t'.Q w) x=look (pf P w) (x+m)*tn % p)(fr: ∀x∈t'.o::t'.adr,M x=none)(hk: ∀w∈t'.Q.map (·.1),w∈P.map (·.1))(hD:D=kX (L++ [t'])): l3 S s p (um M3 hd (.dK D)) hd (L++ [t']) /\ eQ M0 (um M3 hd (.dK D)) F0 /\ (∀u∈L++ [t'], ∀x∈u.adr,x∈F0 \/ M0 x=none) /\ (∀f,dQ s p G0 f ->dQ s p ((L++ [t']).map (·.b)) f) /\ (∀u∈L++ [t'],nX s p aQ u.b u.Q):=by
 subst hD;let⟨_,fO,row,nA,sC,md,sk⟩:=tc.jR;have Pr:eQ M (um M3 hd (.dK (kX (L++ [t'])))) [hd]:=λd o e nd=>by rw[aD (λz=>nd (ah.mpr z))];show sm _ _ e
 have OL: ∀x∈t'.o::t'.adr,x≠hd:=λx hx e=>by have:=fr x hx;rw[e,fO.sM] at this;cases this
 have NI: ∀ {x C d fs},M x=some (.ins C d fs) ->x∉ [hd]:=λe hx=>by rw[ah.mp hx,fO.sM] at e;cases e
 have Vj: ∀u∈L, ∀x∈t'.adr,x∉u.adr:=λu hu x hx gq=>by let⟨kvs,e⟩:=(fO.each u hu).row.mem gq;rw[fr x (av _ hx)] at e;cases e
 have one: ∀u∈L++ [t'],u∈L \/ u=t':=λu hu=>(aA.mp hu).imp id ah.mp;exact#[#[az,λu hu=> ?_,?_,?_,λu hu hx=> ?_],tc.kp.trans Pr λx hx=> .inl (by rw[ah.mp hx];show PM),λu hu x hx=> ?_,λf hf=> ?_,λu hu=> ?_];obtain e | e:=one u hu;show(fO.each u e).keep Pr (NI (fO.each u e).ins) λx hx gq=>fO.sC u e (by rw[ah.mp gq] at hx;show hx);rw[e];exact#[by rw[aD (OL _ aI)];show ins,Bl.same λd kY=> ?_,jU];rw[aD (OL d (av _ kY))];rw[aR];show List.nodup_append.mpr #[fO.nd,by simp,λx hx y hy e=>hc (by rw[List.map_singleton] at hy;rw[<- ah.mp hy, <- e];show hx)];exact cC.mpr #[fO.nA,List.pairwise_singleton _ _,λu hu v hv x hx gq=> ?_];rw[ah.mp hv] at gq;show Vj u hu x gq hx;obtain e | e:=one u hu;show fO.sC u e hx;rw[e] at hx;show OL hd (av _ hx) rfl;obtain e | e:=one u hu;show tc.fr u e x hx;rw[e] at hx;show tc.kp.free (fr x (av _ hx));exact(tc.sp f hf).trans λb hb=> ?_;rw[aR];obtain hb | hb:=aA.mp hb;show dQ.of (aA.mpr (.inl hb));rw[ah.mp hb];show dQ.zn hp t0 t1 (dQ.of (aA.mpr (.inr (ah.mpr rfl)))) eb;obtain e | e:=one u hu;show sk u e;rw[e];show md.stood row.Nm Bl.Nm eb eq hk
def fW (s:Int)(a:Pt):W:=if d9 a= [] then wn else wi (fA ((d9 a).map (bL s)))
def mz (s Z K c:Int)(q:Nat):Nat:=rb s Z c*(K.toNat+2)+q
def Ph (s Z K w KP:Int)(m:Nat)(a:Pt)(P:Pq)(L:d3 eN):Prop:=(d9 a= [] -> ∀u∈L,oS s Z (w+2*K*s) (KP+s*(w+2*K*s+2*K)) u) /\ (d9 a≠ [] -> ∃c,c=fA ((d9 a).map (bL s)) /\ ((TB s Z K w KP c a P L /\ m=mz s Z K c (K.toNat+1)) \/ cJ λt dr=>J9 s Z K w KP c dr a P L t /\ m=mz s Z K c t.len.toNat))
def HV (h:c<c2)(h1:s≠0 ->c+1<=s)(h2:s=0 ->c<=Z):rb s Z c2<rb s Z c:=by unfold rb;by_cases z:s=0;have:=h2 z;rw[ap z,ap z];lia;have:=h1 z;rw[ai z,ai z];lia
def RI (h:rb s Z c2<rb s Z c)(hq:q2<=K.toNat+1):mz s Z K c2 q2<mz s Z K c q:=by unfold mz;have:=Nat.mul_le_mul_right (K.toNat+2) (show rb s Z c2+1<=rb s Z c from h);rw[Nat.add_mul,Nat.one_mul] at this;lia
theorem JZ {L:d3 eN}(h:qO s Z K w KP)(CK: ∀u∈L,c<u.c ->oS s Z K KP u)(fE: ∀u∈L,u.c<c ->oS s Z (w+2*K*s) (KP+s*(w+2*K*s+2*K)) u)(Ay: ∀u∈L,u.c=c ->oS s Z (w+2*K*s) (KP+s*(w+2*K*s+2*K)) u): ∀u∈L,oS s Z (w+2*K*s) (KP+s*(w+2*K*s+2*K)) u:=λu hu=>by obtain q | q | q:=Int.lt_trichotomy u.c c;show fE u hu q;show Ay u hu q;show(CK u hu q).up h.KY h.TL
theorem Ij (h:d9 a= []):a= []:=List.map_eq_nil_iff.mp h
theorem zd.lit (h:zd s p b f len foot)(hp:1<p):look b f≠0:=λe=>by have:=h.bot;rw[e,bE,Int.zero_emod] at this;cases this
def ON (h:zd s p b f len foot)(hp:1<p)(g:GD p b):fW s b=wi f /\ d9 b≠ [] /\ f=fA ((d9 b).map (bL s)):=by
 have hm:=di (h.lit hp);have c6:d9 b≠ []:=λe=>by rw[e] at hm;cases hm
 have e:f=fA ((d9 b).map (bL s)):=gV.uniq #[ag.mpr #[f,hm,h.ok.own],λx hx=>by let⟨y,hy,rfl⟩:=ag.mp hx;show h.ge y (by have:=eD g hy;lia)] (fQ ⇑c6);show#[by rw[e];show ai c6,c6,e]
def FJ (bx:nB s Z l h a)(g:GD p a)(hm:m∈mN s f (d9 a)): -l<=m /\ m<=h:=by let⟨x,hx,e⟩:=ag.mp hm;rw[<- e];show bx.1 x (by have:=eD g (aP.mp hx).1;lia)
def LG (hm:m∈mN s f (d9 a))(z:s=0):m=0:=by let⟨x,hx,e⟩:=ag.mp hm;rw[<- e,z];show mS x
def qh (hu:M u=some (.lst ((d9 a).map wi)))(hl:(d9 a).length<=16000000)(s0:0<=s)(s8:s<=8)(h:F (fW s a) M):Gr EM [wr u,wi s] M F:=by unfold fW at h;show#[u,d9 a,s,rfl,hu,hl,s0, ∅,λe=>by rwa [ap e] at h,λe=>by rwa [ai e] at h]
def eN.CT (u:eN)(b:Pt)(Q:Pq):eN:=#[u.c,u.o,u.ds,u.ol,u.op,u.len,u.foot,b,Q]
structure LL (S:Addr)(s p:Int)(aQ:List Pt)(M0:Mp)(L0:List eN)(hd:Addr)(M:Mp)(L:List eN):Prop where
 held:l3 S s p M hd L
 sk: ∀t∈L,nX s p aQ t.b t.Q
 kp:eQ M0 M (L0.flatMap (·.adr))
 fr: ∀t∈L, ∀x∈t.adr,x∈L0.flatMap (·.adr) \/ M0 x=none
 sp: ∀f,dQ s p (L0.map (·.b)) f ->dQ s p (L.map (·.b)) f
 key:L.map (·.c)=L0.map (·.c)
 ln: ∀t∈L, ∀u∈L0,t.c=u.c ->t.len=u.len
section
variable {S:gi}{s p:Int}{aQ:d3 Pt}{M0 M M2:Mp}{L0 L:d3 eN}{hd:gi}{c1:Pt}{P1:Pq}{js:Pt}{u t:eN}
def zd.ZJ (h:zd s p b f len foot)(hf:f<fc)(e: ∀x,bL s x<fc ->look c1 x=look b x):zd s p c1 f len foot:=by have at_: ∀k,look c1 (f+k*s)=look b (f+k*s):=λk=>e _ (by rw[h.ok.on];show hf);exact#[h.ok,h.l0,h.s0,λx hx=> ?_,λx hx hc=> ?_,by rw[at_];show h.top,?_,h.ft];obtain q | q:=dC (bL s x) fc;show h.ge x (by rw[<- e x q];show hx);lia;show h.qg x (by rw[<- e x ∅];show hx) hc;have:=at_ 0;rw[bE,bj] at this;rw[this];show h.bot
def F2 (hu:u∈L)(nd:(L.map (·.c)).Nodup)(hc:u'.c=u.c)(ho:u'.o=u.o):kX (gG L u')=kX L:=by
 unfold kX gG;rw[aH];exact bu λv hv=> ?_;change((Sum.inl (if v.c=u'.c then u' else v).c:cf),wr (if v.c=u'.c then u' else v).o)=((Sum.inl v.c:cf),wr v.o)
 by_cases z:v.c=u'.c;rw[ap z];have:v=u:=gy nd hv hu (z.trans hc);rw[this,hc,ho];rw[ai z]
def LL.cut (ll:LL S s p aQ M0 L0 hd M L)(hu:u∈L)(ht:t∈L)(fE:u.c<t.c)(kT:cG p M2 u.ol u.op c1 P1)(ec: ∀x,look c1 x=(look u.b x+dw (λsh=>look t.b (x - s*sh)) js) % p) (ep: ∀w x,look (pf P1 w) x=(look (pf u.Q w) x+dw (λsh=>look (pf t.Q w) (x - sh)) js) % p) (el: ∀x,bL s x<t.c ->look c1 x=look u.b x) (kp:eQ M M2 u.adr) (fr: ∀x∈bJ u.ol u.op P1,x∈u.adr \/ M x=none) (hk: ∀w∈P1.map (·.1),w∈u.Q.map (·.1) \/ w∈t.Q.map (·.1)): LL S s p aQ M0 L0 hd M2 (gG L (u.CT c1 P1)):=by
 let⟨fO,sk,RT,yT,sp,key,ln⟩:=ll;have su:=fO.each u hu;have st:=fO.each t ht;have gM:u.c∈L.map (·.c):=ag.mpr #[u,hu,rfl];have RG: ∀v∈L,v.c≠u.c -> ∀x∈bJ u.ol u.op P1,x∉v.adr:=λv hv ne x hx gq=>by obtain z | z:=fr x hx;show uG fO hu hv (aT ne) x z gq;let⟨kvs,e⟩:=(fO.each v hv).row.mem gq;rw[z] at e;cases e
 exact#[#[by rw[F2 (u':=u.CT c1 P1) hu fO.nd rfl rfl];show kp _ _ fO.sM (fO.sC u hu),λv hv=> ?_,by rw[mG];show fO.nd,?_,λv hv hx=> ?_],λv hv=> ?_,RT.trans kp λx hx=>yT u hu x hx,λv hv x hx=> ?_,λf hf=> ?_,by rw[mG];show key,λv hv w hw e=> ?_];obtain e | ⟨e,ne⟩:=eM hv;rw[e];show#[kp _ _ su.ins (uI su.row su.ins),kT,su.jU.ZJ fE el];show(fO.each v e).keep kp (uI su.row (fO.each v e).ins) λx hx gq=>uG fO e hu ne x hx gq;unfold gG;rw[cc];have RE:L.Pairwise λa b=>a.c≠b.c:=cc.mp fO.nd;exact(List.pairwise_and_iff.mpr #[fO.nA,RE] |>.imp_of_mem λ{v w} hv hw q=> ?_);by_cases z:v.c=u.c;rw[ap (show v.c=(u.CT c1 P1).c from z)];by_cases y:w.c=u.c;show absurd (z.trans y.symm) q.2;rw[ai (show ¬w.c=(u.CT c1 P1).c from y)];show RG w hw y;rw[ai (show ¬v.c=(u.CT c1 P1).c from z)];by_cases y:w.c=u.c;rw[ap (show w.c=(u.CT c1 P1).c from y)];show λx hx gq=>RG v hv z x gq hx;rw[ai (show ¬w.c=(u.CT c1 P1).c from y)];show q.1;obtain e | ⟨e,_⟩:=eM hv;rw[e] at hx;obtain z | z:=fr hd hx;show fO.sC u hu z;rw[fO.sM] at z;cases z;show fO.sC v e hx;obtain e | ⟨e,_⟩:=eM hv;rw[e];show(sk u hu).cut (sk t ht) su.nd kT.Nm st.nd ec ep hk;show sk v e;obtain e | ⟨e,_⟩:=eM hv;rw[e] at hx;obtain z | z:=fr x hx;show yT u hu x z;show RT.free z;show yT v e x hx;exact(sp f hf).trans λb hb=> ?_;let⟨v,hv,rfl⟩:=ag.mp hb;have h1:dQ s p ((gG L (u.CT c1 P1)).map (·.b)) (look c1):=dQ.of (ag.mpr #[_,l_ gM,rfl]);have h2:dQ s p ((gG L (u.CT c1 P1)).map (·.b)) (look t.b):=dQ.of (ag.mpr #[t,kA ht (show t.c≠u.c by lia),rfl]);by_cases z:v.c=u.c;rw[gy fO.nd hv hu z];show dQ.back h1 h2 ec;show dQ.of (ag.mpr #[v,kA hv z,rfl]);obtain e2 | ⟨e2,_⟩:=eM hv;rw[e2] at e ⊢;show ln u hu w hw e;show ln v e2 w hw e
def Ke (s c E:Int)(b:Pt):Prop:= ∀x,bL s x=c ->look b x≠0 -> -E<=hI s x /\ hI s x<=E
def qR (s c len:Int)(b:Pt):Prop:= ∀x,bL s x=c ->look b x≠0 ->0<=hI s x /\ hI s x<len
theorem Ke.cut (ha:Ke s c E a)(hb:qR s c lt b)(ec: ∀x,look c1 x=(look a x+dw (λsh=>look b (x - s*sh)) js) % p)(hj: ∀j∈js, -jl<=j.1 /\ j.1<=jh)(G_:s=0 -> ∀j∈js,j.1=0)(h1:E<=E')(h2:jl<=E')(h3:lt+jh<=E'):Ke s c E' c1:=λx hx c6=>by by_cases z:look a x=0;let⟨j,iH,q⟩: ∃j∈js,look b (x - s*j.1)≠0:=au λhn=>c6 (by rw[ec,z,eI λj iH=>au λhq=>hn #[j,iH,hq]];rfl);have h4:=hb (x - s*j.1) (by rw[gF];show hx) q;have h5:=hj j iH;by_cases y:s=0;have h6:=G_ y j iH;rw[y,mS] at h4 ⊢;lia;rw[j9 y] at h4;lia;have:=ha x hx z;lia
end
def gj (L:d3 eN)(c:Int):Int:=match L.find? (λt=>decide (t.c=c)) with
 | some t=>t.len
 | none=>0
def Ae (nd:(L.map (·.c)).Nodup)(h:t∈L):gj L t.c=t.len:=by unfold gj;rw[rS nd h]
def jt (l:d3 Int):Int:=l.foldr (· + ·) 0
def l9 (h: ∀x∈l,0<=x): ∀k,0<=jt (l.take k) /\ jt (l.take k) <=jt l:=by
 induction l with
 | nil=>intro k;simp[jt]
 | cons a r ih=>
  intro k;cases k with
  | zero=>
   have:=(ih (λx hx=>h x (av _ hx)) r.length)
   rw[bN] at this;have:=h a aI;change 0<=(0:Int) /\ (0:Int) <=a+jt r;lia
  | succ k=>have:=ih (λx hx=>h x (av _ hx)) k;have:=h a aI;change 0<=a+jt (r.take k) /\ a+jt (r.take k) <=a+jt r;lia
def DK (l:d3 Int)(a:Int):jt (l++ [a])=jt l+a:=by
 induction l with
 | nil=>change a+0=0+a;lia
 | cons b r ih=>change b+jt (r++ [a])=b+jt r+a;rw[ih];lia
def DL (h: ∀x∈l,0<=x)(k:Nat):jt (l.drop k) <=jt l:=by
 induction l generalizing k with
 | nil=>simp
 | cons a r ih=>
  cases k with
  | zero=>show a4 _
  | succ k=>have:=ih (λx hx=>h x (av _ hx)) k;have:=h a aI;change jt (r.drop k) <=a+jt r;lia
def vv (h:a.Perm b):jt a=jt b:=by
 induction h with
 | nil=>rfl
 | cons x _ ih=>change x+_=x+_;rw[show List.foldr (· + ·) 0 _=jt _ from rfl,ih];rfl
 | swap x y l=>change y+(x+jt l)=x+(y+jt l);lia
 | trans _ _ h1 h2=>show h1.trans h2
def E7 {L:d3 eN}(nd:(L.map (·.c)).Nodup):(L.map (·.c)).map (gj L)=L.map (·.len):=by rw[aH];show bu λt ht=>Ae nd ht
def LL.sm {M0 M M2:Mp}(h:LL S s p aQ M0 L0 hd M L)(sm:Sm M M2):LL S s p aQ M0 L0 hd M2 L:=by let⟨i2,i3,i4,i5,i6,i7,i8⟩:=h;show#[#[sm _ _ i2.sM,λt ht=>(i2.each t ht).keep (eQ.sm sm []) (λh=>by cases h) (λ_ _ h=>by cases h),i2.nd,i2.nA,i2.sC],i3,i4.trans (eQ.sm sm []) (λ_ h=>by cases h),i5,i6,i7,i8]
theorem LL.init (h:l3 S s p M hd L)(md: ∀t∈L,nX s p aQ t.b t.Q):LL S s p aQ M L hd M L:=#[h,md,λd o e _=>e,λt ht x hx=> .inl (List.mem_flatMap.mpr #[t,ht,hx]),λf hf=>hf,rfl,λt ht u hu e=>by rw[gy h.nd ht hu e]]
def LL.gj (h:LL S s p aQ M0 L0 hd M L)(nd:(L0.map (·.c)).Nodup)(ht:t∈L):t.len=gj L0 t.c:=by
 have:t.c∈L0.map (·.c):=by rw[<- h.key];show ag.mpr #[t,ht,rfl]
 let⟨u,hu,e⟩:=ag.mp this;rw[<- e,Ae nd hu];show h.ln t ht u hu e.symm
def LL.get {S:gi}{s p:Int}{aQ:d3 Pt}{M0 M:Mp}{L0 L:d3 eN}{hd:gi}(h:LL S s p aQ M0 L0 hd M L){c:Int}(hc:c∈L0.map (·.c)): ∃t∈L,t.c=c:=by rw[<- h.key] at hc;show ag.mp hc
def xw (nd:(L.map (·.c)).Nodup)(h:t∈L):eX (kX L) (.inl t.c)=some (wr t.o):=by rw[xx,rS nd h];rfl
def Gh (l:d3 W)(k:Nat):yX l (some ((k:Nat):Int)) none=l.drop k:=by unfold yX;rw[HT.DS,HT.HN];obtain h | h:=Nat.le_total k l.length;rw[Nat.min_eq_left h,List.take_of_length_le (by rw[List.length_drop];show ao _)];rw[Nat.min_eq_right h,List.drop_length,List.take_nil,List.drop_of_length_le h]
def gZ {cs:d3 Int}(h:cs.Pairwise (· < ·)){i j:Nat}(hi:cs[i]? =some a)(hj:cs[j]? =some b)(gU:i<j):a<b:=by let⟨g1,g2⟩:=ak.mp hi;let⟨g3,g4⟩:=ak.mp hj;rw[<- g2, <- g4];show bv.mp h i j g1 g3 gU
def BO {cs:d3 Int}(h:cs.Pairwise (· < ·)){i j:Nat}(hi:cs[i]? =some a)(hj:cs[j]? =some b)(wu:a<b):i<j:=by obtain q | q | q:=Nat.lt_trichotomy i j;show q;subst q;rw[hi] at hj;cases hj;lia;have:=gZ h hj hi q;lia
def Iu (R S:gi):kn:=λxs M q=>Gy λ(hd:gi) (p s Z E EP Λ:Int) (aQ:d3 Pt)=> ∃ (L:d3 eN),qW (xs= [wi p,wi s,wr hd]) (p=2 \/ p=3 \/ p=5 \/ p=7) (0<=s) (s<=8) (l3 S s p M hd L) (∀t∈L,nX s p aQ t.b t.Q) (∀t∈L,oS s Z E EP t) (qW (0<=Z) (0<=E) (0<=EP) (aQ.length<=100) (L.length<=13) (jt (L.map (·.len)) <=Λ) (Z+8*(E+14*(E+Λ)+1) <=1000000) (EP+14*(E+Λ) <=1000000 /\ ∀M' L',LL S s p aQ M L hd M' L' ->(∀t∈L', ∀u∈L',t.c<u.c ->qR s u.c u.len t.b) ->(∀t∈L',nB s Z (E+L.length*(E+Λ)) (E+L.length*(E+Λ)) t.b /\ nY s (EP+L.length*(E+Λ)) (EP+L.length*(E+Λ)) t.Q) ->q wn M'))
def f6 (p0:0<p)(g:GD p b)(x:Int):look (jZ p b) x=look b x:=by rw[j7 p0,d6 g.1,df p0 g]
def zC {t:eN}(hp:1<p)(g:GD p t.b)(h:zd s p t.b t.c t.len t.foot)(w:Wt D t.b):Sr s p (jZ p t.b) t.c t.len D:=by have p0:0<p:= ∅;have e:=f6 p0 g;have gn:=jW (iM p0 t.b);exact#[iM p0 _,h.ok,h.l0,h.s0,λx hx=>h.ge x ?_,λx hx hc=>h.qg x ?_ hc,di (by rw[e];show h.lit hp),by rw[e];show h.top,λx hx=>w x (by rw[<- e];show hx)];have:=eD gn hx;rw[e] at this;lia;have:=eD gn hx;rw[e] at this;lia
structure Ord (L Ls:List eN):Prop where
 perm:Ls.Perm L
 xT:Ls.Pairwise λa b=>a.c<b.c
def pP (L:d3 eN)(nd:(L.map (·.c)).Nodup): ∃Ls,Ord L Ls:=by exact#[L.mergeSort λa b=>decide (a.c<=b.c),List.mergeSort_perm _ _,?_];have h1:=List.pairwise_mergeSort (le:=λa b:eN=>decide (a.c<=b.c)) (λa b c h1 h2=>by simp![c7] at*;lia) (λa b=>by simp![Bool.or_eq_true,c7];lia) L;have h2:((L.mergeSort λa b=>decide (a.c<=b.c)).map (·.c)).Nodup:=((List.mergeSort_perm L _).map (·.c)).nodup_iff.mpr nd;have h3:=cc.mp h2;show(List.pairwise_and_iff.mpr #[h1,h3]).imp λh=>by have:=h.1;simp![c7] at this;have:=h.2;lia
section
variable {S:gi}{s p D:Int}{M:Mp}{hd:gi}{L Ls:d3 eN}
def fi (p:Int)(Ls:d3 eN):d3 Pt:=Ls.map λt=>jZ p t.b
def pG (hp:1<p)(h:l3 S s p M hd L)(o:Ord L Ls)(w: ∀t∈L,Wt D t.b)(hl: ∀t∈L,t.len<3000000):qK s p (fi p Ls) D:=by
 have sr: ∀t∈Ls,Sr s p (jZ p t.b) t.c t.len D:=λt ht=>zC hp (h.each t (o.perm.mem_iff.mp ht)).row.ga (h.each t (o.perm.mem_iff.mp ht)).jU (w t (o.perm.mem_iff.mp ht));have get: ∀ {i st},(fi p Ls)[i]? =some st -> ∃t:eN,Ls[i]? =some t /\ st=jZ p t.b:=λ{i st} e=>by
  unfold fi at e;rw[aB] at e;cases e2:Ls[i]? with
  | none=>rw[e2] at e;cases e
  | some t=>rw[e2] at e;cases e;show#[t,e2,rfl]
 exact#[λi st hi=> ?_,λi j st bA c len c' re gU hi hj h1 h2=> ?_];let⟨t,ht,rfl⟩:=get hi;show#[_,_,sr t (aw ht),hl t (o.perm.mem_iff.mp (aw ht))];let⟨t,ht,rfl⟩:=get hi;let⟨t',nv,rfl⟩:=get hj;rw[(h1.uniq (sr t (aw ht))).1,(h2.uniq (sr t' (aw nv))).1];let⟨g1,g2⟩:=ak.mp ht;let⟨g3,g4⟩:=ak.mp nv;rw[<- g2, <- g4];show bv.mp o.xT i j g1 g3 gU
def zo (hp:1<p)(h:l3 S s p M hd L)(o:Ord L Ls)(w: ∀t∈L,Wt D t.b)(low: ∀t∈L, ∀u∈L,t.c<u.c ->qR s u.c u.len t.b):J7 s p (fi p Ls) D:=by
 intro i j st bA c len gU hi hj QW x hx c6;unfold fi at hi hj;rw[aB] at hi hj;cases e1:Ls[i]? with
 | none=>rw[e1] at hi;cases hi
 | some t=>
  cases e2:Ls[j]? with
  | none=>rw[e2] at hj;cases hj
  | some t'=>
   rw[e1] at hi;rw[e2] at hj;cases hi;cases hj;have m1:=o.perm.mem_iff.mp (aw e1);have m2:=o.perm.mem_iff.mp (aw e2);have e3:=QW.uniq (zC hp (h.each t' m2).row.ga (h.each t' m2).jU (w t' m2));have fE:t.c<t'.c:=by let⟨g1,g2⟩:=ak.mp e1;let⟨g3,g4⟩:=ak.mp e2;rw[<- g2, <- g4];show bv.mp o.xT i j g1 g3 gU
   rw[e3.2];show low t m1 t' m2 fE x (by rw[hx,e3.1]) (by rw[<- f6 ∅ (h.each t m1).row.ga];show c6)
theorem mK (p0:0<p)(h:l3 S s p M hd L)(o:Ord L Ls)(hf:dQ s p (L.map (·.b)) f):dQ s p (fi p Ls) f:=hf.trans λb hb=>by let⟨t,ht,rfl⟩:=ag.mp hb;exact(dQ.of (ag.mpr #[t,o.perm.mem_iff.mpr ht,rfl])).ext λx=> ?_;rw[f6 p0 (h.each t ht).row.ga]
structure Kg (s p w:Int)(aQ bs:List Pt)(L:List eN):Prop where
 len:bs.length=L.length
 ind:s≠0 ->tH s p bs
 of: ∀b∈bs,b∈aQ
def HW {w:Nat}(hp:p=2 \/ p=3 \/ p=5 \/ p=7)(s0:0<s)(h:l3 S s p M hd L)(hw: ∀t∈L,Wt D t.b)(hl: ∀t∈L,t.len<3000000)(low: ∀t∈L, ∀u∈L,t.c<u.c ->qR s u.c u.len t.b)(B:Kg s p w aQ bs L)(gM: ∀b∈bs,dQ s p (L.map (·.b)) (look b))(hb: ∀b∈bs, ∀x,look b x≠0 -> -(w:Int) <=hI s x /\ hI s x<=w)(ht:t∈L)(hx:look t.b x≠0): -((2*L.length*w:Nat):Int) <=hI s x /\ hI s x<=((2*L.length*w:Nat):Int):=by
 let⟨Ls,o⟩:=pP L h.nd;have e:(fi p Ls).length=L.length:=by unfold fi;rw[aa];show o.perm.length_eq
 have:=D_ hp s0 (pG ∅ h o hw hl) (zo ∅ h o hw low) (by rw[B.len,e]) (B.ind ∅) (λb sD=>mK ∅ h o (gM b sD)) hb (t:=jZ p t.b) (ag.mpr #[t,o.perm.mem_iff.mpr ht,rfl]) (x:=x) (by rw[f6 ∅ (h.each t ht).row.ga];show hx);rw[e] at this;show this
def Nb (h: ∀x∈l,0<=x):jt l=(((l.map Int.toNat).sum:Nat):Int):=by
 induction l with
 | nil=>rfl
 | cons a r ih=>
  change a+jt r=_
  rw[ih λx hx=>h x (av _ hx),aE,List.sum_cons]
  have:=h a aI
  push_cast;lia
def E8 {w:Nat}(hp:p=2 \/ p=3 \/ p=5 \/ p=7)(s0:0<s)(h:l3 S s p M hd L)(hw: ∀t∈L,Wt D t.b)(hl: ∀t∈L,t.len<3000000)(B:Kg s p w aQ bs L)(gM: ∀b∈bs,dQ s p (L.map (·.b)) (look b))(hb: ∀b∈bs, ∀x,look b x≠0 -> -(w:Int) <=hI s x /\ hI s x<=w):jt (L.map (·.len)) <=((2*L.length*w:Nat):Int):=by
 let⟨Ls,o⟩:=pP L h.nd;have e:(fi p Ls).length=L.length:=by unfold fi;rw[aa];show o.perm.length_eq
 have:=Af hp s0 (pG ∅ h o hw hl) (by rw[B.len,e]) (B.ind ∅) (λb sD=>mK ∅ h o (gM b sD)) hb;rw[e] at this;rw[<- vv (o.perm.map (·.len)),Nb λx hx=>by let⟨t,ht,rfl⟩:=ag.mp hx;show((h.each t (o.perm.mem_iff.mp ht)).jU).l0];have e2:((fi p Ls).map λst=>(f9 s st).toNat)=(Ls.map (·.len)).map Int.toNat:=by unfold fi;rw[aH,aH];exact bu λt ht=> ?_;have m:=o.perm.mem_iff.mp ht;change(f9 s (jZ p t.b)).toNat=t.len.toNat;rw[(zC ∅ (h.each t m).row.ga (h.each t m).jU (hw t m)).oU]
 rw[e2] at this;show Int.ofNat_le.mpr this
def Ix {w:Nat}(ht:t∈L)(h0: ∀u∈L,0<=u.len):t.len<=jt (L.map (·.len)):=by
 induction L with
 | nil=>cases ht
 | cons a r ih=>
  change t.len<=a.len+jt (r.map (·.len));have h1:=(l9 (l:=r.map (·.len)) (λx hx=>by let⟨u,hu,rfl⟩:=ag.mp hx;show h0 u (av _ hu)) 0)
  have h2:=h0 a aI;obtain rfl | ht:=ar.mp ht;change t.len<=_;have:0<=jt (r.map (·.len)):=by simp[jt] at h1;show h1
  lia;have:=ih ht λu hu=>h0 u (av _ hu);lia
end
def RS:Nat ->Int
 | 0=>0
 | i+1=>RS i+(9*(332+272*(i:Int))+((i:Int)+1)*(256+544*(i:Int)))
theorem NU: ∀i:Nat,i<=8 ->0<=RS i /\ RS i<=193056:=⋯
def uZ (s:Int)(i:Nat):Int:=if s=0 then 0 else RS i
def Fg (s:Int)(i:Nat)(h:i<=8):0<=uZ s i /\ uZ s i<=193056:=by unfold uZ;have:=NU i h;split<;>lia
structure Vx (S:Addr)(s p Z:Int)(w:Nat)(aQ:List Pt)(i:Nat)(M:Mp)(hd:Addr)(L:List eN)(bs:List Pt):Prop where
 held:l3 S s p M hd L
 md: ∀t∈L,nX s p (aQ.take i) t.b t.Q
 low: ∀t∈L, ∀u∈L,t.c<u.c ->qR s u.c u.len t.b
 sp: ∀pt∈aQ.take i,dQ s p (L.map (·.b)) (look pt)
 base:Kg s p w (aQ.take i) bs L
 bz:s=0 -> ∀t∈L,Wt Z t.b
 bp: ∀t∈L,nY s (uZ s i) (uZ s i) t.Q
 fin: ∀t∈L,Wt 1000000 t.b /\ t.len<3000000
 len:L.length<=i
structure GC (s p Z:Int)(w:Nat)(aQ:List Pt):Prop where
 pat: ∀pt∈aQ,cy p pt /\ nB s Z w w pt
 len:aQ.length<=8
 hp:p=2 \/ p=3 \/ p=5 \/ p=7
 s0:0<=s
 s8:s<=8
 z0:0<=Z
 z1:Z<=10000
 Uy:s=0 ->w=0
 w60:w<=60
 sw:s*w<=68
def uM (h:l3 S s p M hd L)(s0:0<s):(L.length:Int) <=s:=by
 have:=fZ (l:=vc 0 s.toNat) h.nd λc hc=>by let⟨t,ht,rfl⟩:=ag.mp hc;obtain z | z:=(h.each t ht).jU.ok;lia;show kI.mpr ∅
 rw[aa] at this;unfold vc at this;rw[aa,cz] at this;lia
def Lq (P:GC s p Z w aQ){m:Nat}(hm:s≠0 ->(m:Int) <=s):(m:Int)*w<=68:=by by_cases z:s=0;rw[P.Uy z];simp;have:=bf (hm z) (show 0<=(w:Int) by lia);have:=P.sw;lia
theorem Vx.lx (P:GC s p Z w aQ)(h:Vx S s p Z w aQ i M hd L bs): ∀t∈L,oS s Z (2*((L.length:Int)*w)) (uZ s i) t:=λt ht=>by
 have hl0: ∀u∈L,0<=u.len:=λu hu=>(h.held.each u hu).jU.l0;by_cases z:s=0;have e:=P.Uy z;rw[e];exact#[#[λx _=>by rw[z,mS];simp,λ_=>h.bz z t ht],by rw[(h.held.each t ht).jU.s0 z];simp,h.bp t ht];have s1:0<s:=by have:=P.s0;lia
 have hb: ∀b∈bs,b∈aQ:=λb hb=>List.mem_of_mem_take (h.base.of b hb);have hw: ∀b∈bs, ∀x,look b x≠0 -> -(w:Int) <=hI s x /\ hI s x<=w:=λb sD x hx=>(P.pat b (hb b sD)).2.1 x hx;have gM: ∀b∈bs,dQ s p (L.map (·.b)) (look b):=λb sD=>h.sp b (h.base.of b sD);have h1:=λ{x} hx=>HW (D:=1000000) P.hp s1 h.held (λt ht=>(h.fin t ht).1) (λt ht=>(h.fin t ht).2) h.low h.base gM hw ht (x:=x) hx;have h2:=E8 (D:=1000000) P.hp s1 h.held (λt ht=>(h.fin t ht).1) (λt ht=>(h.fin t ht).2) h.base gM hw;have h3:=Ix (w:=w) ht hl0;have e:((2*L.length*w:Nat):Int)=2*((L.length:Int)*w):=by push_cast;rw[Int.mul_assoc]
 rw[e] at h2;exact#[#[λx hx=>by have:=h1 hx;rw[e] at this;show this,λq=>absurd q z], ∅,h.bp t ht]
def hW {l:d3 Pt}(h:n<k):(l.take k).getD n []=l.getD n []:=by rw[bB,bB,List.getElem?_take_of_lt h]
def nX.more {aQ:d3 Pt}(h:nX s p (aQ.take i) b Q)(hi:i<aQ.length):nX s p (aQ.take (i+1)) b Q:=by
 have l1:(aQ.take i).length=i:=by rw[a7];lia
 have l2:(aQ.take (i+1)).length=i+1:=by rw[a7];lia
 exact#[λx=> ?_,λw hw=>by have:=h.key w hw;rw[l1] at this;rw[l2];push_cast;lia];rw[h.is,l1,l2];have hno:pf Q (i:Int)= []:=kF λhm=>by have:=h.key _ hm;rw[l1] at this;lia
 have: ∀n,n<=i ->ku s (aQ.take i) Q x n=ku s (aQ.take (i+1)) Q x n:=λn=>by
  induction n with
  | zero=>intro _;rfl
  | succ n ih=>intro hn;rw[ku,ku,ih ∅,hW ∅,hW ∅]
 rw[ku,hno,this i (ao _)];change _=(_+0) % p;rw[bj]
def nX.first {aQ:d3 Pt}(p0:0<p)(hi:aQ[i]? =some pt):nX s p (aQ.take (i+1)) pt [((i:Int),q,[(0,1)])]:=by
 have hl:=(ak.mp hi).1;have l2:(aQ.take (i+1)).length=i+1:=by rw[a7];lia
 refine#[λx=> ?_,λw hw=>by rw[List.map_singleton,ah] at hw;rw[l2,hw];push_cast;lia];rw[l2,ku];have h0: ∀n,n<=i ->ku s (aQ.take (i+1)) [((i:Int),q,[(0,1)])] x n=0:=λn=>by
  induction n with
  | zero=>intro _;rfl
  | succ n ih=>
   intro hn;have:pf [((i:Int),q,[((0:Int),(1:Int))])] (n:Int)= []:=kF λhm=>by rw[List.map_singleton,ah] at hm;have:(n:Int)=i:=hm;lia
   rw[ku,ih ∅,this];rfl
 have e:pf [((i:Int),q,[((0:Int),(1:Int))])] (i:Int)= [(0,1)]:=by simp[pf]
 rw[h0 i (ao _),e,hW (Nat.lt_succ_self _),kN hi];change _=(0+(look pt (x - s*0)*1+0)) % p;rw[c9,Int.sub_zero,Int.mul_one,bj,bO]
def Ct {M1:Mp}(P:GC s p Z w aQ)(h:Vx S s p Z w aQ i M hd L bs)(hi:aQ[i]? =some pt)(mQ:l3 S s p M1 hd L1)(yU: ∀t∈L1,Wt 1000000 t.b /\ t.len<3000000)(UU: ∀t∈L1,nX s p (aQ.take (i+1)) t.b t.Q)(dS:L1.length<=L.length+1)(qf: ∀c∈L.map (·.c),c∈L1.map (·.c)): ∃ZS,Kg s p w (aQ.take (i+1)) ZS L1:=by
 have hl:=(ak.mp hi).1;have CK:=fZ h.held.nd qf;rw[aa,aa] at CK;have mO: ∀b∈aQ.take i,b∈aQ.take (i+1):=λb hb=>by rw[bo];show aA.mpr (.inl hb)
 have qb:pt∈aQ.take (i+1):=by rw[bo,hi];show aA.mpr (.inr (ah.mpr rfl))
 have p0:0<p:=by have:=P.hp;lia
 have p1:1<p:=by have:=P.hp;lia
 by_cases e:L1.length=L.length;show#[bs,by rw[e];show h.base.len,h.base.ind,λb hb=>mO b (h.base.of b hb)];exact#[bs++ [pt],by rw[aG,bF,h.base.len];lia,λz=> ?_,λb hb=> ?_];have s1:0<s:=by have:=P.s0;lia
 let⟨Ls,o⟩:=pP L h.held.nd;let⟨Ls1,o1⟩:=pP L1 mQ.nd;have e1:(fi p Ls).length=L.length:=by unfold fi;rw[aa];show o.perm.length_eq
 have e2:(fi p Ls1).length=L1.length:=by unfold fi;rw[aa];show o1.perm.length_eq
 exact yF P.hp s1 (pG p1 h.held o (λt ht=>(h.fin t ht).1) λt ht=>(h.fin t ht).2) (pG p1 mQ o1 (λt ht=>(yU t ht).1) λt ht=>(yU t ht).2) (h.base.ind z) (λb hb=>mK p0 h.held o (h.sp b (h.base.of b hb))) (by rw[e1,e2];lia) λst iB=> ?_;let⟨t,ht,rfl⟩:=ag.mp iB;have oK:=o1.perm.mem_iff.mp ht;have m:=UU t oK;have l2:(aQ.take (i+1)).length=i+1:=by rw[a7];lia
 exact#[pf t.Q i,(dQ.fk (sts:=aQ.take i) (sts':=fi p Ls) (λb hb=>mK p0 h.held o (h.sp b hb)) (λn=>pf t.Q n) i (by rw[a7];lia)).ext λx=> ?_];rw[f6 p0 (mQ.each t oK).row.ga,Int.sub_emod,m.is,l2,ku,hW (Nat.lt_succ_self _),kN hi, <- Int.sub_emod];have: ∀n,n<=i ->ku s (aQ.take (i+1)) t.Q x n=fk s (aQ.take i) (λn=>pf t.Q n) x n:=λn=>by
  induction n with
  | zero=>intro _;rfl
  | succ n ih=>intro hn;rw[ku,fk,ih ∅,hW ∅,hW ∅]
 rw[this i (ao _)];congr 1;lia;obtain hb | hb:=aA.mp hb;show mO b (h.base.of b hb);rw[ah.mp hb];show qb
structure _h (s p Z:Int)(w:Nat)(aQ sts:List Pt)(Ps:List Pq):Prop where
 gr:qK s p sts 1000000
 trim:J7 s p sts 1000000
 sp: ∀pt∈aQ,dQ s p sts (look pt)
 len:Ps.length=sts.length
 F9:sts.length<=aQ.length
 md: ∀ (k:Nat) st P,sts[k]? =some st ->Ps[k]? =some P ->nX s p aQ st P /\ (P.map (·.1)).Nodup /\ (∀t∈P,GD p t.2.2) /\ nY s (uZ s aQ.length) (uZ s aQ.length) P
 bx: ∀st∈sts,nB s Z (2*((sts.length:Int)*w)) (2*((sts.length:Int)*w)) st /\ f9 s st<=2*((sts.length:Int)*w)
 cols:s≠0 ->(sts.length:Int) <=s
def Nx:kn:=λxs M q=>XE6 λ(u:gi) (p s Z:Int) (w:Nat) (aQ:d3 Pt)=>fh (xs= [wi p,wi s,wr u]) (M u=some (.lst (aQ.map dX))) (GC s p Z w aQ) (∀ (M':Mp) (v:gi) (as:d3 gi) (sts:d3 Pt) (Ps:d3 Pq),_h s p Z w aQ sts Ps ->Sm M M' ->M v=none ->M' v=some (.lst (as.map wr)) ->as.length=sts.length ->(∀ (k:Nat) a P,as[k]? =some a ->Ps[k]? =some P -> ∃tl:d3 lZ,tl.Perm (rM p 1 P) /\ M' a=some (.lst (tl.map lq))) ->q (.tup [.tup (sts.map dX),wr v]) M')
theorem zI (h:Sm M0 M)(k:eQ M M' F)(hf: ∀x∈F,M0 x=none):Sm M0 M':=λd o e=>k d o (h d o e) λhx=>by rw[hf d hx] at e;cases e
end WQ
namespace L2
open PySem
def z6 (hK:X.K=K)(he:PE X e ta)(hb:attributeBase e f X.env (eval e X.env)=eval e X.env):PE X (.Attribute e f pos) (MT K ta f):=by subst hK;show dW he hb
end L2
namespace WQ
open PySem L2 WL WP
def Bt:kn:=λxs M q=>jQ λ(d l:gi) (p most:Int)=>CO (xs= [wr d,wi p,wi most]) (Dr M d l) (2<=p) (p<=7) (0<=most) (most<=60) (∀ (u:gi) (aQ:d3 Pt) (M':Mp),(∀pt∈aQ,cy p pt /\ Wt 6 pt /\ pt.length<=4) ->(aQ.length:Int) <=most ->M u=none ->M' u=some (.lst (aQ.map dX)) ->Dr M' d l ->lB d M M' ->q (wr u) M')
def ko.ZI {pat dU:Pt}(hp:p=2 \/ p=3 \/ p=5 \/ p=7)(s0:0<=s)(gr:qK s p sts D)(hr:cy p dU)(tk:ko s p sts D Y pat dU P sts.length)(gM:dQ s p sts (look pat)):dU= []:=by let⟨J,hJ⟩:=gM;exact D0 (f:=look pat) (J':=λi=>tm (-1) (J i)) hp s0 gr hr cy.nil tk.lowP (λi st c len _ _ x _ h=>absurd rfl h) tk.eqv λx=> ?_;rw[pH,a6,hJ, <- a6];change(0:Int) % p=_;congr 1;lia
def _e (s p:Int)(A B:d3 Pt):Prop:=(∀a∈A,dQ s p B (look a)) /\ ∀b∈B,dQ s p A (look b)
def nX.ins {s p:Int}{aQ:d3 Pt}{b:Pt}{Q:Pq}(h:nX s p aQ b Q):dQ s p aQ (look b):=by
 exact#[λn=>pf Q n,λx=> ?_];rw[h.is];have: ∀n,ku s aQ Q x n=fk s aQ (λn=>pf Q n) x n:=λn=>by
  induction n with
  | zero=>rfl
  | succ n ih=>rw[ku,fk,ih]
 rw[this]
def lpk (k:Int):d3 Int ->Pt
 | []=> []
 | v::r=>(k,v)::lpk (k+1) r
def lp (l:d3 Int):Pt:=lpk 0 l
def _h.own (h:_h s p Z w aQ sts Ps):_e s p sts aQ:=by
 exact#[λst iB=> ?_,h.sp];let⟨i,hi⟩:=bZ.mp iB;let⟨P,hP⟩: ∃P,Ps[i]? =some P:=#[_,am (by rw[h.len];show(ak.mp hi).1)]
 show(h.md i st P hi hP).1.ins
end WQ
namespace L2
open PySem PySem.Spec PyProof.Rows
abbrev KN:d3 (NK×gi×V) ->d3 (NK×gi×d4) ->Prop:=Paired λp q=>p.1=q.1 /\ p.2.1=q.2.1 /\ RelV p.2.2 q.2.2
noncomputable def valN (kvs:d3 (NK×gi×V)) (k:NK):eB V:=(kvs.find? λp=>decide (p.1=k)).map (·.2.2)
noncomputable def putN (kvs:d3 (NK×gi×V)) (k:NK) (b:gi) (v:V):d3 (NK×gi×V):=if(valN kvs k).isSome then kvs.map (λp=>if p.1=k then(p.1,p.2.1,v) else p) else kvs++ [(k,b,v)]
def vY (kvs:d3 (NK×gi×V))(k:NK)(b:gi)(v:V):(putN kvs k b v).length<=kvs.length+1:=by unfold putN;split<;>simp
def KN.val (r:KN kvs xs)(k:NK):k7 (valN kvs k) ((atKey xs k).map (·.2)):=by
 induction r with
 | nil=>show True.intro
 | @cons p q ps qs h t ih=>
  let⟨h1,_,h2⟩:=h;by_cases e:p.1=k;have e':q.1=k:=h1.symm.trans e;have b:atKey (q::qs) k=some q.2:=by simp[atKey,br,e']
  have c:valN (p::ps) k=some p.2.2:=by simp[valN,br,e]
  rw[c,b];show h2;have e':¬q.1=k:=λz=>e (h1.trans z);have b:atKey (q::qs) k=atKey qs k:=by simp[atKey,br,e']
  have c:valN (p::ps) k=valN ps k:=by simp[valN,br,e]
  rw[c,b];show ih
def KN.D8 (r:KN kvs xs)(k:NK)(ry:RelV y u): KN (kvs.map λp=>if p.1=k then(p.1,p.2.1,y) else p) (xs.map (putAt k u)):=by
 induction r with
 | nil=>show .nil
 | @cons p q ps qs h t ih=>rw[aE,aE];exact .cons ?_ ih;let⟨h1,h2,h3⟩:=h;unfold putAt;by_cases e:p.1=k;rw[ap e,ap (h1.symm.trans e)];show#[h1,h2,ry];rw[ai e,ai (λz=>e (h1.trans z))];show#[h1,h2,h3]
def KN.put (r:KN kvs xs)(k:NK)(ry:RelV y u): KN (putN kvs k b y) (storedH xs k b u):=by
 have e:(valN kvs k).isSome=(atKey xs k).isSome:=by rw[(r.val k).hV,Option.isSome_map]
 unfold putN storedH;rw[e];by_cases q:(atKey xs k).isSome=true;rw[ap q,ap q];show r.D8 k ry;rw[ai q,ai q];show Paired.snoc r #[rfl,rfl,ry]
def GR (h:Heap)(kvs:d3 (NK×gi×V)):Prop:= ∀p∈kvs,fM h p.1 (.ref p.2.1) /\ fP p.1<=7
def Gd (ok:k9 P w H h)(e:H a=some (.dN kvs))(al:GR h kvs):kvs.length<=sizeLine /\ (a==sysModules)=false /\∃xs,KN kvs xs /\ h.DictOfH (gh P w) a xs:=by
 let⟨z,y,xs,r,o,es,ep,h1,h2,h3,h4,h5⟩:=(show dn P w H h a (.dN kvs) from ok a _ e)
 exact#[z,y,xs,r,o,es,ep,h1,h2,h3,h4,λx hx=> ?_,h5];have all: ∀ {l:d3 (NK×gi×V)} {m:d3 (NK×gi×d4)},KN l m ->GR h l -> ∀x∈m,(gh P w).is h x.1 x.2.1:=by
  intro l m q;induction q with
  | nil=>intro _ x hx;show nomatch hx
  | @cons p q ps qs hq t ih=>intro hl x hx;obtain e | hx:=ar.mp hx;subst e;let⟨q1,q2,_⟩:=hq;have:=hl p (by simp);rw[q1,q2] at this;show this;show ih (λp hp=>hl p (by simp[hp])) x hx
 show all r al x hx
def nest_room {A:Around}(hu:A.units+8<cLine):(gh P w).room A.in1:=by change A.units+1+7<cLine;lia
def W9 {σ:St}(hu:A.units+8<cLine)(I:Inv X aj σ H s)(e:H a=some (.dN kvs))(al:GR s.heap kvs)(hk:(gh X.prog X.w).is s.heap k b)(h: ∀s',Inv X aj σ H s' ->s'.heap=s.heap ->Q (.bool (valN kvs k).isSome) s'): wpAny (model X.prog X.w) A (compareOp .In (.ref b) (.ref a)) Q E s:=by let⟨z,hd,xs,rel,dd⟩:=Gd I.cT e al;exact wpAny_in_heap (nest_room hu) hk hd dd ?_;have q:=(rel.val k).hV;rw[Option.isSome_map] at q;rw[<- q];show h _ (I.tok _) rfl
def By {σ:St}(hu:A.units+8<cLine)(I:Inv X aj σ H s)(e:H a=some (.dN kvs))(al:GR s.heap kvs)(hk:(gh X.prog X.w).is s.heap k b)(hl:kvs.length<sizeLine)(rv:RelV v r)(h: ∀s',Inv X aj σ (cO H a (.dN (putN kvs k b v))) s' ->Q () s'): wpAny (model X.prog X.w) A (setItem (.ref a) (.ref b) r) Q E s:=by
 let⟨z,hd,xs,rel,dd⟩:=Gd I.cT e al;have hz:xs.length<=sizeLine:=by rw[<- Paired.length rel];show z
 have hl:(putN kvs k b v).length<=sizeLine:=by have:=vY kvs k b v;lia
 exact wpAny_setItem_heap (hsz:=hz) (nest_room hu) hk dd λh' wO hs=>h _ ?_;let⟨q,es,ep,hq,h2,h3,h4,_,h5⟩:=wO;show jF I (by rw[e];show True.intro) hs #[q,hq] #[hl,hd,_,rel.put k rv,q,es,ep,hq,h2,h3,h4,h5]
end L2
namespace WL
open PySem PySem.Spec L2
section
variable {X:Cx}{aj:d3 (gi×Obj)}{σ:St}{H:Hp}{s:d5}
mutual
theorem E2 (I:Inv X aj σ H s): ∀ (k:NK) (v:V) (u:d4),WR X.K H (nK k) v ->RelV v u ->fM s.heap k u
 | .key (.inl i),v,u,h,r=>by simp![nK,WR] at h;subst h;let⟨t,rfl⟩:=r;simp![fM];show cb rfl
 | .key (.inr x),v,u,h,r=>by simp![nK,WR] at h;subst h;let⟨t,rfl⟩:=r;simp![fM];show cb rfl
 | .seq l,v,u,h,r=>by simp![nK,WR] at h;let⟨a,vs,rfl,sq,rs⟩:=h;obtain rfl:u=Value.ref a:=r;let⟨its,rv,tu,_⟩:=I.De sq;simp![fM];show#[a,_,rfl,tu,E1 I l vs _ rs ⇑rv]
theorem E1 (I:Inv X aj σ H s): ∀ (l:d3 NK) (vs:d3 V) (us:d3 d4),cF X.K H (vS l) vs ->cD vs us ->dA s.heap l us
 | [],vs,us,h,r=>by simp![vS,cF] at h;subst h;cases r;simp![dA]
 | k::l,vs,us,h,r=>by
  simp![vS,cF] at h;let⟨v,t,rfl,h1,h2⟩:=h;cases r with
  | cons r1 r2=>simp![dA];show#[_,_,rfl,E2 I k v _ h1 r1,E1 I l t _ h2 r2]
end
theorem Hk.at (I:Inv X aj σ H s)(h:Hk X.K H k b):(gh X.prog X.w).is s.heap k b:=#[E2 I k _ _ h.1 rfl,h.2]
def GQ (K:RZ)(H:Hp)(kvs:d3 (NK×gi×V)):Prop:= ∀p∈kvs,Hk K H p.1 p.2.1
theorem GQ.at (I:Inv X aj σ H s)(h:GQ X.K H kvs):GR s.heap kvs:=λp hp=>#[E2 I _ _ _ (h p hp).1 rfl,(h p hp).2]
theorem yI (hr:fU k A):A.units+8<cLine:=Nat.lt_of_le_of_lt (Nat.add_le_add_left (by decide:8<=64) _) hr.units
def DN (K:RZ)(H:Hp)(a:gi)(y:V)(o:eB V):Prop:=gv λkvs k b=>ja (H a=some (.dN kvs)) (y= .ref b) (GQ K H kvs) (Hk K H k b) (valN kvs k=o)
end
def QK (K:RZ)(ty td:TE):TE:=λσ H Q=>ty σ H λy H1=>td σ H1 λx H2=>cJ λa o=>dh (x= .ref a) (DN K H2 a y o) (Q (.bl o.isSome) H2)
def HD (K:RZ)(ty td:TE):TE:=λσ H Q=>ty σ H λy H1=>td σ H1 λx H2=>cJ λa o=>dh (x= .ref a) (DN K H2 a y o) (Q (.bl (!o.isSome)) H2)
def QL (K:RZ)(td ty:TE):TE:=λσ H Q=>td σ H λx H1=>ty σ H1 λy H2=>cJ λa v=>dh (x= .ref a) (DN K H2 a y (some v)) (Q v H2)
def K7 (K:RZ)(td ty tv:TE):TS:=λD σ H=>tv σ H λv H1=>td σ H1 λx H2=>ty σ H2 λy H3=>jQ λa b kvs k=>CO (x= .ref a) (y= .ref b) (H3 a=some (.dN kvs)) (GQ K H3 kvs) (Hk K H3 k b) (kvs.length<sizeLine) (D.nx σ (cO H3 a (.dN (putN kvs k b v))))
def KG:TE:=λ_ H Q=> ∀p,H p=none ->Q (.ref p) (cO H p (.dN []))
def Dp (K:RZ)(tk tv:TE):TE:=λσ H Q=> ∀p,H p=none ->tk σ (cO H p (.dN [])) λx H1=>tv σ H1 λy H2=>cJ λk b=>fh (H2 p=some (.dN [])) (x= .ref b) (Hk K H2 k b) (Q (.ref p) (cO H2 p (.dN [(k,b,y)])))
theorem wK (h:Heap)(hb:sysModules<h.objs.size):dn P w H (h.push {cls:= .type "dict",data:= .dict #[]}) h.objs.size (.dN []):=#[cB _,beq_eq_false_iff_ne.mpr (aT (a5 hb)),[], .nil,_, #[],0,aM _ rfl,#[rfl,rfl,rfl],rfl,rfl,List.nodup_nil]
theorem Ik:PE X (.Dict [] [] pos) KG:=λaj s σ H Q I h=>wpAny_Dict_empty #[.ref s.heap.objs.size,_,I.laid (a:=s.heap.objs.size) (o:= .dN []) (t':=s.toks) (λ_ _ q=>aq _ q) (ao _) (wK s.heap I.big),rfl,h _ (I.cT.fresh (ao _))]
def Nq (hu:X.A.units+8<cLine)(hi:PE X i ty)(ho:PE X o td):PC X .In i o (QK X.K ty td):=by intro aj s σ H Q I h;exact cY (hi aj s σ H _ I h) λiv s1 ⟨y,H1,I1,ry,q1⟩=>cY (ho aj s1 σ H1 _ I1 q1) λu s2 ⟨x,H2,I2,rx,a,ov,ex,⟨kvs,k,b,g1,g2,g3,g4,g5⟩,q2⟩=> ?_;subst ex g2 g5;obtain rfl:u=Value.ref a:=rx;obtain rfl:iv=Value.ref b:=ry;show W9 hu I2 g1 (g3.at I2) (g4.at I2) λs3 I3 _=>#[.bl (valN kvs k).isSome,H2,I3,rfl,q2]
def Ib (hu:X.A.units+8<cLine)(ho:PE X o td)(hi:PE X i ty)(hv:PE X value tv)(hs:swapsWith value (some (.Subscript o i pN)) pos.line X.env=pure false): PS X (.Assign [.Subscript o i pN] value pos) (K7 X.K td ty tv):=by intro aj s σ H D I h;exact wpAny_Assign_Subscript (cY (hv aj s σ H _ I h) λr s1 ⟨v,H1,I1,rv,q1⟩=>cY (ho aj s1 σ H1 _ I1 q1) λu s2 ⟨x,H2,I2,rx,q2⟩=>cY (hi aj s2 σ H2 _ I2 q2) λiv s3 ⟨y,H3,I3,ry,a,b,kvs,k,ex,ey,g1,g3,g4,g5,q3⟩=> ?_) hs;subst ex ey;obtain rfl:u=Value.ref a:=rx;obtain rfl:iv=Value.ref b:=ry;show By hu I3 g1 (g3.at I3) (g4.at I3) g5 rv λs4 I4=>#[σ,_,I4,q3]
def EB (hu:X.A.units+8<cLine)(hi:PE X i ty)(hv:PE X value tv):PE X (.Dict [some i] [value] pos) (Dp X.K ty tv):=by intro aj s σ H Q I q;have hn:=I.cT.fresh (ao s.heap.objs.size);have I1:=I.laid (a:=s.heap.objs.size) (o:= .dN []) (h':=s.heap.push {cls:= .type "dict",data:= .dict #[]}) (t':=s.toks) (λ_ _ q=>aq _ q) (ao _) (wK s.heap I.big);exact wpAny_Dict_any rfl rfl (by simp) (by simp) (pairTrees_cons_walk (cY (hi aj _ σ _ _ I1 (q _ hn)) λu s1 ⟨x,H1,I1,rx,q1⟩=>cY (hv aj s1 σ H1 _ I1 q1) λr s2 ⟨y,H2,I2,ry,k,b,g1,ex,g4,q2⟩=>pairTrees_nil_walk ?_));subst ex;obtain rfl:u=Value.ref b:=rx;unfold storeAll;rw[List.forIn_cons];let⟨z,hd,xs,rel,dd⟩:=Gd I2.cT g1 (λ_ hp=>nomatch hp);cases rel;exact ae (ae (wpAny_dictSet_heap (knd:=gh X.prog X.w) (hsz:=cB _) (by change X.A.units+7<cLine;lia) (g4.at I2) dd λh' wO hs=>ax ?_));change wpAny _ _ (forIn [] PUnit.unit _) _ _ _;rw[List.forIn_nil];exact ax #[.ref s.heap.objs.size,_,?_,rfl,q2];let⟨qo,es,ep,hq,h2,h3,h4,_,h5⟩:=wO;show jF I2 (by rw[g1];show True.intro) hs #[qo,hq] #[by simp[cP],hd,_, .cons #[rfl,rfl,ry] .nil,qo,es,ep,hq,h2,h3,h4,h5]
section
variable {K:RZ}
noncomputable def jd (kvs:d3 (NK×W)) (k:NK):eB W:=(kvs.find? λp=>decide (p.1=k)).map (·.2)
noncomputable def vF (kvs:d3 (NK×W)) (k:NK) (v:W):d3 (NK×W):=if(jd kvs k).isSome then kvs.map (λp=>if p.1=k then(p.1,v) else p) else kvs++ [(k,v)]
theorem NR.val {H:Hp}(k:NK): ∀ {l:d3 (NK×W)} {vs:d3 (NK×gi×V)},NR K H l vs ->(jd l k=none /\ valN vs k=none) \/ cJ λx v=>dh (jd l k=some x) (valN vs k=some v) (WR K H x v)
 | _,_, .nil=> .inl #[rfl,rfl]
 | (k1,y)::l,(k2,b,u)::vs, .cons ⟨e,_,r⟩ t=>by
  have e:k1=k2:=e;subst e;by_cases hk:k1=k;show .inr #[y,u,by simp[jd,br,hk],by simp[valN,br,hk],r];have e1:jd ((k1,y)::l) k=jd l k:=by simp[jd,br,hk]
  have e2:valN ((k1,b,u)::vs) k=valN vs k:=by simp[valN,br,hk]
  rw[e1,e2];show NR.val k t
theorem NR.map {H:Hp}{k:NK}{x:W}{v:V}(rx:WR K H x v): ∀ {l:d3 (NK×W)} {vs:d3 (NK×gi×V)},NR K H l vs ->NR K H (l.map λp=>if p.1=k then(p.1,x) else p) (vs.map λp=>if p.1=k then(p.1,p.2.1,v) else p)
 | _,_, .nil=> .nil
 | (k1,y)::l,(k2,b,u)::vs, .cons ⟨e,a,r⟩ t=>by have e:k1=k2:=e;subst e;rw[aE,aE];exact .cons ?_ (NR.map rx t);by_cases hk:k1=k;simp![hk,bR];show#[trivial,by rw[<- hk];show a,rx];simp![hk,be];show#[trivial,a,r]
theorem NR.app {H:Hp}{k:NK}{b:gi}{x:W}{v:V}(ky:Hk K H k b)(rx:WR K H x v): ∀ {l:d3 (NK×W)} {vs:d3 (NK×gi×V)},NR K H l vs ->NR K H (l++ [(k,x)]) (vs++ [(k,b,v)])
 | _,_, .nil=> .cons #[rfl,ky,rx] .nil
 | _,_, .cons r t=> .cons r (NR.app ky rx t)
def NR.put (ky:Hk K H k b)(rx:WR K H x v)(r:NR K H l vs):NR K H (vF l k x) (putN vs k b v):=by
 unfold vF putN;rcases r.val k with⟨a,c⟩ | ⟨_,_,a,c,_⟩
 rw[a,c];show NR.app ky rx r;rw[a,c];show NR.map rx r
theorem NR.all {H:Hp}: ∀ {l:d3 (NK×W)} {vs:d3 (NK×gi×V)},NR K H l vs ->GQ K H vs
 | _,_, .nil=>λ_ h=>nomatch h
 | _,_, .cons r t=>λp hp=>by obtain e | hp:=ar.mp hp;rw[e];show r.2.1;show NR.all t p hp
theorem NR.len {H:Hp}: ∀ {l:d3 (NK×W)} {vs:d3 (NK×gi×V)},NR K H l vs ->vs.length=l.length
 | _,_, .nil=>rfl
 | _,_, .cons r t=>by simp[NR.len t]
theorem vf (h:H a=some (.dN xs)):bi H (cO H a u):=ve h (λ_ z=>nomatch z) λ_ _ z=>nomatch z
def A_ (k:NK):Prop:=1<=fP k /\ fP k<=7
def A_.at (n:A_ k)(r:WR K H (nK k) v): ∃b,v= .ref b /\ Hk K H k b:=by
 cases k with
 | key k=>simp![A_,fP] at n;show absurd n.1 ⋯
 | seq l=>have r':=r;simp![nK,WR] at r';let⟨a,vs,rfl,_⟩:=r';show#[a,rfl,r,n.2]
def Mv (a b:WE):WE:=λρ M q=>a ρ M λy M1=>b ρ M1 λx M2=>gv λp kvs k=>ja (x=wr p) (M2 p=some (.dN kvs)) (y=nK k) (A_ k) (q (wb (jd kvs k).isSome) M2)
def Hr (a b:WE):WE:=λρ M q=>a ρ M λy M1=>b ρ M1 λx M2=>gv λp kvs k=>ja (x=wr p) (M2 p=some (.dN kvs)) (y=nK k) (A_ k) (q (wb (!(jd kvs k).isSome)) M2)
def Qh (a b:WE):WE:=λρ M q=>a ρ M λx M1=>b ρ M1 λy M2=>jQ λp kvs k z=>nh (x=wr p) (M2 p=some (.dN kvs)) (y=nK k) (A_ k) (jd kvs k=some z) (q z M2)
def xO (a b c:WE):WS:=λD ρ M=>c ρ M λz M1=>a ρ M1 λx M2=>b ρ M2 λy M3=>gv λp kvs k=>nh (x=wr p) (M3 p=some (.dN kvs)) (y=nK k) (A_ k) (kvs.length<sizeLine) (D.nx ρ (um M3 p (.dN (vF kvs k z))))
def Kn:WE:=λ_ M q=> ∀p,M p=none ->q (wr p) (um M p (.dN []))
def xt (a b:WE):WE:=λρ M q=> ∀p,M p=none ->a ρ (um M p (.dN [])) λx M1=>b ρ M1 λy M2=>M2 p=some (.dN []) /\ ∃k,dh (x=nK k) (A_ k) (q (wr p) (um M2 p (.dN [(k,y)])))
def yW (m:f_ K M H)(e:M p=some (.dN kvs))(n:A_ k)(r:WR K H (nK k) v): ∃o,DN K H p v o /\ ((jd kvs k=none /\ o=none) \/ cJ λx u=>dh (jd kvs k=some x) (o=some u) (WR K H x u)):=by
 let⟨ks,hk,rr⟩:=m p _ e;let⟨b,rfl,ky⟩:=n.at r;exact#[_,#[ks,k,b,hk,rfl,rr.all,ky,rfl],?_];rcases rr.val k with⟨a,c⟩ | ⟨x,u,a,c,d⟩
 show .inl #[a,c];show .inr #[x,u,a,c,d]
instance {t u:TE}{a b:WE} [ia:IE K t a] [ib:IE K u b]:IE K (QK K t u) (Mv a b) where
 imp:=λρ M σ H q Q o h k=>ia.imp ρ M σ H _ _ o h λy M1 v H1 h1 t1 m1 r1=>ib.imp ρ M1 σ H1 _ _ (o.mv t1 m1) h1 λx M2 u H2 ⟨p,kvs,ky,e1,e2,e3,n,h2⟩ t2 m2 r2=>by subst e1 e3;let⟨ov,g,c⟩:=yW m2 e2 n (r1.ts t2);exact#[p,ov,r2.eq,g,k _ M2 _ H2 h2 (t1.trans t2) m2 ?_];rcases c with⟨c1,c2⟩ | ⟨_,_,c1,c2,_⟩ <;>rw[c1,c2] <;>show WR.v
instance {t u:TE}{a b:WE} [ia:IE K t a] [ib:IE K u b]:IE K (HD K t u) (Hr a b) where
 imp:=λρ M σ H q Q o h k=>ia.imp ρ M σ H _ _ o h λy M1 v H1 h1 t1 m1 r1=>ib.imp ρ M1 σ H1 _ _ (o.mv t1 m1) h1 λx M2 u H2 ⟨p,kvs,ky,e1,e2,e3,n,h2⟩ t2 m2 r2=>by subst e1 e3;let⟨ov,g,c⟩:=yW m2 e2 n (r1.ts t2);exact#[p,ov,r2.eq,g,k _ M2 _ H2 h2 (t1.trans t2) m2 ?_];rcases c with⟨c1,c2⟩ | ⟨_,_,c1,c2,_⟩ <;>rw[c1,c2] <;>show WR.v
instance {t u:TE}{a b:WE} [ia:IE K t a] [ib:IE K u b]:IE K (QL K t u) (Qh a b) where
 imp :=λρ M σ H q Q o h k=>ia.imp ρ M σ H _ _ o h λx M1 v H1 h1 t1 m1 r1=>ib.imp ρ M1 σ H1 _ _ (o.mv t1 m1) h1 λy M2 u H2 ⟨p,kvs,ky,z,e1,e2,e3,n,e4,h2⟩ t2 m2 r2=>by
  subst e1 e3;let⟨ov,g,c⟩:=yW m2 e2 n r2;rcases c with⟨c1,c2⟩ | ⟨_,v',c1,c2,rx⟩
  rw[c1] at e4;cases e4;rw[c1] at e4;cases e4;subst c2;show#[p,v',r1.eq,g,k _ M2 _ H2 h2 (t1.trans t2) m2 rx]
instance:IE K KG Kn where
 imp:=λρ M σ H q Q o h k=>λp hp=>k _ _ _ _ (h p (o.hp.fresh hp)) (L2.ff.ts (bU hp)) (o.hp.put (L2.ff.ts (bU hp)) #[[],bI, .nil]) WR.v
instance {t u s:TE}{a b c:WE} [ia:IE K t a] [ib:IE K u b] [ic:IE K s c]:IS K (K7 K t u s) (xO a b c) where
 imp :=λρ M σ H D' D o h e=>ic.imp ρ M σ H _ _ o h λz M1 v1 H1 h1 t1 m1 r1=>ia.imp ρ M1 σ H1 _ _ (o.mv t1 m1) h1 λx M2 v2 H2 h2 t2 m2 r2=>ib.imp ρ M2 σ H2 _ _ (o.mv (t1.trans t2) m2) h2 λy M3 v3 H3 ⟨p,kvs,k,e1,e2,e3,n,hl,h3⟩ t3 m3 r3=>by subst e1 e3;let⟨ks,hk,rr⟩:=m3 p _ e2;let⟨b,rfl,ky⟩:=n.at r3;have ts:=vf (u:= .dN (putN ks k b v1)) hk;show#[p,b,ks,k,r2.eq,rfl,hk,rr.all,ky,by rw[rr.len];show hl,e.nx ρ _ σ _ h3 (((t1.trans t2).trans t3).trans ts) (o.mv (((t1.trans t2).trans t3).trans ts) (m3.put ts #[_,bI,(NR.put ky (r1.ts (t2.trans t3)) rr).ts ts]))]
instance {tk tv:TE}{a b:WE} [ia:IE K tk a] [ib:IE K tv b]:IE K (Dp K tk tv) (xt a b) where
 imp:=λρ M σ H q Q o h k=>λp hp=>by have t0:bi H (cO H p (.dN [])):=L2.ff.ts (bU hp);have m0:f_ K (um M p (.dN [])) (cO H p (.dN [])):=o.hp.put t0 #[[],bI, .nil];exact ia.imp ρ _ σ _ _ _ (o.mv t0 m0) (h p (o.hp.fresh hp)) λx M1 v H1 h1 t1 m1 r1=> ?_;exact ib.imp ρ M1 σ H1 _ _ (o.mv (t0.trans t1) m1) h1 λy M2 u H2 ⟨e1,ky,e2,n,h2⟩ t2 m2 r2=> ?_;subst e2;let⟨ks,hk,rr⟩:=m2 p _ e1;cases rr;let⟨b,rfl,kb⟩:=n.at (r1.ts t2);have t3:=vf (u:= .dN [(ky,b,u)]) hk;show#[ky,b,hk,rfl,kb,k _ _ _ _ h2 (((t0.trans t1).trans t2).trans t3) (m2.put t3 #[_,bI,NR.ts t3 (.cons #[rfl,kb,r2] .nil)]) WR.v]
def Pl (y:W)(k:NK ->Prop):Prop:= ∃m,dh (y=nK m) (A_ m) (k m)
def qt (o:eB MO)(k:d3 (NK×W) ->Prop):Prop:= ∃l,o=some (.dN l) /\ k l
def nU:qt (some (.dN l)) k=k l:=by apply propext;symm;(· rintro⟨_,h,k⟩;cases h;show k);(· intro h;show#[_,rfl,h])
def Mu:Mv a b ρ M q=a ρ M λy M1=>b ρ M1 λx M2=>fJ x λp=>qt (M2 p) λkvs=>Pl y λk=>q (wb (jd kvs k).isSome) M2:=by unfold Mv fJ qt Pl;congr 1;funext y M1;congr 1;funext x M2;apply propext;symm;rintro⟨p,kvs,k,h1,h2,h3,h4,h⟩;show#[p,h1,kvs,h2,k,h3,h4,h];rintro⟨p,h1,kvs,h2,k,h3,h4,h⟩;show#[p,kvs,k,h1,h2,h3,h4,h]
def DQ:xO a b c D ρ M=c ρ M λz M1=>a ρ M1 λx M2=>b ρ M2 λy M3=>fJ x λp=>qt (M3 p) λkvs=>Pl y λk=>gR (kvs.length<sizeLine) (D.nx ρ (um M3 p (.dN (vF kvs k z)))):=by unfold xO fJ qt Pl gR;congr 1;funext z M1;congr 1;funext x M2;congr 1;funext y M3;apply propext;symm;rintro⟨p,kvs,k,h1,h2,h3,h4,h5,h⟩;show#[p,h1,kvs,h2,k,h3,h4,h5,h];rintro⟨p,h1,kvs,h2,k,h3,h4,h5,h⟩;show#[p,kvs,k,h1,h2,h3,h4,h5,h]
theorem Ht:Kn ρ M q=mD M λp=>q (wr p) (um M p (.dN [])):=rfl
def C2:xt a b ρ M q=mD M λp=>a ρ (um M p (.dN [])) λx M1=>b ρ M1 λy M2=>qt (M2 p) λl=>l= [] /\ Pl x λk=>q (wr p) (um M2 p (.dN [(k,y)])):=by
 unfold xt mD qt Pl;apply propext;exact forall_congr' λp=>imp_congr_right λ_=> ?_;have e:(λx M1=>b ρ M1 λy M2=>M2 p=some (.dN []) /\ ∃k,dh (x=nK k) (A_ k) (q (wr p) (um M2 p (.dN [(k,y)]))))=(λx M1=>b ρ M1 λy M2=> ∃l,M2 p=some (.dN l) /\ l= [] /\ ∃m,dh (x=nK m) (A_ m) (q (wr p) (um M2 p (.dN [(m,y)])))):=by funext x M1;congr 1;funext y M2;apply propext;symm;rintro⟨h1,h2⟩;show#[_,h1,rfl,h2];rintro⟨l,h1,rfl,h2⟩;show#[h1,h2]
 rw[e]
end
end WL
namespace WQ
open PySem L2 WL WP
def c0 (t:Int):Int:=if t=0 then 1 else 0
def vA (c:Int ->Int)(n:Int):d3 Int:=(List.range (n+1).toNat).map λt:Nat=>c t
def DX:(vA c n).length=(n+1).toNat:=by simp[vA]
def HR (h:0<=n):vA c0 n=1::List.replicate n.toNat 0:=by
 exact List.ext_getElem (by simp[DX];lia) λi h1 h2=> ?_;simp![vA,List.getElem_map,List.getElem_range];cases i with
 | zero=>rfl
 | succ i=>simp[c0];lia
def DW:vA (λ_=>0) n=List.replicate (n+1).toNat 0:=by unfold vA;simp[List.map_const']
def Ra:(List.replicate k [W.v (V.int 0)]).flatten=(List.replicate k 0).map wi:=by
 induction k with
 | zero=>rfl
 | succ k ih=>rw[List.replicate_succ,List.flatten_cons,ih];rfl
def HU (h:0<=n): [W.v (V.int 1)]++(List.replicate n.toNat [W.v (V.int 0)]).flatten=(vA c0 n).map wi:=by rw[Ra,HR h];rfl
def vB (h:0<=n):(List.replicate (n+1).toNat [W.v (V.int 0)]).flatten=(vA (λ_=>0) n).map wi:=by rw[Ra,DW]
def xU:(fK lo n).length=n:=by simp[fK]
def Ep (z:Int×Int):NK:= .seq [.key (.inl z.1), .key (.inl z.2)]
def fC (l:Pt):NK:= .seq (l.map Ep)
def Ro:nK (Ep (a,b))= .tup [wi a,wi b]:=by simp![Ep,nK,vS]
theorem z8: ∀ {l:Pt},vS (l.map Ep)=l.map dv
 | []=>rfl
 | (a,b)::l=>by rw[aE,aE,vS,Ro,z8];rfl
def ui:nK (fC l)=dX l:=by unfold fC dX;rw[nK,z8]
def Ih:fP (Ep z)=1:=by simp[Ep,fP,lN]
theorem r9: ∀ {l:Pt},lN (l.map Ep) <=1
 | []=>cB _
 | z::l=>by rw[aE,lN,Ih];have:=r9 (l:=l);lia
def pO:A_ (fC l):=by unfold A_ fC;rw[fP];have:=r9 (l:=l);lia
def Ig (h:Ep a=Ep b):a=b:=by unfold Ep at h;injection h with h;injection h with h1 h2;injection h2 with h2 _;injection h1 with h1;injection h1 with h1;injection h2 with h2;injection h2 with h2;show Prod.ext h1 h2
def EH (h:fC a=fC b):a=b:=by
 unfold fC at h;injection h with h;induction a generalizing b with
 | nil=>cases b with
  | nil=>rfl
  | cons _ _=>simp at h
 | cons x a ih=>cases b with
  | nil=>simp at h
  | cons y b=>rw[aE,aE] at h;injection h with h1 h2;rw[Ig h1,ih h2]
def Eh (h:jd l k=none):vF l k v=l++ [(k,v)]:=by unfold vF;rw[h];rfl
def knd (ks:d3 ((Int×Int)×gi)):MO:= .dN (ks.map λz=>(Ep z.1,wr z.2))
end WQ
namespace L2
open PySem PySem.Spec
def Eb (DD:(d==sysModules)=false)(g1:s.heap.get? d=some od)(g0:od.ExactDict)(g2:od.data= .dict es ep)(k:Q (.ref s.heap.objs.size) {s with heap:=s.heap.push {cls:= .type "dict_keyiterator",data:= .fields (List.toArray [.ref d, .int 0 0, .int es.size 0, .int ep 0])}}):wpAny (model prog w) A (pyIter (.ref d)) Q E s:=by
 have tD:s.TypeIs (.ref d) "dict" :=#[od,g1,g0.1]
 exact wpAny_pyIter_slot tD F.slot_dict_iter (wpAny_call_entry F.slot_dict_iter tD F.entry_dict_iter ?_ (F.args_dict_iter_1 _));unfold Builtin.«dict.__iter__»;exact ae ?_;unfold Builtin.Dict.dictSlotNone;exact ae (wpAny_notOrdered_dict tD (ax ?_));change wpAny (model prog w) _ (Builtin.Dict.showsAll d >>=_) _ E s;unfold Builtin.Dict.showsAll;rw[DD,ai aW];exact ae (ax (ae (wpAny_dictEntries g1 g2 (ae (wpAny_dictEpoch g1 g2 (ae (wpAny_newObj_type (ax #[_,rfl,"dict_keyiterator",_,#[_,aM _ rfl,rfl],F.slot_dict_keyiterator_next.lookup,?_]))))))));simpa [rawInt] using k
def Ea (st:s.heap.IsKeyIter it d i es.size ep)(g1:s.heap.get? d=some od)(g2:od.data= .dict es ep)(hi:i<es.size)(k: ∀h',h'.IsKeyIter it d (i+1) es.size ep ->Heap.SameBut it s.heap h' ->Q (some es[i].key) {s with heap:=h'}):wpAny (model prog w) A (pyNext (.ref it)) Q E s:=by
 have tI:=st.typeIs;let⟨io,i1,i2,i3⟩:=id st;unfold pyNext;exact ae (wpAny_attempt (wpAny_callSpecial?_slot (name:=Str.ofString "__next__") tI F.slot_dict_keyiterator_next (wpAny_call_entry F.slot_dict_keyiterator_next tI F.entry_dict_keyiterator_next ?_ (F.args_dict_keyiterator_next_1 _))));exact ae (ax (ae (ae (ae (wpAny_typeNameOfWhole_keyiter tI (ax (ae (wpAny_fieldsOf i1 i3 ?_))))))));have no:Builtin.Dict_items.ownsTuple "dict_keyiterator" =false:=⋯
 simp![no,ay,be];change wpAny (model prog w) _ (if(Value.ref d==Value.none)=true then _ else _) _ _ s;rw[show(Value.ref d==Value.none)=false from rfl,ai aW];exact ae (ax (ae (wpAny_dictEntries g1 g2 ?_)));rw[ai (by simp)];exact ae (ax (ae (wpAny_dictEpoch g1 g2 ?_)));rw[ai (by simp)];exact ax ?_;have nn:¬((i:Int) <0):= ∅;simp![nn,be,Int.toNat_natCast,Array.getElem?_eq_getElem hi];exact ae (ae (wpAny_typeNameOfWhole_keyiter tI (ax (ae (wpAny_isOneOf_keyiter tI ?_)))));change wpAny (model prog w) _ (setField (.ref it) 1 (rawInt ((i:Int)+1)) >>=_) _ _ s;exact ae (wpAny_setField i1 i3 (by simp) ?_);have lf:(s.heap.update it (Obj.mapFields (·.setIfInBounds 1 (rawInt ((i:Int)+1))))).IsKeyIter it d (i+1) es.size ep:=#[_,Heap.get?_update_self _ i1 (Obj.isFreed_of_fields (Obj.data_mapFields i3 _)),(Obj.cls_mapFields ..).trans i2,by rw[Obj.data_mapFields i3];simp[rawInt]]
 have tI2:({s with heap:=s.heap.update it (Obj.mapFields (·.setIfInBounds 1 (rawInt ((i:Int)+1))))}:d5).TypeIs (.ref it) "dict_keyiterator" :=lf.typeIs (s:= {s with heap:=s.heap.update it (Obj.mapFields (·.setIfInBounds 1 (rawInt ((i:Int)+1))))});exact ae (dg (ae (wpAny_isOneOf_keyiter tI2 ?_)));show ax (ax #[_,rfl,ax (k _ lf (Heap.SameBut.update ..))])
def HY (hh:A.handled=none)(st:s.heap.IsKeyIter it d i es.size ep)(g1:s.heap.get? d=some od)(g2:od.data= .dict es ep)(hi:es.size<=i)(k: ∀h',Heap.ExtBut it s.heap h' ->Q none {s with heap:=h'}):wpAny (model prog w) A (pyNext (.ref it)) Q E s:=by
 have tI:=st.typeIs;let⟨io,i1,i2,i3⟩:=id st;unfold pyNext;exact ae (wpAny_attempt (wpAny_callSpecial?_slot (name:=Str.ofString "__next__") tI F.slot_dict_keyiterator_next (wpAny_call_entry F.slot_dict_keyiterator_next tI F.entry_dict_keyiterator_next ?_ (F.args_dict_keyiterator_next_1 _))));exact ae (ax (ae (ae (ae (wpAny_typeNameOfWhole_keyiter tI (ax (ae (wpAny_fieldsOf i1 i3 ?_))))))));have no:Builtin.Dict_items.ownsTuple "dict_keyiterator" =false:=⋯
 simp![no,ay,be];change wpAny (model prog w) _ (if(Value.ref d==Value.none)=true then _ else _) _ _ s;rw[show(Value.ref d==Value.none)=false from rfl,ai aW];exact ae (ax (ae (wpAny_dictEntries g1 g2 ?_)));rw[ai (by simp)];exact ae (ax (ae (wpAny_dictEpoch g1 g2 ?_)));rw[ai (by simp)];exact ax ?_;have nn:¬((i:Int) <0):= ∅;simp![nn,be,Int.toNat_natCast,Array.getElem?_eq_none hi];exact ae (ae (wpAny_typeNameOfWhole_keyiter tI (ax ?_)));change wpAny (model prog w) _ (setField (.ref it) 0 .none >>=_) _ _ s;exact ae (wpAny_setField i1 i3 (by simp) ?_);change wpAny (model prog w) _ (newExc (.type "StopIteration") [] >>=_) _ _ _;exact ae ?_;simp![newExc,newTuple];exact ae (wpAny_newObj_type (ae (m:=firstArgMember _ _) (wpAny_of_eq (a:=Value.none) (by first | rfl | (simp![firstArgMember];rfl)) (wpAny_newObj_type ?_ (by size_fits)))) (by size_fits));simp![raiseNew];exact ae (wpAny_handled ?_);rw[show A.in1.handled=none from hh];exact ae (ax (wpAny_throw ?_));exact ae (wpAny_isInstance (b:=true) (T:= "StopIteration") #[_,aM _ rfl,rfl] isSubtype_stop ?_);show ax (k _ (((Heap.SameBut.update ..).extBut.push _).push _))
theorem Bm (DD:(d==sysModules)=false):MeetsIn prog w (Builtin.«dict.__len__» #[[.ref d],[]]) (λ_ R s=> ∃o es ep,dh (s.heap.get? d=some o) (o.data= .dict es ep) (R (.ok (.ret (.int es.size s.toks))) {s with toks:=s.toks+1})):= .of_wp λA R s ⟨o,es,ep,g1,g2,h⟩=>by change wpAny (model prog w) _ (dictSize d >>=_) _ _ s;unfold dictSize;exact ae (ae (wpAny_dictEntries g1 g2 (ax ?_)));change wpAny (model prog w) _ (Builtin.Dict.pendingCount d >>=_) _ _ s;show ae (wpAny_pendingCount_other DD (wpAny_ret_mkInt (by rw[Nat.add_zero];show h)))
def HX (DD:(d==sysModules)=false)(g1:s.heap.get? d=some od)(g0:od.ExactDict)(g2:od.data= .dict es ep)(fit:(es.size:Int) <2 ^ 63)(k:Q (.int es.size (s.toks+1)) {s with toks:=s.toks+1+1}):wpAny (model prog w) A (call (.builtin "len") [.ref d]) Q E s:=by
 have tD:s.TypeIs (.ref d) "dict" :=#[od,g1,g0.1]
 exact Calls.call_function_entry kind_len plain_len entry_len (args_len1 _) ?_;unfold Builtin.«len»;exact ae (m:=oneArg "len" _) (ax (ae (m:= callSpecial? (.ref d) (Str.ofString "__len__")) (wpAny_callSpecial?_slot (name:=Str.ofString "__len__") tD F.slot_dict_len (call_meetsIn F.slot_dict_len tD F.entry_dict_len (F.args_dict_len_1 _) (Bm DD) #[od,es,ep,g1,g2,?_]))));change wpAny (model prog w) _ _ _ _ {s with toks:=s.toks+1};exact ae (dg (ax (ae (wpAny_letGo ?_))));change wpAny (model prog w) _ (if((es.size:Nat):Int) <0 then _ else _) _ _ _;rw[ai ∅];change wpAny (model prog w) _ (if((es.size:Nat):Int)≥2 ^ 63 then _ else _) _ _ _;rw[ai ∅];show ae (wpAny_mkInt (ax #[_,rfl,k]))
def Vt (d:gi)(o:Obj)(kvs:d3 (NK×gi×V)):It:=#[λi H=>i<kvs.length /\ H d=some (.jM o (.dN kvs)),λi H x H'=>H'=H /\ ∃kv,kvs[i]? =some kv /\ x= .ref kv.2.1,λi H=>kvs.length<=i /\ H d=some (.jM o (.dN kvs))]
theorem Lu: ∀ {kvs:d3 (NK×gi×V)} {xs:d3 (NK×gi×d4)} {i:Nat} {q:NK×gi×d4},KN kvs xs ->xs[i]? =some q -> ∃p,kvs[i]? =some p /\ p.2.1=q.2.1
 | _,_,0,_, .cons ⟨_,r,_⟩ _,e=>by cases e;show#[_,rfl,r]
 | _,_,i+1,q, .cons _ t,e=>by have e':_=some q:=e;rw[cR] at e' ⊢;show Lu t e'
def F7 {σ:St}(I:Inv X aj σ H s)(ho:o.data= .dict es ep)(e:H d=some (.jM o (.dN kvs))): s.heap.get? d=some o /\ es.size=kvs.length /\ ∀i (h:i<es.size), ∃p,kvs[i]? =some p /\ es[i].key= .ref p.2.1:=by
 let⟨h0,_,_,xs,rel,o',Th,Ti,h1,h2,h3,h4,h5⟩:=(show dn X.prog X.w H s.heap d (.jM o (.dN kvs)) from I.cT d _ e)
 rw[h0] at h1;cases h1;rw[ho] at h3;cases h3;have hl:es.size=xs.length:=by rw[<- cu,h4,aa]
 exact#[h0,by rw[hl,Paired.length rel],λi hi=> ?_];let⟨q,hq⟩: ∃q,xs[i]? =some q:=#[xs[i]'∅,am ∅]
 let⟨p,hp,e2⟩:=Lu rel hq;exact#[p,hp,?_];have z:es.toList[i]? =some (entryOfKey (gh X.prog X.w) q):=by rw[h4,aB,hq];rfl
 rw[Array.getElem?_toList,Array.getElem?_eq_getElem hi] at z;rw[bm z,e2];rfl
def xA {P:R1}{w:World}{K:RZ}{tg:Expr}{d it:gi}{o:Obj}{kvs:d3 (NK×gi×V)}{es:gX DictEntry}{ep:Nat}(ho:o.data= .dict es ep): qJ P w K tg (Vt d o kvs) [it] it (λi h=>h.IsKeyIter it d i es.size ep) where
 mem:=by simp
 obj:=λi h st b hb=>by have e:b=it:= ⇑hb;subst e;let⟨o,e,c,d⟩:=st;show#[o,e,λv z=>by rw[d] at z;cases z]
 keep:=λi h h' st k=>st.at λo e=>k it (by simp) o e
 item:=by intro X hP hw hK hc i aj s σ H E I hf st hg;subst hP hw hK;let⟨hi,hH⟩:=hg;let⟨g1,hl,at_⟩:=F7 I ho hH;let⟨f0,f1,f2,f3,f4,f5⟩:=hf it (by simp);let⟨p,hp,ek⟩:=at_ i ∅;exact Ea st g1 ho ∅ λh' bA gk=> ?_;rw[ek];have I1:Inv X aj σ H {s with heap:=h'}:=I.turned (t':=s.toks) (λb o hb e=>(gk.2 b hb).trans e) f0 f1 f3 f4 f5;let⟨oo,e,c,dd⟩:=id bA;show#[_,rfl,wv (s:= {s with heap:=h'}) e c dd ⋯ #[.ref p.2.1,H,I1,rfl,#[rfl,p,hp,rfl],bA,λb hb=>(hf b hb).1]]
 done:=by intro X hP hw hK hc i aj s σ H E I hf st hg;subst hP hw hK;let⟨hi,hH⟩:=hg;let⟨g1,hl,at_⟩:=F7 I ho hH;let⟨f0,f1,f2,f3,f4,f5⟩:=hf it (by simp);show HY (I.ok.hd hc) st g1 ho ∅ λh' eb=>#[rfl,I.turned (t':=s.toks) (λb o hb e=>eb b o hb e) f0 f1 f3 f4 f5]
 self:=λ_ _ _ _ _ st h=>wpAny_pyIter_keyiter st h
def Lf:d3 V ->Hp ->VK ->Prop:=λxs H Q=>cJ λa kvs=>dh (xs= [V.ref a]) (H a=some (.dN kvs)) (Q (.int kvs.length) H)
def Cp:gL X (.builtin "len") Lf:=by
 intro aj s σ H xs us Q I r h;let⟨a,kvs,rfl,ha,q⟩:=h;let⟨u,rfl,ru⟩:=vals1 r;cases ru;let⟨z,DD,xs,rel,ob,es,ep,g1,g0,g2,g4,g5⟩:=(show dn X.prog X.w H s.heap a (.dN kvs) from I.cT a _ ha)
 have hl:es.size=kvs.length:=by rw[<- cu,g4,aa,Paired.length rel]
 exact HX DD g1 g0 g2 (by rw[cP] at z;lia) ?_;rw[hl];show#[.int kvs.length,H,I.tok _,#[_,rfl],q]
section
variable {X:Cx}{tg o:Expr}{td:TE}
def FC (td:TE):TI:=λσ H R=>td σ H λx H1=>cJ λd kvs=>dh (x= .ref d) (H1 d=some (.dN kvs)) (∀o,R (Vt d o kvs) (cO H1 d (.jM o (.dN kvs))))
def Eu (ho:PE X o td):PI X tg o (FC td):=by
 intro aj s σ H R I h;exact cY (ho aj s σ H _ I h) λv s1 ⟨x,H1,I1,r1,d,kvs,ex,hd,q1⟩=> ?_;subst ex;obtain rfl:v=Value.ref d:=r1;let⟨z,DD,xs,rel,ob,es,ep,g1,g0,g2,g4,g5⟩:=(show dn X.prog X.w H1 s1.heap d (.dN kvs) from I1.cT d _ hd)
 exact Eb DD g1 g0 g2 ?_;have I2:=I1.freeze hd g1;exact#[_,[_],_,Vt d ob kvs,_,rfl,I2.kept (t':=s1.toks) λb o e=>aq _ e,xA g2,#[_,aM _ rfl,rfl,rfl],λb hb=> ?_,q1 ob];have e:=ah.mp hb;subst e;show I2.rA (ao _) (I2.cT.fresh (ao _))
end
end L2
namespace WL
open PySem PySem.Spec L2
variable {K:RZ}
def C4:zc:=λxs M q=>cJ λd kvs=>dh (xs= [wr d]) (M d=some (.dN kvs)) (q (wi (kvs.length:Nat)) M)
instance:IC K Lf C4 where
 imp:=by rintro xs v M H q Q m r1 ⟨d,kvs,rfl,hd,h⟩ k;let⟨v,rfl,r⟩:=r1.one;cases r.eq;let⟨ks,e,rr⟩:=m d _ hd;show#[d,ks,rfl,e,k _ _ _ _ h (bi.refl _) m (by rw[rr.len];show WR.v)]
def Hu:C4 [.v (.ref d)] M q=qt (M d) λkvs=>q (wi (kvs.length:Nat)) M:=by unfold C4 qt;apply propext;symm;rintro⟨_,kvs,e,h1,h⟩;cases e;show#[kvs,h1,h];rintro⟨kvs,h1,h⟩;show#[d,kvs,rfl,h1,h]
def yu (a:WE):WI:=λρ M q=>a ρ M λx M1=>cJ λd kvs=>dh (x=wr d) (M1 d=some (.dN kvs)) (∀o ks,q (kvs.map λp=>nK p.1) (λM'=>M' d=some (.fN o ks kvs)) (um M1 d (.fN o ks kvs)))
theorem Ll: ∀ {H:Hp} {kvs:d3 (NK×W)} {vs:d3 (NK×gi×V)} {i:Nat} {q:NK×gi×V},NR K H kvs vs ->vs[i]? =some q -> ∃p,kvs[i]? =some p /\ WR K H (nK p.1) (.ref q.2.1)
 | _,_,_,0,_, .cons ⟨e1,r,_⟩ _,e=>by cases e;show#[_,rfl,by rw[e1];show r.1]
 | _,_,_,i+1,q, .cons _ t,e=>by have e':_=some q:=e;rw[cR] at e' ⊢;show Ll t e'
def yA:zf K H1 (Vt d o ks) (kvs.map λp=>nK p.1) (λM'=>M' d=some (.fN o ks kvs)):=by intro i M H t m hM;let⟨e1,r1⟩:=m d _ hM;have hl:=NR.len r1;rw[aa];exact#[λh=>#[by omega,e1],λh=>#[by omega,e1],λv H' hi ⟨e2,kv,hk,e3⟩=> ?_];subst e2 e3;let⟨p,hp,rp⟩:=Ll r1 hk;show#[bi.refl _,m,nK p.1,by rw[aB,hp];rfl,rp]
instance {t:TE}{a:WE} [ia:IE K t a]:II K (FC t) (yu a) where
 imp:=λρ M σ H q R o h k=>ia.imp ρ M σ H _ _ o h λx M1 v H1 ⟨d,kvs,ex,hd,h1⟩ t1 m1 r1=>by subst ex;let⟨ks,e,r⟩:=m1 d _ hd;exact#[d,ks,r1.eq,e,λob=>k _ _ _ _ _ (h1 ob ks) (t1.trans (vf e)) (m1.put (vf e) #[bI,NR.ts (vf e) r]) yA]
def Fq:yu a ρ M q=a ρ M λx M1=>fJ x λd=>qt (M1 d) λkvs=> ∀o ks,q (kvs.map λp=>nK p.1) (λM'=>M' d=some (.fN o ks kvs)) (um M1 d (.fN o ks kvs)):=by unfold yu fJ qt;congr 1;funext x M1;apply propext;symm;rintro⟨p,l,h1,h2,h⟩;show#[p,h1,l,h2,h];rintro⟨p,h1,l,h2,h⟩;show#[p,l,h1,h2,h]
end WL
namespace WQ
open PySem L2 WL WP
def km (p c:Int)(q st:Pt):Pt:=jZ p (q++uY 0 c st)
def RJ:uY 0 c l=tm c l:=by unfold uY tm;show bu λz _=>by rw[bj]
def g_ (p0:0<p)(hq:cy p q)(hs:cy p st)(x:Int):look (km p c q st) x=(look q x+look st x*c) % p:=by unfold km;rw[j7 p0,ij,RJ,tQ,vh hq.2,vh hs.2]
theorem kl (p0:0<p):cy p (km p c q st):=iM p0 _
def ug (p0:0<p)(ha:cy p a)(hb:cy p b)(h: ∀x,look a x % p=look b x % p):a=b:=by exact oZ ha hb λx=> ?_;have h1:=jz p0 ha x;have h2:=jz p0 hb x;have:=h x;rwa [bQ h1.1 h1.2,bQ h2.1 h2.2] at this
def qF (p:Int)(st q:Pt):d3 Pt:=(List.range p.toNat).map λc:Nat=>km p c q st
def uX (p:Int)(S:d3 Pt)(st:Pt):d3 Pt:=S.flatMap (qF p st)
def A3 (p:Int)(l:d3 Pt):d3 Pt:=l.foldl (uX p) [[]]
def kh:A3 p (l++ [st])=uX p (A3 p l) st:=by simp[A3]
def pd:q∈uX p S st↔ ∃r∈S, ∃c:Nat,c<p.toNat /\ q=km p c r st:=by unfold uX qF;simp![List.mem_flatMap,ag,bS];symm;rintro⟨r,hr,c,hc,rfl⟩;show#[r,hr,c,hc,rfl];rintro⟨r,hr,c,hc,rfl⟩;show#[r,hr,c,hc,rfl]
def kP (p0:0<p):(∀st∈l,cy p st) -> ∀q,q∈A3 p l↔cy p q /\ dQ 0 p l (look q):=by
 induction l using WP.d_ with
 | h0=>intro _ q;simp![A3,List.foldl_nil,ah];symm;rintro rfl;show#[cy.nil,dQ.zero];rintro⟨hq,J,hJ⟩;exact ug p0 hq (cy.nil) λx=> ?_;rw[hJ];rfl
 | h1 l st ih=>
  intro hl q;have iB:cy p st:=hl st (by simp);have ih:=ih λs hs=>hl s (by simp[hs]);rw[kh,pd];symm;rintro⟨r,hr,c,hc,rfl⟩;let⟨r1,r2⟩:=(ih r).mp hr;exact#[kl p0,dQ.ext ((r2.trans λa ha=>dQ.of (by simp[ha])).add ((dQ.of (st:=st) (by simp)).mul c)) λx=> ?_];rw[g_ p0 r1 iB,cS _ (Int.dvd_refl p)];rintro⟨hq,J,hJ⟩;let⟨k,hk⟩: ∃k, ∀b,dw (λ_=>b) (J l.length)=b*k:=#[_,λb=>nV b _]
  have e: ∀x,look q x % p=(fk 0 l J x l.length+look st x*k) % p:=λx=>by
   rw[hJ,aG,bF,kz];have:fk 0 [st] (λi=>J (l.length+i)) x 1=look st x*k:=by have h0:=hk (look st x);rw[<- h0];simp[fk]
   rw[this]
  have hr:=kl (c:= -k) (q:=q) (st:=st) p0;have lr: ∀x,look (km p (-k) q st) x=(look q x+look st x*(-k)) % p:=g_ p0 hq iB;exact#[km p (-k) q st,(ih _).mpr #[hr,J,λx=> ?_],(k % p).toNat,by have:=cw k (show p≠0 by lia);have:=cj k p0;lia,?_];rw[lr,cS _ (Int.dvd_refl p),a6,e, <- a6];congr 1;rw[Int.mul_neg];lia;exact ug p0 hq (kl p0) λx=> ?_;rw[g_ p0 hr iB,lr,cS _ (Int.dvd_refl p)];have ek:(((k % p).toNat:Nat):Int)=k % p:=by have:=cw k (show p≠0 by lia);lia
  rw[ek,a6,cS _ (Int.dvd_refl p),bT (look st x) (k % p),cS _ (Int.dvd_refl p), <- bT, <- a6];congr 1;rw[Int.mul_neg];lia
theorem o0 {p:Int}{st:Pt}: ∀ {S:d3 Pt},(uX p S st).length=S.length*p.toNat
 | []=>by simp[uX]
 | q::S=>by have:=o0 (p:=p) (st:=st) (S:=S);unfold uX at this ⊢;rw[List.flatMap_cons,aG,this,aK,Nat.add_mul,Nat.one_mul,Nat.add_comm];simp[qF]
def JX:(A3 p l).length=p.toNat ^ l.length:=by
 induction l using WP.d_ with
 | h0=>rfl
 | h1 l st ih=>rw[kh,o0,ih,aG,bF,Nat.pow_succ]
def qK.take (h:qK s p sts D)(i:Nat):qK s p (sts.take i) D:=by
 have g: ∀ (j:Nat) st,(sts.take i)[j]? =some st ->sts[j]? =some st:=λj st e=>by rw[List.getElem?_take] at e;split at e;show e;cases e
 show#[λj st e=>h.each j st (g j st e),λa b st bA c len c' re ab e1 e2=>h.xT a b st bA c len c' re ab (g a st e1) (g b bA e2)]
theorem sX {p D:Int}(hp:p=2 \/ p=3 \/ p=5 \/ p=7){sts:d3 Pt}(gr:qK 0 p sts D): ∀i,i<=sts.length ->(A3 p (sts.take i)).Nodup
 | 0,_=>by simp[A3]
 | i + 1, hi=>by
  have p0:0<p:= ∅;have ih:=sX hp gr i ∅;let⟨st,iB⟩: ∃st,sts[i]? =some st:=#[_,am ∅]
  have hm:=aw iB;have sr:=gr.of hm;have qb: ∀s∈sts.take i,cy p s:=λs hs=>(gr.of (List.mem_of_mem_take hs)).pat;rw[bo,iB];change(A3 p (sts.take i++ [st])).Nodup;rw[kh];have one:look st (d7 0 st)=1:=by have:=sr.top;rwa [c9,bj] at this
  have inj: ∀r∈A3 p (sts.take i), ∀r'∈A3 p (sts.take i), ∀c c':Nat,c<p.toNat ->c'<p.toNat ->km p c r st=km p c' r' st ->c=c' /\ r=r':=by
   intro r hr r' mP c c' hc JF e;let⟨r1,r2⟩:=(kP p0 qb r).mp hr;let⟨_V,r2'⟩:=(kP p0 qb r').mp mP;have ex: ∀x,(look r x+look st x*c) % p=(look r' x+look st x*c') % p:=λx=>by rw[<- g_ p0 r1 sr.pat, <- g_ p0 _V sr.pat,e]
   have ec:c=c':=au λne=>by
    have hA:dQ 0 p (sts.take i) λx=>look st x*((c':Int) - c):=dQ.ext (r2.add (r2'.mul (-1))) λx=>by
     have h:=aV.mp (ex x);exact aV.mpr ?_;have e3:look st x*((c':Int) - c) - (look r x+look r' x* -1)= -(look r x+look st x*c - (look r' x+look st x*c')):=by rw[Int.mul_sub];lia
     rw[e3];show Int.emod_eq_zero_of_dvd (Int.dvd_neg.mpr (Int.dvd_of_emod_eq_zero h))
    have gM:=wy (A:=λx=>look st x*((c':Int) - c)) (c:=d7 0 st) hp ⋯ (gr.take i) hA (λx hx=> ?_) #[d7 0 st,by simp[bL],?_];let⟨u,hu,eu⟩:=ag.mp gM;let⟨j,hj⟩:=List.getElem?_of_mem hu;rw[List.getElem?_take] at hj;split at hj;have:=gr.xT j i u st _ _ _ _ (by assumption) hj iB (gr.of (aw hj)) sr;lia;cases hj;have:look st x=0:=au λhn=>by have:=sr.ge x (di hn);lia
    change look st x*_ % p=0;rw[this,bE];rfl;change look st (d7 0 st)*_ % p≠0;rw[one,Int.one_mul];intro h0;have:=aV.mpr h0;rw[bQ ∅ ∅,bQ ∅ ∅] at this;lia
   exact#[ec,?_];subst ec;exact ug p0 r1 _V λx=>aV.mpr ?_;have h:=aV.mp (ex x);rwa [show look r x+look st x*c - (look r' x+look st x*c)=look r x - look r' x by lia] at h
  unfold uX;exact List.pairwise_flatMap.mpr #[λr hr=> ?_,?_];unfold qF;rw[cc];exact List.Pairwise.imp_of_mem (R:=λa b=>a<b) (λha hb wu e=> ?_) (List.pairwise_lt_range);have:=(inj r hr r hr _ _ (bS.mp ha) (bS.mp hb) e).1;lia;exact List.Pairwise.imp_of_mem (λha hb wu x hx y hy e=> ?_) ih;unfold qF at hx hy;let⟨c,hc,rfl⟩:=ag.mp hx;let⟨c',JF,rfl⟩:=ag.mp hy;show wu (inj _ ha _ hb c c' (bS.mp hc) (bS.mp JF) e).2
def mL (T:d3 Pt)(q:Pt):d3 Pt:=if q∈T then T else T++ [q]
def gY (T l:d3 Pt):d3 Pt:=l.foldl mL T
def Fw:r∈mL T q↔r∈T \/ r=q:=by unfold mL;split;symm;show .inl;rintro(h | rfl) <;>assumption;simp
def Jk (h:T.Nodup):(mL T q).Nodup:=by unfold mL;split;show h;exact List.nodup_append.mpr #[h,by simp,λa ha b hb=> ?_];rw[ah.mp hb];intro e;subst e;contradiction
def Fx:(mL T q).length<=T.length+1:=by unfold mL;split<;>simp
theorem we {r:Pt}: ∀ {l T:d3 Pt},r∈gY T l↔r∈T \/ r∈l
 | [],T=>by simp[gY]
 | q::l,T=>by have:=we (r:=r) (l:=l) (T:=mL T q);change r∈gY (mL T q) l↔_;rw[this,Fw,ar,or_assoc]
theorem As: ∀ {l T:d3 Pt},T.Nodup ->(gY T l).Nodup
 | [],T,h=>h
 | q::l,T,h=>As (l:=l) (Jk h)
theorem mM: ∀ {l T:d3 Pt},(gY T l).length<=T.length+l.length
 | [],T=>ao _
 | q::l,T=>by have h1:=mM (l:=l) (T:=mL T q);have h2:=Fx (T:=T) (q:=q);change(gY (mL T q) l).length<=_;rw[aK];lia
def fI (p:Int)(l:d3 Pt):d3 Pt:=l.foldl (λS pt=>gY [] (uX p S pt)) [[]]
def jr:fI p (l++ [st])=gY [] (uX p (fI p l) st):=by simp[fI]
def kx: ∀q,q∈fI p l↔q∈A3 p l:=by
 induction l using WP.d_ with
 | h0=>intro q;rfl
 | h1 l st ih=>
  intro q;rw[jr,kh,we,pd,pd];symm;rintro(h | ⟨r,hr,h⟩);show nomatch h
  show#[r,(ih r).mp hr,h];rintro⟨r,hr,h⟩;show .inr #[r,(ih r).mpr hr,h]
def DE:(fI p l).Nodup:=by
 induction l using WP.d_ with
 | h0=>simp[fI]
 | h1 l st ih=>rw[jr];show As (by simp)
def Be:(fI p l).length<=p.toNat ^ l.length:=by
 induction l using WP.d_ with
 | h0=>show ao _
 | h1 l st ih=>have h:=mM (l:=uX p (fI p l) st) (T:= []);rw[o0] at h;rw[jr,aG,bF,Nat.pow_succ];have:=Nat.mul_le_mul_right p.toNat ih;simp![List.length_nil] at h;lia
def xG (hp:p=2 \/ p=3 \/ p=5 \/ p=7)(uz: ∀pt∈aQ,cy p pt)(gr:qK 0 p sts D)(e:_e 0 p sts aQ):(fI p aQ).length=p.toNat ^ sts.length:=by have p0:0<p:= ∅;have nd:=sX hp gr sts.length (ao _);rw[bN] at nd;rw[<- JX];exact((List.perm_ext_iff_of_nodup DE nd).mpr λq=> ?_).length_eq;rw[kx,kP p0 uz,kP p0 λst h=>(gr.of h).pat];symm;rintro⟨a,b⟩;show#[a,b.trans e.2];rintro⟨a,b⟩;show#[a,b.trans e.1]
def HF (p0:0<p)(uz: ∀pt∈aQ,cy p pt)(hq:cy p q)(e:_e 0 p sts aQ):q∈fI p aQ↔dQ 0 p sts (look q):=by rw[kx,kP p0 uz];symm;rintro⟨a,b⟩;show b.trans e.2;intro b;show#[hq,b.trans e.1]
def Gm:(∀st∈l,(st.length:Int) <=B) -> ∀q∈A3 p l,(q.length:Int) <=B*l.length:=by
 induction l using WP.d_ with
 | h0=>intro _ q hq;simp[A3] at hq;subst hq;simp
 | h1 l st ih=>intro hl q hq;rw[kh] at hq;let⟨r,hr,c,_,rfl⟩:=pd.mp hq;have h1:=ih (λs hs=>hl s (by simp[hs])) r hr;have h2:=hl st (by simp);have h3:=o_ p (r++uY 0 c st);rw[aG,uY,aa] at h3;change((jZ p (r++uY 0 c st)).length:Int) <=_;rw[aG,bF,Int.natCast_add,Int.mul_add,uY];simp![Int.natCast_one,Int.mul_one];lia
theorem A9 (p0:0<p)(hq:cy p q)(hs:cy p st)(h1:Wt Z q)(h2:Wt Z st):Wt Z (km p c q st):=λx hx=>by rw[g_ p0 hq hs] at hx;by_cases e:look q x=0;exact h2 x λz=>hx ?_;rw[e,z];simp;show h1 x e
def xb:(km p c q st).length<=q.length+st.length:=by have h3:=o_ p (q++uY 0 c st);rw[aG,uY,aa] at h3;unfold km;rw[uY];show h3
def n_ (l:d3 Pt):MO:= .dN (l.map λq=>(fC q,wb true))
theorem mq {r:Pt}: ∀ {l:d3 Pt},(jd (l.map λq=>(fC q,wb true)) (fC r)).isSome=decide (r∈l) /\ (r∉l ->jd (l.map λq=>(fC q,wb true)) (fC r)=none)
 | []=>#[rfl,λ_=>rfl]
 | x ::l=>by
  by_cases e:x=r;subst e;exact#[by simp[jd,br],λh=>absurd (by simp) h];have e2:fC x≠fC r:=λz=>e (EH z);have e3:jd ((x::l).map λq=>(fC q,wb true)) (fC r)=jd (l.map λq=>(fC q,wb true)) (fC r):=by simp[jd,br,e2]
  rw[e3];have h:=mq (r:=r) (l:=l);exact#[by rw[h.1];simp[aT e],λg=>h.2 λz=>g (by simp[z])]
def EG:MO.dN (vF (l.map λq=>(fC q,wb true)) (fC r) (wb true))=n_ (mL l r):=by unfold mL;split;rename_i h;unfold vF n_;rw[mq.1,cb h,ap rfl,aH];congr 1;exact bu λq _=> ?_;change(if fC q=fC r then(fC q,wb true) else(fC q,wb true))=_;split<;>rfl;rename_i h;rw[Eh (mq.2 h)];unfold n_;rw[aR];rfl
def Ir {l:d3 Pt}{i:Nat}(h:((l.map λq=>(fC q,wb true)).map λp=>nK p.1)[i]? =some x): ∃q,l[i]? =some q /\ x=dX q:=by
 rw[aH,aB] at h;cases e:l[i]? with
 | none=>rw[e] at h;cases h
 | some q=>rw[e] at h;cases h;show#[q,rfl,ui]
def OU {c:Nat}(h:c<p.toNat):(qF p st q)[c]? =some (km p c q st):=by unfold qF;rw[aB,List.getElem?_range h];rfl
def BM {l T:d3 Pt}(h:l[i]? =some q):gY T (l.take (i+1))=mL (gY T (l.take i)) q:=by rw[bo,h];simp[gY]
def Fy:gY T (a++b)=gY (gY T a) b:=by simp[gY]
def Rt:kn:=λxs M q=>gv λ(u:gi) (p:Int) (aQ:d3 Pt)=>nh (xs= [wi p,wr u]) (M u=some (.lst (aQ.map dX))) (2<=p /\ p<=5) (aQ.length<=3) (∀pt∈aQ,cy p pt /\ pt.length<=1000) (∀d M',M d=none ->Sm M M' ->M' d=some (n_ (fI p aQ)) ->q (wr d) M')
end WQ
set_option maxHeartbeats 4000000
set_option synthInstance.maxSize 100000
set_option synthInstance.maxHeartbeats 0
open PySem L2 WL WP WQ EN PyProof.Rows
local macro_rules | `(tactic| simp? [$xs,*]) => do let a <- ("Xf ZH WH ZW Xq Xr aae Wq Wa Xn VO VN VM VL VJ VI VH VG VF VE Ue Ud Uc Ub Ua T_ T' T9 T8 TZ TY TX TW TV aao _p _j aan _x aam _z _s _A Uf V4 _n VR Uq Ui Qp VS Um VP VT VY VX O6 Xt Uh _l VQ _B Up VW VU V5 O8 O7 Mt VZ _D Pa V2 Qc Uk Ul O_ Qn UB UF UE Wj UA _O Wm Q5 Wl Q1 Ur V8 Us V6 V7 Ug UZ Xp WN UY Uo VD Qo Jh Qm HI HJ V0 UD Xu RX O9 Uj Q6".splitOn " ").toArray.mapM λs => `(Lean.Parser.Tactic.simpLemma| ↓ $(Lean.mkIdent s.toName):term); let b <- ("Ly Jd Lx G3 Jc Jf G5 Je Fk G4 Lw I_ Lv GZ I0 BF Ao BE yt An GY Fi GX CI Fh Jb G2 Ja Fj G1 sl2 sl3 sl0 List.map_cons List.map_nil List.length_cons List.length_nil Nat.zero_add List.cons_append List.nil_append List.set_cons_zero List.set_cons_succ az rL Mh aak aaj aai aac aab aaa Bool.not_true Bool.not_false List.getElem?_cons_zero List.getElem?_cons_succ Option.join_some and_self and_true true_and Option.getD_some Option.getD_none Ut kZ".splitOn " ").toArray.mapM λs => `(Lean.Parser.Tactic.simpLemma| $(Lean.mkIdent s.toName):term); `(tactic| try simp only [$a,*, $b,*, Nat.reduceAdd, Nat.reduceSub, List.reduceReplicate, $xs,*])
local macro_rules | `(tactic| dsimp? [$xs,*]) => `(tactic| (simp? [↓eE, $xs,*]; repeat (with_reducible refine jC ?_; simp? [↓eE, $xs,*])))
local macro_rules | `(tactic| trivial) => `(tactic| first | exact Or.inl rfl | exact Or.inr rfl)
local macro_rules | `(tactic| right) => `(tactic| decide +kernel)
local macro_rules | `(tactic| left) => `(tactic| (intro _ _ _ h; (repeat (cases h; rename_i h)); subst_vars; rfl))
set_option hygiene false
local macro_rules | `(tactic| exists $a, $n, $c) => `(tactic| (have nd : List.Nodup ($n : List Str) := (by decide +kernel); refine okS (N := $n) $a ⟨rfl, rfl, rfl, nd, rfl, by decide +kernel, by decide +kernel⟩ (by left) λcdv A' outer s H E hr => ?_; refine ⟨_, $c, ?_⟩; (try dsimp only [qw]); refine ⟨_, inferInstance, ?_⟩))
set_option hygiene true
namespace kR
open PySem L2 WL WP WQ EN PyProof.Rows
def top (i:Nat):Stmt:=PySem.Challenge.pw_duskround_k24_whole_stairs_without_strid.main.body.getD i (.Pass #[0,0,0,0])
abbrev xM:Stmt:=top 1
abbrev rY:Stmt:=top 3
abbrev K3:Stmt:=LA (top 5) 0
abbrev zP:Stmt:=LA (top 6) 0
abbrev vy:Stmt:=top 7
abbrev im:Stmt:=top 8
abbrev kD:Stmt:=top 9
abbrev lg:Stmt:=top 10
abbrev n9:Stmt:=top 11
abbrev iJ:Stmt:=top 12
abbrev K2:Stmt:=top 13
abbrev zM:Stmt:=top 14
abbrev ju:Stmt:=top 15
abbrev zL:Stmt:=top 16
abbrev rW:Stmt:=top 17
abbrev rV:Stmt:=top 18
abbrev rX:Stmt:=top 19
abbrev oV:Stmt:=top 20
abbrev nG:Stmt:=top 22
abbrev vw:Stmt:=top 23
abbrev pL:Stmt:=top 24
abbrev n8:Stmt:=top 25
abbrev gd:Stmt:=top 26
abbrev tX:Stmt:=top 27
abbrev zO:Stmt:=top 28
abbrev jV:Stmt:=top 29
abbrev vx:Stmt:=top 30
abbrev zN:Stmt:=top 31
set_option genInjectivity false in
set_option genSizeOf false in
structure _i where
 F':Addr
 Gf:FuncData
 sI:Addr
 sR:FuncData
 L_:Addr
 Mc:FuncData
 AG:Addr
 AV:FuncData
 wE:Addr
 wS:FuncData
 ka:Addr
 kf:FuncData
 sJ:Addr
 sS:FuncData
 ly:Addr
 lA:FuncData
 oq:Addr
 oy:FuncData
 iN:Addr
 iQ:FuncData
 L9:Addr
 Mb:FuncData
 AC:Addr
 AR:FuncData
 mV:Addr
 mZ:FuncData
 AB:Addr
 AQ:FuncData
 sF:Addr
 sO:FuncData
 sE:Addr
 sN:FuncData
 sG:Addr
 sP:FuncData
 AF:Addr
 AU:FuncData
 sH:Addr
 sQ:FuncData
 wB:Addr
 wQ:FuncData
 wA:Addr
 wP:FuncData
 om:Addr
 ox:FuncData
 iO:Addr
 iR:FuncData
 AD:Addr
 AS:FuncData
 AE:Addr
 AT:FuncData
 j_:Addr
 ke:FuncData
 wD:Addr
 wR:FuncData
 L8:Addr
 Ma:FuncData
 dy:Addr
 dm:Addr
structure ni (K:PySem.W.Frag)(mg:Str ->Option Value)(A:_i):Prop where
 Mg:mg "abs" =none
 Tt:mg "all" =none
 OW:mg "bool" =none
 za:mg "dict" =none
 oz:mg "enumerate" =none
 Ts:mg "int" =none
 fH:mg "isinstance" =none
 qG:mg "len" =none
 gQ:mg "list" =none
 Tr:mg "min" =none
 iS:mg "range" =none
 iF:mg "sorted" =none
 jH:mg "tuple" =none
 tidy:nj K mg "tidy" ["p","pairs"] xM A.F' A.Gf
 inverse:nj K mg "inverse" ["p","setting"] rY A.sI A.sR
 Row:TU K mg "Row" "Row.__init__" ["self","lamps","parts"] K3 A.dy A.L_ A.Mc
 Stair:TU K mg "Stair" "Stair.__init__" ["self","row","first","length","foot"] zP A.dm A.AG A.AV
 column:nj K mg "column" ["place","stride"] vy A.wE A.wS
 first_column:nj K mg "first_column" ["places","stride"] im A.ka A.kf
 heights:nj K mg "heights" ["places","stride","first"] kD A.sJ A.sS
 add_shifted:nj K mg "add_shifted" ["p","held","others","by","n"] lg A.ly A.lA
 add_moved:nj K mg "add_moved" ["p","stride","row","other","shift","n"] n9 A.oq A.oy
 too_high_or_low:nj K mg "too_high_or_low" ["found","length"] iJ A.iN A.iQ
 cut:nj K mg "cut" ["p","stride","row","stair"] K2 A.L9 A.Mb
 stood:nj K mg "stood" ["p","stride","row"] zM A.AC A.AR
 told_parts:nj K mg "told_parts" ["p","parts","n"] ju A.mV A.mZ
 taken:nj K mg "taken" ["p","stride","stairs","pattern"] zL A.AB A.AQ
 rest_of:nj K mg "rest_of" ["p","stride","stairs","pattern"] rW A.sF A.sO
 take_in:nj K mg "take_in" ["p","stride","held","row"] rV A.sE A.sN
 lie_low:nj K mg "lie_low" ["p","stride","held"] rX A.sG A.sP
 built:nj K mg "built" ["p","stride","patterns"] oV A.AF A.AU
 Aj:nj K mg "_law_begin" ["_law_script"] nG A.sH A.sQ
 jA:nj K mg "_law_take" ["_law_draw","_law_many"] vw A.wB A.wQ
 yp:nj K mg "_law_tidy" ["_law_p","_law_pairs"] pL A.wA A.wP
 nO:nj K mg "_law_pattern" ["_law_draw","_law_p","_law_most","_law_far"] n8 A.om A.ox
 jL:nj K mg "_law_draw_patterns" ["_law_draw","_law_p","_law_most"] gd A.iO A.iR
 Ai:nj K mg "_law_sum" ["_law_p","_law_one","_law_other","_law_by","_law_many"] tX A.AD A.AS
 Ff:nj K mg "_law_int" ["_law_thing"] zO A.AE A.AT
 jB:nj K mg "_law_is_pattern" ["_law_p","_law_thing"] jV A.j_ A.ke
 Fe:nj K mg "_law_sums" ["_law_p","_law_patterns"] vx A.wD A.wR
 law:nj K mg "law" ["_law_script"] zN A.L8 A.Ma
 n_Row_lamps:dZ K A.dy "lamps"
 n_Row_parts:dZ K A.dy "parts"
 n_Stair_first:dZ K A.dm "first"
 n_Stair_foot:dZ K A.dm "foot"
 n_Stair_lamps:dZ K A.dm "lamps"
 n_Stair_length:dZ K A.dm "length"
 n_Stair_parts:dZ K A.dm "parts"
theorem pK:iV ["_law_script"] ["_law_script"] (bD nG):=#[rfl,rfl,rfl,by right,rfl,by right,by right]
theorem DP:iV ["_law_script","_law_draw","_law_p","_law_patterns","_law_further","_law_pattern_here","_law_sums_here","_law_found","_law_count","_law_stair","_law_left"] ["_law_script"] (bD zN):=#[rfl,rfl,rfl,by right,rfl,by right,by right]
def Bv {K:RZ}(T:ni K mg A):d8 P w K mg base jc 1 A.wE A.wS ["place","stride"] (l4 K WC):=by
 exists T.column.fn,["place","stride"],(aO (fX (c8 ls (pv 1) aN (dG _)) (aZ (cU (pv 0))) eg) (aZ (cU (b_ gO (pv 0) (pv 1)))))
 rintro vs M q ⟨x,s,rfl,s0,s1,k⟩;dsimp? [];exact e9 (λh=> ?_) λh=> ?_;dsimp? [];rw[bL,ap h] at k;show qi k;have h0:0<s:= ∅;dsimp? [h0];rw[bL,ai h] at k;show qi k
def gP {K:RZ}(T:ni K mg A):d8 P w K mg base jc 2 A.ka A.kf ["places","stride"] (l4 K EM):=by
 exists T.first_column.fn,["places","stride"],(aZ (cU (Il (by rfl) T.Tr rfl (gD rfl (eV.of (sc:=bD im) (N:= ["places","stride"]) (own:= ["place"]) (fr:= [1]) (N':= ["place","stride"])) (eR (pv 0)) (λ_ _ _ _=>(bX (i:=0) (by change(["place","stride"]:d3 Str).Nodup;decide+kernel) rfl (by trivial))) fF (λ_ _ _ _=>iK) (λ_ _ _ _=>(a_ T.column (Bv T) hr (af (pv 0) (af (pv 1) aL))))) EA)))
 rintro vs M q ⟨a,ns,s,rfl,ha,hl,s0,s1,k0,k1⟩;dsimp? [C3,ha];exact wY (λx:Int=>wi (bL s x)) (big ∅) (λM6 s6=>s6 _ _ ha) ?_ λt ht=> ?_;intro x hx M3 N s3 hN;dsimp? [];exact#[x,s,rfl,s0,s1,?_];dsimp? [];show hN;dsimp? [];exact#[t,ns.map (bL s),rfl,by rw[az,aH];rfl,λe=> ?_,λm hm=> ?_];dsimp? [];show#[M,cK ht,k0 ⇑e];dsimp? [];have c6:ns≠ []:=by rintro rfl;show absurd hm.1 (by simp)
 rw[gV.uniq hm (fQ ⇑c6)];show#[M,cK ht,k1 c6]
def pT {K:RZ}(T:ni K mg A):d8 P w K mg base jc 1 A.sJ A.sS ["places","stride","first"] (l4 K Wz):=by
 exists T.heights.fn,["places","stride","first"],(aO (fX (c8 ls (pv 1) aN (dG _)) (aZ (cU (gD rfl (eV.of (sc:=bD kD) (N:= ["places","stride","first"]) (own:= ["place"]) (fr:= [2]) (N':= ["place","first"])) (eR (pv 0)) (λ_ _ _ _=>(bX (i:=0) (by change(["place","first"]:d3 Str).Nodup;decide+kernel) rfl (by trivial))) fF (λ_ _ _ _=>(oY (c8 ls (pv 0) (pv 1) (dG _)))) (λ_ _ _ _=>aN)))) eg) (aZ (cU (cL y8 (by rfl) T.iF Boot.«sorted» (af (gD rfl (eV.of (sc:=bD kD) (N:= ["places","stride","first"]) (own:= ["place"]) (fr:= [1,2]) (N':= ["place","stride","first"])) (eR (pv 0)) (λ_ _ _ _=>(bX (i:=0) (by change(["place","stride","first"]:d3 Str).Nodup;decide+kernel) rfl (by trivial))) fF (λ_ _ _ _=>(oY (c8 ls (b_ gO (pv 0) (pv 1)) (pv 2) (dG _)))) (λ_ _ _ _=>(b_ uj (pv 0) (pv 1)))) aL)))))
 rintro vs M q ⟨a,ns,s,f,rfl,ha,hl,s0,s1,k⟩;dsimp? [];exact e9 (λh=> ?_) λh=> ?_;subst h;dsimp? [ha];exact qB (λx:Int=>decide (x=f)) (λx:Int=>wi 0) (big ∅) (λM6 s6=>s6 _ _ ha) ?_ λt ht=> ?_;intro x hx M3 N s3 hN;dsimp? [];exact e9 (λh=> ?_) λh=> ?_;dsimp? [];simpa only[h,decide_true,bR] using hN;dsimp? [];simpa only[h,decide_false,ay,be] using hN;dsimp? [];have e:(ns.filter λx=>decide (x=f)).map (λ_=>wi 0)=(mN 0 f ns).map wi:=by unfold mN;rw[aH];rfl
 rw[e];exact qi (k t _ ht (List.Perm.refl _) ?_);unfold mN;rw[cc];show List.pairwise_of_forall λ_ _=>a4 _;have h0:0<s:= ∅;have cd: ∀x,zj x s=True:=λx=>by simp[zj];lia
 dsimp? [ha,h0,cd];exact qB (λx:Int=>decide (x % s=f)) (λx:Int=>wi (x / s)) (big ∅) (λM6 s6=>s6 _ _ ha) ?_ λt ht=> ?_;intro x hx M3 N s3 hN;dsimp? [h0];exact e9 (λh=> ?_) λh=> ?_;dsimp? [h0,cd];simpa only[h,decide_true,bR] using hN;dsimp? [];simpa only[h,decide_false,ay,be] using hN;dsimp? [C1];have e:(ns.filter λx=>decide (x % s=f)).map (λx=>wi (x / s))=(mN s f ns).map wi:=by unfold mN bL hI;rw[aH];simp![h,be];rfl
 exact#[t,mN s f ns,rfl,by rw[az,e],λp ms hp h1 h2=> ?_];dsimp? [];show#[_,Na ht hp,k p ms (by rw[aD (λz=>by rw[z,az] at hp;cases hp)] at hp;show hp) h1 h2]
def pU {K:RZ}(T:ni K mg A):d8 P w K mg base jc 1 A.L_ A.Mc ["self","lamps","parts"] (l4 K (Nv A.dy)):=by
 have cl:=a8 T.Row.cl;have n1:=a8 T.n_Row_lamps;have n2:=a8 T.n_Row_parts;exists T.Row.fn,["self","lamps","parts"],(aO (lG (pv 0) (pv 1) rfl) (aZ (lG (pv 0) (pv 2) rfl)))
 rintro vs M q ⟨s,dx,l,r,rfl,hs,k⟩;have e1:jJ "lamps" l []= [(("lamps" :Str),l)]:=rfl;have e2:jJ "parts" r [(("lamps" :Str),l)]= [(("lamps" :Str),l),(("parts" :Str),r)]:=rfl;dsimp? [hs,cl,n1,n2,e1,e2,Nat.reduceLT];show qi k
def EV {K:RZ}(T:ni K mg A):d8 P w K mg base jc 1 A.AG A.AV ["self","row","first","length","foot"] (l4 K (EK A.dy A.dm)):=by
 have cl:=a8 T.Row.cl;have cl2:=a8 T.Stair.cl;have n1:=a8 T.n_Row_lamps;have n2:=a8 T.n_Row_parts;have m1:=a8 T.n_Stair_lamps;have m2:=a8 T.n_Stair_parts;have m3:=a8 T.n_Stair_first;have m4:=a8 T.n_Stair_length;have m5:=a8 T.n_Stair_foot;exists T.Stair.fn,["self","row","first","length","foot"],(aO (lG (pv 0) (dW (pv 1) rfl) rfl) (aO (lG (pv 0) (dW (pv 1) rfl) rfl) (aO (lG (pv 0) (pv 2) rfl) (aO (lG (pv 0) (pv 3) rfl) (aZ (lG (pv 0) (pv 4) rfl))))))
 rintro vs M q ⟨s,dx,r,dr,l,u,f,g,e,rfl,hsr,hs,hr,k⟩;have f1: [(("lamps" :Str),l),(("parts" :Str),u)].lookup ("lamps" :Str)=some l:=rfl;have f2: [(("lamps" :Str),l),(("parts" :Str),u)].lookup ("parts" :Str)=some u:=rfl;have e1:jJ "lamps" l []= [(("lamps" :Str),l)]:=rfl;have e2:jJ "parts" u [(("lamps" :Str),l)]= [(("lamps" :Str),l),(("parts" :Str),u)]:=rfl;have e3:jJ "first" f [(("lamps" :Str),l),(("parts" :Str),u)]= [(("lamps" :Str),l),(("parts" :Str),u),(("first" :Str),f)]:=rfl;have e4:jJ "length" g [(("lamps" :Str),l),(("parts" :Str),u),(("first" :Str),f)]= [(("lamps" :Str),l),(("parts" :Str),u),(("first" :Str),f),(("length" :Str),g)]:=rfl;have e5:jJ "foot" e [(("lamps" :Str),l),(("parts" :Str),u),(("first" :Str),f),(("length" :Str),g)]= [(("lamps" :Str),l),(("parts" :Str),u),(("first" :Str),f),(("length" :Str),g),(("foot" :Str),e)]:=rfl;dsimp? [hs,hr,cl,cl2,n1,n2,m1,m2,m3,m4,m5,f1,f2,e1,e2,e3,e4,e5,aD (aT hsr),Nat.reduceLT];show qi k
def jY {K:RZ}(T:ni K mg A):d8 P w K mg base jc 1 A.ly A.lA ["p","held","others","by","n"] (l4 K Ru):=by
 exists T.add_shifted.fn,["p","held","others","by","n","key","setting","now"],(aZ (zV (fo bK rfl (vI rfl (pv 2)) (lI (n:=2) rfl (eh (bX (i:=5) nd rfl (by trivial)) (eh (bX (i:=6) nd rfl (by trivial)) jx))) (aO (cn (i:=7) nd rfl (by trivial) (b_ gO (b_ eZ (mo (fb hr) (pv 1) (b_ eZ (pv 5) (pv 3)) aN #[by rfl,by rfl,by rfl,by rfl]) (b_ gx (pv 6) (pv 4))) (pv 0))) (aZ (fX (c8 vM (pv 7) aN (dG _)) (aZ (mj (fb hr) (pv 1) (b_ eZ (pv 5) (pv 3)) (pv 7) rfl)) (aZ (Ie (pv 1) (b_ eZ (pv 5) (pv 3))))))))))
 rintro vs M q ⟨h,o,p,m_,n,a,b,rfl,U',hh,ho,p0,p1,ga,gb,nz,hl,k⟩;exact#[o,_,ho,?_];dsimp? [ho];intro ob ks;have yK:(eY b).map (λkv=>W.tup [fD kv.1,kv.2])=b.map dv:=by unfold eY;rw[aH];rfl
 rw[yK];exact gJ (λi ρ M'=>jQ λ(o1 o2 o3:eB W) (c:Pt)=>CO (ρ= [some (wi p),some (wr h),some (wr o),some (wi m_),some (wi n),o1,o2,o3]) (M' h=some (.dK (eY c))) (M' o=some (.fz ob ks (eY b))) (∀d,d≠h ->d≠o ->M' d=M d) (GD p c) (c.length<=a.length+i) (∀x,look c x=(look a x+dR (K1 m_ (b.take i)) x*n) % p)) #[none,none,none,a,rfl,by rw[aD U'];show hh,az,λd _ h2=>aD h2,ga,ao _,λx=>by have:=ga.range p0 x;simp[K1,dR];show(bQ this.1 this.2).symm] ?_ ?_ ?_;rintro i ρ M' _ ⟨o1,o2,o3,c,rfl,_,h2,_⟩;show h2;rintro i x ρ M' hx ⟨o1,o2,o3,c,rfl,h1,h2,h3,gc,ny,JA⟩ N hN;let⟨z,hz,rfl⟩:=pairs_at hx;have JC:=(ak.mp hz).1;have hzr:=gb.2 z (aw hz);have cm:jq z.2 n=True:=a8 (.inl #[∅, ∅]);have hs:((eY c).length<sizeLine)=True:=by rw[eY,aa];show a8 (w6 ∅)
 have KS: ∀x,(look a x+dR (K1 m_ (b.take (i+1))) x*n) % p=if x=z.1+m_ then(look c (z.1+m_)+z.2*n) % p else look c x:=λx=>by
  have e:K1 m_ (b.take (i+1))=K1 m_ (b.take i)++ [(z.1+m_,z.2)]:=by rw[bo,hz];unfold K1;rw[aR];rfl
  rw[e,l8];by_cases ex:x=z.1+m_;subst ex;rw[ap rfl,ap rfl,JA,Int.emod_add_emod,Int.add_mul,Int.add_assoc];rw[ai ex,ai (λq=>ex q.symm),JA,bj]
 dsimp? [dv,h1,pi,cm,p0];exact uq (λc6=> ?_) λhe=> ?_;have h0:=cw (look c (z.1+m_)+z.2*n) (show p≠0 by lia);have hp:=cj (look c (z.1+m_)+z.2*n) p0;dsimp? [h1,hs,oX];exact hN _ _ #[_,_,_,kW c (z.1+m_) ((look c (z.1+m_)+z.2*n) % p),rfl,az,by rw[aD (aT U')];show h2,λd d1 d2=>by rw[aD d1];show h3 d d1 d2,gc.put ∅ hp,aS p6 ∅,λx=> ?_];rw[KS,nN];have Yl:((eX (eY c) (Sum.inl (z.1+m_))).isSome=true)=True:=a8 (JG λe0=>by rw[e0,bO] at he;show nz z.2 hzr.1 hzr.2 he);dsimp? [h1,Yl,Ga];exact hN _ _ #[_,_,_,gl c (z.1+m_),rfl,az,by rw[aD (aT U')];show h2,λd d1 d2=>by rw[aD d1];show h3 d d1 d2,gc.drop _,aS (BD _ _) ∅,λx=> ?_];rw[KS,yn,he];rintro ρ M' ⟨o1,o2,o3,c,rfl,h1,h2,h3,gc,ny,JA⟩;rw[aa] at ny JA;rw[bN] at JA;exact#[ob,ks,eY b,h2,um M h (.dK (eY c)),λd u e=> ?_,k c gc ny λx=> ?_];by_cases d1:d=h;subst d1;rw[az] at e;rw[aD U',h1];show e;rw[aD d1] at e;by_cases d2:d=o;subst d2;rw[az, <- ho];show e;rw[aD d2,h3 d d1 d2];show e;rw[JA,zp,d6 gb.1]
end kR
open PySem L2 WL WP WQ EN PyProof.Rows
namespace kR
open PySem L2 WL WP WQ EN PyProof.Rows
def jy {K:RZ}(T:ni K mg A):d8 P w K mg base jc 2 A.oq A.oy ["p","stride","row","other","shift","n"] (l4 K (Lk A.dy A.dm)):=by
 exists T.add_moved.fn,["p","stride","row","other","shift","n","which","settings"],(aO (gf (a_ T.add_shifted (jY T) hr (af (pv 0) (af (dW (pv 2) rfl) (af (dW (pv 3) rfl) (af (b_ gx (pv 1) (pv 4)) (af (pv 5) aL))))))) (aZ (zV (fo bK rfl (vI rfl (dW (pv 3) rfl)) (lI (n:=2) rfl (eh (bX (i:=6) nd rfl (by trivial)) (eh (bX (i:=7) nd rfl (by trivial)) jx))) (aZ (gf (a_ T.add_shifted (jY T) hr (af (pv 0) (af (ED (dW (pv 2) rfl) (pv 6) ix #[by rfl,by rfl,by rfl,by rfl]) (af (pv 7) (af (pv 4) (af (pv 5) aL))))))))))))
 rintro vs M q ⟨r,rl,rp,o,ol,op,p,s,sh,n,a,b,P,Q,B,C,rfl,Jq,LN,p0,p1,s0,s1,nz,ip,gH,nA,wu,hPQ,hB,hC,hBC,k⟩;let⟨Cr,dr,yT,ux,xn,Ac,NJ,B_,PX⟩:gv λCr dr yT=>nh (M r=some (.ins Cr dr yT)) (zi K Cr=True) (dZ K Cr "lamps" =True) (dZ K Cr "parts" =True) (yT.lookup ("lamps" :Str)=some (wr rl)) (yT.lookup ("parts" :Str)=some (wr rp)):=by
  rcases Jq with⟨d,e⟩ | ⟨d,f,g,e',e⟩
  show#[_,_,_,e,a8 T.Row.cl,a8 T.n_Row_lamps,a8 T.n_Row_parts,rfl,rfl];show#[_,_,_,e,a8 T.Stair.cl,a8 T.n_Stair_lamps,a8 T.n_Stair_parts,rfl,rfl]
 let⟨Co,dO,fs,ho,clO,nO1,nO2,fO1,fO2⟩:gv λCo dO fs=>nh (M o=some (.ins Co dO fs)) (zi K Co=True) (dZ K Co "lamps" =True) (dZ K Co "parts" =True) (fs.lookup ("lamps" :Str)=some (wr ol)) (fs.lookup ("parts" :Str)=some (wr op)):=by
  rcases LN with⟨d,e⟩ | ⟨d,f,g,e',e⟩
  show#[_,_,_,e,a8 T.Row.cl,a8 T.n_Row_lamps,a8 T.n_Row_parts,rfl,rfl];show#[_,_,_,e,a8 T.Stair.cl,a8 T.n_Stair_lamps,a8 T.n_Stair_parts,rfl,rfl]
 have cm:jq s sh=True:=a8 (.inl #[∅, ∅]);have yg: ∀ {x C' d' B0},M x=some (.ins C' d' B0) ->x∉bJ rl rp P:=λ{x C' d' B0} e hx=>by let⟨kvs,e2⟩:=ip.mem hx;rw[e] at e2;cases e2
 have aat: ∀ {x C' d' B0},M x=some (.ins C' d' B0) ->x∉bJ ol op Q:=λ{x C' d' B0} e hx=>by let⟨kvs,e2⟩:=gH.mem hx;rw[e] at e2;cases e2
 have Pn:rl∈bJ rl rp P:=by simp[bJ]
 have mrp:rp∈bJ rl rp P:=by simp[bJ]
 have mol:ol∈bJ ol op Q:=by simp[bJ]
 have UT:op∈bJ ol op Q:=by simp[bJ]
 have min: ∀t∈Q,t.2.1∈bJ ol op Q:=λt ht=>by simp![bJ,ar,ag];show .inr (.inr #[t,ht,rfl])
 have ndQ:=bw.mp (bw.mp gH.Lo).2;dsimp? [ux,ho,xn,Ac,NJ,clO,nO1,nO2,B_,PX,fO1,fO2,cm];exact#[rl,ol,p,s*sh,n,a,b,rfl,λe=>nA rl Pn (by rw[e];show mol),ip.lam,gH.lam,p0,p1,ip.ga,gH.ga,nz,wu,λc gc ny JA=> ?_];simp? [↓eE];exact jC ?_;have HU:=ip.Xk gc;have ho1:um M rl (.dK (eY c)) o=some (.ins Co dO fs):=by rw[aD (λe=>yg ho (by rw[e];show Pn))];show ho
 have Av:um M rl (.dK (eY c)) r=some (.ins Cr dr yT):=by rw[aD (λe=>yg ux (by rw[e];show Pn))];show ux
 have BP:um M rl (.dK (eY c)) op=some (.dK (l5 Q)):=by rw[aD (λe=>nA rl Pn (by rw[<- e];show UT))];show gH.par
 exact#[op,l5 Q,BP,?_];dsimp? [ho1,clO,nO2,fO2,BP];intro ob ks;have yK:(l5 Q).map (λkv=>W.tup [fD kv.1,kv.2])=Q.map λt=>W.tup [wi t.1,wr t.2.1]:=by unfold l5;rw[aH];rfl
 rw[yK];generalize OG:um M rl (.dK (eY c))=M1 at HU ho1 Av BP;have Xm:eQ M M1 (bJ rl rp P):=λd u e nd=>by rw[<- OG,aD (λz=>nd (by rw[z];show Pn))];show e
 have Vl: ∀x,M1 x=none ->M x=none:=λx e=>by
  cases e2:M x with
  | none=>rfl
  | some u=>by_cases hx:x=rl;(· subst hx;rw[HU.lam] at e;cases e);(· rw[<- OG,aD hx,e2] at e;cases e)
 exact gJ (λi ρ M'=>gv λ(o1 o2:eB W) (P':Pq)=>qW (ρ= [some (wi p),some (wi s),some (wr r),some (wr o),some (wi sh),some (wi n),o1,o2]) (M' op=some (.fz ob ks (l5 Q))) (cG p M' rl rp c P') (eQ M1 M' (op::bJ rl rp P)) (∀x∈bJ rl rp P',x∈bJ rl rp P \/ M1 x=none) (∀x∈bJ rl rp P,x∈bJ rl rp P') (∀w x,look (pf P' w) x=(look (pf P w) x+look (pf (Q.take i) w) (x - sh)*n) % p) (fh (∀w,w∉(Q.take i).map (·.1) ->pf P' w=pf P w) (P'.length<=P.length+i) (∀t∈P',t.2.2.length<=B+C) (∀w∈P'.map (·.1),w∈P.map (·.1) \/ w∈Q.map (·.1)))) #[none,none,P,rfl,az,HU.same λd hd=>aD (λz=>nA d hd (by rw[z];show UT)),λd u e nd=>by rw[aD (λz=>nd (by rw[z];show aI))];show e,λx hx=> .inl hx,λx hx=>hx,λw x=>by change _=(look (pf P w) x+0*n) % p;rw[bE,bj,df p0 (ip.Ey w)],λw _=>rfl,ao _,λt ht=>aS (hB t ht) (Nat.le_add_right _ _),λw hw=> .inl hw] ?_ ?_ ?_;rintro i ρ M' _ ⟨o1,o2,P',rfl,h2,_⟩;show h2;rintro i x ρ M' hx ⟨o1,o2,P',rfl,h2,row,kp,fr,mO,Aw,Py,X6,gM,CJ⟩ N hN;let⟨t,hz,rfl⟩: ∃t,Q[i]? =some t /\ x=W.tup [wi t.1,wr t.2.1]:=by
  rw[aB] at hx;cases e:Q[i]? with
  | none=>rw[e] at hx;cases hx
  | some q=>rw[e] at hx;cases hx;show#[q,rfl,rfl]
 have JC:=(ak.mp hz).1;have LH:=aw hz;have hwi:=Py t.1 (Dk gH.lO hz);have Jp:M' r=some (.ins Cr dr yT):=kp r _ Av (λhm=>by obtain z | z:=ar.mp hm;rw[z,BP] at Av;cases Av;show yg ux z);have jR:t.2.1∉bJ rl rp P:=λz=>nA _ z (min t LH);have XN:M' t.2.1=some (.dK (eY t.2.2)):=kp _ _ (by rw[<- OG,aD (λz=>jR (by rw[z];show Pn))];show gH.At t LH) (λhm=>by obtain z | z:=ar.mp hm;show ndQ.1 (by rw[<- z];show ag.mpr #[t,LH,rfl]);show jR z);have QC:t.2.1∉bJ rl rp P':=λz=>by obtain z | z:=fr _ z;show jR z;have:=gH.At t LH;rw[Vl _ z] at this;cases this
 have hs:((l5 P').length<sizeLine)=True:=by rw[l5,aa];show a8 (w6 ∅)
 have hrp:=row.par;dsimp? [Jp,xn,NJ,PX,hrp];intro e he;have W1:rp≠e:=cM row.par he;have W2:t.2.1≠e:=cM XN he;dsimp? [aD W1,hrp,hs,tO];have W4:op∉bJ rl rp P:=λz=>nA _ z UT;have IH:op∉bJ rl rp P':=λz=>by obtain z | z:=fr _ z;show W4 z;rw[BP] at z;cases z
 have IF:op≠e:=cM h2 he;have hBw:(pf P t.1).length<=B:=by
  unfold pf;cases e2:P.find? (λu=>decide (u.1=t.1)) with
  | none=>show cB _
  | some u=>show hB u (gB e2).1
 have htC:=hC t LH;have Uv: ∀w,w∉(Q.take (i+1)).map (·.1) ->w≠t.1 /\ w∉(Q.take i).map (·.1):=λw hw=>by rw[bo,hz,aR] at hw;show#[λz=>hw (aA.mpr (.inr (by rw[z];show ah.mpr rfl))),λz=>hw (aA.mpr (.inl z))]
 have dne: ∀ {d u},M1 d=some u ->d≠e ->d∉op::bJ rl rp P ->M' d=some u:=λh1 _ h3=>kp _ _ h1 h3;have Z4:M1 e=none:=by
  cases e2:M1 e with
  | none=>rfl
  | some u=>exfalso;by_cases hm:e∈op::bJ rl rp P;obtain z | z:=ar.mp hm;show IF z.symm;let⟨kvs,q2⟩:=row.mem (mO e z);rw[he] at q2;cases q2;rw[kp e u e2 hm] at he;cases he
 cases hf:P'.find? (λu=>decide (u.1=t.1)) with
 | some u=>
  let⟨hu,hw⟩:=gB hf;have eu:u.2.2=pf P t.1:=by rw[<- hwi, <- hw];show(nJ row.lO hu).symm
  have une:u.2.1≠e:=cM (row.At u hu) he;have ME:u.2.1∈bJ rl rp P':=by simp![bJ,ar,ag];show .inr (.inr #[u,hu,rfl])
  rw[Option.map_some,HI];exact#[u.2.1,t.2.1,p,sh,n,u.2.2,t.2.2,rfl,λz=>QC (by rw[<- z];show ME),by rw[aD une];show row.At u hu,by rw[aD W2];show XN,p0,p1,row.gp u hu,gH.gp t LH,nz,by rw[eu];lia,λc' Vi qe Oh=> ?_];have Cc:bJ rl rp (lE P' u.1 c')=bJ rl rp P':=by unfold bJ;rw[xa]
  have Qx:u.1∈P'.map (·.1):=ag.mpr #[u,hu,rfl];exact hN _ _ #[_,_,lE P' u.1 c',rfl,by rw[aD (λz=>IH (by rw[z];show ME)),aD IF];show h2,(row.set hu Vi).same λd hd=> ?_,λd o' e1 nd=> ?_,by rw[Cc];show fr,by rw[Cc];show mO,λw' x=> ?_,λw' G6=> ?_,by unfold lE;rw[aa];lia,λv hv=> ?_,by rw[v9];show CJ];rw[Cc] at hd;by_cases z:d=u.2.1;rw[z,az,az];let⟨kvs,q2⟩:=row.mem hd;rw[aD z,aD z,aD (cM q2 he)];have n1:d≠e:=λz=>by rw[z,Z4] at e1;cases e1
  have n2:d≠u.2.1:=λz=>by obtain q2 | q2:=fr _ ME;show nd (av _ (by rw[z];show q2));rw[z,q2] at e1;cases e1
  rw[aD n2,aD n1];show kp d o' e1 nd;rw[z4 w' Qx,z3 gH.lO hz,hw];by_cases z:w'=t.1;rw[ap z,ap z,Oh,eu,z];rw[ai z,ai z];show Aw w' x;let⟨z1,z2⟩:=Uv w' G6;rw[z4 w' Qx,hw,ai z1];show Py w' z2;let⟨v',rf,rfl⟩:=ag.mp hv;split;change c'.length<=B+C;rw[eu] at qe;lia;show gM v' rf
 | none=>
  have Jv:=B9 hf;have Wu:pf P t.1= []:=by rw[<- hwi];show kF Jv
  rw[Option.map_none,HJ,Eg (c:= []) Jv];exact#[e,t.2.1,p,sh,n,[],t.2.2,rfl,aT W2,by rw[aD (aT W1),az];rfl,by rw[aD (λz=>QC (by rw[z];simp[bJ])),aD W2];show XN,p0,p1,GD.nil,gH.gp t LH,nz,by simp![List.length_nil];lia,λc' Vi qe Oh=> ?_];have epd:l5 (P'++ [(t.1,e,[])])=l5 (P'++ [(t.1,e,c')]):=by unfold l5;rw[aR,aR];rfl
  have Cc:bJ rl rp (P'++ [(t.1,e,c')])=bJ rl rp P'++ [e]:=by unfold bJ;rw[aR];rfl
  exact hN _ _ #[_,_,P'++ [(t.1,e,c')],rfl,by rw[aD IF,aD (λz=>IH (by rw[z];simp[bJ])),aD IF];show h2,(row.new he Jv Vi).same λd hd=> ?_,λd o' e1 nd=> ?_,λx hx=> ?_,λx hx=>by rw[Cc];show aA.mpr (.inl (mO x hx)),λw' x=> ?_,λw' G6=> ?_,by rw[aG,bF];lia,λv hv=> ?_,λw' G6=> ?_];by_cases z:d=e;rw[z,az,aD (aT W1),az];rw[aD z];by_cases z2:d=rp;rw[z2,az,az,epd];rw[aD z2,aD z2,aD z,aD z];have n1:d≠e:=λz=>by rw[z,Z4] at e1;cases e1
  have n2:d≠rp:=λz=>nd (av _ (by rw[z];show mrp));rw[aD n1,aD n2,aD n1];show kp d o' e1 nd;rw[Cc] at hx;obtain hx | hx:=aA.mp hx;show fr x hx;rw[ah.mp hx];show .inr Z4;rw[xY w' Jv,z3 gH.lO hz];by_cases z:w'=t.1;rw[ap z,ap z,Oh,z,Wu];rw[ai z,ai z];show Aw w' x;let⟨z1,z2⟩:=Uv w' G6;rw[xY w' Jv,ai z1];show Py w' z2;obtain hv | hv:=aA.mp hv;show gM v hv;rw[ah.mp hv];change c'.length<=B+C;simp![List.length_nil] at qe;lia;rw[aR] at G6;obtain G6 | G6:=aA.mp G6;show CJ w' G6;rw[ah.mp G6];show .inr (ag.mpr #[t,LH,rfl])
 rintro ρ M' ⟨o1,o2,P',rfl,h2,row,kp,fr,mO,Aw,Py,X6,gM,CJ⟩;rw[aa] at X6 Aw Py;rw[bN] at Aw Py;have W4:op∉bJ rl rp P:=λz=>nA _ z UT;have IH:op∉bJ rl rp P':=λz=>by obtain z | z:=fr _ z;show W4 z;rw[BP] at z;cases z
 exact#[ob,ks,l5 Q,h2,qi (k _ c P' (row.same λd hd=>aD (λz=>IH (by rw[<- z];show hd))) JA Aw (λd u e nd=> ?_) (λx hx=>(fr x hx).imp id (Vl x)) mO ny X6 gM CJ)];by_cases hd:d=op;subst hd;rw[az, <- gH.par];show e;rw[aD hd];show kp d u (Xm d u e nd) λhm=>(ar.mp hm).elim hd nd
def lL {K:RZ}(T:ni K mg A):d8 P w K mg base jc 1 A.iN A.iQ ["found","length"] (l4 K Ww):=by
 exists T.too_high_or_low.fn,["found","length"],(aO (fX (rZ (c8 ls (pv 1) aN (dG _)) (ua (jv (Bo (pv 0))))).pt (aZ (cU (pv 0))) eg) (aZ (cU (b_ ES (xZ (by rfl) T.gQ (by rfl) T.iS rfl (af (dE dj (pv 0) (lj iW aN) (λ_ _=>rfl)) (af (b_ jX (pv 1) aN) (af (lj iW aN) aL)))) (x_ (by rfl) T.gQ (by rfl) T.iS rfl (af (dE dj (pv 0) aN (λ_ _=>rfl)) (af aN aL)))))))
 rintro vs M q ⟨f,ns,len,rfl,hf,l0,l1,hn,hb,k⟩;by_cases hl:len=0;have e:pD ns len=ns:=ap (.inl hl);rw[e] at k;dsimp? [hl,decide_true];show qi (k f M (Sm.refl M) hf);have qe:decide (len=0)=false:=bV hl;have htr: ∀ {k:Bool ->Prop},MP M (.v (.ref f)) k=k (!(ns.map wi).isEmpty):=Df hf;by_cases c6:ns= []
 have e:pD ns len=ns:=ap (.inr c6);rw[e] at k;subst c6;dsimp? [qe,htr,dB,List.isEmpty_nil,Bool.not_true,Bool.not_false];show qi (k f M (Sm.refl M) hf);have hie:(ns.map wi).isEmpty=false:=by cases ns with | nil=>show absurd rfl c6 | cons a r=>rfl
 have h1:lX (ns.map wi) (-1)=some (wi (ns.getLastD 0)):=tz c6;have h0:lX (ns.map wi) 0=some (wi (ns.headD 0)):=by
  cases ns with
  | nil=>show absurd rfl c6
  | cons a r=>show Mh
 have F5: -4000000<ns.getLastD 0 /\ ns.getLastD 0<4000000:=hb _ (kK c6);have hbh: -4000000<ns.headD 0 /\ ns.headD 0<4000000:=by
  exact hb _ ?_;cases ns with
  | nil=>show absurd rfl c6
  | cons a r=>show aI
 dsimp? [qe,htr,hie,Bool.not_false,hf,h1,h0,C5];exact#[ns.getLastD 0,len - 1,rfl,#[⋯,⋯, ∅, ∅], ∅,λu hu=> ?_];have nu:f≠u:=cM hf hu;dsimp? [aD nu,hf,h0,C7];exact#[ns.headD 0,0,rfl,#[∅, ∅, ∅, ∅], ∅,λv hv=> ?_];have WV:u≠v:=cM az hv;dsimp? [aD WV];have e:pD ns len=mX (ns.getLastD 0) (ns.getLastD 0 - (len - 1)).toNat++vc (ns.headD 0) (0 - ns.headD 0).toNat:=ai (by rintro(z | z);(· show hl z);(· show c6 z));exact#[big (by unfold AK fK;rw[aa,aa,cz,cz];lia),λp hp=>qi (k p _ (((cK hu).trans (cK hv)).trans (cK hp)) ?_)];rw[az,e,aR];unfold AK fK mX vc;rw[aH,aH];rfl
def yf {K:RZ}(T:ni K mg A):d8 P w K mg base jc 3 A.L9 A.Mb ["p","stride","row","stair"] (l4 K (WB A.dy A.dm)):=by
 have Hg:=a8 T.Stair.cl;have nS3:=a8 T.n_Stair_first;have W':=a8 T.n_Stair_length;have nS5:=a8 T.n_Stair_foot;exists T.cut.fn,["p","stride","row","stair","found","height","setting"],(aO (cn (i:=4) nd rfl (by trivial) (a_ T.heights (pT T) hr (af (dJ (iD rfl) (by rfl) T.gQ Boot.«list» (af (dW (pv 2) rfl) aL)) (af (pv 1) (af (dW (pv 3) rfl) aL))))) (aZ (fo bK rfl (eR (a_ T.too_high_or_low (lL T) hr (af (pv 4) (af (dW (pv 3) rfl) aL)))) (bX (i:=5) nd rfl (by trivial)) (aO (cn (i:=6) nd rfl (by trivial) (mo (fb hr) (dW (pv 2) rfl) (b_ eZ (dW (pv 3) rfl) (b_ gx (pv 5) (pv 1))) aN #[by rfl,by rfl,by rfl,by rfl])) (aO (fX (c8 ls (pv 6) aN (dG _)) (aZ vG) eg) (aZ (fX (c8 vN (pv 5) aN (dG _)) (aZ (gf (a_ T.add_moved (jy T) hr (af (pv 0) (af (pv 1) (af (pv 2) (af (pv 3) (af (pv 5) (af (b_ gx (lj iW (pv 6)) (dW (pv 3) rfl)) aL))))))))) (aZ (gf (a_ T.add_moved (jy T) hr (af (pv 0) (af (pv 1) (af (pv 2) (af (pv 3) (af (b_ jX (pv 5) (dW (pv 3) rfl)) (af (lj iW (pv 6)) aL))))))))))))))))
 rintro vs M q ⟨r,rl,rp,o,ds,ol,op,p,s,f,len,foot,a,b,P,Q,B,C,Z,D,rfl,Jq,LN,hp,s0,s8,IY,F,ip,gH,nA,wa,O5,z0,z1,d0,d1,hB,hC,b0,b1,c0,c1,hPQ,k⟩;let⟨Cr,dr,yT,ux,xn,Ac,NJ,B_,PX⟩:gv λCr dr yT=>nh (M r=some (.ins Cr dr yT)) (zi K Cr=True) (dZ K Cr "lamps" =True) (dZ K Cr "parts" =True) (yT.lookup ("lamps" :Str)=some (wr rl)) (yT.lookup ("parts" :Str)=some (wr rp)):=by
  rcases Jq with⟨d,e⟩ | ⟨d,f,g,e',e⟩
  show#[_,_,_,e,a8 T.Row.cl,a8 T.n_Row_lamps,a8 T.n_Row_parts,rfl,rfl];show#[_,_,_,e,a8 T.Stair.cl,a8 T.n_Stair_lamps,a8 T.n_Stair_parts,rfl,rfl]
 have p0:0<p:= ∅;have fS3: [(("lamps" :Str),wr ol),(("parts" :Str),wr op),(("first" :Str),wi f),(("length" :Str),wi len),(("foot" :Str),wi foot)].lookup ("first" :Str)=some (wi f):=rfl;have Zw: [(("lamps" :Str),wr ol),(("parts" :Str),wr op),(("first" :Str),wi f),(("length" :Str),wi len),(("foot" :Str),wi foot)].lookup ("length" :Str)=some (wi len):=rfl;have fS5: [(("lamps" :Str),wr ol),(("parts" :Str),wr op),(("first" :Str),wi f),(("length" :Str),wi len),(("foot" :Str),wi foot)].lookup ("foot" :Str)=some (wi foot):=rfl;have PF:=wa.len ip.ga z0;have qc:(d9 a).length<=16000000:=by unfold d9;rw[aa];lia
 have rh:=ip.lam;dsimp? [ux,xn,Ac,B_];exact#[rl,eY a,rfl,rh,λu hu=> ?_];rw[mF];have W3:o≠u:=cM LN hu;dsimp? [aD W3,LN,Hg,nS3,fS3];exact#[u,d9 a,s,f,rfl,az,qc,s0, ∅,λv ms hv cX gT=> ?_];have nov:o≠v:=cM (by rw[aD W3];show LN) hv;dsimp? [aD W3,aD nov,LN,Hg,W',Zw];have hpa: ∀x∈d9 a, -Z<=x /\ x<=Z:=λx hx=>by let⟨z,hz,rfl⟩:=ag.mp hx;show wa z.1 (by rw[iz ip.ga.1 hz];have:=ip.ga.2 z hz;lia)
 have nw: ∀m∈ms, ∃x,dh (-Z<=x) (x<=Z) (m=hI s x):=λm hm=>by let⟨x,hx,e⟩:=ag.mp (cX.mem_iff.mp hm);have:=hpa x (aP.mp hx).1;show#[x,this.1,this.2,e.symm]
 have PD: ∀m∈ms, -Z - 1<=m /\ m<=Z:=λm hm=>by let⟨x,h1,h2,rfl⟩:=nw m hm;show S9 (f:=f) s0 s8 #[h1,h2] z0
 have Oe:ms.length<=(2*Z+1).toNat:=by rw[cX.length_eq];exact aS ?_ (aS (Nat.le_of_eq (aa (as:=a) (λz=>z.1))) PF);unfold mN;rw[aa];show List.length_filter_le _ _
 exact#[v,ms,len,rfl,az,F.l0, ∅, ∅,λx hx=>by have:=PD x hx;lia,λt M1 sm OG=> ?_];let⟨HS,SX⟩:=Di F.l0 gT (cX.nodup_iff.mpr (kM ip.ga.1 s0));have dS:(pD ms len).length<=(2*Z+2).toNat:=aS (HB F.l0 z0 PD Oe) ∅;have Oy:=λh (hh:h∈pD ms len)=>Dj F.l0 hh;have yH:s=0 -> ∀h∈pD ms len,h=0:=λe h hh=>by have l0:=F.s0 e;have e2:pD ms len=ms:=ap (.inl l0);rw[e2] at hh;let⟨x,_,_,rfl⟩:=nw h hh;unfold hI;rw[ap e]
 let⟨hs,ZC⟩: ∃hs,hs=pD ms len:=#[_,rfl]
 rw[<- ZC] at OG HS SX dS Oy yH;dsimp? [OG];have Q0:Sm M M1:=((cK hu).trans (cK hv)).trans sm;exact gJ (λi ρ M'=>J1 λ(o5 o6:eB W) (c:Pt) (P':Pq) (js:d3 (Int×Int))=>qW (ρ= [some (wi p),some (wi s),some (wr r),some (wr o),some (wr v),o5,o6]) (M' t=some (.lst (hs.map wi))) (cG p M' rl rp c P') (nr s p f len b a hs i c js) (∀w x,look (pf P' w) x=(look (pf P w) x+dw (λsh=>look (pf Q w) (x - sh)) js) % p) (s=0 -> ∀j∈js,j.1=0) (Wt (Z+D+s) c) (qW (eQ M M' (bJ rl rp P)) (∀x∈bJ rl rp P',x∈bJ rl rp P \/ M x=none) (∀x∈bJ rl rp P,x∈bJ rl rp P') (∀t∈P',Wt (max B (C+Z+1)) t.2.2) (∀w∈P'.map (·.1),w∈P.map (·.1) \/ w∈Q.map (·.1)) (look c=yY s p f len foot b (hs.take i) (look a)) (∀j∈js, -Z - 1<=j.1 /\ j.1<=Z) (∀j∈js, ∃h∈hs,j.1=i_ len h))) #[none,none,a,P,[],rfl,OG,ip.keep (eQ.sm Q0 []) (λd _ h=>by cases h),#[λx=> ?i1,λj g hj _=>absurd hj (Nat.not_lt_zero j),λx hx c6=> ?i2,λx _=>rfl],λw x=> ?i3,(λ_ j hj=>by cases hj),λx hx=> ?i4,eQ.sm Q0 _,λx hx=> .inl hx,λx hx=>hx,λt ht=>(hB t ht).up ∅,λw hw=> .inl hw,rfl,(λj h=>by cases h),(λj h=>by cases h)] ?_ ?_ ?_;case i1=>change _=(look a x+0) % p;rw[bj,df p0 ip.ga]
 case i2=>
  exact SX _ (cX.mem_iff.mpr (ag.mpr #[x,aP.mpr #[?_, ⇑hx],rfl]))
  show di c6
 case i3=>change _=(look (pf P w) x+0) % p;rw[bj,df p0 (ip.Ey w)]
 case i4=>have:=wa x hx;lia
 rintro i ρ M' _ ⟨o5,o6,c,P',js,rfl,h2,_⟩;show h2;rintro i x ρ M' hx ⟨o5,o6,c,P',js,rfl,h2,row,cst,Aw,G_,wc,kp,fr,mO,gM,CJ,xm,G9,U9⟩ N hN;let⟨h,hz,rfl⟩: ∃h,hs[i]? =some h /\ x=wi h:=by
  rw[aB] at hx;cases e:hs[i]? with
  | none=>rw[e] at hx;cases hx
  | some q=>rw[e] at hx;cases hx;show#[q,rfl,rfl]
 have hm:=aw hz;have JC:=(ak.mp hz).1;have yg: ∀ {x C' d' B0},M x=some (.ins C' d' B0) ->x∉bJ rl rp P:=λ{x C' d' B0} e hx=>by let⟨kvs,e2⟩:=ip.mem hx;rw[e] at e2;cases e2
 have Jp:=kp r _ ux (yg ux);have U4:=kp o _ LN (yg LN);have hlm:=row.lam;have hh1: -4000000<h /\ h<4000000:=by obtain z | z:=dC h 0;let⟨m,h3,h4⟩:=(Oy h hm).1 z;have:=PD m h3;lia;let⟨m,h3,h4⟩:=(Oy h hm).2 z;have:=PD m h3;lia
 have cm:jq h s=True:=a8 (.inr #[∅, ∅]);dsimp? [Jp,U4,xn,Hg,Ac,nS3,W',nS5,B_,fS3,Zw,fS5,hlm,cm,pi];exact e9 (λe0=>hN _ _ #[_,_,c,P',js,rfl,h2,row,cst.skip hz e0,Aw,G_,wc,kp,fr,mO,gM,CJ,by rw[sT hz, <- xm];show(ap e0).symm,G9,U9]) λe0=> ?_;have hl:=row.ga.range p0 (f+h*s);have Om:=F.ft;have Sw:NZ p (-look c (f+h*s)):=se hp λe=>e0 (by have:=cS (-look c (f+h*s)) (Int.dvd_refl p);have h3:(-look c (f+h*s)) % p=0:=e;have:=Int.dvd_of_emod_eq_zero h3;have h4:=Int.dvd_neg.mp this;have h5:=Int.emod_eq_zero_of_dvd h4;rw[bQ hl.1 hl.2] at h5;show h5);have XY:NZ p (-look c (f+h*s)*foot):=se hp λe=>Sw foot Om.1 Om.2 (by rw[bP];show e);have Q9:=gH.keep kp λd hd kY=>nA d kY hd;have ZG: ∀x∈bJ rl rp P',x∉bJ ol op Q:=λx hx gq=>by obtain z | z:=fr x hx;show nA x z gq;let⟨kvs,e⟩:=gH.mem gq;rw[z] at e;cases e
 have ny:=wc.len row.ga ∅;have F5:=O5.len gH.ga d0;have U8:=Fl row.lO CJ;have JB: ∀t∈P',t.2.2.length<=(2*max B (C+Z+1)+1).toNat:=λt ht=>(gM t ht).len (row.gp t ht) ∅;have hC': ∀t∈Q,t.2.2.length<=(2*C+1).toNat:=λt ht=>(hC t ht).len (gH.gp t ht) c0;have Xv:qS A.dy A.dm M' r rl rp:=Jq.keep kp (yg ux);have Wh: -Z - 1<=i_ len h /\ i_ len h<=Z:=by have l0:=F.l0;unfold i_;split;rename_i jO;let⟨m,h3,h4⟩:=(Oy h hm).1 jO;have:=PD m h3;lia;rename_i jO;let⟨m,h3,h4⟩:=(Oy h hm).2 ∅;have:=PD m h3;have:=HS.out h hm;lia
 have shb: -(Z+s) <=s*i_ len h /\ s*i_ len h<=Z+s:=by obtain z | z:=Int.lt_or_eq_of_le s0;unfold i_;split;rename_i jO;let⟨m,h3,h4⟩:=(Oy h hm).1 jO;let⟨x,h5,h6,rfl⟩:=nw m h3;have h7:=yQ (x:=x) z;have h8:=a9 h4 s0;have h9:s*h<=0:=Int.mul_nonpos_of_nonneg_of_nonpos s0 ∅;lia;rename_i jO;let⟨m,h3,h4⟩:=(Oy h hm).2 ∅;let⟨x,h5,h6,rfl⟩:=nw m h3;have h7:=yQ (x:=x) z;have h8:=a9 h4 s0;have hol:=HS.out h hm;have h9:0<=s*(h - len):=cI s0 ∅;have Vh:s*(h - len) <=s*h:=a9 (by have:=F.l0;lia) s0;lia;rw[<- z,bE];lia
 have fin: ∀n,(n=if h<0 then -(look c (f+h*s))*foot else -(look c (f+h*s))) ->NZ p n ->Lk A.dy A.dm [wi p,wi s,wr r,wr o,wi (i_ len h),wi n] M' λ_ M2=>N [some (wi p),some (wi s),some (wr r),some (wr o),some (wr v),some (wi h),some (wi (look c (f+h*s)))] M2:=λn hn nz=>by
  exact#[r,rl,rp,o,ol,op,p,s,i_ len h,n,c,b,P',Q,_,_,rfl,Xv, .inr #[_,_,_,_,U4],p0, ∅,s0, ∅,nz,row,Q9,ZG, ∅, ∅,JB,hC', ∅,λM2 c' P2 kT ec ep IZ JQ MW _ _ SM FS=>hN _ _ #[_,_,c',P2,(i_ len h,n)::js,rfl,?_,kT,cst.step F HS s0 p0 yH row.ga kT.ga hz hn ec,λw x=> ?_,λe j hj=> ?_,λx hx=> ?_,kp.trans IZ fr,λx hx=> ?_,λx hx=>MW x (mO x hx),λt ht=> ?_,λw hw=> ?_,?_,λj hj=> ?_,λj hj=> ?_]];show IZ t _ h2 λhx=>by let⟨kvs,e⟩:=row.mem hx;rw[h2] at e;cases e
  rw[ep,Aw,Int.emod_add_emod,cq,Int.add_assoc,Int.add_comm (dw _ js)];obtain rfl | hj:=ar.mp hj;have e1:=yH e h hm;have e2:=F.s0 e;change i_ len h=0;rw[e1,e2];rfl;show G_ e j hj;rw[ec] at hx;by_cases hc:look c x=0;have hb:look b (x - s*i_ len h)≠0:=λe=>hx (by rw[hc,e,bE];rfl);have:=O5 _ hb;lia;show wc x hc;obtain z | z:=JQ x hx;show fr x z;cases e:M x with
  | none=>show .inr rfl
  | some u=>by_cases gq:x∈bJ rl rp P;show .inl gq;rw[kp x _ e gq] at z;cases z
  intro x hx;rw[<- nJ kT.lO ht,ep] at hx;by_cases hc:look (pf P' t.1) x=0;have hb:look (pf Q t.1) (x - i_ len h)≠0:=λe=>hx (by rw[hc,e,bE];rfl);have:=Ki hC t.1 _ hb;lia;show Ki gM t.1 x hc;obtain z | z:=FS w hw;show CJ w z;show .inr z;rw[sT hz, <- xm];unfold DF;rw[ai e0, <- hn];show funext ec;obtain rfl | hj:=ar.mp hj;show Wh;show G9 j hj;obtain rfl | hj:=ar.mp hj;show#[h,hm,rfl];show U9 j hj
 dsimp? [];exact e9 (λjO=> ?_) λjO=> ?_;have ZK:jq (-look c (f+h*s)) foot=True:=a8 (.inr #[∅, ∅]);dsimp? [U4,Hg,nS5,fS5,ZK];have:=fin _ rfl (by rw[ap jO];show XY);rw[ap jO,show i_ len h=h from ap jO] at this;show this;dsimp? [U4,Hg,W',Zw];have:=fin _ rfl (by rw[ai jO];show Sw);rw[ai jO,show i_ len h=h - len from ai jO] at this;show this;rintro ρ M' ⟨o5,o6,c,P',js,rfl,h2,row,cst,Aw,G_,wc,kp,fr,mO,gM,CJ,xm,G9,U9⟩;rw[aa] at cst xm;rw[bN] at xm;show qi (k M' c P' js row cst.rel Aw G_ (cst.low s0) cst.NQ wc kp fr mO gM CJ #[ms,cX,gT,by rw[xm,ZC],by rw[<- ZC];show U9] G9)
def pS {K:RZ}(T:ni K mg A):d8 P w K mg base jc 1 A.sI A.sR ["p","setting"] (l4 K EL):=by
 exists T.inverse.fn,["p","setting","found","at"],(aO (cn (i:=2) nd rfl (by trivial) aN) (aO (fo bK rfl (ji (by rfl) T.iS (af (b_ jX (pv 0) aN) aL)) (bX (i:=3) nd rfl (by trivial)) (aZ (cn (i:=2) nd rfl (by trivial) (b_ gO (b_ gx (pv 2) (pv 1)) (pv 0))))) (aZ (cU (pv 2)))))
 rintro vs M q ⟨p,s,rfl,hp,s0,s1,k⟩;have XS:(0<p)=True:=a8 ∅;have cm: ∀x,jq x s=True:=λx=>a8 (.inr #[∅, ∅]);simp? [↓eE];exact jC ?_; simp? [↓eE];exact#[#[∅, ∅],gJ (λi ρ M'=> ∃o:eB W,ρ= [some (wi p),some (wi s),some (wi (pw p s i)),o] /\ M'=M) #[none,rfl,rfl] (λ_ _ _ _ _=>trivial) ?_ ?_];rintro i x ρ M' hx ⟨o,rfl,rfl⟩ N hN;let⟨hi,rfl⟩:=mf hx;simp? [↓eE,cm,XS];show hN _ _ #[_,rfl,rfl];rintro ρ M' ⟨o,rfl,rfl⟩;rw[kE];dsimp only;exact jC ?_; simp? [↓eE];let⟨h1,h2,h3⟩:=Nj p s hp s0 s1;show qi (k _ h1 h2 h3)
def pQ {K:RZ}(T:ni K mg A):d8 P w K mg base jc 4 A.AC A.AR ["p","stride","row"] (l4 K (Nt A.dy A.dm)):=by
 have xn:=a8 T.Row.cl;have Ac:=a8 T.n_Row_lamps;exists T.stood.fn,["p","stride","row","first","found","turn","upright"],(aO (cn (i:=3) nd rfl (by trivial) (a_ T.first_column (gP T) hr (af (dJ (iD rfl) (by rfl) T.gQ Boot.«list» (af (dW (pv 2) rfl) aL)) (af (pv 1) aL)))) (aO (cn (i:=4) nd rfl (by trivial) (a_ T.heights (pT T) hr (af (dJ (iD rfl) (by rfl) T.gQ Boot.«list» (af (dW (pv 2) rfl) aL)) (af (pv 1) (af (pv 3) aL))))) (aO (cn (i:=5) nd rfl (by trivial) (a_ T.inverse (pS T) hr (af (pv 0) (af (e_ (fb hr) (dW (pv 2) rfl) (b_ eZ (pv 3) (b_ gx (dE dj (pv 4) (lj iW aN) (λ_ _=>rfl)) (pv 1))) (λ_ _=>rfl)) aL)))) (aO (cn (i:=6) nd rfl (by trivial) (jj T.Row (pU T) (hr.mono ⋯) (by rfl) (af ix (af ix aL)))) (aO (gf (a_ T.add_moved (jy T) hr (af (pv 0) (af (pv 1) (af (pv 6) (af (pv 2) (af (lj iW (dE dj (pv 4) aN (λ_ _=>rfl))) (af (pv 5) aL)))))))) (aZ (cU (jj T.Stair (EV T) (hr.mono ⋯) (by rfl) (af (pv 6) (af (pv 3) (af (b_ jX (dE dj (pv 4) (lj iW aN) (λ_ _=>rfl)) (dE dj (pv 4) aN (λ_ _=>rfl))) (af (a_ T.inverse (pS T) hr (af (pv 0) (af (e_ (fb hr) (dW (pv 6) rfl) (pv 3) (λ_ _=>rfl)) aL))) aL))))))))))))
 rintro vs M q ⟨r,dr,rl,rp,p,s,a,P,B,D,rfl,ux,hp,s0,s8,ip,c6,wa,d0,d1,hB,hBl,S2,k⟩;have p0:0<p:= ∅;have B_: [(("lamps" :Str),wr rl),(("parts" :Str),wr rp)].lookup ("lamps" :Str)=some (wr rl):=rfl;have PF:=wa.len ip.ga d0;have qc:(d9 a).length<=16000000:=by unfold d9;rw[aa];lia
 have rh:=ip.lam;dsimp? [ux,xn,Ac,B_];exact#[rl,eY a,rfl,rh,λu hu=> ?_];rw[mF];exact#[u,d9 a,s,rfl,az,qc,s0, ∅,λe=>absurd (List.map_eq_nil_iff.mp e) c6,λ_=> ?_];have mm:=λms=>RN (s:=s) (a:=a) (ms:=ms) c6;generalize fA ((d9 a).map (bL s))=f at mm ⊢;have W0:r≠u:=cM ux hu;have _Z:rl≠u:=cM rh hu;dsimp? [aD W0,aD _Z,ux,xn,Ac,B_];exact#[rl,eY a,rfl,by rw[aD _Z];show rh,λu2 hu2=> ?_];rw[mF];exact#[u2,d9 a,s,f,rfl,az,qc,s0, ∅,λv ms hv cX gT=> ?_];let⟨nw,mn⟩:=mm ms cX gT;have h1:lX (ms.map wi) (-1)=some (wi (ms.getLastD 0)):=tz nw;have h0:lX (ms.map wi) 0=some (wi (ms.headD 0)):=by
  cases ms with
  | nil=>show absurd rfl nw
  | cons a r=>show Mh
 generalize ms.getLastD 0=tp at mn h1;generalize ms.headD 0=m at mn h0;have nF:Sm M (um (um (um M u (.lst ((d9 a).map wi))) u2 (.lst ((d9 a).map wi))) v (.lst (ms.map wi))):=((cK hu).trans (cK hu2)).trans (cK hv);have Sd:um (um (um M u (.lst ((d9 a).map wi))) u2 (.lst ((d9 a).map wi))) v (.lst (ms.map wi)) v=some (.lst (ms.map wi)):=az;generalize um (um (um M u (.lst ((d9 a).map wi))) u2 (.lst ((d9 a).map wi))) v (.lst (ms.map wi))=M1 at nF Sd ⊢;have Av:=nF _ _ ux;have SG:=nF _ _ rh;have cm:jq tp s=True:=a8 (.inr #[∅, ∅]);have N6:=uR s0 mn.hi;have Jm:=pA (m:=a) N6.1;have Oi:=eD ip.ga N6.1;dsimp? [Sd,h1,Av,xn,Ac,B_,SG,cm,Jm];exact#[p,_,rfl,hp,Oi.1,Oi.2,λtn Pb Kx FK=> ?_];dsimp? [];intro e1 Op e2 Ha x dx hx Oq SS;exact#[x,dx,wr e1,wr e2,rfl,az,rfl,?_];have Bj:Sm M1 (um (um (um M1 e1 (.dK [])) e2 (.dK [])) x (.ins A.dy dx [("lamps",wr e1),("parts",wr e2)])):=((cK Op).trans (cK Ha)).trans (cK hx);dsimp? [];have LD:um (um (um M1 e1 (.dK [])) e2 (.dK [])) x (.ins A.dy dx [("lamps",wr e1),("parts",wr e2)]) x=some (.ins A.dy dx [("lamps",wr e1),("parts",wr e2)]):=az;have si:e1≠e2:=cM az Ha;have Lp:e1≠x:=cM (by rw[aD si];show az) hx;have GW:e2≠x:=cM az hx;have hf1:M1 e2=none:=by rw[aD (aT si)] at Ha;show Ha
 have hf2:M1 x=none:=by rw[aD (aT GW),aD (aT Lp)] at hx;show hx
 have vB:cG p (um (um (um M1 e1 (.dK [])) e2 (.dK [])) x (.ins A.dy dx [("lamps",wr e1),("parts",wr e2)])) e1 e2 [] []:=#[by rw[aD Lp,aD si];show az,by rw[aD GW];show az,(λt ht=>by cases ht),GD.nil,(λt ht=>by cases ht),List.nodup_nil,by simp[bJ,si]]
 generalize um (um (um M1 e1 (.dK [])) e2 (.dK [])) x (.ins A.dy dx [("lamps",wr e1),("parts",wr e2)])=M2 at Bj LD vB ⊢;have Sc:=Bj _ _ Sd;have Jp:=Bj _ _ Av;have JQ: ∀d,d∈x::bJ e1 e2 [] ->M1 d=none:=λd hd=>by simp![bJ,ar,dB,List.not_mem_nil,or_false] at hd;obtain rfl | rfl | rfl:=hd;show hf2;show Op;show hf1
 have Zr: ∀d,M1 d=none ->M d=none:=λd hd=>by
  cases e:M d with
  | none=>rfl
  | some o=>rw[nF _ _ e] at hd;cases hd
 have Q_:cG p M2 rl rp a P:=ip.keep (eQ.sm (nF.trans Bj) []) (λd _ h=>by cases h);have nz:NZ p tn:=se hp (by rw[bQ ∅ Kx];lia);dsimp? [Sc,h0];exact#[x,e1,e2,r,rl,rp,p,s, -m,tn,[],a,[],P,0,B,rfl, .inl #[_,LD], .inl #[_,Jp],p0, ∅,s0, ∅,nz,vB,Q_,?_,by change 0+a.length<=_;lia,by change 0+P.length<=_;lia,(λt ht=>by cases ht),hB, ∅,λM3 b Q oF eb eq Pu F8 aar F5 _ Yh X9=> ?_];intro d hd kY;let⟨kvs,e⟩:=ip.mem kY;rw[Zr d (JQ d (av _ hd))] at e;cases e;have OP: ∀x,look b x=look a (x+s*m)*tn % p:=λx=>by rw[eb];change(0+_) % p=_;rw[bO,Int.mul_neg,Int.sub_neg]
 have Om:=xJ s0 p0 ip.ga mn nz OP;have Sb:=pA (m:=b) (di (m:=b) (x:=f) ∅);have nvr: ∀ {d kvs},M2 d=some (.lst kvs) ->d∉bJ e1 e2 []:=λ{d kvs} e hd=>by let⟨kvs,e2⟩:=vB.mem hd;rw[e] at e2;cases e2
 have W7: ∀ {d C' d' B0},M2 d=some (.ins C' d' B0) ->d∉bJ e1 e2 []:=λ{d C' d' B0} e hd=>by let⟨kvs,e2⟩:=vB.mem hd;rw[e] at e2;cases e2
 have hv3:=Pu _ _ Sc (nvr Sc);have XA:=Pu _ _ LD (W7 LD);have SE:=oF.lam;have fX1: [(("lamps" :Str),wr e1),(("parts" :Str),wr e2)].lookup ("lamps" :Str)=some (wr e1):=rfl;dsimp? [];rw[l6];dsimp? [hv3,h0,h1,XA,xn,Ac,fX1,SE,Sb];exact#[p,_,rfl,hp,Om.1,Om.2,λfoot f0 f1 hfo=> ?_];dsimp? [];intro o ds ho hds PK;have _Y:x≠o:=cM XA ho;exact#[o,ds,x,dx,wr e1,wr e2,wi f,wi (tp - m),wi foot,rfl,aT _Y,az,by rw[aD _Y];show XA,rfl,qi ?_];have Zq: ∀d,M2 d=none ->M d=none:=λd hd=>by
  cases e:M d with
  | none=>rfl
  | some o=>rw[Bj _ _ (nF _ _ e)] at hd;cases hd
 have xj:Sm M M3:=λd u e=>Pu _ _ (Bj _ _ (nF _ _ e)) λhd=>by rw[Zr d (JQ d (av _ hd))] at e;cases e
 have JO: ∀d,M3 d=none ->M d=none:=λd hd=>by
  cases e:M d with
  | none=>rfl
  | some o=>rw[xj _ _ e] at hd;cases hd
 exact k _ o ds e1 e2 b Q f m tp foot tn az (oF.same λd hd=> ?_) (Bh ∅ s0 ip.ga mn FK OP hfo f0 f1) mn Pb Kx FK OP (λw x=> ?_) (λd u e=> ?_) (λd hd=> ?_) (λt ht=>aS (Yh t ht) ∅) λw hw=>(X9 w hw).elim (λz=>by cases z) id;have PK:d≠o:=λz=>by let⟨kvs,e⟩:=oF.mem hd;rw[z,ho] at e;cases e
 rw[aD PK,aD PK];rw[eq];change(0+_) % p=_;rw[bO,Int.sub_neg];have PK:d≠o:=λz=>by rw[z,JO o ho] at e;cases e
 rw[aD PK,aD PK];show xj _ _ e;obtain rfl | hd:=ar.mp hd;show JO _ ho;obtain z | z:=F8 d hd;show Zr d (JQ d (av _ z));show Zq d z
def lu {K:RZ}(T:ni K mg A):d8 P w K mg base jc 1 A.mV A.mZ ["p","parts","n"] (l4 K Rr):=by
 exists T.told_parts.fn,["p","parts","n"],(aZ (cU (EE (n1:=1) rfl (eV.of (sc:=bD ju) (N:= ["p","parts","n"]) (own:= ["which","shift"]) (fr:= [0,2,1]) (N':= ["which","shift","p","n","parts"])) (eR (cL (fG rfl) (by rfl) T.iF Boot.«sorted» (af (pv 1) aL))) (λ_ _ _ _=>(bX (i:=0) (by change(["which","shift","p","n","parts"]:d3 Str).Nodup;decide+kernel) rfl (by trivial))) ⋯ (v8 (by change _<_;decide)) (λ_ _ _ _=>iK) (λ_ _ _ _=>(Et (K:=K) rfl (cL (fG rfl) (by rfl) T.iF Boot.«sorted» (af (e_ (fb hr) (pv 4) (pv 0) (λ_ _=>rfl)) aL)))) (λ_ _ _ _=>(bX (i:=1) (by change(["which","shift","p","n","parts"]:d3 Str).Nodup;decide+kernel) rfl (by trivial))) (v8 (by change _<=_ /\ _<_;decide)) (λ_ _ _ _=>iK) (λ_ _ _ _=>(iw (af (pv 0) (af (pv 1) (af (b_ gO (b_ gx (e_ (fb hr) (e_ (fb hr) (pv 4) (pv 0) (λ_ _=>rfl)) (pv 1) (λ_ _=>rfl)) (pv 3)) (pv 2)) aL))))))))
 rintro vs M q ⟨rl,rp,p,n,a,P,B,rfl,p0,p1,n0,n1,row,S2,hB,hB9,hPB,k⟩;have FO:=row.par;dsimp? [FO];exact#[rp,l5 P,P.map (·.1),rfl,FO,by unfold l5;rw[aH,aH];rfl,big (by rw[aa];lia),λu ws hu cX gT=> ?_];dsimp? [az];have Sa:ws.length=P.length:=by rw[cX.length_eq,aa]
 have QX:=cK (o:= .lst (ws.map wi)) hu;exact y3 (λx:Int=>wi x) (λw zs=> ∃xk:d3 Int,xk.Perm (d9 (pf P w)) /\ zs=xk.map λsh=>lq (w,sh,look (pf P w) sh*n % p)) B (w6 (by rw[Sa];lia)) (λp' M' h1 h2=>h2 u _ (cM az h1) az) ?_ ?_;intro w hw p' M' ys LK sm FG B' N0 hB';let⟨t,ht,rfl⟩:=ag.mp (cX.mem_iff.mp hw);have Aw:pf P t.1=t.2.2:=nJ row.lO ht;have hM: ∀d o,M d=some o ->M' d=some o:=λd o e=>sm d o (λz=>by rw[z] at e;rw[QX _ _ e] at LK;cases LK) (QX _ _ e);have Su:=hM _ _ FO;have SN:=hM _ _ (row.At t ht);have Jm:eX (l5 P) (Sum.inl t.1)=some (wr t.2.1):=by
  rw[tO];cases e:P.find? (λu=>decide (u.1=t.1)) with
  | none=>show absurd (List.find?_eq_none.mp e t ht) (by simp)
  | some u=>have h1:=gB e;have h2:u=t:=gy row.lO h1.1 ht h1.2;rw[h2];rfl
 dsimp? [Su,Jm,SN];exact#[t.2.1,eY t.2.2,d9 t.2.2,rfl,SN,by unfold eY d9;rw[aH,aH];rfl,big (by unfold d9;rw[aa];have:=hB t ht;lia),λv xk hv uy XF=> ?_];dsimp? [az];exact hB' _ _ xk (λsh=>lq (t.1,sh,look (pf P t.1) sh*n % p)) _ (lB.sm (cK hv)) (by rw[aD (cM FG hv)];show FG) #[xk,by rw[Aw];show uy,rfl] ?_ (λM5 h5=>h5 v _ (aT (cM FG hv)) az) ?_;rw[uy.length_eq];unfold d9;rw[aa];show hB t ht;intro sh U1 M5 sm5 N hN;have np: ∀ {d o},M d=some o ->d≠p':=λ{d o} e z=>by rw[z] at e;rw[QX _ _ e] at LK;cases LK
 have hM5: ∀d o,M d=some o ->M5 d=some o:=λd o e=>sm5 d o (np e) (cK hv _ _ (hM d o e));have Ss:=hM5 _ _ FO;have Yf:=hM5 _ _ (row.At t ht);have Oi:=eD (row.gp t ht) (uy.mem_iff.mp U1);have FH:=pA (m:=t.2.2) (uy.mem_iff.mp U1);have cm:jq (look t.2.2 sh) n=True:=a8 (.inr #[∅, ∅]);dsimp? [Ss,Jm,Yf,FH,cm,p0];rw[Aw] at hN;show hN;intro t M' yss ht sm hM' dS hR;let⟨tl,e,hp⟩:=Bd row.lO (λw=>(row.Ey w).1) cX dS hR;have hMt:M t=none:=by
  cases e:M t with
  | none=>rfl
  | some o=>rw[QX _ _ e] at ht;cases ht
 show qi (k t M' tl (λd o e=>sm d o (λz=>by rw[z,hMt] at e;cases e) (QX _ _ e)) hMt (by rw[hM',e]) hp)
def ye {K:RZ}(T:ni K mg A):d8 P w K mg base jc 1 A.sH A.sQ ["_law_script"] (zG K):=by
 exact T.Aj.fn.ok pK (λvs H Q E h=> ?_) (λcdv A' outer s H vs Q E hr h=> ?_);let⟨a,ns,rfl,_⟩:=h;rfl;let⟨a,ns,rfl,hs,k⟩:=h;have nd:=pK.nd;exact#[_,(aZ (cU (EC (af (dJ lV (by rfl) T.gQ Boot.«list» (af (vJ zJ (pv 0) zX (zW aN)) aL)) (af aN (af aN (af aN aL))))))),?_];have ec: ∃ms:d3 Int,wV (ns.map V.int) none (some 63)=ms.map V.int:=by exact#[(ns.drop (HT.pM (ns.map V.int).length 0 none)).take (HT.pM (ns.map V.int).length (ns.map V.int).length (some 63) - HT.pM (ns.map V.int).length 0 none),?_];unfold wV;rw[List.map_take,List.map_drop]
 let⟨ms,em⟩:=ec;exact#[_,rfl,_,rfl,_,_,rfl,hs,λp hp=>#[_,_,rfl, .inl (gC.of bI),λl hl=>#[by change 4<=sizeLine;decide,λd hd=> ?_]]];have fO:l≠d:=λe=>by rw[e,bI] at hd;cases hd
 exact k d l ms _ fO.symm bI ?_;rw[bC fO,bI,em]
def fY {K:RZ}(T:ni K mg A):d8 P w K mg base jc 1 A.wB A.wQ ["_law_draw","_law_many"] (l4 K Rs):=by
 exists T.jA.fn,["_law_draw","_law_many","_law_number","_law_got"],(aO (fX (xV (c8 vN (dE dj (pv 0) aN (λ_ _=>rfl)) (pv 1) (dG _)) (ub (c8 vN (dE dj (pv 0) aN (λ_ _=>rfl)) (cL h_ (by rfl) T.qG Boot.«len» (af (dE dj (pv 0) aN (λ_ _=>rfl)) aL)) (dG _)))).pt (aO (cn (i:=2) nd rfl (by trivial) (dE dj (dE dj (pv 0) aN (λ_ _=>rfl)) (dE dj (pv 0) aN (λ_ _=>rfl)) (λ_ _=>rfl))) (aO (lH (b_ eZ (dE dj (pv 0) aN (λ_ _=>rfl)) aN) (lJ (pv 0) aN ik)) (aO (lH aN (lJ (pv 0) aN ik)) (aZ (fX (c8 ER (cL sY (by rfl) T.Mg Boot.«abs» (af (pv 2) aL)) (b_ Ny aN aN) (dG _)) (aZ (lH (cL sY (by rfl) T.Mg Boot.«abs» (af (pv 2) aL)) (lJ (pv 0) aN ik))) (aZ (lH (b_ gO (b_ eZ (b_ eZ (b_ gx (dE dj (pv 0) aN (λ_ _=>rfl)) aN) (b_ gx (b_ gO (pv 2) aN) aN)) aN) aN) (lJ (pv 0) aN ik)))))))) eg) (aO (fX (c8 ER (dE dj (pv 0) aN (λ_ _=>rfl)) (pv 1) (dG _)) (aO (cn (i:=3) nd rfl (by trivial) (b_ gO (dE dj (pv 0) aN (λ_ _=>rfl)) (pv 1))) (aO (lH (b_ uj (dE dj (pv 0) aN (λ_ _=>rfl)) (pv 1)) (lJ (pv 0) aN ik)) (aZ (cU (pv 3))))) eg) (aO (lH (b_ gO (b_ eZ (b_ gx (dE dj (pv 0) aN (λ_ _=>rfl)) aN) aN) aN) (lJ (pv 0) aN ik)) (aZ (cU (b_ gO (b_ uj (dE dj (pv 0) aN (λ_ _=>rfl)) aN) (pv 1)))))))
 rintro vs M q ⟨d,l,n,rfl,⟨ns,i,c,sd,hd,hl,hi,c6⟩,n0,n1,k⟩;exact yG (λρ M'=>J1 λ(o1 o2:eB W) (i' c' s':Int)=>fh (ρ= [some (wr d),some (wi n),o1,o2]) (M' d=some (.lst [wr l,wi i',wi c',wi s'])) (NB d M M') (0<=i')) ?_ λN hN=> ?_;rintro ρ M' ⟨o1,o2,i',c',s',rfl,h,nb,oh⟩;have fin: ∀ (r c' s':Int),0<=r ->r<n -> ∃M0,Sm M0 (um M' d (.lst [wr l,wi i',wi c',wi s'])) /\ q (wi r) M0:=λr c' s' h0 h1=>qi (k r _ h0 h1 #[ns,i',c',s',az,by rw[aD (aT c6),nb l (aT c6)];show hl,oh,c6] (nb.trans NB.put));have cm3: ∀x,jq x 16807=True:=λx=>by simp[jq]
 have cd1: ∀x,zj x n=True:=λx=>by simp[zj,n0,n1]
 have cd2: ∀x,zj x 64=True:=λx=>by simp[zj]
 have z2:((0:Int) <2147483647)=True:=⋯
 simp? [↓db,h,n0,cm3,cd1,cd2,z2];show e9 (λ_=>fin _ _ _ (cw _ ∅) (cj _ n0)) λ_=>fin _ _ _ (cw _ ∅) (cj _ n0);have nx: ∀ (o1 o2:eB W) (i' c' s':Int),0<=i' ->N [some (wr d),some (wi n),o1,o2] (um M d (.lst [wr l,wi i',wi c',wi s'])):=λ_ _ _ _ _ h=>hN _ _ #[_,_,_,_,_,rfl,az,NB.put,h];have UN: ∀ (o1 o2:eB W),N [some (wr d),some (wi n),o1,o2] M:=λ_ _=>hN _ _ #[_,_,_,_,_,rfl,hd,NB.refl d M,hi];have cp:O4 10 18=True:=by simp[O4]
 have cm: ∀x,jq x 48271=True:=λx=>by simp[jq]
 have ZK: ∀x,jq x 69621=True:=λx=>by simp[jq]
 have z1:((0:Int) <2147483629)=True:=⋯
 have z2:((0:Int) <2147483647)=True:=⋯
 by_cases fE:i<ns.length;have hx:lX (ns.map wi) i=some (wi (ns[i.toNat]'∅)):=A6 hi (by rw[aB,am ∅];rfl);simp? [↓db,hd,hl,hx,aa,cp,cm,ZK,z1,z2];show e9 (λ_=>e9 (λ_=>e9 (λ_=>nx _ _ _ _ _ ∅) λ_=>nx _ _ _ _ _ ∅) λ_=>UN _ _) λ_=>UN _ _;simp? [↓db,hd,hl,fE,aa,decide_false];show e9 (λ_=>UN _ _) λ_=>UN _ _
def vO {K:RZ}(T:ni K mg A):d8 P w K mg base jc 1 A.AE A.AT ["_law_thing"] (l4 K Wy):=by
 exists T.Ff.fn,["_law_thing"],(aZ (cU (EF (cL jm (by rfl) T.fH Boot.«isinstance» (af (pv 0) (af (kG (by rfl) T.Ts Boot.«int» (show RelV (.ty "int") _ from rfl)) aL))) (Ez (No (cL jm (by rfl) T.fH Boot.«isinstance» (af (pv 0) (af (kG (by rfl) T.OW Boot.«bool» (show RelV (.ty "bool") _ from rfl)) aL))))))))
 rintro vs M q ⟨i,rfl,k⟩;simp? [↓db];show qi k
def z_ {K:RZ}(T:ni K mg A):d8 P w K mg base jc 1 A.F' A.Gf ["p","pairs"] (l4 K Lj):=by
 exists T.tidy.fn,["p","pairs","turned","place","setting"],(aO (cn (i:=2) nd rfl (by trivial) ix) (aO (fo bK rfl (eR (pv 1)) (lI (n:=2) rfl (eh (bX (i:=3) nd rfl (by trivial)) (eh (bX (i:=4) nd rfl (by trivial)) jx))) (aZ (mj (fb hr) (pv 2) (pv 3) (b_ gO (b_ eZ (mo (fb hr) (pv 2) (pv 3) aN #[by rfl,by rfl,by rfl,by rfl]) (pv 4)) (pv 0)) rfl))) (aZ (cU (dJ ki (by rfl) T.jH Boot.«tuple» (af (gD rfl (eV.of (sc:=bD xM) (N:= ["p","pairs","turned","place","setting"]) (own:= ["place"]) (fr:= [2]) (N':= ["place","turned"])) (eR (cL (fG rfl) (by rfl) T.iF Boot.«sorted» (af (pv 2) aL))) (λ_ _ _ _=>(bX (i:=0) (by change(["place","turned"]:d3 Str).Nodup;decide+kernel) rfl (by trivial))) fF (λ_ _ _ _=>(oY (c8 vM (e_ (fb hr) (pv 1) (pv 0) (λ_ _=>rfl)) aN (dG _)))) (λ_ _ _ _=>(iw (af (pv 0) (af (e_ (fb hr) (pv 1) (pv 0) (λ_ _=>rfl)) aL))))) aL))))))
 rintro vs M q ⟨a,p,ps,rfl,ha,p0,S',Yt,k⟩;simp? [↓db];intro d hd;have E3:a≠d:=cM ha hd;simp? [↓db,aD E3,ha];exact gJ (λi ρ M'=>gv λ(o1 o2:eB W) (m:Pt)=>nh (ρ= [some (wi p),some (wr a),some (wr d),o1,o2]) (M'=um M d (.dK (eY m))) ((m.map (·.1)).Nodup) (m.length<=i) (∀x,look m x=dR (ps.take i) x % p) (∀k∈m.map (·.1), ∃q∈ps,q.1=k)) #[none,none,[],rfl,rfl,List.nodup_nil,ao _,λx=>by simp[look,dR],by simp] ?_ ?_ ?_;rintro i ρ M' _ ⟨o1,o2,m,rfl,rfl,_⟩;rw[aD E3];show ha;rintro i x ρ M' hx ⟨o1,o2,m,rfl,rfl,hn,hl,ht,gM⟩ N hN;let⟨z,hz,rfl⟩:=pairs_at hx;have JC:=(ak.mp hz).1;have hs:((eY m).length<sizeLine)=True:=by rw[eY,aa];show a8 (w6 (by omega))
 simp? [↓db,dv,pi,p0,hs,oX];exact hN _ _ #[_,_,_,rfl,rfl,uk hn,aS p6 (by omega),λx=> ?_,λk hk=>(vW hk).elim (λe=>#[z,aw hz,e.symm]) (gM k)];rw[nN,bo,hz];change _=dR (ps.take i++ [z]) x % p;rw[l8];by_cases hx:x=z.1;subst hx;rw[ap rfl,ap rfl,ht,Int.emod_add_emod];rw[ai hx,ai (aT hx),bj];show ht x;rintro ρ M' ⟨o1,o2,m,rfl,rfl,hn,hl,ht,gM⟩;rw[aa] at hl ht;rw[bN] at ht;simp? [↓db];exact#[d,eY m,m.map (·.1),rfl,az,v0 m,(by rw[aa];show big (by omega)),λsp ns wg cX gT=> ?_];have Ot:d≠sp:=cM az wg;have LO:ns.length<=16000000:=by rw[cX.length_eq,aa];omega
 simp? [↓db];exact lR (λx=>match x with | .v (.int n)=>if look m n=0 then none else some (dv (n,look m n)) | _=>none) (by rw[aa];show big LO) (λM3 s3=>s3 _ _ az) ?_ λt XE=> ?_;intro i x hx M3 N s3 hN;let⟨n,Jx,rfl⟩:=qa hx;have Yr:M3 d=some (.dK (eY m)):=s3 _ _ (by rw[aD Ot,az]);have Jv:n∈m.map (·.1):=cX.mem_iff.mp (aw Jx);simp? [↓db,Yr,pA Jv];exact uq (λh=> ?_) λh=> ?_;simp![h,be] at hN;show hN;simp![h,bR] at hN;show hN;simp? [↓db];exact#[M,((Sm.um (Sm.refl M) hd).trans (cK wg)).trans (cK XE),?_];have e:(ns.map wi).filterMap (λx=>match x with | .v (.int n)=>if look m n=0 then none else some (dv (n,look m n)) | _=>none)=(jZ p ps).map dv:=by rw[<- zK p0 hn ht cX gT,List.filterMap_map];unfold Pf;rw[List.map_filterMap];congr 1;funext n;simp![Function.comp];split<;>rfl
 rw[e];show k
def r_ {K:RZ}(T:ni K mg A):d8 P w K mg base jc 1 A.wA A.wP ["_law_p","_law_pairs"] (l4 K Lj):=by
 exists T.yp.fn,["_law_p","_law_pairs","_law_sums_here","_law_place","_law_setting"],(aO (cn (i:=2) nd rfl (by trivial) ix) (aO (fo bK rfl (eR (pv 1)) (lI (n:=2) rfl (eh (bX (i:=3) nd rfl (by trivial)) (eh (bX (i:=4) nd rfl (by trivial)) jx))) (aZ (mj (fb hr) (pv 2) (pv 3) (b_ gO (b_ eZ (mo (fb hr) (pv 2) (pv 3) aN #[by rfl,by rfl,by rfl,by rfl]) (pv 4)) (pv 0)) rfl))) (aZ (cU (dJ ki (by rfl) T.jH Boot.«tuple» (af (gD rfl (eV.of (sc:=bD pL) (N:= ["_law_p","_law_pairs","_law_sums_here","_law_place","_law_setting"]) (own:= ["_law_place"]) (fr:= [2]) (N':= ["_law_place","_law_sums_here"])) (eR (cL (fG rfl) (by rfl) T.iF Boot.«sorted» (af (pv 2) aL))) (λ_ _ _ _=>(bX (i:=0) (by change(["_law_place","_law_sums_here"]:d3 Str).Nodup;decide+kernel) rfl (by trivial))) fF (λ_ _ _ _=>(oY (c8 EQ (e_ (fb hr) (pv 1) (pv 0) (λ_ _=>rfl)) aN (dG _)))) (λ_ _ _ _=>(iw (af (pv 0) (af (e_ (fb hr) (pv 1) (pv 0) (λ_ _=>rfl)) aL))))) aL))))))
 rintro vs M q ⟨a,p,ps,rfl,ha,p0,S',Yt,k⟩;simp? [↓db];intro d hd;have E3:a≠d:=cM ha hd;simp? [↓db,aD E3,ha];exact gJ (λi ρ M'=>gv λ(o1 o2:eB W) (m:Pt)=>nh (ρ= [some (wi p),some (wr a),some (wr d),o1,o2]) (M'=um M d (.dK (eY m))) ((m.map (·.1)).Nodup) (m.length<=i) (∀x,look m x=dR (ps.take i) x % p) (∀k∈m.map (·.1), ∃q∈ps,q.1=k)) #[none,none,[],rfl,rfl,List.nodup_nil,ao _,λx=>by simp[look,dR],by simp] ?_ ?_ ?_;rintro i ρ M' _ ⟨o1,o2,m,rfl,rfl,_⟩;rw[aD E3];show ha;rintro i x ρ M' hx ⟨o1,o2,m,rfl,rfl,hn,hl,ht,gM⟩ N hN;let⟨z,hz,rfl⟩:=pairs_at hx;have JC:=(ak.mp hz).1;have hs:((eY m).length<sizeLine)=True:=by rw[eY,aa];show a8 (w6 (by omega))
 simp? [↓db,dv,pi,p0,hs,oX];exact hN _ _ #[_,_,_,rfl,rfl,uk hn,aS p6 (by omega),λx=> ?_,λk hk=>(vW hk).elim (λe=>#[z,aw hz,e.symm]) (gM k)];rw[nN,bo,hz];change _=dR (ps.take i++ [z]) x % p;rw[l8];by_cases hx:x=z.1;subst hx;rw[ap rfl,ap rfl,ht,Int.emod_add_emod];rw[ai hx,ai (aT hx),bj];show ht x;rintro ρ M' ⟨o1,o2,m,rfl,rfl,hn,hl,ht,gM⟩;rw[aa] at hl ht;rw[bN] at ht;simp? [↓db];exact#[d,eY m,m.map (·.1),rfl,az,v0 m,(by rw[aa];show big (by omega)),λsp ns wg cX gT=> ?_];have Ot:d≠sp:=cM az wg;have LO:ns.length<=16000000:=by rw[cX.length_eq,aa];omega
 simp? [↓db];exact lR (λx=>match x with | .v (.int n)=>if look m n=0 then none else some (dv (n,look m n)) | _=>none) (by rw[aa];show big LO) (λM3 s3=>s3 _ _ az) ?_ λt XE=> ?_;intro i x hx M3 N s3 hN;let⟨n,Jx,rfl⟩:=qa hx;have Yr:M3 d=some (.dK (eY m)):=s3 _ _ (by rw[aD Ot,az]);have Jv:n∈m.map (·.1):=cX.mem_iff.mp (aw Jx);simp? [↓db,Yr,pA Jv];have CK:0<=look m n:=by rw[ht];show cw _ (by omega)
 exact e9 (λh=> ?_) λh=> ?_;have h':¬look m n=0:=by omega
 simp![h',be] at hN;show hN;have h':look m n=0:=by omega
 simp![h',bR] at hN;show hN;simp? [↓db];exact#[M,((Sm.um (Sm.refl M) hd).trans (cK wg)).trans (cK XE),?_];have e:(ns.map wi).filterMap (λx=>match x with | .v (.int n)=>if look m n=0 then none else some (dv (n,look m n)) | _=>none)=(jZ p ps).map dv:=by rw[<- zK p0 hn ht cX gT,List.filterMap_map];unfold Pf;rw[List.map_filterMap];congr 1;funext n;simp![Function.comp];split<;>rfl
 rw[e];show k
def mw {K:RZ}(T:ni K mg A):d8 P w K mg base jc 2 A.om A.ox ["_law_draw","_law_p","_law_most","_law_far"] (l4 K EJ):=by
 exists T.nO.fn,["_law_draw","_law_p","_law_most","_law_far","_law_pairs","_law_k","_law_place"],(aO (cn (i:=4) nd rfl (by trivial) (EC aL)) (aO (fo bK rfl (ji (by rfl) T.iS (af (a_ T.jA (fY T) hr (af (pv 0) (af (b_ eZ (pv 2) aN) aL))) aL)) (bX (i:=5) nd rfl (by trivial)) (aO (cn (i:=6) nd rfl (by trivial) (b_ jX (a_ T.jA (fY T) hr (af (pv 0) (af (b_ eZ (b_ gx aN (pv 3)) aN) aL))) (pv 3))) (aZ (gf (Rq PySem.F.plainAttrs_list PySem.F.slot_list_append PySem.F.type_list_append nM (pv 4) (af (iw (af (pv 6) (af (b_ eZ aN (a_ T.jA (fY T) hr (af (pv 0) (af (b_ jX (pv 1) aN) aL)))) aL))) aL)))))) (aZ (cU (a_ T.yp (r_ T) hr (af (pv 1) (af (pv 4) aL)))))))
 rintro vs M q ⟨d,l,p,most,lx,rfl,hD,p2,p3,m0,m1,f0,f1,k⟩;simp? [↓eE];intro a ha;let⟨E3,nal⟩:=hD.ne ha;exact jC ?_;simp? [↓eE];exact#[d,l,most+1,rfl,hD.put ha,by omega,by omega,λn M1 n0 n1 D1 b1=> ?_];have ha1:M1 a=some (.lst []):=by rw[b1 a E3,az]
 simp? [↓eE];exact#[#[by omega,by omega],gJ (λi ρ M'=>gv λ(o1 o2:eB W) (ps:Pt)=>nh (ρ= [some (wr d),some (wi p),some (wi most),some (wi lx),some (wr a),o1,o2]) (Dr M' d l) (M' a=some (.lst (ps.map dv))) (ps.length=i) (∀z∈ps, -lx<=z.1 /\ z.1<=lx /\ 0<z.2 /\ z.2<p) (∀b,b≠d ->b≠a ->M' b=M b)) #[none,none,[],rfl,D1,ha1,rfl,by simp,λb h1 h2=>by rw[b1 b h1,aD h2]] (λ_ _ _ _ _=>trivial) ?_ ?_];rintro i x ρ M' hx ⟨o1,o2,ps,rfl,D2,Yy,hl,hz,hb⟩ N hN;let⟨hi,rfl⟩:=mf hx;have cm: ∀x,jq 2 x=True:=λx=>by simp[jq]
 simp? [↓eE,cm];exact#[d,l,2*lx+1,rfl,D2,by omega,by omega,λr M3 r0 r1 D3 b3=> ?_];simp? [↓eE];exact jC ?_;have ha3:M3 a=some (.lst (ps.map dv)):=by rw[b3 a E3];show Yy
 simp? [↓eE,ha3];exact#[d,l,p - 1,rfl,D3,by omega,by omega,λs' M4 s0 s1 D4 b4=> ?_];have ha4:M4 a=some (.lst (ps.map dv)):=by rw[b4 a E3];show ha3
 have hs:((ps.map dv).length<sizeLine)=True:=by rw[aa];show a8 (w6 (by omega))
 simp? [↓eE,ha4,hs];exact hN _ _ #[_,_,ps++ [(r - lx,1+s')],rfl,D4.Nk E3 nal,?_,by simp[hl],λz oJ=> ?_,λb h1 h2=> ?_];rw[az,aR];rfl;obtain oJ | oJ:=aA.mp oJ;show hz z oJ;rw[ah.mp oJ];show#[by change -lx<=r - lx;omega,by change r - lx<=lx;omega,by change 0<1+s';omega,by change 1+s'<p;omega];rw[aD h2,b4 b h1,b3 b h1,hb b h1 h2];rintro ρ M' ⟨o1,o2,ps,rfl,D2,Yy,hl,hz,hb⟩;rw[kE] at hl;dsimp only;exact jC ?_;simp? [↓eE];exact#[a,p,ps,rfl,Yy,by omega,JR (by omega),by omega,?_];exact#[λb=>if b=a then none else M' b,λb o e=> ?_,k ps _ (by omega) hz ?_ ?_];dsimp only at e;split at e;cases e;show e;let⟨ns,i,c,s',h1,h2,h3,h4⟩:=D2;show#[ns,i,c,s',by dsimp only;rw[ai (aT E3)];show h1,by dsimp only;rw[ai (aT nal)];show h2,h3,h4];intro b sD;dsimp only;split;rename_i e;rw[e];show ha.symm;rename_i e;show hb b sD e
def jK {K:RZ}(T:ni K mg A):d8 P w K mg base jc 2 A.j_ A.ke ["_law_p","_law_thing"] (l4 K Nw):=by
 exists T.jB.fn,["_law_p","_law_thing","_law_k","_law_pair"],(aO (fX (jv (lF (cL jm (by rfl) T.fH Boot.«isinstance» (af (pv 1) (af (kG (by rfl) T.jH Boot.«tuple» (show RelV (.ty "tuple") _ from rfl)) aL))))) (aZ (cU lm)) eg) (aO (fo bK rfl (ji (by rfl) T.iS (af (cL h_ (by rfl) T.qG Boot.«len» (af (pv 1) aL)) aL)) (bX (i:=2) nd rfl (by trivial)) (aO (cn (i:=3) nd rfl (by trivial) (dE gA (pv 1) (pv 2) (λ_ _=>rfl))) (aO (fX (rZ (jv (lF (cL jm (by rfl) T.fH Boot.«isinstance» (af (pv 3) (af (kG (by rfl) T.jH Boot.«tuple» (show RelV (.ty "tuple") _ from rfl)) aL))))) (ua (c8 vM (cL h_ (by rfl) T.qG Boot.«len» (af (pv 3) aL)) aN (dG _)))).pt (aZ (cU lm)) eg) (aO (fX (rZ (jv (lF (a_ T.Ff (vO T) hr (af (dE gA (pv 3) aN (λ_ _=>rfl)) aL)))) (rZ (jv (lF (a_ T.Ff (vO T) hr (af (dE gA (pv 3) aN (λ_ _=>rfl)) aL)))) (ua (jv (El vN vN aN (dE gA (pv 3) aN (λ_ _=>rfl)) (pv 0)))))).pt (aZ (cU lm)) eg) (aZ (fX (xV (c8 EQ (pv 2) aN (dG _)) (ub (c8 ER (dE gA (dE gA (pv 1) (b_ jX (pv 2) aN) (λ_ _=>rfl)) aN (λ_ _=>rfl)) (dE gA (pv 3) aN (λ_ _=>rfl)) (dG _)))).pt (aZ (cU lm)) eg)))))) (aZ (cU lm))))
 rintro vs M q ⟨p,pat,rfl,⟨h1,h2⟩,hl,k⟩;have qe:(pat.map dv).length=pat.length:=aa _;simp? [↓db,dX,qe];exact#[#[by omega,by omega],gJ (λi ρ M'=>cJ λ(o1 o2:eB W)=>ρ= [some (wi p),some (dX pat),o1,o2] /\ M'=M) #[none,none,rfl,rfl] (λ_ _ _ _ _=>trivial) ?_ ?_];rintro i x ρ M' hx ⟨o1,o2,rfl,rfl⟩ N hN;let⟨hi,rfl⟩:=mf hx;have oh:i<pat.length:=by omega
 have ha:lX (pat.map dv) (0+(i:Int))=some (dv pat[i]):=by rw[bO];show iT (by rw[aB,am oh];rfl)
 have hz:=h1 pat[i] (cx oh);simp? [↓db,dX,ha,dv];exact#[_,rfl,?_];simp? [↓db];exact#[_,rfl,?_];simp? [↓db,hz.1,hz.2,decide_true];exact e9 (λh=> ?_) λh=>hN _ _ #[_,_,rfl,rfl];have hi1:i - 1<pat.length:=by omega
 have OA:lX (pat.map dv) (0+(i:Int) - 1)=some (dv pat[i - 1]):=by
  have:(0+(i:Int) - 1)=((i - 1:Nat):Int):=by omega
  rw[this];show iT (by rw[aB,am hi1];rfl)
 have fE:=bv.mp h2 (i - 1) i hi1 oh (by omega);simp? [↓db,OA,dv];show e9 (λh=>by omega) λ_=>hN _ _ #[_,_,rfl,rfl];rintro ρ M' ⟨o1,o2,rfl,rfl⟩;simp? [↓db];show qi k
def pR {K:RZ}(T:ni K mg A):d8 P w K mg base jc 2 A.AD A.AS ["_law_p","_law_one","_law_other","_law_by","_law_many"] (l4 K Wx):=by
 exists T.Ai.fn,["_law_p","_law_one","_law_other","_law_by","_law_many"],(aZ (cU (a_ T.yp (r_ T) hr (af (pv 0) (af (b_ ES (dJ lV (by rfl) T.gQ Boot.«list» (af (pv 1) aL)) (gD rfl (eV.of (sc:=bD tX) (N:= ["_law_p","_law_one","_law_other","_law_by","_law_many"]) (own:= ["_law_place","_law_setting"]) (fr:= [3,4]) (N':= ["_law_place","_law_setting","_law_by","_law_many"])) (xX (pv 2)) (λ_ _ _ _=>(lI (n:=2) rfl (eh (bX (i:=0) (by change(["_law_place","_law_setting","_law_by","_law_many"]:d3 Str).Nodup;decide+kernel) rfl (by trivial)) (eh (bX (i:=1) (by change(["_law_place","_law_setting","_law_by","_law_many"]:d3 Str).Nodup;decide+kernel) rfl (by trivial)) jx)))) Gp (λ_ _ _ _=>iK) (λ_ _ _ _=>(iw (af (b_ eZ (pv 0) (pv 2)) (af (b_ gx (pv 1) (pv 3)) aL)))))) aL)))))
 rintro vs M q ⟨p,a,b,y,n,rfl,p0,hf,ha,hb,hz,k⟩;simp? [↓db,dX];intro u hu;simp? [↓db];exact lR (λx=>match x with | .tup [.v (.int x), .v (.int s)]=>some (.tup [wi (x+y),wi (s*n)]) | _=>none) (by rw[aa];show big (by omega)) (λ_ _=>trivial) ?_ λt ht=> ?_;intro i x hx M3 N s3 hN;let⟨z,oJ,rfl⟩:=pairs_at hx;have:=hz z (aw oJ);have cm:jq z.2 n=True:=a8 (.inl #[by omega,by omega]);simp? [↓db,dv,cm];show hN;have e:(b.map dv).filterMap (λx=>match x with | .tup [.v (.int x), .v (.int s)]=>some (.tup [wi (x+y),wi (s*n)]) | _=>none)=(uY y n b).map dv:=by rw[List.filterMap_map,uY,aH];show List.filterMap_eq_map.symm▸rfl
 rw[e];have hut:u≠t:=cM az ht;have hs:((a.map dv).length+((uY y n b).map dv).length<=sizeLine)=True:=a8 (big (by rw[aa,aa,uY,aa];omega));simp? [↓db,aD hut,hs];intro c hc;simp? [↓db];exact#[c,p,a++uY y n b,rfl,by rw[az,aR],p0,hf,by rw[aG,uY,aa];omega,?_];show#[M,((cK hu).trans (cK ht)).trans (cK hc),k]
def yb {K:RZ}(T:ni K mg A):d8 P w K mg base jc 5 A.sE A.sN ["p","stride","held","row"] (l4 K (Is A.dy A.dm)):=by
 have xn:=a8 T.Row.cl;have Ac:=a8 T.n_Row_lamps;have NJ:=a8 T.n_Row_parts;have Hg:=a8 T.Stair.cl;have Xa:=a8 T.n_Stair_lamps;have W_:=a8 T.n_Stair_parts;exists T.take_in.fn,["p","stride","held","row","first","stair","left"],(aO (cn (i:=4) nd rfl (by trivial) (a_ T.first_column (gP T) hr (af (dJ (iD rfl) (by rfl) T.gQ Boot.«list» (af (dW (pv 3) rfl) aL)) (af (pv 1) aL)))) (aZ (Em bK (c8 EO (pv 4) EA (dG _)) (aO (fX (Nl (Bs (fb hr) (pv 4) (pv 2))) (aO (mj (fb hr) (pv 2) (pv 4) (a_ T.stood (pQ T) hr (af (pv 0) (af (pv 1) (af (pv 3) aL)))) rfl) (aZ Ia)) eg) (aO (cn (i:=5) nd rfl (by trivial) (e_ (fb hr) (pv 2) (pv 4) (λ_ _=>rfl))) (aO (gf (a_ T.cut (yf T) hr (af (pv 0) (af (pv 1) (af (pv 3) (af (pv 5) aL)))))) (aO (cn (i:=6) nd rfl (by trivial) (a_ T.first_column (gP T) hr (af (dJ (iD rfl) (by rfl) T.gQ Boot.«list» (af (dW (pv 3) rfl) aL)) (af (pv 1) aL)))) (aO (fX (c8 ls (pv 6) (pv 4) (dG _)) (aO (mj (fb hr) (pv 2) (pv 4) (a_ T.stood (pQ T) hr (af (pv 0) (af (pv 1) (af (pv 3) aL)))) rfl) (aZ (cn (i:=3) nd rfl (by trivial) (jj T.Row (pU T) (hr.mono ⋯) (by rfl) (af (dW (pv 5) rfl) (af (dW (pv 5) rfl) aL)))))) eg) (aZ (cn (i:=4) nd rfl (by trivial) (pv 6)))))))))))
 rintro vs M q ⟨hd,r,dr,rl,rp,p,s,Z,K',w',KP,aQ,a,P,L,rfl,hp,s0,s8,jR,z0,k0,w0,RT,u5,ZN,ZM,Sq,hL,bxa,bxp,lx,k⟩;have P0:qO s Z K' w' KP:=#[s0,k0,w0,RT,u5]
 have B_: ∀l q:gi,[(("lamps" :Str),wr l),(("parts" :Str),wr q)].lookup ("lamps" :Str)=some (wr l):=λ_ _=>rfl;have Zy: ∀ (l q:gi) (f g e:W),[(("lamps" :Str),wr l),(("parts" :Str),wr q),(("first" :Str),f),(("length" :Str),g),(("foot" :Str),e)].lookup ("lamps" :Str)=some (wr l):=λ_ _ _ _ _=>rfl;have Zx: ∀ (l q:gi) (f g e:W),[(("lamps" :Str),wr l),(("parts" :Str),wr q),(("first" :Str),f),(("length" :Str),g),(("foot" :Str),e)].lookup ("parts" :Str)=some (wr q):=λ_ _ _ _ _=>rfl;have ux:=jR.ins;have rh:=jR.row.lam;have p0:0<p:= ∅;have hE0:=P0.E0;have hE8:2*K'*s<=16*K':=by have:=a9 s8 (show 0<=2*K' by lia);lia
 have Rp: ∀ {M':Mp} {rl rp:gi} {a:Pt} {P:Pq} {E:Int},cG p M' rl rp a P ->nB s Z E E a ->0<=E ->E<=2*(w'+16*K')+2*K' ->(d9 a).length<=16000000:=λ{_ _ _ _ _ E} row bx e0 e1=>by have:=(bx.wt s0 s8 z0 (a4 E) (a4 E) e0).len row.ga ∅;unfold d9;rw[aa];lia
 dsimp? [ux,xn,Ac,B_];exact#[rl,eY a,rfl,rh,λu hu=> ?_];rw[mF];have nF:Sm M (um M u (.lst ((d9 a).map wi))):=cK hu;have tc0:TC A.dy A.dm s p aQ M (wx hd L rl rp P) (L.map (·.b)++ [a]) L hd (um M u (.lst ((d9 a).map wi))) r dr rl rp a P L:=by let⟨i1,i2,i3,i4,i5,i6,i7⟩:=jR;exact#[#[nF _ _ i1,#[nF _ _ i2.sM,λt ht=>(i2.each t ht).keep (eQ.sm nF []) (λh=>by cases h) (λ_ _ h=>by cases h),i2.nd,i2.nA,i2.sC],i3.keep (eQ.sm nF []) (λ_ _ h=>by cases h),i4,i5,i6,i7],eQ.sm nF _,λt ht x hx=> .inl (av _ (aA.mpr (.inl (List.mem_flatMap.mpr #[t,ht,hx])))),λx hx=> .inl (av _ (aA.mpr (.inr hx))),λf hf=>hf,rfl,rfl]
 have PM:hd∈wx hd L rl rp P:=aI;have Wv: ∃m,Ph s Z K' w' KP m a P L:=by
  exact#[mz s Z K' (fA ((d9 a).map (bL s))) (K'.toNat+1),λ_ t ht=>(lx t ht).up P0.KY P0.TL,λc6=>#[_,rfl, .inl #[?_,rfl]]];have rn:s≠0 ->0<=fA ((d9 a).map (bL s)):=λz=>by let⟨x,_,e⟩:=ag.mp (fQ (l:=(d9 a).map (bL s)) ⇑c6).1;rw[<- e];obtain h | h:=uN (x:=x) s0;show absurd h z;show h.1
  have h1:=P0.low rn;have h2:=P0.lowP rn;show#[bxa.up h1 h1,bxp.up h2 h2,λt ht _=>lx t ht,λt ht _=>(lx t ht).up P0.KY P0.TL]
 let⟨m0,Wv⟩:=Wv;exact qh az (Rp jR.row bxa w0 ∅) s0 s8 ?_;dsimp? [];exact Hn (λm ρ M'=>Gy λ(o5 o6:eB W) (r dr rl' rp':gi) (a':Pt) (P':Pq)=> ∃ (L':d3 eN),dh (ρ= [some (wi p),some (wi s),some (wr hd),some (wr r),some (fW s a'),o5,o6]) (TC A.dy A.dm s p aQ M (wx hd L rl rp P) (L.map (·.b)++ [a]) L hd M' r dr rl' rp' a' P' L') (Ph s Z K' w' KP m a' P' L')) m0 #[none,none,r,dr,rl,rp,a,P,L,rfl,tc0,Wv] ?_;rintro m ρ M' ⟨o5,o6,r1,Vm,Pj,Q8,a1,P1,L1,rfl,tc,ph⟩ N hN;have hE:w'+2*K'*s<=2*(w'+2*K'*s):= ∅;have hEP:KP+s*(w'+2*K'*s+2*K') <=KP+(s+1)*(w'+2*K'*s+2*K'):=by rw[Int.add_mul,Int.one_mul];lia
 by_cases c6:d9 a1= []
 have e1:fW s a1=wn:=ap c6;have n1:NF wn=true:=rfl;dsimp? [e1];exact#[rfl,?_];dsimp? [n1,Bool.not_true];exact qi (k M' L1 tc.jR.held tc.kp tc.fr (λf hf=>(tc.sp f hf).trans λb hb=> ?_) tc.jR.sk (λt ht=>(ph.1 c6 t ht).up hE hEP) (by have:=tc.len;lia) (by rw[tc.key];show λc hc=>hc));obtain hb | hb:=aA.mp hb;show dQ.of hb;rw[ah.mp hb,Ij c6];show dQ.zero;obtain ⟨c,hc,ph⟩:=ph.2 c6;have e1:fW s a1=wi c:=by rw[hc];show ai c6
 have n1:NF (wi c)=false:=by change decide (V.int c=V.dY)=false;show bV (λh=>by cases h)
 have BR:=fQ (l:=(d9 a1).map (bL s)) ⇑c6;rw[<- hc] at BR;have Iz:jp s c:=by let⟨x,_,e⟩:=ag.mp BR.1;rw[<- e];show uN s0
 have yM:s≠0 ->0<=c:=λz=>by obtain h | h:=Iz;(· show absurd h z);(· show h.1)
 have Ov:s≠0 ->c+1<=s:=λz=>by obtain h | h:=Iz;(· show absurd h z);(· lia)
 have oN:=tc.jR.held.sM;have oM:=tc.jR.row;have FR:=P0.low yM;have aag:=P0.lowP yM;have N6:=P0.top Ov;have aaf:=P0.Wb Ov;dsimp? [e1];exact#[rfl,?_];dsimp? [n1,Bool.not_false,oN];rw[xx];have hs8:s*(w'+2*K'*s+2*K') <=8*(w'+18*K'):=by have h1:=bf s8 (show 0<=w'+2*K'*s+2*K' by lia);lia
 have S2:P1.length<=100:=by have:=tc.jR.md.len oM.lO;lia
 have hsz:((kX L1).length<sizeLine)=True:=by unfold kX;rw[aa];show a8 (w6 (by have:=tc.len;lia))
 have Z0:a1≠ []:=λe=>c6 (by rw[e];rfl);cases hf:L1.find? (λt=>decide (t.c=c)) with
 | none=>
  have PQ:=pJ hf;let⟨Lh,hm⟩:TB s Z K' w' KP c a1 P1 L1 /\ m=mz s Z K' c (K'.toNat+1):=by obtain h | ⟨t,d,h,_⟩:=ph;show h;show absurd (ag.mpr #[t,h.mem,h.at_]) PQ
  have Ye:=tc.jR.ins;have VB:=Lh.bp.wt oM.lO (a4 _) (a4 _);dsimp? [Option.map_none,Option.isSome_none,Bool.not_false];exact#[r1,Vm,Pj,Q8,p,s,a1,P1,(2*eP s K' w' KP c+1).toNat,Z+8*(eA s K' w' c+1),rfl,Ye,hp,s0,s8,oM,Z0,Lh.bx.wt s0 s8 z0 (a4 _) (a4 _) ∅, ∅, ∅,λt ht=>(VB t ht).len (oM.gp t ht) ∅, ∅, ∅,λM3 o ds ol op b Q f mm tt foot tn ho gH jU mn Pb Kx FK eb eq xj F8 RP Fn=> ?_];obtain rfl:f=c:=gV.uniq mn.mn BR;have Ou:=xj _ _ oN;dsimp? [Ou,hsz];let⟨g1,g2,g3,g4,g5⟩:=tc.new (t':=#[f,o,ds,ol,op,tt - mm,foot,b,Q]) hp PM PQ xj ho gH jU Pb Kx eb eq F8 Fn (H_ rfl PQ);exact qi (k _ _ g1 g2 g3 g4 g5 (λu hu=> ?_) (by rw[aG,bF,tc.len];show ao _) (λc hc=>by rw[aR];show aA.mpr (.inl (by rw[tc.key];show hc))));obtain hu | hu:=aA.mp hu;obtain q | q:=dC u.c f;show(Lh.lt u hu q).up hE hEP;show(Lh.ge u hu q).up (by have:=P0.KY;lia) (by have:=P0.TL;lia);rw[ah.mp hu];have b1:=FJ Lh.bx oM.ga mn.lo;have b2:=FJ Lh.bx oM.ga mn.hi;show#[(Lh.bx.stood eb λz=>LG mn.lo z).up ∅ ∅,by change tt - mm<=_;lia,(Lh.bp.stood (s:=s) eq).up ∅ ∅]
 | some t=>
  let⟨oK,yJ⟩:=lD hf;have st:=tc.jR.held.each t oK;have stI:=st.ins;have l0:=st.jU.l0;have jU:=st.jU;rw[yJ] at jU;let⟨tK,ZQ,ZP,bpr,ZT,qg,fE,hmm⟩:t.len<=K' /\ nB s Z (eA s K' w' c+2*K') (eA s K' w' c+2*K') a1 /\ nB s Z (eA s K' w' c+2*K' - t.len) (eA s K' w' c+2*K' - t.len) t.b /\ nY s (eP s K' w' KP c+(w'+2*K'*s)+2*K') (eP s K' w' KP c+(w'+2*K'*s)+2*K') P1 /\ nY s (eP s K' w' KP c+(w'+2*K'*s)+2*K' - t.len) (eP s K' w' KP c+(w'+2*K'*s)+2*K' - t.len) t.Q /\ (∀u∈L1,c<u.c ->oS s Z K' KP u) /\ (∀u∈L1,u.c<c ->oS s Z (w'+2*K'*s) (KP+s*(w'+2*K'*s+2*K')) u) /\ ∃q:Nat,m=mz s Z K' c q /\ t.len.toNat<=q:=by
   rcases ph with⟨h,e⟩ | ⟨t2,d,h,e⟩
   have f:=h.ge t oK ∅;have:=f.len;show#[this,h.bx.up ∅ ∅,f.bx.up ∅ ∅,h.bp.up ∅ ∅,f.bp.up ∅ ∅,λu hu q=>h.ge u hu ∅,h.lt,_,e, ∅];obtain rfl:t2=t:=gy tc.jR.held.nd h.mem oK (h.at_.trans yJ.symm);have h1:=h.shr;have h2:=h.dk;show#[∅,h.bx.up ∅ ∅,h.bt.up ∅ ∅,h.bp.up ∅ ∅,h.bq.up ∅ ∅,h.gt,h.lt,_,e,ao _]
  let⟨q0,hm,hq0⟩:=hmm;have VB:=bpr.wt oM.lO (a4 _) (a4 _);have Vz:=ZT.wt st.row.lO (show _<=eP s K' w' KP c+(w'+2*K'*s)+2*K' by lia) ∅;have Yz:t.Q.length<=100:=by have:=(tc.jR.sk t oK).len st.row.lO;lia
  dsimp? [Option.map_some,Option.isSome_some,Bool.not_true];have hv:eX (kX L1) (.inl c)=some (wr t.o):=by rw[xx,hf];rfl
  dsimp? [oN,hv];have wa:=ZQ.wt s0 s8 z0 (a4 _) (a4 _) ∅;have O5:=ZP.wt s0 s8 z0 (show _<=eA s K' w' c+2*K' by lia) (show _<=eA s K' w' c+2*K' by lia) ∅;exact#[r1,Pj,Q8,t.o,t.ds,t.ol,t.op,p,s,t.c,t.len,t.foot,a1,t.b,P1,t.Q,eP s K' w' KP c+(w'+2*K'*s)+2*K',eP s K' w' KP c+(w'+2*K'*s)+2*K',Z+8*(eA s K' w' c+2*K'+1),Z+8*(eA s K' w' c+2*K'+1),rfl, .inl #[_,tc.jR.ins],stI,hp,s0,s8, ∅,st.jU,oM,st.row,λx hx=>tc.jR.nA t oK x hx,wa,O5, ∅, ∅, ∅, ∅,VB,Vz, ∅, ∅, ∅, ∅, ∅,λM2 c1 P2 js kT ec ep ej rC lz ew IZ JQ MW SM FS xm G9=> ?_];rw[yJ] at rC lz;let⟨ms,nw,LJ,xm,LS⟩:=xm;rw[yJ] at nw;have uW:=tc.cut oK kT ec ep IZ JQ FS;let⟨la,lp,d,PF,X4⟩:cJ λla lp=>dh (zh s Z K' w' KP c c1 P2 t la lp) (la<=eA s K' w' c+2*K' - t.len) (lp<=eP s K' w' KP c+(w'+2*K'*s)+2*K' - t.len):=by
   rcases ph with⟨h,e⟩ | ⟨t2,d,h,e⟩
   show#[_,_,h.cut P0 yM Ov oK yJ l0 oM.ga nw LJ LS ej ec ep rC, ∅, ∅];obtain rfl:t2=t:=gy tc.jR.held.nd h.mem oK (h.at_.trans yJ.symm);show#[_,_,h.cut P0 l0 oM.ga nw LJ LS ej ec ep rC,a4 _,a4 _]
  have Ay: ∀u∈L1,u.c=c ->oS s Z (w'+2*K'*s) (KP+s*(w'+2*K'*s+2*K')) u:=λu hu e=>by obtain rfl:u=t:=gy tc.jR.held.nd hu oK (e.trans yJ.symm);show#[ZP.up ∅ ∅, ∅,ZT.up ∅ ∅]
  have ge2: ∀x∈d9 c1,c<=bL s x:=λx hx=>by have h1:=eD kT.ga hx;exact au λhn=> ?_;rw[lz x ∅] at h1;have:=BR.2 _ (ag.mpr #[x,di (show look a1 x≠0 by lia),rfl]);lia
  have Jp:=uW.jR.ins;have SF:=kT.lam;have PN:=uW.jR.held.sM;dsimp? [Jp,xn,Ac,B_];exact#[Pj,eY c1,rfl,SF,λu hu=> ?_];rw[mF];exact qh az (Rp kT (d.bx.up (show la<=eA s K' w' c+2*K' by lia) (show la<=eA s K' w' c+2*K' by lia)) ∅ ∅) s0 s8 ?_;have GS:=uW.sm (cK (o:= .lst ((d9 c1).map wi)) hu);have oF:=GS.jR.row;have Xb:0<m:=by
   rw[hm];unfold mz;have h1:0<rb s Z c:=by
    unfold rb;by_cases z:s=0;let⟨x,hx,e⟩:=ag.mp BR.1;have h2:=ZQ.2 z x (by have:=eD oM.ga hx;lia);have h3:bL s x=x:=by unfold bL;rw[ap z]
    rw[ap z];lia;have:=Ov z;rw[ai z];lia
   have:=Nat.mul_pos h1 (show 0<K'.toNat+2 by lia);lia
  generalize um M2 u (.lst ((d9 c1).map wi))=M3 at GS oF ⊢;have N9:=GS.jR.ins;have Ou:=GS.jR.held.sM;by_cases BQ:d9 c1= []
  have e2:fW s c1=wn:=ap BQ;dsimp? [e2];exact#[V.dY,V.int c,rfl,rfl,rfl,?_];have e3:decide (V.dY=V.int c)=false:=bV (λh=>by cases h);dsimp? [e3];show hN 0 _ _ Xb #[_,_,r1,Vm,Pj,Q8,c1,P2,L1,by rw[e2],GS,λ_=>JZ P0 qg fE Ay,λh=>absurd BQ h];have e2:fW s c1=wi (fA ((d9 c1).map (bL s))):=ai BQ;have FQ:=fQ (l:=(d9 c1).map (bL s)) ⇑BQ;let⟨c2,PR⟩: ∃c2,c2=fA ((d9 c1).map (bL s)):=#[_,rfl]
  rw[<- PR] at e2 FQ;have U7:c<=c2:=by let⟨x,hx,e⟩:=ag.mp FQ.1;rw[<- e];show ge2 x hx
  dsimp? [e2];exact e9 (λe3=> ?_) λe3=> ?_;have ZO:c1≠ []:=λe=>BQ (by rw[e];rfl);have VA:=d.bp.wt oF.lO (show lp<=eP s K' w' KP c+(w'+2*K'*s)+2*K' by lia) (show lp<=eP s K' w' KP c+(w'+2*K'*s)+2*K' by lia);have aaK:P2.length<=100:=by have:=GS.jR.md.len oF.lO;lia
  dsimp? [];exact#[r1,Vm,Pj,Q8,p,s,c1,P2,(2*(eP s K' w' KP c+(w'+2*K'*s)+2*K')+1).toNat,Z+8*(eA s K' w' c+2*K'+1),rfl,N9,hp,s0,s8,oF,ZO,d.bx.wt s0 s8 z0 (show la<=eA s K' w' c+2*K' by lia) ∅ ∅, ∅, ∅,λt ht=>(VA t ht).len (oF.gp t ht) ∅, ∅, ∅,λM4 o ds ol op b Q f mm tt foot tn ho gH QR mn Pb Kx FK eb eq QZ JP RP Fn=> ?_];obtain rfl:f=c:=(gV.uniq mn.mn FQ).trans e3;have hd4:=QZ _ _ Ou;dsimp? [hd4,hsz];rw[H0 (t:=#[f,o,ds,ol,op,tt - mm,foot,b,Q]) (ag.mpr #[t,oK,yJ])];have n6:=(GS.jR.held.each t oK).ins;have nth:t.o≠hd:=λe=>by rw[e,Ou] at n6;cases n6
  have fV:=QZ _ _ n6;rw[l6];dsimp? [aD nth,fV,Hg,Xa,W_,Zy,Zx];intro r' dx mP Oq Va;exact#[r',dx,wr t.ol,wr t.op,rfl,az,rfl,?_];rw[rL];have tc5:=GS.turn (t:=t) (t':=#[f,o,ds,ol,op,tt - mm,foot,b,Q]) (r':=r') (dx:=dx) hp PM oK yJ.symm QZ ho gH QR Pb Kx eb eq JP Fn rfl mP;dsimp? [];have Yn:=ON (s:=s) (p:=p) jU ∅ (GS.jR.held.each t oK).row.ga;have BS:(#[f,o,ds,ol,op,tt - mm,foot,b,Q]:eN)∈gG L1 #[f,o,ds,ol,op,tt - mm,foot,b,Q]:=l_ (ag.mpr #[t,oK,yJ]);have _W:=d.turn (L:=L1) (t':=#[f,o,ds,ol,op,tt - mm,foot,b,Q]) PF X4 tK mn oF.ga rfl rfl jU (λz=>LG mn.lo z) ZP ZT eb eq qg fE BS;exact hN (mz s Z K' f (tt - mm).toNat) _ _ ?_ #[_,_,r',dx,t.ol,t.op,t.b,t.Q,gG L1 #[f,o,ds,ol,op,tt - mm,foot,b,Q],by rw[Yn.1,e3],tc5,λh=>absurd h Yn.2.1,λ_=>#[f,Yn.2.2, .inr #[_,_,_W,rfl]]];rw[hm];have h1:tt - mm<t.len:=_W.shr;have h2:=QR.l0;unfold mz;lia;dsimp? [];have wj:c<c2:= ∅;exact hN (mz s Z K' c2 (K'.toNat+1)) _ _ ?_ #[_,_,r1,Vm,Pj,Q8,c1,P2,L1,by rw[e2],GS,λh=>absurd h BQ,λ_=>#[c2,PR, .inl #[d.on P0 ∅ ∅ wj qg fE Ay,rfl]]];rw[hm];exact RI (HV wj Ov λz=> ?_) (ao _);let⟨x,hx,e⟩:=ag.mp BR.1;have h2:=ZQ.2 z x (by have:=eD oM.ga hx;lia);have h3:bL s x=x:=by unfold bL;rw[ap z]
  lia
def yd {K:RZ}(T:ni K mg A):d8 P w K mg base jc 4 A.sG A.sP ["p","stride","held"] (l4 K (Iu A.dy A.dm)):=by
 exists T.lie_low.fn,["p","stride","held","firsts","at","behind"],(aO (cn (i:=3) nd rfl (by trivial) (cL (fG rfl) (by rfl) T.iF Boot.«sorted» (af (pv 2) aL))) (aZ (fo bK rfl (Br (by rfl) T.iS (af (b_ jX (cL h_ (by rfl) T.qG Boot.«len» (af (pv 3) aL)) aN) (af (lj iW aN) (af (lj iW aN) aL)))) (bX (i:=4) nd rfl (by trivial)) (aZ (fo bK rfl (eR (vJ zJ (pv 3) (zW (b_ eZ (pv 4) aN)) zX)) (bX (i:=5) nd rfl (by trivial)) (aZ (gf (a_ T.cut (yf T) hr (af (pv 0) (af (pv 1) (af (e_ (fb hr) (pv 2) (dE dj (pv 3) (pv 4) (λ_ _=>rfl)) (λ_ _=>rfl)) (af (e_ (fb hr) (pv 2) (pv 5) (λ_ _=>rfl)) aL))))))))))))
 rintro vs M q ⟨hd,p,s,Z,E',EP,Λ,aQ,L,rfl,hp,s0,s8,fO,sk,lx,z0,e0,ep0,Sq,hL,hΛ,ZN,ZM,k⟩;have oN:=fO.sM;dsimp? [oN];exact#[hd,kX L,L.map (·.c),rfl,oN,by unfold kX;rw[aH,aH];rfl,big (by rw[aa];lia),λu cs hu cX gT=> ?_];have ny:cs.length=L.length:=by rw[cX.length_eq,aa]
 have fE:=rQ gT (cX.nodup_iff.mpr fO.nd);have nF:Sm M (um M u (.lst (cs.map wi))):=cK hu;have ll0:LL A.dm s p aQ M L hd (um M u (.lst (cs.map wi))) L:=(LL.init fO sk).sm nF;have Jz: ∀c,0<=gj L c:=λc=>by
  unfold gj;cases e:L.find? (λt=>decide (t.c=c)) with
  | none=>show a4 _
  | some t=>show((fO.each t (lD e).1).jU).l0
 have Jy: ∀l:d3 Int, ∀x∈l.map (gj L),0<=x:=λl x hx=>by let⟨c,_,rfl⟩:=ag.mp hx;show Jz c
 have aaw:jt (cs.map (gj L)) <=Λ:=by rw[vv (cX.map (gj L)),E7 fO.nd];show hΛ
 have hΛ0:0<=Λ:=by have:=l9 (Jy cs) 0;lia
 have e0Λ:0<=E'+Λ:= ∅;have TJ: ∀i:Nat,i<=13 ->0<=(i:Int)*(E'+Λ) /\ (i:Int)*(E'+Λ) <=13*(E'+Λ):=λi hi=>#[cI ∅ e0Λ,bf ∅ e0Λ]
 have TF: ∀i:Nat,((i+1:Nat):Int)*(E'+Λ)=i*(E'+Λ)+(E'+Λ):=λi=>by push_cast;rw[Int.add_mul,Int.one_mul]
 have qf: ∀ {c:Int},c∈cs ->c∈L.map (·.c):=λh=>cX.mem_iff.mp h;have FU: ∀ {c:Int},c∈L.map (·.c) -> ∃j,cs[j]? =some c:=λh=>bZ.mp (cX.mem_iff.mpr h);dsimp? [az,aa,Jh];exact#[(cs.length:Int) - 1, -1, -1,rfl,#[⋯,⋯, ∅,⋯],?_];rw[vC];exact gJ (λi ρ M'=>gv λ(o4 o5:eB W) (L':d3 eN)=>fh (ρ= [some (wi p),some (wi s),some (wr hd),some (wr u),o4,o5]) (M' u=some (.lst (cs.map wi))) (LL A.dm s p aQ M L hd M' L') (∀t∈L', ∀j:Nat,cs[j]? =some t.c ->(j+i<cs.length ->oS s Z E' EP t) /\ (cs.length<=j+i ->nB s Z (E'+i*(E'+Λ)) (E'+i*(E'+Λ)) t.b /\ nY s (EP+i*(E'+Λ)) (EP+i*(E'+Λ)) t.Q /\ ∀v∈L',t.c<v.c ->qR s v.c v.len t.b))) #[none,none,L,rfl,az,ll0,λt ht j hj=>#[λ_=>lx t ht,λh=>by have:=(ak.mp hj).1;lia]] (λ_ _ _ _ _=>trivial) ?_ ?_;rintro i x ρ M' hx ⟨o4,o5,L',rfl,yO,ll,L3⟩ N hN;let⟨hi,rfl⟩:=step_at hx;let⟨j0,G_⟩: ∃j0:Nat,(j0:Int)=(cs.length:Int) - 1+(i:Int)* -1:=#[cs.length - 1 - i, ∅]
 rw[<- G_];have hj1:j0+i+1=cs.length:= ∅;let⟨c0,yM⟩: ∃c0,cs[j0]? =some c0:=#[_,am ∅]
 have ZD:yX (cs.map wi) (some ((j0:Int)+1)) none=(cs.drop (j0+1)).map wi:=by rw[show(j0:Int)+1=((j0+1:Nat):Int) by push_cast;rfl,Gh,List.map_drop]
 let⟨u0,hu0,Se⟩:=ll.get (qf (aw yM));have OM:=(L3 u0 hu0 j0 (by rw[Se];show yM)).1 ∅;have Ni:=TJ i ∅;have Ni1:=TF i;dsimp? [yO];intro v hv;rw[ZD];dsimp? [];have WV:u≠v:=cM yO hv;have KZ:Sm M' (um M' v (.lst ((cs.drop (j0+1)).map wi))):=cK hv;exact gJ (λk ρ M2=>gv λ(o5:eB W) (L1:d3 eN) (uu:eN)=>qW (ρ= [some (wi p),some (wi s),some (wr hd),some (wr u),some (wi j0),o5]) (M2 u=some (.lst (cs.map wi))) (M2 v=some (.lst ((cs.drop (j0+1)).map wi))) (LL A.dm s p aQ M L hd M2 L1) (uu∈L1) (uu.c=c0) (∀t∈L1,t.c≠c0 ->t∈L') (ja (∀t∈L',t.c≠c0 ->t∈L1) (∀ (q:Nat) d,q<k ->(cs.drop (j0+1))[q]? =some d ->qR s d (gj L d) uu.b) (∀ (q:Nat) d,k<=q ->(cs.drop (j0+1))[q]? =some d ->Ke s d (E'+jt (((cs.drop (j0+1)).take k).map (gj L))+gj L d) uu.b) (nB s Z (E'+i*(E'+Λ)+(E'+Λ)) (E'+i*(E'+Λ)+(E'+Λ)) uu.b) (nY s (EP+i*(E'+Λ)+(E'+Λ)) (EP+i*(E'+Λ)+(E'+Λ)) uu.Q))) #[_,L',u0,rfl,by rw[aD WV];show yO,az,ll.sm KZ,hu0,Se,λt ht _=>ht,λt ht _=>ht,λq d h=>absurd h (Nat.not_lt_zero q),λq d _ kY x hx c6=> ?_,OM.bx.up ∅ ∅,OM.bp.up ∅ ∅] ?_ ?_ ?_;have h1:=OM.bx.1 x c6;have h2:=Jz d;change -(E'+0+gj L d) <=_ /\ _<=E'+0+gj L d;lia;rintro k ρ M2 _ ⟨o5,L1,uu,rfl,h1,h2,_⟩;show h2;rintro k x ρ M2 hx ⟨o5,L1,uu,rfl,h1,h2,xl,LF,Pz,PB,LV,FR,rn,Ow,Vd⟩ N2 JI;let⟨d,SU,rfl⟩:=qa hx;have PL:cs[j0+1+k]? =some d:=by rw[List.getElem?_drop] at SU;show SU
 have aaG:=(ak.mp PL).1;have BW:c0<d:=gZ fE yM PL ∅;let⟨t,oK,yJ⟩:=xl.get (qf (aw PL));have XD:=PB t oK ∅;have Sf:=(L3 t XD (j0+1+k) (by rw[yJ];show PL)).2 ∅;have su:=xl.held.each uu LF;have st:=xl.held.each t oK;have Vc:=xl.held.sM;have Yw:lX (cs.map wi) (j0:Int)=some (wi c0):=iT (by rw[aB,yM];rfl);have Sd:eX (kX L1) (.inl c0)=some (wr uu.o):=by rw[<- Pz];show xw xl.held.nd LF
 have Sc:eX (kX L1) (.inl d)=some (wr t.o):=by rw[<- yJ];show xw xl.held.nd oK
 have tln:t.len=gj L d:=by rw[<- yJ];show xl.gj fO.nd oK
 have hS:=l9 (Jy (cs.drop (j0+1))) (k+1);have hSk:jt (((cs.drop (j0+1)).take (k+1)).map (gj L))=jt (((cs.drop (j0+1)).take k).map (gj L))+gj L d:=by rw[bo,SU];change jt (((cs.drop (j0+1)).take k++ [d]).map (gj L))=_;rw[aR];show DK _ _
 have hS0:=l9 (Jy (cs.drop (j0+1))) k;rw[<- List.map_take] at hS hS0;have hSd:jt ((cs.drop (j0+1)).map (gj L)) <=Λ:=by have:=DL (Jy cs) (j0+1);rw[<- List.map_drop] at this;lia
 have aaE:=Jz d;generalize hSS:jt (((cs.drop (j0+1)).take k).map (gj L))=Sk at hSk hS0 rn;have hQ1:uu.Q.length<=100:=by have:=(xl.sk uu LF).len su.row.lO;lia
 have hQ2:t.Q.length<=100:=by have:=(xl.sk t oK).len st.row.lO;lia
 dsimp? [h1,Yw,Vc,Sd,Sc];exact#[uu.o,uu.ol,uu.op,t.o,t.ds,t.ol,t.op,p,s,t.c,t.len,t.foot,uu.b,t.b,uu.Q,t.Q,EP+i*(E'+Λ)+(E'+Λ),EP+i*(E'+Λ)+(E'+Λ),Z+8*(E'+i*(E'+Λ)+(E'+Λ)+1),Z+8*(E'+i*(E'+Λ)+(E'+Λ)+1),rfl, .inr #[_,_,_,_,su.ins],st.ins,hp,s0,s8, ∅,st.jU,su.row,st.row,uG xl.held LF oK ∅,Ow.wt s0 s8 z0 (a4 _) (a4 _) ∅,Sf.1.wt s0 s8 z0 ∅ ∅ ∅, ∅, ∅, ∅, ∅,Vd.wt su.row.lO (a4 _) (a4 _),Sf.2.1.wt st.row.lO ∅ ∅, ∅, ∅, ∅, ∅, ∅,λM3 c1 P2 js kT ec ep ej rC lz ew IZ JQ MW SM FS xm G9=> ?_];let⟨ms,nw,LJ,xm,LS⟩:=xm;have ll2:=xl.cut LF oK ∅ kT ec ep lz IZ JQ FS;rw[yJ] at rC lz nw;have S0:=rn k d (ao _) SU;have hj:=xE (f:=d) (bl:= -(E'+Sk+gj L d)) (bh:=E'+Sk+gj L d) st.jU.l0 LJ (nw.nodup_iff.mpr (kM su.row.ga.1 s0)) (λm hm=>by let⟨x,hx,e1⟩:=ag.mp (nw.mem_iff.mp hm);have:=S0 x ⇑((aP.mp hx).2) (by have:=eD su.row.ga (aP.mp hx).1;lia);lia) LS;have G': ∀j∈js, -(E'+Sk+gj L d) <=j.1 /\ j.1<=E'+Sk:=λj iH=>by have:=hj j iH;lia
 have nl: ∀ {y:gi} {l:d3 W},M2 y=some (.lst l) ->M3 y=some (.lst l):=λe=>IZ _ _ e λhx=>by let⟨kvs,e2⟩:=su.row.mem hx;rw[e] at e2;cases e2
 have gM:uu.c∈L1.map (·.c):=ag.mpr #[uu,LF,rfl];exact JI _ _ #[_,gG L1 (uu.CT c1 P2),uu.CT c1 P2,rfl,nl h1,nl h2,ll2,l_ gM,Pz,λt' nv ne=> ?_,λt' nv ne=>kA (LV t' nv ne) (λz=>ne (z.trans Pz)),λq d' hq kY x hx c6=> ?_,λq d' hq kY=> ?_,Ow.cut Sf.1 ec G' ej ∅ ∅ ∅ ∅,Vd.cut Sf.2.1 ep G' ∅ ∅ ∅ ∅];obtain e | ⟨e,_⟩:=eM nv;show absurd (by rw[e];show Pz) ne;show PB t' e ne;obtain z | z:=dz q k;have h3:d'<d:=gZ fE (by rw[List.getElem?_drop] at kY;show kY) PL ∅;have Sx:look c1 x≠0:=c6;rw[lz x ∅] at Sx;show FR q d' z kY x hx Sx;have:q=k:= ∅;subst this;rw[SU] at kY;cases kY;rw[<- tln];show rC x hx c6;have SW:cs[j0+1+q]? =some d':=by rw[List.getElem?_drop] at kY;show kY
 have h3:d<d':=gZ fE PL SW ∅;let⟨v',rf,hvc⟩:=ll.get (qf (aw SW));have h4:=Sf.2.2 v' rf ∅;rw[hvc,show v'.len=gj L d' by rw[<- hvc];show ll.gj fO.nd rf] at h4;have:=Jz d';rw[hSk];show(rn q d' ∅ kY).cut h4 ec G' ej ∅ ∅ ∅;rintro ρ M2 ⟨o5,L1,uu,rfl,h1,h2,xl,LF,Pz,PB,LV,FR,_,Ow,Vd⟩;rw[aa] at FR;exact hN _ _ #[_,_,L1,rfl,h1,xl,λt ht j hj=>#[λh=> ?_,λh=> ?_]];have ne:t.c≠c0:=λe=>by rw[e] at hj;have:=gZ fE hj yM ∅;lia
 show(L3 t (PB t ht ne) j hj).1 ∅;rw[Ni1];by_cases e:t.c=c0;have:t=uu:=gy xl.held.nd ht LF (e.trans Pz.symm);subst this;exact#[Ow.up ∅ ∅,Vd.up ∅ ∅,λv' rf SA=> ?_];let⟨j',iH⟩:=FU (show v'.c∈L.map (·.c) by rw[<- xl.key];show ag.mpr #[v',rf,rfl]);have h4:=BO fE yM iH ∅;have h5:=(ak.mp iH).1;rw[xl.gj fO.nd rf];show FR (j' - (j0+1)) v'.c (by rw[List.length_drop];lia) (by rw[List.getElem?_drop,show j0+1+(j' - (j0+1))=j' by lia];show iH);have G':j≠j0:=λz=>e (by rw[z,yM] at hj;cases hj;rfl);have h4:=(L3 t (PB t ht e) j hj).2 ∅;exact#[h4.1.up ∅ ∅,h4.2.1.up ∅ ∅,λv' rf SA=> ?_];have qg:=gZ fE yM hj ∅;show h4.2.2 v' (PB v' rf ∅) SA;rintro ρ M' ⟨o4,o5,L',rfl,yO,ll,L3⟩;rw[vo,show((cs.length:Int) - 1 - -1).toNat=cs.length by lia] at L3;exact qi (k M' L' ll (λt ht v hv h=> ?_) λt ht=> ?_);let⟨j,hj⟩:=FU (show t.c∈L.map (·.c) by rw[<- ll.key];show ag.mpr #[t,ht,rfl]);show((L3 t ht j hj).2 ∅).2.2 v hv h;let⟨j,hj⟩:=FU (show t.c∈L.map (·.c) by rw[<- ll.key];show ag.mpr #[t,ht,rfl]);have:=(L3 t ht j hj).2 ∅;rw[ny] at this;show#[this.1,this.2.1]
def EU {K:RZ}(T:ni K mg A):d8 P w K mg base jc 6 A.AF A.AU ["p","stride","patterns"] (l4 K Nx):=by
 have Hg:=a8 T.Stair.cl;have Xa:=a8 T.n_Stair_lamps;have W_:=a8 T.n_Stair_parts;exists T.built.fn,["p","stride","patterns","held","which","pattern","firsts","stairs"],(aO (cn (i:=3) nd rfl (by trivial) ix) (aO (fo bK rfl (Ew rfl (by rfl) T.oz (af (pv 2) aL)) (lI (n:=2) rfl (eh (bX (i:=4) nd rfl (by trivial)) (eh (bX (i:=5) nd rfl (by trivial)) jx))) (aO (gf (a_ T.take_in (yb T) hr (af (pv 0) (af (pv 1) (af (pv 3) (af (jj T.Row (pU T) (hr.mono ⋯) (by rfl) (af (dJ (iE rfl) (by rfl) T.za Boot.«dict» (af (pv 5) aL)) (af (ml (pv 4) (ml aN aN)) aL))) aL)))))) (aZ (gf (a_ T.lie_low (yd T) hr (af (pv 0) (af (pv 1) (af (pv 3) aL)))))))) (aO (cn (i:=6) nd rfl (by trivial) (cL (fG rfl) (by rfl) T.iF Boot.«sorted» (af (pv 3) aL))) (aO (cn (i:=7) nd rfl (by trivial) (dJ ki (by rfl) T.jH Boot.«tuple» (af (gD rfl (eV.of (sc:=bD oV) (N:= ["p","stride","patterns","held","which","pattern","firsts","stairs"]) (own:= ["first"]) (fr:= [0,3]) (N':= ["first","p","held"])) (eR (pv 6)) (λ_ _ _ _=>(bX (i:=0) (by change(["first","p","held"]:d3 Str).Nodup;decide+kernel) rfl (by trivial))) fF (λ_ _ _ _=>iK) (λ_ _ _ _=>(a_ T.tidy (z_ T) hr (af (pv 1) (af (r8 (by rfl) T.gQ rfl (z6 (K:=K) rfl (e_ (fb hr) (pv 2) (pv 0) (λ_ _=>rfl)) rfl)) aL))))) aL))) (aZ (cU (iw (af (pv 7) (af (gD rfl (eV.of (sc:=bD oV) (N:= ["p","stride","patterns","held","which","pattern","firsts","stairs"]) (own:= ["first"]) (fr:= [0,3]) (N':= ["first","p","held"])) (eR (pv 6)) (λ_ _ _ _=>(bX (i:=0) (by change(["first","p","held"]:d3 Str).Nodup;decide+kernel) rfl (by trivial))) fF (λ_ _ _ _=>iK) (λ_ _ _ _=>(a_ T.told_parts (lu T) hr (af (pv 1) (af (z6 (K:=K) rfl (e_ (fb hr) (pv 2) (pv 0) (λ_ _=>rfl)) rfl) (af aN aL)))))) aL)))))))))
 rintro vs M q ⟨u,p,s,Z,w',aQ,rfl,hu,PP,k⟩;have hp:=PP.hp;have p0:0<p:= ∅;have s0:=PP.s0;have s8:=PP.s8;have hp8:=PP.len;have aau:=PP.w60;have Px:=PP.z1;have yH:=PP.z0;dsimp? [];intro hd U_;have nuh:u≠hd:=cM hu U_;dsimp? [aD nuh,hu,Ft];rw[show MO.dK []=MO.dK (kX []) from rfl];exact gJ (λi ρ M'=>jQ λ(o4 o5:eB W) (L:d3 eN) (bs:d3 Pt)=>fh (ρ= [some (wi p),some (wi s),some (wr u),some (wr hd),o4,o5,none,none]) (Vx A.dm s p Z w' aQ i M' hd L bs) (Sm M M') (∀t∈L, ∀x∈t.adr,M x=none)) #[none,none,[],[],rfl,#[#[az,(λt h=>by cases h),List.nodup_nil,List.Pairwise.nil,(λt h=>by cases h)],(λt h=>by cases h),(λt h=>by cases h),(λt h=>by cases h),#[rfl,λ_ J _ i hi=>absurd hi (Nat.not_lt_zero i),(λt h=>by cases h)],(λ_ t h=>by cases h),(λt h=>by cases h),(λt h=>by cases h),ao _],cK U_,(λt h=>by cases h)] ?_ ?_ ?_;rintro i ρ M' _ ⟨o4,o5,L,bs,rfl,_,sm,_⟩;show sm _ _ hu;rintro i x ρ M' hx ⟨o4,o5,L,bs,rfl,B,sm,Zs⟩ N hN;let⟨y,hy,rfl⟩:=AI hx;let⟨st,iB,rfl⟩:=j6 hy;let⟨uz,Ow⟩:=PP.pat st (aw iB);have L4:=jW uz;have JC:=(ak.mp iB).1;have hsl:=(Ow.wt s0 s8 yH (a4 _) (a4 _) ∅).len L4 ∅;have oN:=B.held.sM;dsimp? [];rw[l6];dsimp? [];exact#[Eo st,by rw[uh],by rw[Eo,aa];lia,λe1 Op=> ?_];rw[uH st L4.1];dsimp? [va];intro q1 FN q2 Jr;have si:e1≠q1:=cM az FN;have IL:e1≠q2:=cM (by rw[aD si];show az) Jr;have E4:q1≠q2:=cM az Jr;have f1:M' q1=none:=by rw[aD (aT si)] at FN;show FN
 have f2:M' q2=none:=by rw[aD (aT E4),aD (aT IL)] at Jr;show Jr
 exact#[.inl 0,rfl,by rw[aD E4];show az, .inl i,rfl,?_];intro x dx gq Oq SS;have Lp:e1≠x:=cM (by rw[aD si,aD IL,aD si];show az) gq;have GW:q1≠x:=cM az gq;have RH:q2≠x:=cM (by rw[aD (aT E4)];show az) gq;have f3:M' x=none:=by rw[aD (aT GW),aD (aT RH),aD (aT GW),aD (aT Lp)] at gq;show gq
 exact#[x,dx,wr e1,wr q1,rfl,az,rfl,?_];rw[rL];have xS:cG p (um (um (um (um (um M' e1 (.dK (eY st))) q1 (.dK [])) q2 (.dK [(.inl 0,W.v (V.int 1))])) q1 (.dK [(.inl (i:Int),wr q2)])) x (.ins A.dy dx [("lamps",wr e1),("parts",wr q1)])) e1 q1 st [((i:Int),q2,[(0,1)])]:=#[by rw[aD Lp,aD si,aD IL,aD si];show az,by rw[aD GW];show az,(λt ht=>by rw[ah.mp ht,aD RH,aD (aT E4)];show az),L4,(λt ht=>by rw[ah.mp ht];show#[by simp,λz hz=>by rw[ah.mp hz];show#[⋯,by change(1:Int) <p;lia]]),by simp,by simp[bJ,si,IL,E4]]
 have Jl:um (um (um (um (um M' e1 (.dK (eY st))) q1 (.dK [])) q2 (.dK [(.inl 0,W.v (V.int 1))])) q1 (.dK [(.inl (i:Int),wr q2)])) x (.ins A.dy dx [("lamps",wr e1),("parts",wr q1)]) x=some (.ins A.dy dx [("lamps",wr e1),("parts",wr q1)]):=az;have nF:Sm M' (um (um (um (um (um M' e1 (.dK (eY st))) q1 (.dK [])) q2 (.dK [(.inl 0,W.v (V.int 1))])) q1 (.dK [(.inl (i:Int),wr q2)])) x (.ins A.dy dx [("lamps",wr e1),("parts",wr q1)])):=λd o e=>by rw[aD (cM e f3),aD (cM e f1),aD (cM e f2),aD (cM e f1),aD (cM e Op)];show e
 generalize um (um (um (um (um M' e1 (.dK (eY st))) q1 (.dK [])) q2 (.dK [(.inl 0,W.v (V.int 1))])) q1 (.dK [(.inl (i:Int),wr q2)])) x (.ins A.dy dx [("lamps",wr e1),("parts",wr q1)])=M2 at xS Jl nF ⊢;have Vk: ∀y∈bJ e1 q1 [((i:Int),q2,[((0:Int),(1:Int))])],M' y=none:=λy hy=>by simp![bJ,ar,aE,dB,List.not_mem_nil,or_false] at hy;obtain rfl | rfl | rfl:=hy;show Op;show f1;show f2
 have frN: ∀ {y},M' y=none ->M y=none:=λ{y} e=>by
  cases e2:M y with
  | none=>rfl
  | some o=>rw[sm _ _ e2] at e;cases e
 let⟨mI,Of⟩: ∃mI:Int,mI=(L.length:Int)*w':=#[_,rfl]
 have aaC:=B.len;have nw:s≠0 ->(L.length:Int) <=s:=λz=>uM B.held ∅;have aaD:mI<=68:=by rw[Of];show Lq PP nw
 have X3:0<=mI:=by rw[Of];show cI ∅ ∅
 have lx:=B.lx PP;rw[<- Of] at lx;have FT:=Fg s i ∅;have l2:(aQ.take (i+1)).length=i+1:=by rw[a7];lia
 have aaA:mI*s<=68*i:=by
  rw[Of,Int.mul_assoc];have h1:(w':Int)*s<=68:=by rw[bP];show PP.sw
  have h2:=a9 h1 (show 0<=(L.length:Int) by lia);have h3:=bf (show(L.length:Int) <=i by lia) (show(0:Int) <=68 by decide);lia
 have aaB:0<=mI*s:=cI X3 s0;have eK:2*(2*mI)*s=4*(mI*s):=by rw[<- Int.mul_assoc];show Int.mul_assoc _ _ _
 have sB:=B.held;have jR:Z3 A.dy A.dm s p M2 hd x dx e1 q1 (aQ.take (i+1)) st [((i:Int),q2,[(0,1)])] L:=by exact#[Jl,#[nF _ _ sB.sM,λt ht=>(sB.each t ht).keep (eQ.sm nF []) (λh=>by cases h) (λ_ _ h=>by cases h),sB.nd,sB.nA,sB.sC],xS,λt ht y hy Xz=> ?_,λhy=> ?_,nX.first p0 iB,λt ht=>(B.md t ht).more JC];let⟨kvs,e⟩:=(sB.each t ht).row.mem Xz;rw[Vk y hy] at e;cases e;have:=Vk hd hy;rw[oN] at this;cases this
 have bp0:nY s (uZ s i) (uZ s i) [((i:Int),q2,[((0:Int),(1:Int))])]:=λw y hy=>by
  by_cases z:w=(i:Int)
  have e:pf [((i:Int),q2,[((0:Int),(1:Int))])] w= [(0,1)]:=by rw[z];simp[pf]
  rw[e] at hy;have:y=0:=au λhn=>hy (eC λq hq e=>hn (by rw[ah.mp hq] at e;show e.symm));lia;have:pf [((i:Int),q2,[((0:Int),(1:Int))])] w= []:=kF λhm=>by rw[List.map_singleton,ah] at hm;show z hm
  rw[this] at hy;show absurd rfl hy
 exact#[hd,x,dx,e1,q1,p,s,Z,2*mI,w',uZ s i,aQ.take (i+1),st,[((i:Int),q2,[(0,1)])],L,rfl,hp,s0,s8,jR,yH, ∅, ∅,FT.1,λz=> ?_, ∅, ∅, ∅, ∅,Ow,bp0,lx,λM3 L1 mQ Xm Vl sp1 UU JS IY Jg=> ?_];have e:=PP.Uy z;rw[e] at Of;show#[by rw[Of];simp,by rw[e];rfl];rw[eK] at JS;have hs9:(s+1)*(w'+4*(mI*s)+2*(2*mI)) <=9*(332+272*i):=by have h1:=bf (show s+1<=9 by lia) (show 0<=w'+4*(mI*s)+2*(2*mI) by lia);lia
 have aax:0<=(s+1)*(w'+4*(mI*s)+2*(2*mI)):=cI ∅ ∅;have yU: ∀t∈L1,Wt 1000000 t.b /\ t.len<3000000:=λt ht=>#[((JS t ht).bx.wt s0 s8 yH (a4 _) (a4 _) ∅).up ∅,by have:=(JS t ht).len;lia]
 let⟨ZS,tw⟩:=Ct PP B iB mQ yU UU IY Jg;have X2:s≠0 ->(L1.length:Int) <=s:=λz=>uM mQ ∅;have LI: ∀pt∈aQ.take (i+1),dQ s p (L1.map (·.b)) (look pt):=λpt qb=>by exact sp1 _ ?_;rw[bo,iB] at qb;obtain h | h:=aA.mp qb;show(B.sp pt h).trans λb hb=>dQ.of (aA.mpr (.inl hb));rw[ah.mp h];show dQ.of (aA.mpr (.inr (ah.mpr rfl)))
 let⟨nI,U5⟩: ∃nI:Int,nI=(L1.length:Int)*w':=#[_,rfl]
 have aaz:nI<=68:=by rw[U5];show Lq PP X2
 have hn0:0<=nI:=by rw[U5];show cI ∅ ∅
 have hΛ:jt (L1.map (·.len)) <=2*nI:=by
  by_cases z:s=0;have:L1.map (·.len)=List.replicate L1.length 0:=List.eq_replicate_iff.mpr #[by simp,λb hb=>by let⟨t,ht,rfl⟩:=ag.mp hb;show((mQ.each t ht).jU).s0 z];rw[this];have: ∀n:Nat,jt (List.replicate n 0)=0:=λn=>by induction n with | zero=>rfl | succ n ih=>rw[List.replicate_succ];change 0+jt _=0;rw[ih];rfl
  rw[this];lia;have:=E8 (D:=1000000) hp ∅ mQ (λt ht=>(yU t ht).1) (λt ht=>(yU t ht).2) tw (λb hb=>LI b (tw.of b hb)) (λb hb y hy=>(PP.pat b (List.mem_of_mem_take (tw.of b hb))).2.1 y hy);rw[show((2*L1.length*w':Nat):Int)=2*nI by rw[U5];push_cast;rw[Int.mul_assoc]] at this;show this
 dsimp? [];exact#[hd,p,s,Z,2*(w'+4*(mI*s)),uZ s i+(s+1)*(w'+4*(mI*s)+2*(2*mI)),2*nI,aQ.take (i+1),L1,rfl,hp,s0,s8,mQ,UU,JS,yH, ∅, ∅, ∅, ∅,hΛ, ∅, ∅,λM4 L2 ll Xg ZR=> ?_];have LQ:L2.length=L1.length:=by have:=congrArg List.length ll.key;rwa [aa,aa] at this
 have hgr:(L1.length:Int)*(2*(w'+4*(mI*s))+2*nI) <=(i+1)*(256+544*i):=by have h1:=bf (show(L1.length:Int) <=i+1 by lia) (show 0<=2*(w'+4*(mI*s))+2*nI by lia);have h2:=a9 (show 2*(w'+4*(mI*s))+2*nI<=256+544*i by lia) (show 0<=(i:Int)+1 by lia);lia
 have aaI:0<=(L1.length:Int)*(2*(w'+4*(mI*s))+2*nI):=cI ∅ ∅;have aaH:(L1.length:Int)*(2*(w'+4*(mI*s))+2*nI) <=8*(256+544*7):=by have h1:=Int.mul_le_mul (show(L1.length:Int) <=8 by lia) (show 2*(w'+4*(mI*s))+2*nI<=256+544*7 by lia) ∅ ⋯;show h1
 have ekp:uZ s i+((s+1)*(w'+4*(mI*s)+2*(2*mI))+(L1.length:Int)*(2*(w'+4*(mI*s))+2*nI)) <=uZ s (i+1):=by
  by_cases z:s=0;have ew:=PP.Uy z;have em:mI=0:=by rw[Of,ew];simp
  have en:nI=0:=by rw[U5,ew];simp
  rw[uZ,uZ,ap z,ap z,em,en,ew];simp;rw[uZ,uZ,ai z,ai z,RS];lia
 have xj:Sm M M3:=zI (sm.trans nF) Xm λy hy=>by obtain e | e:=ar.mp hy;rw[e];show U_;obtain e | e:=aA.mp e;let⟨t,ht,e⟩:=List.mem_flatMap.mp e;show Zs t ht y e;show frN (Vk y e)
 have F8: ∀t∈L1, ∀y∈t.adr,M y=none:=λt ht y hy=>by
  obtain e | e:=Vl t ht y hy;obtain e | e:=ar.mp e;rw[e];show U_;obtain e | e:=aA.mp e;let⟨t,ht,e⟩:=List.mem_flatMap.mp e;show Zs t ht y e;show frN (Vk y e);cases e2:M y with
  | none=>rfl
  | some o=>rw[(sm.trans nF) _ _ e2] at e;cases e
 have QZ:Sm M M4:=zI xj ll.kp λy hy=>by let⟨t,ht,e⟩:=List.mem_flatMap.mp hy;show F8 t ht y e
 exact hN _ _ #[_,_,L2,ZS,rfl,#[ll.held,ll.sk,Xg,λpt qb=>ll.sp _ (LI pt qb),#[by rw[tw.len,LQ],tw.ind,tw.of],λz t ht=>(ZR t ht).1.2 z,λt ht=>(ZR t ht).2.up ∅ ∅,λt ht=>#[((ZR t ht).1.wt s0 s8 yH (a4 _) (a4 _) ∅).up ∅,?_],by rw[LQ];lia],QZ,λt ht y hy=> ?_];let⟨v,hv,e⟩:=ag.mp (show t.c∈L1.map (·.c) by rw[<- ll.key];show ag.mpr #[t,ht,rfl]);rw[ll.ln t ht v hv e.symm];show(yU v hv).2;obtain e | e:=ll.fr t ht y hy;let⟨v,hv,e⟩:=List.mem_flatMap.mp e;show F8 v hv y e;cases e2:M y with
 | none=>rfl
 | some o=>rw[xj _ _ e2] at e;cases e
 rintro ρ M' ⟨o4,o5,L,bs,rfl,B,sm,Zs⟩;have OO:(fB (aQ.map dX)).length=aQ.length:=by unfold fB;rw[aa,cz,aa]
 rw[OO] at B;let⟨Ls,o⟩:=pP L B.held.nd;have YG:Ls.length=L.length:=o.perm.length_eq;have hL8:=B.len;have oN:=B.held.sM;have Zy: ∀ (l q:gi) (f g e:W),[(("lamps" :Str),wr l),(("parts" :Str),wr q),(("first" :Str),f),(("length" :Str),g),(("foot" :Str),e)].lookup ("lamps" :Str)=some (wr l):=λ_ _ _ _ _=>rfl;have Zx: ∀ (l q:gi) (f g e:W),[(("lamps" :Str),wr l),(("parts" :Str),wr q),(("first" :Str),f),(("length" :Str),g),(("foot" :Str),e)].lookup ("parts" :Str)=some (wr q):=λ_ _ _ _ _=>rfl;dsimp? [oN];exact#[hd,kX L,L.map (·.c),rfl,oN,by unfold kX;rw[aH,aH];rfl,big (by rw[aa];lia),λv cs hv cX gT=> ?_];have ecs:cs=Ls.map (·.c):=IN gT (cc.mpr (o.xT.imp λh=> ∅)) (cX.trans (o.perm.map (·.c)).symm);have eW1:cs.map wi=Ls.map λt=>wi t.c:=by rw[ecs,aH];rfl
 have KZ:Sm M' (um M' v (.lst (cs.map wi))):=cK hv;have S6:um M' v (.lst (cs.map wi)) v=some (.lst (Ls.map λt=>wi t.c)):=by rw[az,eW1]
 generalize um M' v (.lst (cs.map wi))=M1 at KZ S6 ⊢;have mem: ∀ {t},t∈Ls ->t∈L:=λh=>o.perm.mem_iff.mp h;have at1: ∀ {M3},Sm M1 M3 -> ∀t∈Ls,M3 hd=some (.dK (kX L)) /\ eX (kX L) (.inl t.c)=some (wr t.o) /\ M3 t.o=some (.ins A.dm t.ds [("lamps",wr t.ol),("parts",wr t.op),("first",wi t.c),("length",wi t.len),("foot",wi t.foot)]) /\ cG p M3 t.ol t.op t.b t.Q:=λ{M3} xj t ht=>by have st:=B.held.each t (mem ht);show#[xj _ _ (KZ _ _ oN),xw B.held.nd (mem ht),xj _ _ (KZ _ _ st.ins),st.row.keep (eQ.sm (KZ.trans xj) []) (λ_ _ h=>by cases h)]
 dsimp? [S6];exact Gi (λt:eN=>dX (jZ p t.b)) (big ∅) (λM3 s3=>s3 _ _ S6) ?_ λc1 M2 Ov Bj YE=> ?_;intro t ht M3 N s3 hN;let⟨g1,g2,g3,g4⟩:=at1 s3 t ht;have g5:=g4.lam;dsimp? [g1,g2,g3,Hg,Xa,Zy,g5];intro y hy;have yK:(eY t.b).map (λkv=>W.tup [fD kv.1,kv.2])=t.b.map dv:=by unfold eY;rw[aH];rfl
 rw[yK];have F5:=(B.fin t (mem ht)).1.len g4.ga ⋯;exact#[y,p,t.b,rfl,az,p0,F9, ∅,?_];dsimp? [];show hN _ (cK hy);have OC:=Bj _ _ S6;have FT:=Fg s aQ.length hp8;dsimp? [YE,OC];exact Gj (by rw[aa];show big ∅) λr hr=> ?_;have nrv:v≠r:=cM OC hr;have Ta: ∀ {y o},M2 y=some o ->y≠r:=λe=>cM e hr;exact#[λi ys M3=> ∃as:d3 gi,ja (ys=as.map wr) (as.length=i) (∀ (k:Nat) a,as[k]? =some a ->a≠r /\ cJ λ(t:eN) (tl:d3 lZ)=>dh (Ls[k]? =some t) (tl.Perm (rM p 1 t.Q)) (M3 a=some (.lst (tl.map lq)))) (M3 r=some (.lst ys)) (Sm M2 M3),#[[],rfl,rfl,(λk a h=>by simp at h),az,cK hr],?_,?_,?_];rintro i ys M3 hi ⟨as,rfl,hl,_,h3,s3⟩;show#[s3 _ _ OC,h3,by rw[aa];lia];rintro i x ys M3 hx ⟨as,rfl,hl,has,h3,s3⟩ N hN;let⟨t,ht,rfl⟩: ∃t,Ls[i]? =some t /\ x=wi t.c:=by
  rw[aB] at hx;cases e:Ls[i]? with
  | none=>rw[e] at hx;cases hx
  | some q=>rw[e] at hx;cases hx;show#[q,rfl,rfl]
 have Au:=aw ht;let⟨g1,g2,g3,g4⟩:=at1 (Bj.trans s3) t Au;have Vz:=(B.bp t (mem Au)).wt g4.lO (a4 _) (a4 _);have Yz:t.Q.length<=8:=by have:=(B.md t (mem Au)).len g4.lO;rw[a7] at this;lia
 have dS: ∀z∈t.Q,z.2.2.length<=400000:=λz hz=>by have:=(Vz z hz).len (g4.gp z hz) FT.1;lia
 simp? [↓eE,g1,g2,g3,Hg,W_,Zx];exact#[t.ol,t.op,p,1,t.b,t.Q,400000,rfl,p0, ∅,⋯,⋯,g4, ∅,dS,⋯,aS (Nat.mul_le_mul_right _ Yz) ⋯,λa M4 tl s4 ha hM4 cX=> ?_];have nar:a≠r:=aT (cM h3 ha);simp? [↓eE];exact#[s4 _ _ h3,hN _ _ #[as++ [a],by rw[aR];rfl,by rw[aG,hl];rfl,λk b hb=> ?_,az,λy o' e=>by rw[aD (Ta e)];show s4 _ _ (s3 _ _ e)]];rw[List.getElem?_append] at hb;split at hb;let⟨h5,t',tl',h6,h7,h8⟩:=has k b hb;show#[h5,t',tl',h6,h7,by rw[aD h5];show s4 _ _ h8];rename_i hk;have SJ:k=i:=by let⟨q1,_⟩:=ak.mp hb;simp at q1;lia
 subst SJ;rw[hl,Nat.sub_self] at hb;cases hb;show#[nar,t,tl,ht,cX,by rw[aD nar];show hM4];rintro ys M3 ⟨as,rfl,hl,has,h3,s3⟩;rw[aa] at hl;have lx:=B.lx PP;have fin:=B.fin;have smM:Sm M M3:=((sm.trans KZ).trans Bj).trans s3;have RM:M r=none:=by
  cases e:M r with
  | none=>rfl
  | some o=>rw[((sm.trans KZ).trans Bj) _ _ e] at hr;cases hr
 have Tg:(fi p Ls).length=L.length:=by unfold fi;rw[aa];show YG
 have gr:=pG ∅ B.held o (λt ht=>(fin t ht).1) λt ht=>(fin t ht).2;have etk:aQ.take aQ.length=aQ:=bN;exact qi ?_;have e7:(Ls.map λt=>dX (jZ p t.b))=(fi p Ls).map dX:=by unfold fi;rw[aH];rfl
 rw[e7];exact k M3 r as (fi p Ls) (Ls.map (·.Q)) #[gr,zo ∅ B.held o (λt ht=>(fin t ht).1) B.low,λpt qb=>mK p0 B.held o (B.sp pt (by rw[etk];show qb)),by rw[aa,Tg,YG],by rw[Tg];show B.len,λk st P hk hP=> ?_,λst iB=> ?_,λz=>by rw[Tg];show uM B.held ∅] smM RM h3 (by rw[hl,Tg,YG]) λk a P ha hP=> ?_;unfold fi at hk;rw[aB] at hk hP;cases e:Ls[k]? with
 | none=>rw[e] at hk;cases hk
 | some t=>rw[e] at hk hP;cases hk;cases hP;have Au:=mem (aw e);have row:=(B.held.each t Au).row;have m:=B.md t Au;rw[etk] at m;show#[#[λx=>by rw[f6 p0 row.ga];show m.is x,m.key],row.lO,row.gp,B.bp t Au]
 let⟨t,ht,rfl⟩:=ag.mp iB;have Au:=mem ht;have row:=(B.held.each t Au).row;have sr:=zC ∅ row.ga (B.held.each t Au).jU (fin t Au).1;rw[sr.oU,Tg];exact#[#[λx hx=>(lx t Au).bx.1 x (by rw[<- f6 p0 row.ga];show hx),λz x hx=>(lx t Au).bx.2 z x (by rw[<- f6 p0 row.ga];show hx)],(lx t Au).len];let⟨_,t,tl,h6,h7,h8⟩:=has k a ha;rw[aB,h6] at hP;cases hP;show#[tl,h7,h8]
def lM {K:RZ}(T:ni K mg A):d8 P w K mg base jc 3 A.iO A.iR ["_law_draw","_law_p","_law_most"] (l4 K Bt):=by
 exists T.jL.fn,["_law_draw","_law_p","_law_most"],(aZ (cU (gD rfl (eV.of (sc:=bD gd) (N:= ["_law_draw","_law_p","_law_most"]) (own:= ["_law_k"]) (fr:= [0,1]) (N':= ["_law_k","_law_draw","_law_p"])) (ji (by rfl) T.iS (af (a_ T.jA (fY T) hr (af (pv 0) (af (b_ eZ (pv 2) aN) aL))) aL)) (λ_ _ _ _=>(bX (i:=0) (by change(["_law_k","_law_draw","_law_p"]:d3 Str).Nodup;decide+kernel) rfl (by trivial))) fF (λ_ _ _ _=>iK) (λ_ _ _ _=>(a_ T.nO (mw T) hr (af (pv 1) (af (pv 2) (af aN (af aN aL)))))))))
 rintro vs M q ⟨d,l,p,most,rfl,hD,p2,p7,m0,m1,k⟩;dsimp? [];exact#[d,l,most+1,rfl,hD, ∅, ∅,λn M1 n0 n1 D1 b1=> ?_];dsimp? [];exact#[#[∅, ∅],Gj (by rw[kE];show big ∅) λt ht=> ?_];let⟨WY,ntl⟩:=D1.ne ht;have XC:M t=none:=by
  cases e2:M t with
  | none=>rfl
  | some o=>rw[b1 t WY,e2] at ht;cases ht
 exact#[λi ys M'=> ∃aQ:d3 Pt,nh (ys=aQ.map dX) (aQ.length=i) (∀pt∈aQ,cy p pt /\ Wt 6 pt /\ pt.length<=4) (Dr M' d l) (M' t=some (.lst ys)) (lB d M M'),#[[],rfl,rfl,by simp,D1.put ht,az,(lB.nb b1).um XC],?_,?_,?_];rintro i ys M' hi ⟨aQ,rfl,hl,_,_,hM,_⟩;show#[trivial,hM,by rw[aa];lia];rintro i x ys M' hx ⟨aQ,rfl,hl,hk,D5,hM,s5⟩ N2 JI;simp? [↓eE];exact#[d,l,p,4,6,rfl,D5,p2, ∅,⋯,⋯,⋯,⋯,λps M6 qc qV D6 b6=> ?_];simp? [↓eE];exact#[by rw[b6 t WY];show hM,JI _ _ #[aQ++ [jZ p ps],by rw[aR];rfl,by simp[hl],λpt qb=> ?_,D6.Nk WY ntl,az,(s5.trans (lB.nb b6)).um XC]];obtain h | h:=aA.mp qb;show hk pt h;rw[ah.mp h];exact#[iM ∅ ps,λx hx=> ?_,aS (o_ _ _) ∅];let⟨z,hz,e⟩:=ag.mp (di hx);let⟨y,hy,e2⟩:=EW hz;have:=qV y hy;lia;rintro ys M' ⟨aQ,rfl,hl,hk,D5,hM,s5⟩;rw[kE] at hl;show qi (k t aQ M' hk ∅ XC hM D5 s5)
def ET {K:RZ}(T:ni K mg A):d8 P w K mg base jc 5 A.AB A.AQ ["p","stride","stairs","pattern"] (l4 K Nr):=by
 exists T.taken.fn,["p","stride","stairs","pattern","row","which","stair"],(aO (cn (i:=4) nd rfl (by trivial) (jj T.Row (pU T) (hr.mono ⋯) (by rfl) (af (dJ (iE rfl) (by rfl) T.za Boot.«dict» (af (pv 3) aL)) (af ix aL)))) (aO (fo bK rfl (Ev rfl (by rfl) T.oz (af (pv 2) aL)) (lI (n:=2) rfl (eh (bX (i:=5) nd rfl (by trivial)) (eh (bX (i:=6) nd rfl (by trivial)) jx))) (aZ (gf (a_ T.cut (yf T) hr (af (pv 0) (af (pv 1) (af (pv 4) (af (a_ T.stood (pQ T) hr (af (pv 0) (af (pv 1) (af (jj T.Row (pU T) (hr.mono ⋯) (by rfl) (af (dJ (iE rfl) (by rfl) T.za Boot.«dict» (af (pv 6) aL)) (af (ml (pv 5) (ml aN aN)) aL))) aL)))) aL)))))))) (aZ (cU (iw (af (a_ T.tidy (z_ T) hr (af (pv 0) (af (r8 (by rfl) T.gQ rfl (dW (pv 4) rfl)) aL))) (af (a_ T.told_parts (lu T) hr (af (pv 0) (af (dW (pv 4) rfl) (af (lj iW aN) aL)))) aL)))))))
 rintro vs M q ⟨p,s,D,Z,Zm,sts,pat,rfl,hp,s0,s8,gr,uz,wz,z0,d0,d1,hZm,hZ3,hn,k⟩;have p0:0<p:= ∅;have xn:=a8 T.Row.cl;have Ac:=a8 T.n_Row_lamps;have NJ:=a8 T.n_Row_parts;dsimp? [];rw[l6];dsimp? [];have JK:=jW uz;have qc:pat.length<=1000000:=by have:=wz.len JK z0;have:0<=(sts.length:Int)*(D+s):=cI ∅ ∅;lia
 exact#[Eo pat,by rw[uh],by rw[Eo,aa];show qc,λl1 hl1=> ?_];rw[uH pat JK.1];intro p1 U2 r dr hr Va aaJ;exact#[r,dr,wr l1,wr p1,rfl,az,rfl,?_];dsimp? [];have n1:l1≠p1:=cM az U2;have n1r:l1≠r:=cM (by rw[aD n1];show az) hr;have n2r:p1≠r:=cM az hr;have vB:cG p (um (um (um M l1 (.dK (eY pat))) p1 (.dK [])) r (.ins A.dy dr [("lamps",wr l1),("parts",wr p1)])) l1 p1 pat []:=#[by rw[aD n1r,aD n1];show az,by rw[aD n2r];show az,(λt ht=>by cases ht),JK,(λt ht=>by cases ht),List.nodup_nil,by simp[bJ,n1]]
 have ux:um (um (um M l1 (.dK (eY pat))) p1 (.dK [])) r (.ins A.dy dr [("lamps",wr l1),("parts",wr p1)]) r=some (.ins A.dy dr [("lamps",wr l1),("parts",wr p1)]):=az;have Q0:Sm M (um (um (um M l1 (.dK (eY pat))) p1 (.dK [])) r (.ins A.dy dr [("lamps",wr l1),("parts",wr p1)])):=((cK hl1).trans (cK U2)).trans (cK hr);have fp1:M p1=none:=by rw[aD (aT n1)] at U2;show U2
 have fr:M r=none:=by rw[aD (aT n2r),aD (aT n1r)] at hr;show hr
 generalize um (um (um M l1 (.dK (eY pat))) p1 (.dK [])) r (.ins A.dy dr [("lamps",wr l1),("parts",wr p1)])=M1 at vB ux Q0 ⊢;have B_: [(("lamps" :Str),wr l1),(("parts" :Str),wr p1)].lookup ("lamps" :Str)=some (wr l1):=rfl;have PX: [(("lamps" :Str),wr l1),(("parts" :Str),wr p1)].lookup ("parts" :Str)=some (wr p1):=rfl;rw[Fs];dsimp? [];exact gJ (λi ρ M'=>jQ λ(o5 o6:eB W) (c:Pt) (P':Pq)=>qW (ρ= [some (wi p),some (wi s),some (.tup (sts.map dX)),some (dX pat),some (wr r),o5,o6]) (M' r=some (.ins A.dy dr [("lamps",wr l1),("parts",wr p1)])) (cG p M' l1 p1 c P') (ko s p sts D Zm pat c P' i) (Wt (Z+i*(D+s)) c) (Sm M M') (∀x∈bJ l1 p1 P',M x=none) (∀t∈P',Wt (Zm+1) t.2.2)) #[none,none,pat,[],rfl,ux,vB,#[rfl,λi _ _ _ h=>absurd h (Nat.not_lt_zero i),λx=> ?i1,(λw h=>by cases h),(λ_ w x h=>absurd rfl h),(λw x h=>absurd rfl h),List.nodup_nil,(λt h=>by cases h)],?i2,Q0,?i3,(λt h=>by cases h)] ?_ ?_ ?_;case i1=>change _=(look pat x+0) % p;rw[bj,df p0 JK]
 case i2=>intro x hx;have:=wz x hx;simp;lia
 case i3=>
  intro x hx
  simp![bJ,ar,dB,List.not_mem_nil,or_false] at hx
  obtain rfl | rfl:=hx
  show hl1
  show fp1
 intro i ρ M' _ _;trivial;rintro i x ρ M' hx ⟨o5,o6,c,P',rfl,Av,row,tk,wc,sm,yS,gM⟩ N hN;let⟨y,hy,rfl⟩:=AI hx;let⟨st,iB,rfl⟩:=j6 hy;let⟨cl,len,sr,dS⟩:=gr.each i st iB;have L4:=jW sr.pat;have JC:=(ak.mp iB).1;have hsl:=sr.wt.len L4 d0;dsimp? [];rw[l6];dsimp? [];exact#[Eo st,by rw[uh],by rw[Eo,aa];lia,λe1 Op=> ?_];rw[uH st L4.1];dsimp? [va];intro q1 FN q2 Jr;have si:e1≠q1:=cM az FN;have IL:e1≠q2:=cM (by rw[aD si];show az) Jr;have E4:q1≠q2:=cM az Jr;have f1:M' q1=none:=by rw[aD (aT si)] at FN;show FN
 have f2:M' q2=none:=by rw[aD (aT E4),aD (aT IL)] at Jr;show Jr
 exact#[.inl 0,rfl,by rw[aD E4];show az, .inl i,rfl,?_];intro x dx gq Oq SS;have Lp:e1≠x:=cM (by rw[aD si,aD IL,aD si];show az) gq;have GW:q1≠x:=cM az gq;have RH:q2≠x:=cM (by rw[aD (aT E4)];show az) gq;have f3:M' x=none:=by rw[aD (aT GW),aD (aT RH),aD (aT GW),aD (aT Lp)] at gq;show gq
 exact#[x,dx,wr e1,wr q1,rfl,az,rfl,?_];rw[rL];have xS:cG p (um (um (um (um (um M' e1 (.dK (eY st))) q1 (.dK [])) q2 (.dK [(.inl 0,W.v (V.int 1))])) q1 (.dK [(.inl (i:Int),wr q2)])) x (.ins A.dy dx [("lamps",wr e1),("parts",wr q1)])) e1 q1 st [((i:Int),q2,[(0,1)])]:=#[by rw[aD Lp,aD si,aD IL,aD si];show az,by rw[aD GW];show az,(λt ht=>by rw[ah.mp ht,aD RH,aD (aT E4)];show az),L4,(λt ht=>by rw[ah.mp ht];show#[by simp,λz hz=>by rw[ah.mp hz];show#[⋯,by change(1:Int) <p;lia]]),by simp,by simp[bJ,si,IL,E4]]
 have Jl:um (um (um (um (um M' e1 (.dK (eY st))) q1 (.dK [])) q2 (.dK [(.inl 0,W.v (V.int 1))])) q1 (.dK [(.inl (i:Int),wr q2)])) x (.ins A.dy dx [("lamps",wr e1),("parts",wr q1)]) x=some (.ins A.dy dx [("lamps",wr e1),("parts",wr q1)]):=az;have nF:Sm M' (um (um (um (um (um M' e1 (.dK (eY st))) q1 (.dK [])) q2 (.dK [(.inl 0,W.v (V.int 1))])) q1 (.dK [(.inl (i:Int),wr q2)])) x (.ins A.dy dx [("lamps",wr e1),("parts",wr q1)])):=λd o e=>by rw[aD (cM e f3),aD (cM e f1),aD (cM e f2),aD (cM e f1),aD (cM e Op)];show e
 generalize um (um (um (um (um M' e1 (.dK (eY st))) q1 (.dK [])) q2 (.dK [(.inl 0,W.v (V.int 1))])) q1 (.dK [(.inl (i:Int),wr q2)])) x (.ins A.dy dx [("lamps",wr e1),("parts",wr q1)])=M2 at xS Jl nF ⊢;have XG:st≠ []:=λz=>by have:=sr.bot;rw[z] at this;cases this
 exact#[x,dx,e1,q1,p,s,st,[((i:Int),q2,[(0,1)])],1,D,rfl,Jl,hp,s0,s8,xS,XG,sr.wt,d0, ∅,(λt ht=>by rw[ah.mp ht];show ao _),⋯,by simp,λM3 o ds ol op b Q f m t foot tn ho gH jU mn Pb Kx FK eb eq xj F8 RP Fn=> ?_];let⟨rfl,rfl,rfl⟩:=sr.mn s0 mn;have etn:tn=1:=by rw[sr.top,Int.mul_one,bQ ∅ Kx] at FK;show FK
 subst etn;have OP:look b=look st:=funext λx=>by rw[eb,c9,bj,Int.mul_one,df p0 L4]
 have eq': ∀w x,look (pf Q w) x=if w=(i:Int) /\ x=0 then 1 else 0:=λw x=>by
  rw[eq,bj,Int.mul_one];by_cases hw:w=(i:Int)
  subst hw;have e:pf [((i:Int),q2,[(0,1)])] (i:Int)= [(0,1)]:=by simp[pf]
  rw[e];by_cases hx:x=0;subst hx;rw[ap #[rfl,rfl]];change(1:Int) % p=1;show bQ ⋯ ∅;rw[ai (λz=>hx z.2)];have:look [((0:Int),(1:Int))] x=0:=eC λq hq e=>hx (by rw[ah.mp hq] at e;show e.symm);rw[this];rfl;have e:pf [((i:Int),q2,[(0,1)])] w= []:=kF (by simp;show hw);rw[e,ai (λz=>hw z.1)];rfl
 rw[Int.sub_zero] at ho jU;have N9:=xj _ _ (nF _ _ Av);have QY:Sm M M3:=λd u e=>xj _ _ (nF _ _ (sm _ _ e));have JO: ∀d,M3 d=none ->M d=none:=λd hd=>by
  cases e:M d with
  | none=>rfl
  | some o=>rw[QY _ _ e] at hd;cases hd
 have oF:cG p M3 l1 p1 c P':=row.keep (eQ.sm (nF.trans xj) []) (λd _ h=>by cases h);have nA: ∀x∈bJ l1 p1 P',x∉bJ ol op Q:=λx hx LD=>by let⟨kvs,e⟩:=row.mem hx;have:=F8 x (av _ LD);rw[nF _ _ e] at this;cases this
 have O5:Wt D b:=λx hx=>sr.wt x (by rw[<- OP];show hx);have hkQ: ∀w∈Q.map (·.1),w∈ [(i:Int)]:=Fn;have Yz:=Iy gH.lO hkQ;have S2:=tk.len;have hZi:Z+i*(D+s) <=Zm:=by have:=bf (show(i:Int) <=sts.length by lia) (show 0<=D+s by lia);lia
 have hZ0:0<=(i:Int)*(D+s):=cI ∅ ∅;have YA: ∀t∈Q,Wt 0 t.2.2:=λt ht x hx=>by rw[<- nJ gH.lO ht,eq'] at hx;by_cases z:t.1=(i:Int) /\ x=0;lia;rw[ai z] at hx;show absurd rfl hx
 have W7:r∉bJ l1 p1 P':=λhd=>by let⟨kvs,e⟩:=row.mem hd;rw[Av] at e;cases e
 exact#[r,l1,p1,o,ds,ol,op,p,s,_,_,foot,c,b,P',Q,Zm+1,0,Z+i*(D+s),D,rfl, .inl #[_,N9],ho,hp,s0,s8,dS,jU,oF,gH,nA,wc,O5, ∅, ∅,d0, ∅,gM,YA, ∅, ∅,⋯,⋯, ∅,λM4 c4 P4 js Nh ec ep ej rC lz ew kp4 JP aaq Yg X8 xm G9=>hN _ _ #[_,_,c4,P4,rfl,kp4 _ _ N9 W7,Nh,tk.step p0 s0 gr iB sr OP jU.ft.1 jU.ft.2 (by rw[<- OP,bP];show jU.bot) row.ga Nh.lO Nh.gp ec ep eq' ej rC lz (λw hw=>(X8 w hw).imp id λz=>ah.mp (hkQ w z)) (xm.elim λms ⟨a,b,c,_⟩=>#[ms,a,b,c]) (λj hj=>by have:=G9 j hj;lia),?_,λd u e=>kp4 _ _ (QY _ _ e) λhd=>(by rw[yS d hd] at e;cases e),λd hd=>(JP d hd).elim (yS d) (JO d),λt ht=>(Yg t ht).up ∅]];have ez:Z+((i+1:Nat):Int)*(D+s)=Z+i*(D+s)+D+s:=by push_cast;rw[Int.add_mul,Int.one_mul];lia
 rw[ez];show ew;rintro ρ M' ⟨o5,o6,c,P',rfl,Av,row,tk,wc,sm,yS,gM⟩;have rh:=row.lam;have FO:=row.par;dsimp? [Av,xn,Ac,NJ,B_,PX,rh];intro u hu;have OO:(fB (sts.map dX)).length=sts.length:=by unfold fB;rw[aa,cz,aa]
 rw[OO] at tk wc;have yK:(eY c).map (λkv=>W.tup [fD kv.1,kv.2])=c.map dv:=by unfold eY;rw[aH];rfl
 rw[yK];have G7:0<=(sts.length:Int)*(D+s):=cI ∅ ∅;have ny:=wc.len row.ga ∅;exact#[u,p,c,rfl,az,p0,F9, ∅,?_];have W0:r≠u:=cM Av hu;dsimp? [aD W0,Av,xn,NJ,PX];have S2:=tk.len;have JB: ∀t∈P',t.2.2.length<=(2*(Zm+1)+1).toNat:=λt ht=>(gM t ht).len (row.gp t ht) ∅;have hPB:P'.length*(2*(Zm+1)+1).toNat<=16000000:=aS (Nat.mul_le_mul (show P'.length<=13 by lia) (show(2*(Zm+1)+1).toNat<=800003 by lia)) ⋯;exact#[l1,p1,p, -1,c,P',(2*(Zm+1)+1).toNat,rfl,p0, ∅,⋯,⋯,row.keep (eQ.sm (cK hu) []) (λd _ h=>by cases h), ∅,JB, ∅,hPB,λt M2 tl Bj ht YE cX=>qi (k t M2 (jZ p c) tl P' (iM p0 c) (λx hx=> ?_) (tk.ext (funext λx=> ?_)) cX ?_ ?_ YE)];rw[j7 p0,d6 row.ga.1,df p0 row.ga] at hx;have:=wc x hx;lia;rw[j7 p0,d6 row.ga.1,df p0 row.ga];show sm.trans ((cK hu).trans Bj);cases e:M t with
 | none=>rfl
 | some o=>rw[cK hu _ _ (sm _ _ e)] at ht;cases ht
def yc {K:RZ}(T:ni K mg A):d8 P w K mg base jc 6 A.sF A.sO ["p","stride","stairs","pattern"] (l4 K Nu):=by
 exists T.rest_of.fn,["p","stride","stairs","pattern"],(aZ (cU (dE gA (a_ T.taken (ET T) hr (af (pv 0) (af (pv 1) (af (pv 2) (af (pv 3) aL))))) aN (λ_ _=>rfl))))
 rintro vs M q ⟨p,s,D,Z,Zm,sts,pat,rfl,hp,s0,s8,gr,uz,wz,z0,d0,d1,hZm,hZ3,hn,k⟩;dsimp? [];exact#[p,s,D,Z,Zm,sts,pat,rfl,hp,s0,s8,gr,uz,wz,z0,d0,d1,hZm,hZ3,hn,λt M' dU tl P hr wr tk _ sm _ _=> ?_];dsimp? [];show#[M,sm,k dU P hr wr tk]
def Bu {K:RZ}(T:ni K mg A):d8 P w K mg base jc 3 A.wD A.wR ["_law_p","_law_patterns"] (l4 K Rt):=by
 exists T.Fe.fn,["_law_p","_law_patterns","_law_sums_here","_law_pattern_here","_law_more","_law_one","_law_many"],(aO (cn (i:=2) nd rfl (by trivial) (EB (yI hr) (iw aL) lm)) (aO (fo bK rfl (eR (pv 1)) (bX (i:=3) nd rfl (by trivial)) (aO (cn (i:=4) nd rfl (by trivial) Ik) (aO (fo bK rfl (Eu (pv 2)) (bX (i:=5) nd rfl (by trivial)) (aZ (fo bK rfl (ji (by rfl) T.iS (af (pv 0) aL)) (bX (i:=6) nd rfl (by trivial)) (aZ (Ib (yI hr) (pv 4) (a_ T.Ai (pR T) hr (af (pv 0) (af (pv 5) (af (pv 3) (af aN (af (pv 6) aL)))))) lm rfl))))) (aZ (cn (i:=2) nd rfl (by trivial) (pv 4)))))) (aZ (cU (pv 2)))))
 rintro vs M q ⟨u,p,aQ,rfl,hu,hp,hl,qV,k⟩;have p0:0<p:= ∅;dsimp? [C2,nU];intro sd fs;dsimp? [nU];exact#[fC [],by rw[ui];rfl,pO,?_];dsimp? [aD (cM hu fs),hu];exact gJ (λi ρ M1=>J1 λ(sd:gi) (o3 o4 o5 o6:eB W)=>fh (ρ= [some (wi p),some (wr u),some (wr sd),o3,o4,o5,o6]) (M sd=none) (Sm M M1) (M1 sd=some (n_ (fI p (aQ.take i))))) #[sd,none,none,none,none,rfl,fs,cK fs,az] (λ_ _ _ _ h=>by let⟨_,_,_,_,_,_,_,h,_⟩:=h;show h _ _ hu) ?_ ?_;rintro i x ρ M1 hx ⟨sd,o3,o4,o5,o6,rfl,fs,s1,FM⟩ N1 YC;let⟨pt,qb,rfl⟩: ∃pt,aQ[i]? =some pt /\ x=dX pt:=by
  rw[aB] at hx;cases e:aQ[i]? with
  | none=>rw[e] at hx;cases hx
  | some q=>rw[e] at hx;cases hx;show#[q,rfl,rfl]
 have hi:i<aQ.length:=(ak.mp qb).1;let⟨hP,S2⟩:=qV pt (aw qb);have eS:fI p (aQ.take (i+1))=gY [] (uX p (fI p (aQ.take i)) pt):=by rw[bo,qb];show jr
 rw[eS] at YC;have lS:(fI p (aQ.take i)).length<=125:=by
  have h1:=Be (p:=p) (l:=aQ.take i);have h2:p.toNat ^ (aQ.take i).length<=5 ^ (aQ.take i).length:=Nat.pow_le_pow_left ∅ _;have h3:5 ^ (aQ.take i).length<=5 ^ 3:=Nat.pow_le_pow_right ⋯ (by rw[a7];lia);have h4:5 ^ 3=125:=⋯
  lia
 have pl: ∀q∈fI p (aQ.take i),q.length<=3000 /\ cy p q:=λq hq=>by have h1:=Gm (p:=p) (B:=1000) (l:=aQ.take i) (λst h=>by have:=(qV st (List.mem_of_mem_take h)).2;lia) q ((kx q).mp hq);rw[a7] at h1;show#[∅,((kP p0 (λst h=>(qV st (List.mem_of_mem_take h)).1) q).mp ((kx q).mp hq)).1]
 let⟨S,hS⟩: ∃S,S=fI p (aQ.take i):=#[_,rfl]
 rw[<- hS] at YC lS pl FM;have XI:M1 sd=some (.dN (S.map λq=>(fC q,wb true))):=FM;dsimp? [Ht];intro md fm;have WZ:=cM FM fm;have Zv:M md=none:=s1.free fm;dsimp? [Fq,nU,aD WZ,XI];intro ob ks;exact gJ (λa ρ M2=>cJ λ(o5 o6:eB W)=>fh (ρ= [some (wi p),some (wr u),some (wr sd),some (dX pt),some (wr md),o5,o6]) (Sm M M2) (M2 sd=some (.fN ob ks (S.map λq=>(fC q,wb true)))) (M2 md=some (n_ (gY [] (uX p (S.take a) pt))))) #[o5,o6,rfl,(s1.um Zv).um fs,az,by rw[aD (aT WZ),az];rfl] (λ_ _ _ _ h=>by let⟨_,_,_,_,h,_⟩:=h;show h) ?_ ?_;rintro a x ρ M2 hx ⟨o5,o6,rfl,s2,jN,G8⟩ N2 JI;let⟨q1,FN,rfl⟩:=Ir hx;have ha:a<S.length:=(ak.mp FN).1;let⟨ql,qp⟩:=pl q1 (aw FN);have eT:gY [] (uX p (S.take (a+1)) pt)=gY (gY [] (uX p (S.take a) pt)) (qF p pt q1):=by rw[bo,FN];change gY [] ((S.take a++ [q1]).flatMap (qF p pt))=_;rw[List.flatMap_append,Fy];simp[uX]
 have lT:=mM (l:=uX p (S.take a) pt) (T:= []);rw[o0,a7,List.length_nil] at lT;have lT2:min a S.length*p.toNat<=125*5:=Nat.mul_le_mul ∅ ∅;rw[eT] at JI;let⟨T1,hT1⟩: ∃T1,T1=gY [] (uX p (S.take a) pt):=#[_,rfl]
 rw[<- hT1] at JI G8 lT;dsimp? [];exact#[#[∅, ∅],?_];exact gJ (λc ρ M3=> ∃o6:eB W,fh (ρ= [some (wi p),some (wr u),some (wr sd),some (dX pt),some (wr md),some (dX q1),o6]) (Sm M M3) (M3 sd=some (.fN ob ks (S.map λq=>(fC q,wb true)))) (M3 md=some (n_ (gY T1 ((qF p pt q1).take c))))) #[o6,rfl,s2,jN,G8] (λ_ _ _ _ _=>trivial) ?_ ?_;rintro c x ρ M3 hx ⟨o6,rfl,s3,XH,Sz⟩ N3 CL;let⟨hc,rfl⟩:=mf hx;rw[BM (OU hc)] at CL;have lU:=mM (l:=(qF p pt q1).take c) (T:=T1);rw[a7] at lU;let⟨U,hU⟩: ∃U,U=gY T1 ((qF p pt q1).take c):=#[_,rfl]
 rw[<- hU] at CL Sz lU;have X1:M3 md=some (.dN (U.map λq=>(fC q,wb true))):=Sz;dsimp? [DQ];exact#[p,q1,pt,0,0+(c:Int),rfl,p0,F9, ∅, ∅,λz hz=>by have:=hP.1 z hz;lia,?_];rw[bO];dsimp? [nU,X1];exact#[fC (km p c q1 pt),by rw[ui];rfl,pO,w6 (by rw[aa];lia),?_];rw[EG];show CL _ _ #[_,rfl,s3.um Zv,by rw[aD WZ];show XH,az];rintro ρ M3 ⟨o6,rfl,s3,XH,Sz⟩;rw[xU,List.take_of_length_le (by simp[qF])] at Sz;show JI _ _ #[_,_,rfl,s3,XH,Sz];rintro ρ M2 ⟨o5,o6,rfl,s2,jN,G8⟩;rw[aa,aa,bN] at G8;dsimp? [];show YC _ _ #[md,_,_,_,_,rfl,Zv,s2,G8];rintro ρ M1 ⟨sd,o3,o4,o5,o6,rfl,fs,s1,FM⟩;rw[aa,bN] at FM;dsimp? [];show qi (k sd _ fs s1 FM)
theorem M_ (h:qK s p sts D)(hw: ∀st∈sts,Wt D' st)(l:D'<=D):qK s p sts D':=#[λi st hi=>by let⟨c,len,sr,hl⟩:=h.each i st hi;show#[c,len, {sr with wt:=hw st (aw hi)},hl],λi j st bA c len c' re gU hi hj a b=>h.xT i j st bA c len c' re gU hi hj {a with wt:=a.wt.up l} {b with wt:=b.wt.up l}]
def ND {K:RZ}(T:ni K mg A):d8 P w K mg base jc 8 A.L8 A.Ma ["_law_script"] (vp K):=by
 exact Ry T.law.fn DP ⋯ λcdv A' outer s H E hr=> ?_;have nd:=DP.nd;exact#[_,(aO (cn (i:=1) nd rfl (by trivial) (a_ T.Aj (ye T) hr (af (pv 0) aL))) (aO (cn (i:=2) nd rfl (by trivial) (dE gA (iw (af aN (af aN (af aN aL)))) (a_ T.jA (fY T) hr (af (pv 1) (af aN aL))) (λ_ _=>rfl))) (aO (cn (i:=3) nd rfl (by trivial) (a_ T.jL (lM T) hr (af (pv 1) (af (pv 2) (af aN aL))))) (aO (fX (xV (c8 EQ (cL h_ (by rfl) T.qG Boot.«len» (af (pv 3) aL)) aN (dG _)) (ub (c8 ls (a_ T.jA (fY T) hr (af (pv 1) (af aN aL))) aN (dG _)))).pt (aZ (lH (a_ T.Ai (pR T) hr (af (pv 2) (af (dE dj (pv 3) aN (λ_ _=>rfl)) (af (dE dj (pv 3) aN (λ_ _=>rfl)) (af aN (af aN aL)))))) (lJ (pv 3) aN ik))) eg) (aO (cn (i:=4) nd rfl (by trivial) (a_ T.nO (mw T) hr (af (pv 1) (af (pv 2) (af aN (af aN aL)))))) (aO (fX (c8 ls (a_ T.jA (fY T) hr (af (pv 1) (af aN aL))) aN (dG _)) (aO (cn (i:=4) nd rfl (by trivial) (iw aL)) (aZ (fo bK rfl (eR (pv 3)) (bX (i:=5) nd rfl (by trivial)) (aZ (cn (i:=4) nd rfl (by trivial) (a_ T.Ai (pR T) hr (af (pv 2) (af (pv 4) (af (pv 5) (af aN (af (a_ T.jA (fY T) hr (af (pv 1) (af (pv 2) aL))) aL))))))))))) eg) (aO (cn (i:=6) nd rfl (by trivial) (a_ T.Fe (Bu T) hr (af (pv 2) (af (pv 3) aL)))) (aO (cn (i:=7) nd rfl (by trivial) (a_ T.built (EU T) hr (af (pv 2) (af aN (af (dJ lV (by rfl) T.gQ Boot.«list» (af (pv 3) aL)) aL))))) (aO (fX (rZ (jv (lF (cL jm (by rfl) T.fH Boot.«isinstance» (af (pv 7) (af (kG (by rfl) T.jH Boot.«tuple» (show RelV (.ty "tuple") _ from rfl)) aL))))) (rZ (c8 vM (cL h_ (by rfl) T.qG Boot.«len» (af (pv 7) aL)) aN (dG _)) (ua (jv (lF (cL jm (by rfl) T.fH Boot.«isinstance» (af (dE gA (pv 7) aN (λ_ _=>rfl)) (af (kG (by rfl) T.jH Boot.«tuple» (show RelV (.ty "tuple") _ from rfl)) aL)))))))).pt (aZ (cU lm)) eg) (aO (fX (jv (lF (cL (Cq rfl) (by rfl) T.Tt Boot.«all» (af (gD rfl (eV.of (sc:=bD zN) (N:= ["_law_script","_law_draw","_law_p","_law_patterns","_law_further","_law_pattern_here","_law_sums_here","_law_found","_law_count","_law_stair","_law_left"]) (own:= ["_law_stair"]) (fr:= [2]) (N':= ["_law_stair","_law_p"])) (xX (dE gA (pv 7) aN (λ_ _=>rfl))) (λ_ _ _ _=>(bX (i:=0) (by change(["_law_stair","_law_p"]:d3 Str).Nodup;decide+kernel) rfl (by trivial))) fF (λ_ _ _ _=>iK) (λ_ _ _ _=>(a_ T.jB (jK T) hr (af (pv 1) (af (pv 0) aL))))) aL)))) (aZ (cU lm)) eg) (aO (cn (i:=8) nd rfl (by trivial) aN) (aO (fo bK rfl (xX (dE gA (pv 7) aN (λ_ _=>rfl))) (bX (i:=9) nd rfl (by trivial)) (aZ (cn (i:=8) nd rfl (by trivial) (b_ gx (pv 8) (pv 2))))) (aO (fX (c8 vM (pv 8) (cL Cp (by rfl) T.qG Boot.«len» (af (pv 6) aL)) (dG _)) (aZ (cU lm)) eg) (aO (cn (i:=10) nd rfl (by trivial) (a_ T.rest_of (yc T) hr (af (pv 2) (af aN (af (dE gA (pv 7) aN (λ_ _=>rfl)) (af (pv 4) aL)))))) (aZ (cU (EF (a_ T.jB (jK T) hr (af (pv 2) (af (pv 10) aL))) (Ez (z7 ls (z7 (Nz hr.u60) (pv 10) (iw aL) (dG _)) (Np (Nq (yI hr) (pv 4) (pv 6))) (dG _)))))))))))))))))))),?_];try dsimp only[qw]
 exact#[_,inferInstance,?_];intro d l M hD;dsimp? [];exact#[d,l,3,rfl,hD,⋯,⋯,λr M1 r0 r1 D1 _=> ?_];exact Ji (λx=> ∃p:Int,x=wi p /\ (p=2 \/ p=3 \/ p=5)) ∅ (by change r< ((3:Nat):Int);lia) (λx hx=> ?_) ?_;simp![ar,List.not_mem_nil,or_false] at hx;obtain rfl | rfl | rfl:=hx <;>show#[_,rfl,⋯];rintro _ ⟨p,rfl,hp5⟩;have hp:p=2 \/ p=3 \/ p=5 \/ p=7:= ∅;have p0:0<p:= ∅;dsimp? [];exact#[d,l,p,3,rfl,D1, ∅, ∅,⋯,⋯,λu aQ M2 qV hn hu yO D2 _=> ?_];let⟨RA,nul⟩:=D1.ne hu;simp? [↓eE];exact jC (yG (λρ M'=> ∃aQ:d3 Pt,ja (ρ= [none,some (wr d),some (wi p),some (wr u),none,none,none,none,none,none,none]) (∀pt∈aQ,cy p pt /\ Wt 6 pt /\ pt.length<=8) (aQ.length<=3) (M' u=some (.lst (aQ.map dX))) (Dr M' d l)) ?_ λN hN=> ?_);rotate_left;have Js: ∀pt∈aQ,cy p pt /\ Wt 6 pt /\ pt.length<=8:=λpt h=>#[(qV pt h).1,(qV pt h).2.1,aS (qV pt h).2.2 ⋯]
 dsimp? [yO];exact e9 (λh=> ?_) λh=>hN _ _ #[aQ,rfl,Js, ∅,yO,D2];exact#[d,l,2,rfl,D2,⋯,⋯,λg M3 g0 g1 D3 b3=> ?_];have OE:=(b3 u RA).trans yO;dsimp? [];exact e9 (λh'=> ?_) λh=>hN _ _ #[aQ,rfl,Js, ∅,OE,D3];let⟨a,b,r,rfl⟩: ∃a b r,aQ=a::b::r:=by
  match aQ,h with
  | a::b::r,_=>show#[a,b,r,rfl]
  | [],h=>rw[dB,List.length_nil] at h;lia
  | [a],h=>rw[aa,bF] at h;lia
 have Jx:(a::km p 1 b a::r).length<=3:=by simp![aK] at hn ⊢;lia
 let⟨a1,a2,a3⟩:=qV a (by simp);let⟨b1,b2,b3'⟩:=qV b (by simp);dsimp? [OE];exact#[p,b,a,0,1,rfl,p0,F9, ∅, ∅,λz hz=>by have:=a1.1 z hz;lia,?_];dsimp? [OE];exact hN _ _ #[a::km p 1 b a::r,rfl,λpt h=> ?_,Jx,az,D3.Nk RA nul];obtain rfl | h:=ar.mp h;show Js _ (by simp);obtain rfl | h:=ar.mp h;show#[kl p0,A9 p0 b1 a1 b2 a2,aS xb ∅];show Js _ (by simp[h]);clear qV hn yO D2 aQ;rintro ρ M3 ⟨aQ,rfl,qV,hn,yO,D3⟩;dsimp? [];exact#[d,l,p,4,6,rfl,D3, ∅, ∅,⋯,⋯,⋯,⋯,λps M4 qc hpz D4 b4=> ?_];have S8:=(b4 u RA).trans yO;have f0:cy p (jZ p ps) /\ Wt 6 (jZ p ps) /\ (jZ p ps).length<=100:=#[iM p0 ps,λx hx=>by let⟨z,hz,e⟩:=ag.mp (di hx);let⟨y,hy,e2⟩:=EW hz;have:=hpz y hy;lia,aS (o_ _ _) ∅]
 simp? [↓eE];exact jC (yG (λρ M'=>cJ λ(fu:Pt) (o5:eB W)=>dh (ρ= [none,some (wr d),some (wi p),some (wr u),some (dX fu),o5,none,none,none,none,none]) (cy p fu /\ Wt 6 fu /\ fu.length<=100) (M' u=some (.lst (aQ.map dX)))) ?_ λN hN=> ?_);rotate_left;dsimp? [];exact#[d,l,2,rfl,D4,⋯,⋯,λg M5 g0 g1 D5 b5=> ?_];have OD:=(b5 u RA).trans S8;dsimp? [];exact e9 (λh'=> ?_) λh=>hN _ _ #[jZ p ps,none,rfl,f0,OD];dsimp? [OD];exact gJ (λi ρ M'=>cJ λ(fu:Pt) (o5:eB W)=>nh (ρ= [none,some (wr d),some (wi p),some (wr u),some (dX fu),o5,none,none,none,none,none]) (cy p fu) (Wt 6 fu) (fu.length<=8*i) (M' u=some (.lst (aQ.map dX))) (Dr M' d l)) #[[],none,rfl,cy.nil,λx hx=>absurd rfl hx,ao _,OD,D5] (λ_ _ _ _ h=>by let⟨_,_,_,_,_,_,h,_⟩:=h;show h) ?_ ?_;rintro i x ρ M' hx ⟨fu,o5,rfl,fp,fw,fl,OF,D'⟩ N2 JI;let⟨pt,qb,rfl⟩: ∃pt,aQ[i]? =some pt /\ x=dX pt:=by
  rw[aB] at hx;cases e:aQ[i]? with
  | none=>rw[e] at hx;cases hx
  | some q=>rw[e] at hx;cases hx;show#[q,rfl,rfl]
 have hi:i<aQ.length:=(ak.mp qb).1;let⟨a1,a2,a3⟩:=qV pt (aw qb);dsimp? [];exact#[d,l,p,rfl,D', ∅, ∅,λc M7 c0 c1 D7 b7=> ?_];dsimp? [];exact#[p,fu,pt,0,c,rfl,p0,F9, ∅, ∅,λz hz=>by have:=a1.1 z hz;lia,?_];dsimp? [];show JI _ _ #[km p c fu pt,_,rfl,kl p0,A9 p0 fp a1 fw a2,aS xb ∅,(b7 u RA).trans OF,D7];rintro ρ M' ⟨fu,o5,rfl,fp,fw,fl,OF,D'⟩;rw[aa] at fl;show hN _ _ #[fu,_,rfl,#[fp,fw, ∅],OF];clear f0 S8 D4 b4 yO D3;rintro ρ M5 ⟨fu,o5,rfl,⟨fp,fw,fl⟩,yO⟩;dsimp? [];exact#[u,p,aQ,rfl,yO,#[∅, ∅],hn,λpt h=>#[(qV pt h).1,aS (qV pt h).2.2 ⋯],λsd M6 fsd s6 hsd=> ?_];have YD:=s6 _ _ yO;dsimp? [YD];intro t ht;have nst:=cM hsd ht;dsimp? [];have hPa:GC 0 p 6 0 aQ:=#[λpt h=>#[(qV pt h).1,λx _=>by simp[hI],λ_=>(qV pt h).2.1], ∅,hp,⋯,⋯,⋯,⋯,λ_=>rfl,⋯,⋯]
 exact#[t,p,0,6,0,aQ,rfl,az,hPa,λM7 v as sts Ps Tp sm7 hv S6 dS XO=> ?_];have Sl:M7 sd=some (n_ (fI p aQ)):=sm7 sd _ (by rw[aD nst];show hsd);dsimp? [];exact uq (λh=>absurd rfl h) λ_=> ?_;have hw: ∀st∈sts,Wt 6 st:=λst h=>(Tp.bx st h).1.2 rfl;have gr:=M_ Tp.gr hw ⋯;have hL: ∀st∈sts,st.length<=13:=λst h=>(hw st h).len (jW (gr.of h).pat) ⋯;have hn3:sts.length<=3:=aS Tp.F9 hn;dsimp? [];exact wY (λ_:Pt=>wb true) (big ∅) (λ_ _=>trivial) ?_ λr2 Jp=> ?_;intro pt qb M3 N s3 hN;dsimp? [];exact#[p,pt,rfl,(gr.of qb).pat,aS (hL pt qb) ⋯,?_];dsimp? [];show hN;have ZE: ∀l:d3 Pt,((l.map λ_=>true).all id)=true:=λl=>by rw[List.all_eq_true];intro b hb;let⟨_,_,rfl⟩:=ag.mp hb;rfl
 exact MB (bs:=sts.map λ_=>true) (by rw[az,aH];rfl) ?_;rw[ZE];have N7:um M7 r2 (.lst (sts.map λ_=>wb true)) sd=some (.dN ((fI p aQ).map λq=>(fC q,wb true))):=by rw[aD (cM Sl Jp)];show Sl
 generalize um M7 r2 (.lst (sts.map λ_=>wb true))=M8 at N7 ⊢;dsimp? [];exact gJ (λi ρ M'=> ∃o9:eB W,ρ= [none,some (wr d),some (wi p),some (wr u),some (dX fu),o5,some (wr sd),some (W.tup [W.tup (sts.map dX),wr v]),some (wi ((p.toNat ^ i:Nat):Int)),o9,none] /\ M'=M8) #[none,rfl,rfl] (λ_ _ _ _ _=>trivial) ?_ ?_;rintro i x ρ M' hx ⟨o9,rfl,rfl⟩ N hN;have cm:jq ((p.toNat ^ i:Nat):Int) p=True:=a8 (.inr #[∅, ∅]);dsimp? [cm];show hN _ _ #[_,by rw[Nat.pow_succ,Int.natCast_mul,show((p.toNat:Nat):Int)=p by lia],rfl];rintro ρ M' ⟨o9,rfl,rfl⟩;rw[aa];have hc:=xG hp (λpt h=>(qV pt h).1) gr Tp.own;have ny:((fI p aQ).map λq=>(fC q,wb true)).length=p.toNat ^ sts.length:=by rw[aa,hc]
 dsimp? [Hu,nU,N7,ny];exact uq (λh=>absurd trivial h) λ_=> ?_;dsimp? [];exact#[p,0,6,6,30,sts,fu,rfl,hp,⋯,⋯,gr,fp,fw,⋯,⋯,⋯, ∅,⋯, ∅,λdU P h1 h2 tk=> ?_];dsimp? [];exact#[p,dU,rfl,h1,aS (h2.len (jW h1) ⋯) ⋯,?_];dsimp? [];exact JT (b:= []) ?_;dsimp? [Mu,nU,N7];exact#[fC fu,ui.symm,pO,?_];dsimp only;rw[mq.1];have Yi:dU= []↔fu∈fI p aQ:=by
  rw[HF p0 (λpt h=>(qV pt h).1) fp Tp.own];symm;intro e;subst e;exact#[λi=>tm (-1) (pf P i),λx=> ?_];have h:=aV.mp (tk.eqv x);rw[pH];exact aV.mpr ?_;have e3:look fu x - fk 0 sts (λi=>pf P i) x sts.length* -1= -(look [] x - (look fu x+fk 0 sts (λi=>pf P i) x sts.length)):=by change _= -((0:Int) - _);lia
  rw[e3];show Int.emod_eq_zero_of_dvd (Int.dvd_neg.mpr (Int.dvd_of_emod_eq_zero h));show tk.ZI hp ⋯ gr h1
 have Vb:decide (dU= [])=decide (fu∈fI p aQ):=decide_eq_decide.mpr Yi;dsimp? [];rw[Vb,cb rfl]
end kR
namespace kR
open PySem L2 WL WQ PyProof.Rows
theorem walk {l:W.OpenLaw}{d:DefRec}{K:Params ->RZ}(hn:l.most=some 63)(SV:d.params.defaults= [])(hY: ∀ (w:World) (h:Heap),YP w h ->(K w.params).In h)(nm:d.name= "law")(F: ∀ (w:World) (mg:Str ->eB d4) (h:Heap),(K w.params).In h ->h.Ns mainGlobals mg -> ∃A,ni (K w.params) mg A): W.WalkO q ss XP YP l.row.toRowW d [] (λf vs=>PySem.call f vs):=L2.Ho (n:=63) (k:=8) (x:= "_law_script") (CX:=λ_=>jc) (sp:=λw=>vp (K w.params)) hn ⋯ SV #[rfl,⋯,⋯] hY (λw mg fa h X G e=>(F w mg h X G).elim λ_ T=>NT T.law (nm▸e) (λ_ _ _ _ _ _ _=>rfl) λ_=>ND T) (λ_ _ a ns hl _ hS=>#[a,ns,rfl,hS,λ_=>rfl]) λ_ _ _ _ _ z=>z
end kR
end
def PySem.W.Fast.tw1972134481059002006:Nat:=0
def PySem.W.Fast.tw12759221704511889336:Nat:=0
def PySem.W.Fast.tw13891138416602136960:Nat:=0
def PySem.W.Fast.tw3732444965105626939:Nat:=0
def PySem.W.Fast.tw10521458738018193480:Nat:=0
def PySem.W.Fast.tw100084279772038718:Nat:=0
def PySem.W.Fast.tw11005333686775490665:Nat:=0
def PySem.W.Fast.tw10710941968171308502:Nat:=0
def PySem.W.Fast.tw17258379270094166066:Nat:=0
def PySem.W.Fast.tw6958767218062132875:Nat:=0
def PySem.W.Fast.tw12936193408399509794:Nat:=0
def PySem.W.Fast.tw10855787661838583822:Nat:=0
def PySem.W.Fast.tw2356451575123348680:Nat:=0
def PySem.W.Fast.tw7093244842542814443:Nat:=0
def PySem.W.Fast.tw3883184974357986982:Nat:=0
def PySem.W.Fast.tw12614870148673791396:Nat:=0
def PySem.W.Fast.tw15802579648415748916:Nat:=0
def PySem.W.Fast.tw8312462564005759230:Nat:=0
def PySem.W.Fast.tw4373330590653850128:Nat:=0
def PySem.W.Fast.tw16015759218998225925:Nat:=0
def PySem.W.Fast.tw9860025770646425410:Nat:=0
def PySem.W.Fast.tw17046281740021933289:Nat:=0
def PySem.W.Fast.tw8946787472823459955:Nat:=0
def PySem.W.Fast.tw18019324201281174122:Nat:=0
def PySem.W.Fast.tw1230680909412718184:Nat:=0
def PySem.W.Fast.tw15714678967612529011:Nat:=0
def PySem.W.Fast.tw3697299114710586502:Nat:=0
def PySem.W.Fast.tw597794262518252457:Nat:=0
def PySem.W.Fast.tw15088457128826042565:Nat:=0
def PySem.W.Fast.tw9486858065561703066:Nat:=0
def PySem.W.Fast.tw13717127015754866811:Nat:=0
def PySem.W.Fast.tw11893426275053100510:Nat:=0
def PySem.W.Fast.tw5095964028378048819:Nat:=0
def PySem.W.Fast.tw15833989197329078944:Nat:=0
def PySem.W.Fast.tw7869858651150863298:Nat:=0
def PySem.W.Fast.tw2737663249498806868:Nat:=0
def PySem.W.Fast.tw17423746617780782910:Nat:=0
def PySem.W.Fast.tw9547579449741661109:Nat:=0
def PySem.W.Fast.tw16777062947063173653:Nat:=0
def PySem.W.Fast.tw4281606718088703869:Nat:=0
def PySem.W.Fast.tw10029209047077537904:Nat:=0
def PySem.W.Fast.tw10725409836942132341:Nat:=0
def PySem.W.Fast.tw12974188487015209885:Nat:=0
def PySem.W.Fast.tw13717661477650330549:Nat:=0
def PySem.W.Fast.tw16117788647710510056:Nat:=0
def PySem.W.Fast.tw14353976283915490569:Nat:=0
def PySem.W.Fast.tw8279281496062790350:Nat:=0
def PySem.W.Fast.tw3330507470168022093:Nat:=0
def PySem.W.Fast.tw4994683442977103807:Nat:=0
def PySem.W.Fast.tw3063965081896687841:Nat:=0
def PySem.W.Fast.tw15821565567164791851:Nat:=0
def PySem.W.Fast.tw5262264133048974999:Nat:=0
def PySem.W.Fast.tw6551515939828423742:Nat:=0
def PySem.W.Fast.tw7970887107753051240:Nat:=0
def PySem.W.Fast.tw2675469677330813103:Nat:=0
def PySem.W.Fast.tw13729486742641177932:Nat:=0
def PySem.W.Fast.tw12239763117451743895:Nat:=0
def PySem.W.Fast.tw7152857109248083973:Nat:=0
def PySem.W.Fast.tw15464482795819177392:Nat:=0
open PySem PySem.W PyProof.Rows L2
set_option maxRecDepth 100000 in
set_option maxHeartbeats 0 in
theorem PySem.Challenge.cw_duskround_k24_whole_stairs_without_strid_holds : PySem.Challenge.rw_duskround_k24_whole_stairs_without_strid.Holds := by
 w_on;o_law;k_head;(case hw=>w_witness2)
 k_fill
 refine kR.walk (l:=PySem.Challenge.rw_duskround_k24_whole_stairs_without_strid) rfl rfl (λw h Y=>PySem.W.kIn_of Y) rfl λw mg h X G=> ?_
 have' O1:=dH (x:= "tidy") (ps:= ["p","pairs"]) (st:=kR.xM) X G ?g14 ?g15 ?g16 ?g17;(case g14 | g15 | g16 | g17=>k_is);have' CD:=dH (x:= "inverse") (ps:= ["p","setting"]) (st:=kR.rY) X G ?g18 ?g19 ?g20 ?g21;(case g18 | g19 | g20 | g21=>k_is);have' GN:=Gn (x:= "Row") (ps:= ["self","lamps","parts"]) (st:=kR.K3) X G ?g22 ?g23 ?g24 ?g25 ?g26 ?g27 ?g28 ?g29 ?g30 ?g31 ?g32 ?g33;(case g22 | g23 | g24 | g25 | g26 | g27 | g28 | g29 | g30 | g31 | g32 | g33=>k_is);have' kS:=Gn (x:= "Stair") (ps:= ["self","row","first","length","foot"]) (st:=kR.zP) X G ?g34 ?g35 ?g36 ?g37 ?g38 ?g39 ?g40 ?g41 ?g42 ?g43 ?g44 ?g45;(case g34 | g35 | g36 | g37 | g38 | g39 | g40 | g41 | g42 | g43 | g44 | g45=>k_is);have' GK:=dH (x:= "column") (ps:= ["place","stride"]) (st:=kR.vy) X G ?g46 ?g47 ?g48 ?g49;(case g46 | g47 | g48 | g49=>k_is);have' qU:=dH (x:= "first_column") (ps:= ["places","stride"]) (st:=kR.im) X G ?g50 ?g51 ?g52 ?g53;(case g50 | g51 | g52 | g53=>k_is);have' CF:=dH (x:= "heights") (ps:= ["places","stride","first"]) (st:=kR.kD) X G ?g54 ?g55 ?g56 ?g57;(case g54 | g55 | g56 | g57=>k_is);have' rH:=dH (x:= "add_shifted") (ps:= ["p","held","others","by","n"]) (st:=kR.lg) X G ?g58 ?g59 ?g60 ?g61;(case g58 | g59 | g60 | g61=>k_is);have' xh:=dH (x:= "add_moved") (ps:= ["p","stride","row","other","shift","n"]) (st:=kR.n9) X G ?g62 ?g63 ?g64 ?g65;(case g62 | g63 | g64 | g65=>k_is);have' nk:=dH (x:= "too_high_or_low") (ps:= ["found","length"]) (st:=kR.iJ) X G ?g66 ?g67 ?g68 ?g69;(case g66 | g67 | g68 | g69=>k_is);have' TQ:=dH (x:= "cut") (ps:= ["p","stride","row","stair"]) (st:=kR.K2) X G ?g70 ?g71 ?g72 ?g73;(case g70 | g71 | g72 | g73=>k_is);have' Ka:=dH (x:= "stood") (ps:= ["p","stride","row"]) (st:=kR.zM) X G ?g74 ?g75 ?g76 ?g77;(case g74 | g75 | g76 | g77=>k_is);have' uT:=dH (x:= "told_parts") (ps:= ["p","parts","n"]) (st:=kR.ju) X G ?g78 ?g79 ?g80 ?g81;(case g78 | g79 | g80 | g81=>k_is);have' J_:=dH (x:= "taken") (ps:= ["p","stride","stairs","pattern"]) (st:=kR.zL) X G ?g82 ?g83 ?g84 ?g85;(case g82 | g83 | g84 | g85=>k_is);have' CA:=dH (x:= "rest_of") (ps:= ["p","stride","stairs","pattern"]) (st:=kR.rW) X G ?g86 ?g87 ?g88 ?g89;(case g86 | g87 | g88 | g89=>k_is);have' Cz:=dH (x:= "take_in") (ps:= ["p","stride","held","row"]) (st:=kR.rV) X G ?g90 ?g91 ?g92 ?g93;(case g90 | g91 | g92 | g93=>k_is);have' CB:=dH (x:= "lie_low") (ps:= ["p","stride","held"]) (st:=kR.rX) X G ?g94 ?g95 ?g96 ?g97;(case g94 | g95 | g96 | g97=>k_is);have' Kd:=dH (x:= "built") (ps:= ["p","stride","patterns"]) (st:=kR.oV) X G ?g98 ?g99 ?g100 ?g101;(case g98 | g99 | g100 | g101=>k_is);have' CC:=dH (x:= "_law_begin") (ps:= ["_law_script"]) (st:=kR.nG) X G ?g102 ?g103 ?g104 ?g105;(case g102 | g103 | g104 | g105=>k_is);have' GI:=dH (x:= "_law_take") (ps:= ["_law_draw","_law_many"]) (st:=kR.vw) X G ?g106 ?g107 ?g108 ?g109;(case g106 | g107 | g108 | g109=>k_is);have' GH:=dH (x:= "_law_tidy") (ps:= ["_law_p","_law_pairs"]) (st:=kR.pL) X G ?g110 ?g111 ?g112 ?g113;(case g110 | g111 | g112 | g113=>k_is);have' xg:=dH (x:= "_law_pattern") (ps:= ["_law_draw","_law_p","_law_most","_law_far"]) (st:=kR.n8) X G ?g114 ?g115 ?g116 ?g117;(case g114 | g115 | g116 | g117=>k_is);have' nq:=dH (x:= "_law_draw_patterns") (ps:= ["_law_draw","_law_p","_law_most"]) (st:=kR.gd) X G ?g118 ?g119 ?g120 ?g121;(case g118 | g119 | g120 | g121=>k_is);have' Kb:=dH (x:= "_law_sum") (ps:= ["_law_p","_law_one","_law_other","_law_by","_law_many"]) (st:=kR.tX) X G ?g122 ?g123 ?g124 ?g125;(case g122 | g123 | g124 | g125=>k_is);have' Kc:=dH (x:= "_law_int") (ps:= ["_law_thing"]) (st:=kR.zO) X G ?g126 ?g127 ?g128 ?g129;(case g126 | g127 | g128 | g129=>k_is);have' qT:=dH (x:= "_law_is_pattern") (ps:= ["_law_p","_law_thing"]) (st:=kR.jV) X G ?g130 ?g131 ?g132 ?g133;(case g130 | g131 | g132 | g133=>k_is);have' GJ:=dH (x:= "_law_sums") (ps:= ["_law_p","_law_patterns"]) (st:=kR.vx) X G ?g134 ?g135 ?g136 ?g137;(case g134 | g135 | g136 | g137=>k_is);have' TN:=dH (x:= "law") (ps:= ["_law_script"]) (st:=kR.zN) X G ?g138 ?g139 ?g140 ?g141;(case g138 | g139 | g140 | g141=>k_is);have' xf:=pW GN "lamps" ?n_Row_lamps;(case n_Row_lamps=>k_is);have' xc:=pW GN "parts" ?n_Row_parts;(case n_Row_parts=>k_is);have' rG:=pW kS "first" ?n_Stair_first;(case n_Stair_first=>k_is);have' uS:=pW kS "foot" ?n_Stair_foot;(case n_Stair_foot=>k_is);have' rF:=pW kS "lamps" ?n_Stair_lamps;(case n_Stair_lamps=>k_is);have' qQ:=pW kS "length" ?n_Stair_length;(case n_Stair_length=>k_is);have' rE:=pW kS "parts" ?n_Stair_parts;(case n_Stair_parts=>k_is)
 refine' ⟨⟨_,_,_,_,_,_,_,_,_,_,_,_,_,_,_,_,_,_,_,_,_,_,_,_,_,_,_,_,_,_,_,_,_,_,_,_,_,_,_,_,_,_,_,_,_,_,_,_,_,_,_,_,_,_,_,_,_,_⟩,bY X G ?g1,bY X G ?g2,bY X G ?g3,bY X G ?g4,bY X G ?g5,bY X G ?g6,bY X G ?g7,bY X G ?g8,bY X G ?g9,bY X G ?g10,bY X G ?g11,bY X G ?g12,bY X G ?g13,O1,CD,GN,kS,GK,qU,CF,rH,xh,nk,TQ,Ka,uT,J_,CA,Cz,CB,Kd,CC,GI,GH,xg,nq,Kb,Kc,qT,GJ,TN,xf,xc,rG,uS,rF,qQ,rE⟩
 (case g1 | g2 | g3 | g4 | g5 | g6 | g7 | g8 | g9 | g10 | g11 | g12 | g13=>k_is)
