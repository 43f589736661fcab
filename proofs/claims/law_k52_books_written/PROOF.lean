import PyProof.Rows.All
import Wide.All
import OpenK.AllK
import Wide.FinOn
import Lean
import PyProof.EqAt
import PyProof.EqKinds
import PyProof.TupleCall
import PyProof.NeKinds
import PyProof.SumAny
import PyProof.ConsumeS
import PyProof.WalkInts
import PyProof.Draws
import PyProof.EnumMake
import PyProof.Rows.Range3
import PyProof.MeetsStr
import KE.KDictLaws
import PyProof.Rows.CallKwBuiltin
import PyProof.DictItems
import KE.KPairComp
import PyProof.AttrMissHeap
import KE.KDictOf
import KE.KItemsList
import KE.KTryMore
import PyProof.StrBlockG
import PyProof.StrWalks
import PyProof.Rows.SortStr
import PyProof.Rows.SortKeyStr
import PySem.Challenge.RW_duskround_k52_books_written
set_option linter.all false
set_option genSizeOf false
set_option genInjectivity false
abbrev c_:=@List
abbrev dC:=@PySem.Value
abbrev gw:=@PySem.Shared
abbrev gC:=@Option
abbrev iW:=@PySem.Addr
abbrev lz:=@PyProof.Rows.Keyed
abbrev Ub:=@Array
abbrev Uc:=@PySem.W.Frag
abbrev Y1:=@PySem.Program
abbrev ZW:=@PySem.World
abbrev ZX:=@PySem.Heap
abbrev ZY:=@PyProof.Rows.SortSt
abbrev ZZ:=@PySem.FuncData
abbrev Z0:=@PySem.Around
def af:=@List.length_map
def ak:=@if_neg
def am:=@if_pos
def aq:=@Nat.le_refl
def ar:=@Nat.le_trans
def av:=@PySem.Heap.get?_push_of_some
def aw:=@PyProof.Rows.wpS_bind
def ax:=@PySem.wpAny_bind
def ay:=@eq_true
def az:=@List.length_cons
def aA:=@Bool.false_eq_true
def aD:=@PyProof.Rows.wpS_pure
def aF:=@List.getElem?_eq_getElem
def aH:=@List.map_cons
def aI:=@List.getElem?_map
def aJ:=@List.length_append
def aL:=@decide_eq_false
def aM:=@List.size_toArray
def aO:=@PySem.Heap.lt_size
def aP:=@List.mem_cons
def aS:=@PySem.F.plainAttrs_list
def aT:=@List.mem_of_getElem?
def aU:=@List.map_map
def aW:=@List.mem_append_right
def aX:=@Bool.not_true
def aY:=@PySem.Heap.get?_push_size
def a6:=@List.map_append
def a7:=@PySem.wpAny_pure
def a9:=@List.getElem?_append_right
def be:=@Bool.false_ne_true
def bg:=@of_decide_eq_true
def bh:=@List.mem_append
def bi:=@List.getElem?_append_left
def bn:=@List.mem_singleton
def bp:=@Bool.not_false
def bq:=@Option.some.inj
def bv:=@List.getElem?_eq_some_iff
def bA:=@Nat.ne_of_lt
def bC:=@Option.map_some
def bD:=@if_false
def bF:=@Nat.lt_of_lt_of_le
def bG:=@PySem.wpAny_mono
def bH:=@List.take_append_drop
def bJ:=@PySem.F.type_list_append
def bK:=@PySem.F.slot_list_append
def bL:=@decide_eq_true
def bU:=@List.length_take
def bV:=@List.append_assoc
def bW:=@PySem.W.mg_none_of
def bX:=@Array.toList_append
def b0:=@Option.isSome_map
def b8:=@List.mem_map
def cb:=@List.pairwise_cons
def cc:=@if_true
def cq:=@Option.isSome_some
def cy:=@PyProof.Rows.wpS_forRange
def cA:=@PySem.W.kia_one
def cB:=@Bool.and_eq_true
def cD:=@decide_true
def cG:=@List.take_add_one
def cJ:=@PySem.wpAny_truthy_bool
def cL:=@List.find?_cons
def cQ:=@List.take_length
def cV:=@PySem.PassesOwn.never
def c5:=@PySem.F.slot_str_join
def c8:=@List.append_nil
def c9:=@PySem.sizeLine_eq
def df:=@Option.isSome_none
def dh:=@Nat.zero_le
def di:=@List.pairwise_append
def dj:=@List.mem_cons_of_mem
def dk:=@List.getElem?_replicate
def du:=@decide_eq_true_eq
def dw:=@PySem.F.plainAttrs_str
def dy:=@Ne.symm
def dE:=@PySem.mem_of_lookup
def dF:=@List.map_congr_left
def dH:=@Array.length_toList
def dN:=@PySem.F.type_str_join
def dO:=@List.perm_append_comm
inductive cE {T0 T1:Type}(P:T0 ->T1 ->Prop):Prop | mk (x0:T0) (x1:T1) (h:P x0 x1):cE P
inductive eE {T0 T1 T2:Type}(P:T0 ->T1 ->T2 ->Prop):Prop | mk (x0:T0) (x1:T1) (x2:T2) (h:P x0 x1 x2):eE P
inductive gm {T0 T1 T2 T3:Type}(P:T0 ->T1 ->T2 ->T3 ->Prop):Prop | mk (x0:T0) (x1:T1) (x2:T2) (x3:T3) (h:P x0 x1 x2 x3):gm P
inductive sD {T0 T1 T2 T3 T4:Type}(P:T0 ->T1 ->T2 ->T3 ->T4 ->Prop):Prop | mk (x0:T0) (x1:T1) (x2:T2) (x3:T3) (x4:T4) (h:P x0 x1 x2 x3 x4):sD P
inductive RB {T0 T1 T2 T3 T4 T5:Type}(P:T0 ->T1 ->T2 ->T3 ->T4 ->T5 ->Prop):Prop | mk (x0:T0) (x1:T1) (x2:T2) (x3:T3) (x4:T4) (x5:T5) (h:P x0 x1 x2 x3 x4 x5):RB P
inductive W5 {T0 T1 T2 T3 T4 T5 T6:Type}(P:T0 ->T1 ->T2 ->T3 ->T4 ->T5 ->T6 ->Prop):Prop | mk (x0:T0) (x1:T1) (x2:T2) (x3:T3) (x4:T4) (x5:T5) (x6:T6) (h:P x0 x1 x2 x3 x4 x5 x6):W5 P
inductive XE8 {T0 T1 T2 T3 T4 T5 T6 T7:Type}(P:T0 ->T1 ->T2 ->T3 ->T4 ->T5 ->T6 ->T7 ->Prop):Prop | mk (x0:T0) (x1:T1) (x2:T2) (x3:T3) (x4:T4) (x5:T5) (x6:T6) (x7:T7) (h:P x0 x1 x2 x3 x4 x5 x6 x7):XE8 P
inductive cS (P0 P1 P2:Prop):Prop | mk (UR:P0) (UQ:P1) (UP:P2):cS P0 P1 P2
inductive fi (P0 P1 P2 P3:Prop):Prop | mk (UR:P0) (UQ:P1) (UP:P2) (WV:P3):fi P0 P1 P2 P3
inductive gJ (P0 P1 P2 P3 P4:Prop):Prop | mk (UR:P0) (UQ:P1) (UP:P2) (WV:P3) (ZN:P4):gJ P0 P1 P2 P3 P4
inductive kQ (P0 P1 P2 P3 P4 P5:Prop):Prop | mk (UR:P0) (UQ:P1) (UP:P2) (WV:P3) (ZN:P4) (hP5:P5):kQ P0 P1 P2 P3 P4 P5
inductive Ks (P0 P1 P2 P3 P4 P5 P6:Prop):Prop | mk (UR:P0) (UQ:P1) (UP:P2) (WV:P3) (ZN:P4) (hP5:P5) (hP6:P6):Ks P0 P1 P2 P3 P4 P5 P6
inductive AB (P0 P1 P2 P3 P4 P5 P6 P7:Prop):Prop | mk (UR:P0) (UQ:P1) (UP:P2) (WV:P3) (ZN:P4) (hP5:P5) (hP6:P6) (hP7:P7):AB P0 P1 P2 P3 P4 P5 P6 P7
set_option Elab.async false
set_option maxRecDepth 100000
set_option genSizeOf false
set_option genInjectivity false
local macro_rules | `(∅) => `(by lia)
local macro_rules | `(⇑$x) => `(by simpa using $x)
set_option compiler.extract_closed false
noncomputable section
local macro_rules|`(⋯)=>`(by decide)
local macro_rules|`(tactic|symm)=>`(tactic|constructor)
local macro_rules|`(tactic|exact $e)=>`(tactic|refine $e)
local macro_rules|`(tactic|show $e)=>`(tactic|refine $e)
local macro_rules|`(def $i $s:optDeclSig:=by $v)=>do let d:=Lean.mkNode ``Lean.Parser.Command.declSig #[s.raw[0],s.raw[1][0]];`(theorem $i $(⟨d⟩):declSig:=by $v)|`(def $i $s:optDeclSig $v:declVal)=>`(noncomputable def $i $s:optDeclSig $v:declVal)|`(abbrev $i $s:optDeclSig $v:declVal)=>`(noncomputable abbrev $i $s:optDeclSig $v:declVal)
local macro_rules|`(tactic|let $p:term$[:$t]?:=$e)=>do let r:=p.raw.rewriteBottomUp (λs=>let k:=s.getKind;if s.isIdent then Lean.mkNode `Lean.Parser.Tactic.rcasesPat.one #[s] else if k==`Lean.Parser.Term.hole then Lean.mkNode `Lean.Parser.Tactic.rcasesPat.ignore s.getArgs else if k==`Lean.Parser.Term.anonymousCtor then Lean.mkNode `Lean.Parser.Tactic.rcasesPat.tuple (s.getArgs.modify 1 λa=>.node .none `null (a.getArgs.map λq=>if q.isAtom then q else Lean.mkNode `Lean.Parser.Tactic.rcasesPatLo #[Lean.mkNode `Lean.Parser.Tactic.rcasesPatMed #[Lean.mkNullNode #[q]],Lean.mkNullNode])) else s);`(tactic|obtain $(⟨Lean.mkNode `Lean.Parser.Tactic.rcasesPatMed #[Lean.mkNullNode #[r]]⟩):rcasesPatMed$[:$t]?:=$e)
local macro_rules|`(tactic|simp![$x,*]$[$l]?)=>`(tactic|simp only[$x,*]$[$l]?)
local macro_rules|`(#[$x,$y])=>`(⟨$x,$y⟩)|`(#[$x,$y,$z,*])=>`(⟨$x,$y,$z,*⟩)
namespace TS
open PySem PyProof.Rows
def LE (less:lz ->lz ->Bool)(x y:lz):Prop:=less y x=false
structure Ord (less:Keyed ->Keyed ->Bool):Prop where
 Vg: ∀x y,less x y=true ->less y x=false
 trans: ∀x y z,LE less x y ->LE less y z ->LE less x z
section
variable {less:lz ->lz ->Bool}
def Ord.refl (O:Ord less)(x:lz):LE less x x:=by
 unfold LE;cases h:less x x with
 | false=>rfl
 | true=>show(O.Vg x x h).symm.trans h▸rfl
theorem Ord.le (O:Ord less){x y:lz}(h:less x y=true):LE less x y:=O.Vg x y h
def Ord.TZ (O:Ord less){x y z:lz}(h:LE less x y)(h':less y z=true):less x z=true:=by
 cases e:less x z with
 | true=>rfl
 | false=>have:=O.trans z x y e h;unfold LE at this;rw[h'] at this;cases this
end
def cF (xs:Ub lz)(i:Nat):lz:=(xs[i]?).getD (.none, .none)
def Jz {xs:Ub lz}{i:Nat}(h:i<xs.size):xs[i]? =some (cF xs i):=by unfold cF;rw[getElem?_pos xs i h];rfl
def jJ {xs ys:Ub lz}{i j:Nat}(h:xs[i]? =ys[j]?):cF xs i=cF ys j:=by unfold cF;rw[h]
def yr {xs:Ub lz}{i:Nat}(h:i<xs.size):cF xs i∈xs.toList:=by unfold cF;rw[getElem?_pos xs i h];simp
def Sg (less:lz ->lz ->Bool)(xs:Ub lz)(lo hi:Nat):Prop:= ∀i j,lo<=i ->i<=j ->j<hi ->LE less (cF xs i) (cF xs j)
def Ng (less:lz ->lz ->Bool)(xs:Ub lz)(lo hi:Nat):Prop:= ∀i j,lo<=i ->i<=j ->j<hi ->LE less (cF xs j) (cF xs i)
structure SB (kd:SortKind)(a₀:Array Keyed)(st:SortSt):Prop where
 perm:(arrOf st).Perm a₀
 kd:kindOf st=kd
 fl:failedOf st=none
theorem SB.size {kd:SortKind}{a₀:Ub lz}{st:ZY}(h:SB kd a₀ st):(arrOf st).size=a₀.size:=h.perm.size_eq
theorem SB.mem {kd:SortKind}{a₀:Ub lz}{st:ZY}(h:SB kd a₀ st){i:Nat}(hi:i<a₀.size):cF (arrOf st) i∈a₀.toList:=(Array.perm_iff_toList_perm.mp h.perm).mem_iff.mp (yr (by rw[h.size];show hi))
theorem SB.arr {kd:SortKind}{a₀:Ub lz}{st:ZY}(h:SB kd a₀ st){xs:Ub lz}(hp:xs.Perm (arrOf st)):SB kd a₀ (setArr st xs):=#[hp.trans h.perm,h.kd,h.fl]
def iI (prog:Y1)(w:ZW)(A:Z0)(E:dC ->gw ->Prop)(s:gw)(kd:SortKind)(a₀:Ub lz)(less:lz ->lz ->Bool):Prop:=∀ (x y:lz) (st:ZY) (Q:gC Bool ->ZY ->Prop),x∈a₀.toList ->y∈a₀.toList ->kindOf st=kd ->Q (some (less x y)) st ->wpS (model prog w) A E s (lt' x y) Q st
section
variable {prog:Y1}{w:ZW}{A:Z0}{E:dC ->gw ->Prop}{s:gw}{kd:SortKind}{a₀:Ub lz}{less:lz ->lz ->Bool}
def wp_elem {xs:Ub lz}{i:Nat}{Q:lz ->ZY ->Prop}{st:ZY}(hi:i<xs.size)(h:Q (cF xs i) st):wpS (model prog w) A E s (elem' xs i) Q st:=by rw[elem'_eq,Jz hi];show aD h
def wp_lt (L:iI prog w A E s kd a₀ less){st:ZY}{i j:Nat}{Q:gC Bool ->ZY ->Prop}(B:SB kd a₀ st)(hi:i<a₀.size)(hj:j<a₀.size) (h:Q (some (less (cF (arrOf st) i) (cF (arrOf st) j))) st):wpS (model prog w) A E s (ltAt' i j) Q st:=by rw[ltAt'_eq];exact aw (wpS_get ?_);show aw (wp_elem (by rw[B.size];show hi) (aw (wp_elem (by rw[B.size];show hj) (L _ _ _ _ (B.mem hi) (B.mem hj) B.kd h))))
def wp_rev {st:ZY}{i j:Nat}{Q:Unit ->ZY ->Prop}(h:Q () (setArr st (mirror (arrOf st) i j ((j - i) / 2)))):wpS (model prog w) A E s (reverseSlice' i j) Q st:=by rw[reverseSlice'_eq];show wpS_modify h
def ed {xs:Ub lz}{i j:Nat}(hj:j<=xs.size)(k:Nat):cF (mirror xs i j ((j - i) / 2)) k=if i<=k /\ k<j then cF xs (i+j - 1 - k) else cF xs k:=by have e:=getElem?_mirror_all (i:=i) hj k;by_cases c:i<=k /\ k<j;rw[am c] at e ⊢;show jJ e;rw[ak c] at e ⊢;show jJ e
def nR {xs:Ub lz}{J6 d:Nat}(hs:J6<xs.size)(hd:d<=J6)(k:Nat):cF (bubble xs J6 d) k=if k=J6 - d then cF xs J6 else if J6 - d<k /\ k<=J6 then cF xs (k - 1) else cF xs k:=by have e:=getElem?_bubble hs d hd k;by_cases c:k=J6 - d;rw[am c] at e ⊢;show jJ e;rw[ak c] at e ⊢;by_cases c':J6 - d<k /\ k<=J6;rw[am c'] at e ⊢;show jJ e;rw[ak c'] at e ⊢;show jJ e
def JA (lo a dJ:Nat):StateT ZY Sem AscSt:=forIn [a:dJ] ((none,a):AscSt) λ_ c=>do
 let x <- ltAt' (lo+c.snd) (lo+c.snd - 1)
 match x with
 | some b=>if b=true then pure (ForInStep.done (none,c.snd)) else pure (ForInStep.yield (none,c.snd+1))
 | _=>pure (ForInStep.done (some none,c.snd))
def yV (lo n dJ:Nat):StateT ZY Sem (gC Nat):=do
 reverseSlice' lo (lo+n)
 let c <- JA lo n dJ
 match c.fst with
 | some r=>pure r
 | none=>pure (some c.snd)
def Ed (lo n dJ:Nat):StateT ZY Sem DescSt:=forIn [n:dJ] ((none,n,0):DescSt) λ_ c=>do
 let x <- ltAt' (lo+c.snd.fst) (lo+c.snd.fst - 1)
 match x with
 | some b=>
  if b=true then
   if c.snd.snd >0 then do
    reverseSlice' (lo+c.snd.fst - (c.snd.snd+1)) (lo+c.snd.fst)
    pure (ForInStep.yield (none,c.snd.fst+1,0))
   else pure (ForInStep.yield (none,c.snd.fst+1,0))
  else do
   let y <- ltAt' (lo+c.snd.fst - 1) (lo+c.snd.fst)
   match y with
   | some d=>
    if d=true then pure (ForInStep.done (none,c.snd.fst,c.snd.snd))
    else pure (ForInStep.yield (none,c.snd.fst+1,c.snd.snd+1))
   | _=>pure (ForInStep.done (some none,c.snd.fst,c.snd.snd))
 | _=>pure (ForInStep.done (some none,c.snd.fst,c.snd.snd))
def zu (lo n dJ:Nat):StateT ZY Sem (gC Nat):=do
 liftM (rule "list.sort.descending-run")
 let c <- Ed lo (n+1) dJ
 match c.fst with
 | some r=>pure r
 | none=>
  if c.snd.snd >0 then do
   reverseSlice' (lo+c.snd.fst - (c.snd.snd+1)) (lo+c.snd.fst)
   yV lo c.snd.fst dJ
  else yV lo c.snd.fst dJ
theorem KW (lo dJ:Nat):countRun' lo dJ=(do
  let c <- JA lo 1 dJ
  match c.fst with
  | some r=>pure r
  | none =>
   if(c.snd==dJ)=true then pure (some c.snd)
   else if c.snd >1 then do
    let x <- ltAt' lo (lo+c.snd - 1)
    match x with
    | some b=>if b=true then pure (some c.snd) else do
     reverseSlice' lo (lo+c.snd)
     zu lo c.snd dJ
    | _=>pure none
   else zu lo c.snd dJ):=by
 rw[countRun'_eq]
 dsimp only
 unfold zu yV Ed JA
 congr 1
 funext c
 let⟨r,n⟩:=c
 cases r with
 | some r=>rfl
 | none =>
  dsimp only;split;rfl;split;congr 1;funext x;cases x with
  | none=>rfl
  | some b=>
   dsimp only;split;rfl;congr 1;funext _r;congr 1;funext _u;congr 1;congr 1;funext s2;let⟨r2,n2,q2⟩:=s2;cases r2 with
   | some r2=>rfl
   | none=>dsimp only;split;congr 1;funext _v;congr 1;funext _w;congr 1;funext s3;let⟨r3,n3⟩:=s3;cases r3<;>rfl;congr 1;funext _w;congr 1;funext s3;let⟨r3,n3⟩:=s3;cases r3<;>rfl
  congr 1;funext _u;congr 1;congr 1;funext s2;let⟨r2,n2,q2⟩:=s2;cases r2 with
  | some r2=>rfl
  | none=>dsimp only;split;congr 1;funext _v;congr 1;funext _w;congr 1;funext s3;let⟨r3,n3⟩:=s3;cases r3<;>rfl;congr 1;funext _w;congr 1;funext s3;let⟨r3,n3⟩:=s3;cases r3<;>rfl
def sG (lo hi:Nat)(xs ys:Ub lz):Prop:= ∀k,k<lo \/ hi<=k ->cF ys k=cF xs k
theorem sG.refl {lo hi:Nat}{xs:Ub lz}:sG lo hi xs xs:=λ_ _=>rfl
theorem sG.trans {lo hi:Nat}{xs ys zs:Ub lz}(a:sG lo hi xs ys)(b:sG lo hi ys zs):sG lo hi xs zs:=λk h=>(b k h).trans (a k h)
def wp_ascL (O:Ord less)(L:iI prog w A E s kd a₀ less){st:ZY}{lo a dJ:Nat}{Q:AscSt ->ZY ->Prop}(hn:lo+dJ<=a₀.size)(ha:1<=a)(han:a<=dJ)(B:SB kd a₀ st) (hs:Sg less (arrOf st) lo (lo+a)) (h: ∀n,a<=n ->n<=dJ ->Sg less (arrOf st) lo (lo+n) ->(n=dJ \/ less (cF (arrOf st) (lo+n)) (cF (arrOf st) (lo+n - 1))=true) ->Q (none,n) st): wpS (model prog w) A E s (JA lo a dJ) Q st:=by
 unfold JA;exact cy (I:=λx c bI=>bI=st /\ c=(none,x) /\ Sg less (arrOf st) lo (lo+x)) ?step ?fin #[rfl,rfl,hs];case fin=>
  rintro c bI ⟨rfl,rfl,gE⟩
  rw[show max a dJ=dJ by lia] at gE ⊢
  show h dJ han (aq _) gE (.inl rfl)
 case step=>
  rintro x c bI ZK hxn ⟨rfl,rfl,gE⟩
  dsimp only
  exact aw (wp_lt L B ∅ ∅ ?_)
  cases e:less (cF (arrOf bI) (lo+x)) (cF (arrOf bI) (lo+x - 1)) with
  | true=>simp![cc];show aD (h x ZK ∅ gE (.inr e))
  | false=>simp![aA,bD];exact aD #[rfl,rfl,λi j hi kA hj=> ?_];by_cases c:j<lo+x;show gE i j hi kA c;have:j=lo+x:= ∅;subst this;by_cases c2:i=lo+x;subst c2;show O.refl _;show O.trans _ _ _ (gE i (lo+x - 1) hi ∅ ∅) e
def wp_tailL (O:Ord less)(L:iI prog w A E s kd a₀ less){st:ZY}{lo n dJ:Nat}{Q:gC Nat ->ZY ->Prop}(hn:lo+dJ<=a₀.size)(h1:1<=n)(nJ:n<=dJ)(B:SB kd a₀ st) (hs:Ng less (arrOf st) lo (lo+n)) (h: ∀m bI,SB kd a₀ bI ->1<=m ->m<=dJ ->Sg less (arrOf bI) lo (lo+m) ->pendingOf bI=pendingOf st ->sG lo (lo+dJ) (arrOf st) (arrOf bI) ->Q (some m) bI): wpS (model prog w) A E s (yV lo n dJ) Q st:=by
 unfold yV;have hsz:lo+n<=(arrOf st).size:=by rw[B.size];lia
 exact aw (wp_rev ?_);have B':SB kd a₀ (setArr st (mirror (arrOf st) lo (lo+n) ((lo+n - lo) / 2))):=B.arr (mirror_perm _ _ _ _);exact aw (wp_ascL O L hn h1 nJ B' ?_ λm hm1 WH Y_ _=>aD (h m _ B' ∅ WH Y_ rfl ?_));intro i j hi kA hj;change LE less (cF (mirror (arrOf st) lo (lo+n) ((lo+n - lo) / 2)) i) (cF (mirror (arrOf st) lo (lo+n) ((lo+n - lo) / 2)) j);rw[ed hsz,ed hsz,am ∅,am ∅];show hs _ _ ∅ ∅ ∅;intro k hk;change cF (mirror (arrOf st) lo (lo+n) ((lo+n - lo) / 2)) k=_;rw[ed hsz,ak ∅]
def p6 (O:Ord less){xs:Ub lz}{lo i m:Nat}(hj:m<=xs.size)(hli:lo<=i)(hs:Ng less xs lo m)(he: ∀k,i<=k ->k<m ->LE less (cF xs k) (cF xs (m - 1))):Ng less (mirror xs i m ((m - i) / 2)) lo m:=by intro a b ha DO hb;rw[ed hj,ed hj];by_cases c1:i<=a;rw[am ∅,am ∅];exact O.trans _ _ _ (he (i+m - 1 - b) ∅ ∅) (hs _ _ ∅ ∅ ∅);rw[ak (show ¬(i<=a /\ a<m) by lia)];by_cases c2:i<=b;rw[am ∅];show hs _ _ ∅ ∅ ∅;rw[ak ∅];show hs _ _ ∅ ∅ ∅
theorem nE {xs:Ub lz}{lo hi i j:Nat}(hj:j<=xs.size)(h1:lo<=i)(h2:j<=hi):sG lo hi xs (mirror xs i j ((j - i) / 2)):=λk hk=>by rw[ed hj,ak ∅]
def wp_descL (O:Ord less)(L:iI prog w A E s kd a₀ less){st:ZY}{lo n dJ:Nat}{Q:DescSt ->ZY ->Prop}(hn:lo+dJ<=a₀.size)(h1:1<=n)(nJ:n<=dJ)(B:SB kd a₀ st) (hs:Ng less (arrOf st) lo (lo+n)) (h: ∀m wj bI,SB kd a₀ bI ->n<=m ->m<=dJ ->Ng less (arrOf bI) lo (lo+m) ->wj+1<=m ->(∀i,lo+m - (wj+1) <=i ->i<lo+m ->LE less (cF (arrOf bI) i) (cF (arrOf bI) (lo+m - 1))) ->pendingOf bI=pendingOf st ->sG lo (lo+dJ) (arrOf st) (arrOf bI) ->Q (none,m,wj) bI): wpS (model prog w) A E s (Ed lo n dJ) Q st:=by
 unfold Ed;exact cy (I:=λx c bI=> ∃wj,Ks (c=(none,x,wj)) (SB kd a₀ bI) (Ng less (arrOf bI) lo (lo+x)) (wj+1<=x) (∀i,lo+x - (wj+1) <=i ->i<lo+x ->LE less (cF (arrOf bI) i) (cF (arrOf bI) (lo+x - 1))) (pendingOf bI=pendingOf st) (sG lo (lo+dJ) (arrOf st) (arrOf bI))) ?step ?fin #[0,rfl,B,hs, ∅,λi h1 h2=>by rw[show i=lo+n - 1 by lia];show O.refl _,rfl,sG.refl];case fin=>
  rintro c bI ⟨wj,rfl,B',gE,hq,he,hp,ho⟩
  rw[show max n dJ=dJ by lia] at gE hq he ⊢
  show h dJ wj bI B' nJ (aq _) gE hq he hp ho
 case step =>
  rintro x c bI ZK hxn ⟨wj,rfl,B',gE,hq,he,hp,ho⟩
  dsimp only
  have hsz:lo+x<=(arrOf bI).size:=by rw[B'.size];lia
  exact aw (wp_lt L B' ∅ ∅ ?_)
  cases e:less (cF (arrOf bI) (lo+x)) (cF (arrOf bI) (lo+x - 1)) with
  | true =>simp![cc];by_cases Iw:wj >0;rw [am Iw];exact aw (wp_rev (aD #[0,rfl,B'.arr (mirror_perm _ _ _ _),?_, ∅,λi h1 h2=>by rw[show i=lo+(x+1) - 1 by lia];show O.refl _,hp,ho.trans (nE hsz ∅ ∅)]));have hm:=p6 O (i:=lo+x - (wj+1)) hsz ∅ gE he;intro i j hi kA hj;by_cases c:j<lo+x;show hm i j hi kA c;have:j=lo+x:= ∅;subst this;by_cases c2:i=lo+x;subst c2;show O.refl _;exact O.trans _ _ _ ?_ (hm i (lo+x - 1) hi ∅ ∅);change LE less (cF (mirror (arrOf bI) (lo+x - (wj+1)) (lo+x) ((lo+x - (lo+x - (wj+1))) / 2)) (lo+x)) (cF (mirror (arrOf bI) (lo+x - (wj+1)) (lo+x) ((lo+x - (lo+x - (wj+1))) / 2)) (lo+x - 1));rw[ed hsz,ed hsz,ak ∅,am ∅];show O.trans _ _ _ (O.le e) (gE _ _ ∅ ∅ ∅);rw[ak Iw];exact aD #[0,rfl,B',λi j hi kA hj=> ?_, ∅,λi h1 h2=>by rw[show i=lo+(x+1) - 1 by lia];show O.refl _,hp,ho];by_cases c:j<lo+x;show gE i j hi kA c;have:j=lo+x:= ∅;subst this;by_cases c2:i=lo+x;subst c2;show O.refl _;show O.trans _ _ _ (O.le e) (gE i (lo+x - 1) hi ∅ ∅)
  | false =>
   simp![aA,bD];exact aw (wp_lt L B' ∅ ∅ ?_);cases e2:less (cF (arrOf bI) (lo+x - 1)) (cF (arrOf bI) (lo+x)) with
   | true=>simp![cc];show aD (h x wj bI B' ZK ∅ gE hq he hp ho)
   | false=>simp![aA,bD];exact aD #[wj+1,rfl,B',λi j hi kA hj=> ?_, ∅,λi h1 h2=> ?_,hp,ho];by_cases c:j<lo+x;show gE i j hi kA c;have:j=lo+x:= ∅;subst this;by_cases c2:i=lo+x;subst c2;show O.refl _;show O.trans _ _ _ e2 (gE i (lo+x - 1) hi ∅ ∅);rw[show lo+(x+1) - 1=lo+x by lia];by_cases c:i=lo+x;subst c;show O.refl _;show O.trans _ _ _ (he i ∅ ∅) e
def wp_partL (O:Ord less)(L:iI prog w A E s kd a₀ less){st:ZY}{lo n dJ:Nat}{Q:gC Nat ->ZY ->Prop}(hn:lo+dJ<=a₀.size)(nJ:n+1<=dJ)(B:SB kd a₀ st) (hs:Ng less (arrOf st) lo (lo+(n+1))) (h: ∀m bI,SB kd a₀ bI ->1<=m ->m<=dJ ->Sg less (arrOf bI) lo (lo+m) ->pendingOf bI=pendingOf st ->sG lo (lo+dJ) (arrOf st) (arrOf bI) ->Q (some m) bI): wpS (model prog w) A E s (zu lo n dJ) Q st:=by
 unfold zu;exact aw (wpS_lift (wpAny_rule #[rfl,?_]));exact aw (wp_descL O L hn ∅ nJ B hs λm wj bI B' hm1 WH gE hq he hp ho=> ?_);dsimp only;have hsz:lo+m<=(arrOf bI).size:=by rw[B'.size];lia
 by_cases Iw:wj >0;rw[am Iw];exact aw (wp_rev (wp_tailL O L hn ∅ WH (B'.arr (mirror_perm _ _ _ _)) (p6 O hsz ∅ gE he) λm2 n9 b1 b2 b3 b4 b5 b6=>h m2 n9 b1 b2 b3 b4 (b5.trans hp) (ho.trans ((nE hsz ∅ ∅).trans b6))));rw[ak Iw];show wp_tailL O L hn ∅ WH B' gE λm2 n9 b1 b2 b3 b4 b5 b6=>h m2 n9 b1 b2 b3 b4 (b5.trans hp) (ho.trans b6)
def wp_run (O:Ord less)(L:iI prog w A E s kd a₀ less){st:ZY}{lo dJ:Nat}{Q:gC Nat ->ZY ->Prop}(hn:lo+dJ<=a₀.size)(h1:1<=dJ)(B:SB kd a₀ st) (h: ∀m bI,SB kd a₀ bI ->1<=m ->m<=dJ ->Sg less (arrOf bI) lo (lo+m) ->pendingOf bI=pendingOf st ->sG lo (lo+dJ) (arrOf st) (arrOf bI) ->Q (some m) bI): wpS (model prog w) A E s (countRun' lo dJ) Q st:=by
 rw[KW];exact aw (wp_ascL O L hn (aq 1) h1 B (λi j hi kA hj=>by rw[show i=j by lia];show O.refl _) λn N4 vo Ur hor=> ?_);dsimp only;by_cases nJ:n=dJ;rw[am ⇑nJ];show aD (h n st B N4 vo Ur rfl sG.refl);rw [ak ⇑nJ];have mK:=hor.resolve_left nJ;have hsz:lo+n<=(arrOf st).size:=by rw[B.size];lia
 by_cases hgt:n >1;rw [am hgt];exact aw (wp_lt L B ∅ ∅ ?_);cases e:less (cF (arrOf st) lo) (cF (arrOf st) (lo+n - 1)) with
 | true=>simp![cc];show aD (h n st B N4 vo Ur rfl sG.refl)
 | false=>simp![aA,bD];have hng:Ng less (arrOf st) lo (lo+n):=λi j hi kA hj=>O.trans _ _ _ (O.trans _ _ _ (Ur j (lo+n - 1) ∅ ∅ ∅) e) (Ur lo i (aq _) hi ∅);exact aw (wp_rev (wp_partL O L hn ∅ (B.arr (mirror_perm _ _ _ _)) ?_ λm2 n9 b1 b2 b3 b4 b5 b6=>h m2 n9 b1 b2 b3 b4 b5 ((nE hsz ∅ ∅).trans b6)));have hm:=p6 O (i:=lo) hsz (aq _) hng λk _ _=>Ur k (lo+n - 1) ∅ ∅ ∅;intro i j hi kA hj;by_cases c:j<lo+n;show hm i j hi kA c;have:j=lo+n:= ∅;subst this;by_cases c2:i=lo+n;subst c2;show O.refl _;exact O.trans _ _ _ ?_ (hm i (lo+n - 1) hi ∅ ∅);change LE less (cF (mirror (arrOf st) lo (lo+n) ((lo+n - lo) / 2)) (lo+n)) (cF (mirror (arrOf st) lo (lo+n) ((lo+n - lo) / 2)) (lo+n - 1));rw[ed hsz,ed hsz,ak ∅,am ∅];show O.trans _ _ _ (O.le mK) (hng _ _ ∅ ∅ ∅)
 rw[ak hgt];have Zq:n=1:= ∅;subst Zq;exact wp_partL O L hn ∅ B (λi j hi kA hj=> ?_) h;by_cases c:i=j;subst c;show O.refl _;rw[show i=lo+1 - 1 by lia,show j=lo+1 by lia];show O.le mK
def wp_bin (O:Ord less)(L:iI prog w A E s kd a₀ less){st:ZY}{lo n ok:Nat}{Q:Bool ->ZY ->Prop}(hn:lo+n<=a₀.size)(c6:ok<=n)(B:SB kd a₀ st)(hs:Sg less (arrOf st) lo (lo+ok)) (h: ∀bI,SB kd a₀ bI ->Sg less (arrOf bI) lo (lo+n) ->pendingOf bI=pendingOf st ->sG lo (lo+n) (arrOf st) (arrOf bI) ->Q true bI):wpS (model prog w) A E s (binarySort' lo n ok) Q st:=by
 rw[binarySort'_eq];exact aw (wpS_mono (cy (I:=λk c bI=>c=(none,()) /\ SB kd a₀ bI /\ Sg less (arrOf bI) lo (lo+min k n) /\ pendingOf bI=pendingOf st /\ sG lo (lo+n) (arrOf st) (arrOf bI)) (Q:=λc bI=>c=(none,()) /\ SB kd a₀ bI /\ Sg less (arrOf bI) lo (lo+n) /\ pendingOf bI=pendingOf st /\ sG lo (lo+n) (arrOf st) (arrOf bI)) ?step ?fin ?init) ?post);case post=>
  rintro c bI ⟨rfl,B',gE,hp,ho⟩
  show aD (h bI B' gE hp ho)
 case init=>
  exact#[rfl,B,λi j hi kA hj=> ?_,rfl,sG.refl]
  by_cases c:ok=0
  rw[show i=j by lia];show O.refl _
  show hs i j hi kA ∅
 case fin=>
  rintro c bI ⟨hc,B',gE,hp,ho⟩
  exact#[hc,B',?_,hp,ho]
  rwa [show min (max (max ok 1) n) n=n by lia] at gE
 case step=>
  rintro k c bI hak hkn ⟨rfl,B',gE,hp,ho⟩
  rw[show min k n=k by lia] at gE
  have hk:lo+k<a₀.size:= ∅
  exact aw (wpS_mono (cy (I:=λx c fO=>fO=bI /\ cE λl r=>kQ (c=(none,l,r)) (l<=r) (r<=k) (r - l<=k - x) (∀i,i<l ->LE less (cF (arrOf bI) (lo+i)) (cF (arrOf bI) (lo+k))) (∀i,r<=i ->i<k ->LE less (cF (arrOf bI) (lo+k)) (cF (arrOf bI) (lo+i)))) (Q:=λc fO=>fO=bI /\ cE λl r=>fi (c=(none,l,r)) (l<=k) (∀i,i<l ->LE less (cF (arrOf bI) (lo+i)) (cF (arrOf bI) (lo+k))) (∀i,l<=i ->i<k ->LE less (cF (arrOf bI) (lo+k)) (cF (arrOf bI) (lo+i)))) ?istep ?ifin ?iinit) ?ipost)
  case iinit=>show#[rfl,0,k,rfl, ∅, ∅, ∅,λi hi=> ∅,λi h1 h2=> ∅]
  case ifin=>
   rintro c fO ⟨rfl,l,r,rfl,UA,Zd,hm,Qm,Rr⟩
   have:l=r:= ∅
   subst this
   show#[rfl,l,l,rfl,Zd,Qm,Rr]
  case istep=>
   rintro x c fO _ hxk ⟨rfl,l,r,rfl,UA,Zd,hm,Qm,Rr⟩
   dsimp only
   by_cases ZC:l≥r
   rw[am ZC]
   have:l=r:= ∅
   subst this
   show aD #[rfl,l,l,rfl,Zd,Qm,Rr]
   rw[ak ZC]
   exact aw (wp_lt L B' hk ∅ ?_)
   cases e:less (cF (arrOf fO) (lo+k)) (cF (arrOf fO) (lo+(l+r) / 2)) with
   | true=>simp![cc];exact aD #[rfl,l,(l+r) / 2,rfl, ∅, ∅, ∅,Qm,λi h1 h2=> ?_];show O.trans _ _ _ (O.le e) (gE _ _ ∅ ∅ ∅)
   | false=>simp![aA,bD];exact aD #[rfl,(l+r) / 2+1,r,rfl, ∅, ∅, ∅,λi h1=> ?_,Rr];show O.trans _ _ _ (gE (lo+i) (lo+(l+r) / 2) ∅ ∅ ∅) e
  case ipost=>
   rintro c fO ⟨rfl,l,r,rfl,hlk,Qm,Rr⟩
   change wpS _ _ _ _ (do moveDown' (lo+k) (lo+l);pure (ForInStep.yield (none,()))) _ _
   rw[moveDown'_eq]
   have Zw:lo+k< (arrOf fO).size:=by rw[B'.size];show hk
   exact aw (wpS_modify (aD #[rfl,B'.arr (bubble_perm _ _ _),?_,hp,ho.trans λj hj=> ?_]))
   .rw[show min (k+1) n=k+1 by lia];intro i j hi kA hj;change LE less (cF (bubble (arrOf fO) (lo+k) (lo+k - (lo+l))) i) (cF (bubble (arrOf fO) (lo+k) (lo+k - (lo+l))) j);rw[nR Zw ∅,nR Zw ∅,show lo+k - (lo+k - (lo+l))=lo+l by lia];have Zs: ∀i,lo<=i ->i<lo+l ->LE less (cF (arrOf fO) i) (cF (arrOf fO) (lo+k)):=λi h1 h2=>by have:=Qm (i - lo) ∅;rwa [show lo+(i - lo)=i by lia] at this
    have ZB: ∀i,lo+l<=i ->i<lo+k ->LE less (cF (arrOf fO) (lo+k)) (cF (arrOf fO) i):=λi h1 h2=>by have:=Rr (i - lo) ∅ ∅;rwa [show lo+(i - lo)=i by lia] at this
    repeat' split
    all_goals first
    | (exfalso;lia)
    | show O.refl _
    | show Zs _ ∅ ∅
    | show ZB _ ∅ ∅
    | show gE _ _ ∅ ∅ ∅
   change cF (bubble (arrOf fO) (lo+k) (lo+k - (lo+l))) j=_
   rw[nR Zw ∅,ak ∅,ak ∅]
end
def LW:Bool ->lz ->Ub lz ->Nat ->Nat ->Nat ->StateT ZY Sem (gC Nat):=sortPriv% PySem.Builtin.gallop
def YI:Ub lz ->Ub lz ->StateT ZY Sem (Ub lz):=sortPriv% PySem.Builtin.mergeLo
def YJ:Ub lz ->Ub lz ->StateT ZY Sem (Ub lz):=sortPriv% PySem.Builtin.mergeHi
abbrev cT (st:ZY)(g:Nat):ZY:=SortSt.mk' (kindOf st) (arrOf st) (pendingOf st) g (failedOf st)
def bey (left:Bool)(key:lz)(arr:Ub lz)(base i:Nat):StateT ZY Sem (gC Bool):=do
 let x <- elem' arr (base+i)
 if left then lt' x key else return(<- lt' key x).map (!·)
section
variable {prog:Y1}{w:ZW}{A:Z0}{E:dC ->gw ->Prop}{s:gw}{kd:SortKind}{a₀:Ub lz}{less:lz ->lz ->Bool}
def wp_gal0 {st:ZY}{left:Bool}{key:lz}{arr:Ub lz}{base n fB:Nat}{Q:gC Nat ->ZY ->Prop}(Bf:Nat ->Bool)(hh:fB<n) (hb: ∀i,i<n -> ∀Q':gC Bool ->ZY ->Prop,Q' (some (Bf i)) st ->wpS (model prog w) A E s (bey left key arr base i) Q' st) (mono: ∀i j,i<=j ->j<n ->Bf j=true ->Bf i=true) (h: ∀k,k<=n ->(∀i,i<k ->Bf i=true) ->(∀i,k<=i ->i<n ->Bf i=false) ->Q (some k) st): wpS (model prog w) A E s (LW left key arr base n fB) Q st:=by
 have Dn: ∀i j,i<=j ->j<n ->Bf i=false ->Bf j=false:=λi j kA hj e=>by
  cases e2:Bf j with
  | false=>rfl
  | true=>rw[mono i j kA hj e2] at e;cases e
 exact aw (hb fB hh _ ?_);dsimp only;cases hB:Bf fB with
 | true =>
  simp![cc];exact aw (wpS_mono (cy (I:=λi c bI=>bI=st /\ cE λla f=>gJ (c=(none,la,f)) (i+1<=f) (la<f) (fB+la<n) (Bf (fB+la)=true)) (Q:=λc bI=>bI=st /\ cE λla f=>gJ (c=(none,la,f)) (la<f) (fB+la<n) (Bf (fB+la)=true) (n - fB<=f \/ (fB+f<n /\ Bf (fB+f)=false))) ?_ ?_ #[rfl,0,1,rfl,by omega,by omega,by omega,hB]) ?_);rintro i c bI _ hi ⟨rfl,la,f,rfl,h1,h2,h3,h4⟩;dsimp only;by_cases c1:f≥n - fB;rw[am c1];show aD #[rfl,la,f,rfl,h2,h3,h4, .inl c1];rw[ak c1];exact aw (hb _ (by omega) _ ?_);cases e:Bf (fB+f) with
  | true=>simp![aX,aA,bD];show aD #[rfl,f,2*f+1,rfl,by omega,by omega,by omega,e]
  | false=>simp![bp,cc];show aD #[rfl,la,f,rfl,h2,h3,h4, .inr #[by omega,e]]
  rintro c bI ⟨rfl,la,f,rfl,h1,h2,h3,h4⟩;show#[rfl,la,f,rfl,h2,h3,h4, .inl (by omega)];rintro c bI ⟨rfl,la,f,rfl,h2,h3,h4,h5⟩;dsimp only;exact aw (wpS_mono (cy (I:=λi c fO=>fO=bI /\ cE λlo hi=>kQ (c=(none,lo,hi)) (lo<=hi) (hi<=n) (hi - lo<=n - i) (∀i,i<lo ->Bf i=true) (∀i,hi<=i ->i<n ->Bf i=false)) (Q:=λc fO=>fO=bI /\ cE λlo hi=>fi (c=(none,lo,hi)) (hi<=n) (∀i,i<hi ->Bf i=true) (∀i,hi<=i ->i<n ->Bf i=false)) ?_ ?_ #[rfl,_,_,rfl,by omega,by omega,by omega,λi hi=>mono i (fB+la) (by omega) h3 h4,λi hi zY=> ?_]) ?_);rintro i c fO _ hi ⟨rfl,lo,qZ,rfl,g1,g2,g3,g4,g5⟩;dsimp only;by_cases c1:lo≥qZ;rw[am c1];have:lo=qZ:=by omega
  subst this;show aD #[rfl,_,_,rfl,g2,g4,g5];rw[ak c1];exact aw (hb _ (by omega) _ ?_);cases e:Bf (lo+(qZ - lo) / 2) with
  | true=>simp![cc];show aD #[rfl,_,_,rfl,by omega,g2,by omega,λj hj=>mono j _ (by omega) (by omega) e,g5]
  | false=>simp![aA,bD];show aD #[rfl,_,_,rfl,by omega,by omega,by omega,g4,λj hj Zy=>Dn _ j hj Zy e]
  rintro c fO ⟨rfl,lo,qZ,rfl,g1,g2,g3,g4,g5⟩;have:lo=qZ:=by omega
  subst this;show#[rfl,_,_,rfl,g2,g4,g5];obtain h5 | ⟨h5,h6⟩:=h5;omega;show Dn (fB+f) i (by omega) zY h6;rintro c fO ⟨rfl,lo,qZ,rfl,g2,g4,g5⟩;show aD (h _ g2 g4 g5)
 | false =>
  simp![aA,bD];exact aw (wpS_mono (cy (I:=λi c bI=>bI=st /\ cE λla f=>gJ (c=(none,la,f)) (i+1<=f) (la<f) (la<=fB) (Bf (fB - la)=false)) (Q:=λc bI=>bI=st /\ cE λla f=>gJ (c=(none,la,f)) (la<f) (la<=fB) (Bf (fB - la)=false) (fB+1<=f \/ (f<=fB /\ Bf (fB - f)=true))) ?_ ?_ #[rfl,0,1,rfl,by omega,by omega,by omega,hB]) ?_);rintro i c bI _ hi ⟨rfl,la,f,rfl,h1,h2,h3,h4⟩;dsimp only;by_cases c1:f≥fB+1;rw[am c1];show aD #[rfl,la,f,rfl,h2,h3,h4, .inl c1];rw[ak c1];exact aw (hb _ (by omega) _ ?_);cases e:Bf (fB - f) with
  | false=>simp![aA,bD];show aD #[rfl,f,2*f+1,rfl,by omega,by omega,by omega,e]
  | true=>simp![cc];show aD #[rfl,la,f,rfl,h2,h3,h4, .inr #[by omega,e]]
  rintro c bI ⟨rfl,la,f,rfl,h1,h2,h3,h4⟩;show#[rfl,la,f,rfl,h2,h3,h4, .inl (by omega)];rintro c bI ⟨rfl,la,f,rfl,h2,h3,h4,h5⟩;dsimp only;exact aw (wpS_mono (cy (I:=λi c fO=>fO=bI /\ cE λlo hi=>kQ (c=(none,lo,hi)) (lo<=hi) (hi<=n) (hi - lo<=n - i) (∀i,i<lo ->Bf i=true) (∀i,hi<=i ->i<n ->Bf i=false)) (Q:=λc fO=>fO=bI /\ cE λlo hi=>fi (c=(none,lo,hi)) (hi<=n) (∀i,i<hi ->Bf i=true) (∀i,hi<=i ->i<n ->Bf i=false)) ?_ ?_ #[rfl,_,_,rfl,by omega,by omega,by omega,λi hi=> ?_,λi hi zY=>Dn (fB - la) i (by omega) zY h4]) ?_);rintro i c fO _ hi ⟨rfl,lo,qZ,rfl,g1,g2,g3,g4,g5⟩;dsimp only;by_cases c1:lo≥qZ;rw[am c1];have:lo=qZ:=by omega
  subst this;show aD #[rfl,_,_,rfl,g2,g4,g5];rw[ak c1];exact aw (hb _ (by omega) _ ?_);cases e:Bf (lo+(qZ - lo) / 2) with
  | true=>simp![cc];show aD #[rfl,_,_,rfl,by omega,g2,by omega,λj hj=>mono j _ (by omega) (by omega) e,g5]
  | false=>simp![aA,bD];show aD #[rfl,_,_,rfl,by omega,by omega,by omega,g4,λj hj Zy=>Dn _ j hj Zy e]
  rintro c fO ⟨rfl,lo,qZ,rfl,g1,g2,g3,g4,g5⟩;have:lo=qZ:=by omega
  subst this;show#[rfl,_,_,rfl,g2,g4,g5];obtain h5 | ⟨h5,h6⟩:=h5;omega;show mono i (fB - f) (by omega) (by omega) h6;rintro c fO ⟨rfl,lo,qZ,rfl,g2,g4,g5⟩;show aD (h _ g2 g4 g5)
def wp_galL (O:Ord less)(L:iI prog w A E s kd a₀ less){st:ZY}{key:lz}{arr:Ub lz}{base n fB:Nat}{Q:gC Nat ->ZY ->Prop}(B:kindOf st=kd)(hk:key∈a₀.toList) (hm: ∀i,i<n ->base+i<arr.size /\ cF arr (base+i)∈a₀.toList) (hh:fB<n) (hs:Sg less arr base (base+n)) (h: ∀k,k<=n ->(∀i,i<k ->less (cF arr (base+i)) key=true) ->(∀i,k<=i ->i<n ->LE less key (cF arr (base+i))) ->Q (some k) st): wpS (model prog w) A E s (LW true key arr base n fB) Q st:=by exact wp_gal0 (λi=>less (cF arr (base+i)) key) hh (λi hi Q' hq=> ?_) (λi j kA hj e=>O.TZ (hs (base+i) (base+j) (by omega) (by omega) (by omega)) e) h;unfold bey;exact aw (wp_elem (hm i hi).1 ?_);simp![cc];show L _ _ _ _ (hm i hi).2 hk B hq
def wp_galR (O:Ord less)(L:iI prog w A E s kd a₀ less){st:ZY}{key:lz}{arr:Ub lz}{base n fB:Nat}{Q:gC Nat ->ZY ->Prop}(B:kindOf st=kd)(hk:key∈a₀.toList) (hm: ∀i,i<n ->base+i<arr.size /\ cF arr (base+i)∈a₀.toList) (hh:fB<n) (hs:Sg less arr base (base+n)) (h: ∀k,k<=n ->(∀i,i<k ->LE less (cF arr (base+i)) key) ->(∀i,k<=i ->i<n ->less key (cF arr (base+i))=true) ->Q (some k) st): wpS (model prog w) A E s (LW false key arr base n fB) Q st:=by exact wp_gal0 (λi=> !less key (cF arr (base+i))) hh (λi hi Q' hq=> ?_) (λi j kA hj e=> ?_) (λk h1 h2 h3=>h k h1 (λi hi=> ?_) λi h4 h5=> ?_);unfold bey;exact aw (wp_elem (hm i hi).1 ?_);simp![aA,bD];show aw (L _ _ _ _ hk (hm i hi).2 B (aD hq));simp![Bool.not_eq_true'] at e ⊢;show O.trans _ _ _ (hs (base+i) (base+j) (by omega) (by omega) (by omega)) e;have:=h2 i hi;simp![Bool.not_eq_true'] at this;show this;have:=h3 i h4 h5;simpa using this
end
structure MI (less:Keyed ->Keyed ->Bool)(al bl o:List Keyed)(i j:Nat):Prop where
 pm:o.Perm (al.take i++bl.take j)
 so:o.Pairwise (LE less)
 ba: ∀x∈o, ∀y∈al.drop i,LE less x y
 bb: ∀x∈o, ∀y∈bl.drop j,LE less x y
section
variable {less:lz ->lz ->Bool}{al bl o:c_ lz}{i j:Nat}
theorem MI.swap (h:MI less al bl o i j):MI less bl al o j i:=#[h.pm.trans dO,h.so,h.bb,h.ba]
def take_add {α:Type}(l:c_ α)(i k:Nat):l.take (i+k)=l.take i++(l.drop i).take k:=by rw[List.take_add]
def MI.Ml (h:MI less al bl o i j)(sa:al.Pairwise (LE less))(k:Nat)(hk: ∀x∈(al.drop i).take k, ∀y∈bl.drop j,LE less x y):MI less al bl (o++(al.drop i).take k) (i+k) j:=by
 have sd:(al.drop i).Pairwise (LE less):=sa.sublist (List.drop_sublist _ _);have e:(al.drop i).take k++al.drop (i+k)=al.drop i:=by rw[<- List.drop_drop,bH]
 have OW:=sd;rw[<- e,di] at OW;exact#[?_,?_,?_,?_];rw[take_add,bV];exact(h.pm.append_right _).trans ?_;rw[bV];show List.Perm.append_left _ dO;rw[di];show#[h.so,OW.1,λx hx y hy=>h.ba x hx y (List.mem_of_mem_take hy)];intro x hx y hy;obtain hx | hx:=bh.mp hx;show h.ba x hx y (by rw[<- e];show aW _ hy);show OW.2.2 x hx y hy;intro x hx y hy;obtain hx | hx:=bh.mp hx;show h.bb x hx y hy;show hk x hx y hy
def MI.fin (h:MI less al bl o i j)(sa:al.Pairwise (LE less))(sb:bl.Pairwise (LE less))(hk: ∀x∈bl.drop j, ∀y∈al.drop i,LE less x y):(o++bl.drop j++al.drop i).Perm (al++bl) /\ (o++bl.drop j++al.drop i).Pairwise (LE less):=by
 symm;rw[bV];exact(h.pm.append_right _).trans ?_;have e1:(al++bl).Perm ((al.take i++al.drop i)++(bl.take j++bl.drop j)):=by rw[bH,bH]
 exact List.Perm.trans ?_ e1.symm;rw[bV,bV];exact List.Perm.append_left _ ?_;rw[<- bV];show dO;rw[di,di];exact#[#[h.so,sb.sublist (List.drop_sublist _ _),h.bb],sa.sublist (List.drop_sublist _ _),λx hx y hy=> ?_];obtain hx | hx:=bh.mp hx;show h.ba x hx y hy;show hk x hx y hy
structure MH (less:Keyed ->Keyed ->Bool)(al bl t:List Keyed)(i j:Nat):Prop where
 pm:t.Perm (al.drop i++bl.drop j)
 so:t.Pairwise (LE less)
 ba: ∀x∈t, ∀y∈al.take i,LE less y x
 bb: ∀x∈t, ∀y∈bl.take j,LE less y x
theorem MH.swap {t:c_ lz}(h:MH less al bl t i j):MH less bl al t j i:=#[h.pm.trans dO,h.so,h.bb,h.ba]
def MH.Ml {t:c_ lz}(h:MH less al bl t i j)(sa:al.Pairwise (LE less)){k:Nat}(UF:k<=i)(hk: ∀x∈(al.take i).drop k, ∀y∈bl.take j,LE less y x):MH less al bl ((al.take i).drop k++t) k j:=by
 have sd:(al.take i).Pairwise (LE less):=sa.sublist (List.take_sublist _ _);have e0:(al.take i).take k=al.take k:=by rw[List.take_take,Nat.min_eq_left UF]
 have e:al.take k++(al.take i).drop k=al.take i:=by rw[<- e0,bH]
 have OW:=sd;rw[<- e,di] at OW;have e3:al.drop k=(al.take i).drop k++al.drop i:=by
  have:=bH i al;have e4:al.drop k=(al.take i++al.drop i).drop k:=by rw[this]
  rw[e4];by_cases c:i<=al.length;rw[List.drop_append_of_le_length (by rw[bU];lia)];have z:al.drop i= []:=List.drop_eq_nil_of_le ∅;rw[z,c8,c8]
 exact#[?_,?_,?_,?_];rw[e3,bV];show List.Perm.append_left _ h.pm;rw[di];show#[OW.2.1,h.so,λx hx y hy=>h.ba y hy x (by rw[<- e];show aW _ hx)];intro x hx y hy;obtain hx | hx:=bh.mp hx;show OW.2.2 y hy x hx;show h.ba x hx y (by rw[<- e];show List.mem_append_left _ hy);intro x hx y hy;obtain hx | hx:=bh.mp hx;show hk x hx y hy;show h.bb x hx y hy
def MH.fin {t:c_ lz}(h:MH less al bl t i j)(sa:al.Pairwise (LE less))(sb:bl.Pairwise (LE less))(hk: ∀x∈al.take i, ∀y∈bl.take j,LE less x y):(al.take i++bl.take j++t).Perm (al++bl) /\ (al.take i++bl.take j++t).Pairwise (LE less):=by
 symm;exact(List.Perm.append_left _ h.pm).trans ?_;have e1:(al++bl).Perm ((al.take i++al.drop i)++(bl.take j++bl.drop j)):=by rw[bH,bH]
 exact List.Perm.trans ?_ e1.symm;rw[bV,bV];exact List.Perm.append_left _ ?_;rw[<- bV, <- bV];show List.Perm.append_right _ dO;rw[di,di];exact#[#[sa.sublist (List.take_sublist _ _),sb.sublist (List.take_sublist _ _),hk],h.so,λx hx y hy=> ?_];obtain hx | hx:=bh.mp hx;show h.ba y hy x hx;show h.bb y hy x hx
end
abbrev R5:=gC (Ub lz)×Ub lz×Nat×Nat×Nat
abbrev R6:=gC (Ub lz)×Ub lz×Nat×Nat×Nat×Nat
abbrev R7:=gC (Ub lz)×Ub lz×Nat×Nat×Nat×Nat×Nat
section
variable (a b:Ub lz)
abbrev Ko (o:Ub lz)(i j:Nat):Ub lz:=o++a.extract i a.size++b.extract j b.size
abbrev Rj (o:Ub lz)(i j:Nat):Ub lz:=o++b.extract j b.size++a.extract i a.size
def Pw (mg:Nat)(o:Ub lz)(i j ac bc:Nat):StateT ZY Sem (ForInStep R6):=do
 let x <- elem' b j
 let y <- elem' a i
 let g <- lt' x y
 match g with
 | some g=>
  if g=true then do
   let x <- elem' b j
   if(j+1==b.size)=true then pure (.done (some (Ko a b (o.push x) i (j+1)),o.push x,i,j+1,0,bc+1))
   else if bc+1≥mg then pure (.done (none,o.push x,i,j+1,0,bc+1))
   else pure (.yield (none,o.push x,i,j+1,0,bc+1))
  else do
   let x <- elem' a i
   if(i+1+1==a.size)=true then pure (.done (some (Rj a b (o.push x) (i+1) j),o.push x,i+1,j,ac+1,0))
   else if ac+1≥mg then pure (.done (none,o.push x,i+1,j,ac+1,0))
   else pure (.yield (none,o.push x,i+1,j,ac+1,0))
 | _=>pure (.done (some (Ko a b o i j),o,i,j,ac,bc))
def Wf (mg ac bc:Nat)(o:Ub lz)(i j:Nat):StateT ZY Sem (ForInStep R7):=do
 let x <- elem' a i
 if(i+1+1==a.size)=true then pure (.done (some (Rj a b (o.push x) (i+1) j),o.push x,i+1,j,mg,ac,bc))
 else if(decide (ac<7) && decide (bc<7))=true then pure (.done (none,o.push x,i+1,j,mg,ac,bc))
 else pure (.yield (none,o.push x,i+1,j,mg,ac,bc))
def Wh (mg ac bc:Nat)(o:Ub lz)(i j:Nat):StateT ZY Sem (ForInStep R7):=do
 let x <- elem' b j
 if(j+1==b.size)=true then pure (.done (some (Ko a b (o.push x) i (j+1)),o.push x,i,j+1,mg,ac,bc))
 else do
  let y <- elem' a i
  let r <- LW true y b (j+1) (b.size - (j+1)) 0
  match r with
  | some k=>
   if k >0 then
    if(j+1+k==b.size)=true then pure (.done (some (Ko a b (o.push x++b.extract (j+1) (j+1+k)) i (j+1+k)),o.push x++b.extract (j+1) (j+1+k),i,j+1+k,mg,ac,k))
    else Wf a b mg ac k (o.push x++b.extract (j+1) (j+1+k)) i (j+1+k)
   else Wf a b mg ac k (o.push x) i (j+1)
  | _=>pure (.done (some (Ko a b (o.push x) i (j+1)),o.push x,i,j+1,mg,ac,bc))
def Wj (mg ac bc:Nat)(o:Ub lz)(i j:Nat):StateT ZY Sem (ForInStep R7):=do
 modify λs=>cT s mg
 let x <- elem' b j
 let r <- LW false x a i (a.size - i) 0
 match r with
 | some k=>
  if k >0 then
   if(i+k+1==a.size)=true then pure (.done (some (Rj a b (o++a.extract i (i+k)) (i+k) j),o++a.extract i (i+k),i+k,j,mg,k,bc))
   else if(i+k==a.size)=true then pure (.done (some (Ko a b (o++a.extract i (i+k)) (i+k) j),o++a.extract i (i+k),i+k,j,mg,k,bc))
   else Wh a b mg k bc (o++a.extract i (i+k)) (i+k) j
  else Wh a b mg k bc o i j
 | _=>pure (.done (some (Ko a b o i j),o,i,j,mg,ac,bc))
def Tu (c:R5):StateT ZY Sem (ForInStep R5):=do
 let d <- forIn [:a.size+b.size] ((none,c.2.1,c.2.2.1,c.2.2.2.1,0,0):R6) λ_ d=>Pw a b c.2.2.2.2 d.2.1 d.2.2.1 d.2.2.2.1 d.2.2.2.2.1 d.2.2.2.2.2
 match d.1 with
 | some r=>pure (.done (some r,d.2.1,d.2.2.1,d.2.2.2.1,c.2.2.2.2))
 | none=>do
  liftM (rule "list.sort.gallop")
  let e <- forIn [:a.size+b.size] ((none,d.2.1,d.2.2.1,d.2.2.2.1,c.2.2.2.2+1,d.2.2.2.2.1,d.2.2.2.2.2):R7) λ_ e=>if e.2.2.2.2.1 >1 then Wj a b (e.2.2.2.2.1 - 1) e.2.2.2.2.2.1 e.2.2.2.2.2.2 e.2.1 e.2.2.1 e.2.2.2.1 else Wj a b e.2.2.2.2.1 e.2.2.2.2.2.1 e.2.2.2.2.2.2 e.2.1 e.2.2.1 e.2.2.2.1
  match e.1 with
  | some r=>pure (.done (some r,e.2.1,e.2.2.1,e.2.2.2.1,e.2.2.2.2.1))
  | none=>do
   modify λs=>cT s (e.2.2.2.2.1+1)
   pure (.yield (none,e.2.1,e.2.2.1,e.2.2.2.1,e.2.2.2.2.1+1))
end
def w_ {σ α β:Type}{m:StateT σ Sem α}{f g:α ->StateT σ Sem β}(h: ∀x,f x=g x):(m >>=f)=(m >>=g):=by rw[funext h]
def FG {σ α β:Type}{m m':StateT σ Sem α}{f g:α ->StateT σ Sem β}(e:m=m')(h: ∀x,f x=g x):(m >>=f)=(m' >>=g):=by rw[e,funext h]
def Fi {α:Sort _}{c:Prop} [Decidable c]{x y x' y':α}(h:x=x')(h':y=y'):(if c then x else y)=(if c then x' else y'):=by rw[h,h']
def Fq {σ β:Type}{r:Std.Legacy.Range}{c:β}{f g:Nat ->β ->StateT σ Sem (ForInStep β)}(h: ∀i c,f i c=g i c):forIn r c f=forIn r c g:=by rw[funext λi=>funext (h i)]
section
variable (a b:Ub lz)
theorem E7:YI a b=(do
  liftM (rule "list.sort.merge-lo")
  let x <- elem' b 0
  if(1==b.size)=true then pure (Ko a b #[x] 0 1)
  else if(0+1==a.size)=true then pure (Rj a b #[x] 0 1)
  else do
   let g <- get
   let c <- forIn [:a.size+b.size] ((none, #[x],0,1,gallopOf g):R5) λ_ c=>Tu a b c
   match c.1 with
   | some r=>pure r
   | none=>unsupported "internal:list.sort.merge-bound"):=by
 exact w_ λ_=>w_ λx=> ?_
 exact Fi rfl (Fi rfl (w_ λg=>FG (Fq λ_ c=> ?_) λc=> ?_))
 exact FG (Fq λ_ d=>rfl) λd=> ?_
 let⟨r,d⟩:=d
 cases r with
 | some r=>rfl
 | none =>
  exact w_ λ_=>FG (Fq λ_ e=> ?_) λe=> ?_;exact Fi ?_ ?_<;>
  .refine w_ λ_=>w_ λx=>w_ λr=> ?_;cases r with
   | none=>rfl
   | some k=>
    exact Fi (Fi rfl (Fi rfl ?_)) ?_<;>
    .exact w_ λy=>Fi rfl (w_ λz=>w_ λr=> ?_);cases r<;>rfl
  let⟨r,e⟩:=e;cases r<;>rfl
 let⟨r,c⟩:=c
 cases r<;>rfl
abbrev Kp (o:Ub lz)(i j:Nat):Ub lz:=a.extract 0 i++b.extract 0 j++o.reverse
abbrev Rx (o:Ub lz)(i j:Nat):Ub lz:=b.extract 0 j++a.extract 0 i++o.reverse
def OI (mg:Nat)(i j:Nat)(o:Ub lz)(ac bc:Nat):StateT ZY Sem (ForInStep (gC (Ub lz)×Nat×Nat×Ub lz×Nat×Nat)):=do
 let x <- elem' b (j - 1)
 let y <- elem' a (i - 1)
 let g <- lt' x y
 match g with
 | some g=>
  if g=true then do
   let x <- elem' a (i - 1)
   if(i - 1==0)=true then pure (.done (some (Kp a b (o.push x) (i - 1) j),i - 1,j,o.push x,ac+1,0))
   else if ac+1≥mg then pure (.done (none,i - 1,j,o.push x,ac+1,0))
   else pure (.yield (none,i - 1,j,o.push x,ac+1,0))
  else do
   let x <- elem' b (j - 1)
   if(j - 1==1)=true then pure (.done (some (Rx a b (o.push x) i (j - 1)),i,j - 1,o.push x,0,bc+1))
   else if bc+1≥mg then pure (.done (none,i,j - 1,o.push x,0,bc+1))
   else pure (.yield (none,i,j - 1,o.push x,0,bc+1))
 | _=>pure (.done (some (Kp a b o i j),i,j,o,ac,bc))
abbrev S7:=gC (Ub lz)×Nat×Nat×Ub lz×Nat×Nat×Nat
def Wg (mg ac bc:Nat)(i j:Nat)(o:Ub lz):StateT ZY Sem (ForInStep S7):=do
 let x <- elem' a (i - 1)
 if(i - 1==0)=true then pure (.done (some (Kp a b (o.push x) (i - 1) j),i - 1,j,o.push x,mg,ac,bc))
 else if(decide (ac<7) && decide (bc<7))=true then pure (.done (none,i - 1,j,o.push x,mg,ac,bc))
 else pure (.yield (none,i - 1,j,o.push x,mg,ac,bc))
def Wi (mg ac bc:Nat)(i j:Nat)(o:Ub lz):StateT ZY Sem (ForInStep S7):=do
 let x <- elem' b (j - 1)
 if(j - 1==1)=true then pure (.done (some (Rx a b (o.push x) i (j - 1)),i,j - 1,o.push x,mg,ac,bc))
 else do
  let y <- elem' a (i - 1)
  let r <- LW true y b 0 (j - 1) (j - 1 - 1)
  match r with
  | some k=>
   if j - 1 - k >0 then
    if(k==1)=true then pure (.done (some (Rx a b (o.push x++(b.extract k (j - 1)).reverse) i k),i,k,o.push x++(b.extract k (j - 1)).reverse,mg,ac,j - 1 - k))
    else if(k==0)=true then pure (.done (some (Kp a b (o.push x++(b.extract k (j - 1)).reverse) i k),i,k,o.push x++(b.extract k (j - 1)).reverse,mg,ac,j - 1 - k))
    else Wg a b mg ac (j - 1 - k) i k (o.push x++(b.extract k (j - 1)).reverse)
   else Wg a b mg ac (j - 1 - k) i (j - 1) (o.push x)
  | _=>pure (.done (some (Kp a b (o.push x) i (j - 1)),i,j - 1,o.push x,mg,ac,bc))
def Wl (mg ac bc:Nat)(i j:Nat)(o:Ub lz):StateT ZY Sem (ForInStep S7):=do
 modify λs=>cT s mg
 let x <- elem' b (j - 1)
 let r <- LW false x a 0 i (i - 1)
 match r with
 | some k=>
  if i - k >0 then
   if(k==0)=true then pure (.done (some (Kp a b (o++(a.extract k i).reverse) k j),k,j,o++(a.extract k i).reverse,mg,i - k,bc))
   else Wi a b mg (i - k) bc k j (o++(a.extract k i).reverse)
  else Wi a b mg (i - k) bc i j o
 | _=>pure (.done (some (Kp a b o i j),i,j,o,mg,ac,bc))
abbrev S5:=gC (Ub lz)×Nat×Nat×Ub lz×Nat
def Tv (c:S5):StateT ZY Sem (ForInStep S5):=do
 let d <- forIn [:a.size+b.size] ((none,c.2.1,c.2.2.1,c.2.2.2.1,0,0):gC (Ub lz)×Nat×Nat×Ub lz×Nat×Nat) λ_ d=>OI a b c.2.2.2.2 d.2.1 d.2.2.1 d.2.2.2.1 d.2.2.2.2.1 d.2.2.2.2.2
 match d.1 with
 | some r=>pure (.done (some r,d.2.1,d.2.2.1,d.2.2.2.1,c.2.2.2.2))
 | none=>do
  liftM (rule "list.sort.gallop")
  let e <- forIn [:a.size+b.size] ((none,d.2.1,d.2.2.1,d.2.2.2.1,c.2.2.2.2+1,d.2.2.2.2.1,d.2.2.2.2.2):S7) λ_ e=>if e.2.2.2.2.1 >1 then Wl a b (e.2.2.2.2.1 - 1) e.2.2.2.2.2.1 e.2.2.2.2.2.2 e.2.1 e.2.2.1 e.2.2.2.1 else Wl a b e.2.2.2.2.1 e.2.2.2.2.2.1 e.2.2.2.2.2.2 e.2.1 e.2.2.1 e.2.2.2.1
  match e.1 with
  | some r=>pure (.done (some r,e.2.1,e.2.2.1,e.2.2.2.1,e.2.2.2.2.1))
  | none=>do
   modify λs=>cT s (e.2.2.2.2.1+1)
   pure (.yield (none,e.2.1,e.2.2.1,e.2.2.2.1,e.2.2.2.2.1+1))
theorem E8:YJ a b=(do
  liftM (rule "list.sort.merge-hi")
  let x <- elem' a (a.size - 1)
  if(a.size - 1==0)=true then pure (Kp a b #[x] (a.size - 1) b.size)
  else if(b.size==1)=true then pure (Rx a b #[x] (a.size - 1) b.size)
  else do
   let g <- get
   let c <- forIn [:a.size+b.size] ((none,a.size - 1,b.size, #[x],gallopOf g):S5) λ_ c=>Tv a b c
   match c.1 with
   | some r=>pure r
   | none=>unsupported "internal:list.sort.merge-bound"):=by
 exact w_ λ_=>w_ λx=> ?_
 exact Fi rfl (Fi rfl (w_ λg=>FG (Fq λ_ c=> ?_) λc=> ?_))
 exact FG (Fq λ_ d=>rfl) λd=> ?_
 let⟨r,d⟩:=d
 cases r with
 | some r=>rfl
 | none =>
  exact w_ λ_=>FG (Fq λ_ e=> ?_) λe=> ?_;exact Fi ?_ ?_<;>
  .refine w_ λ_=>w_ λx=>w_ λr=> ?_;cases r with
   | none=>rfl
   | some k=>
    exact Fi (Fi rfl ?_) ?_<;>
    .exact w_ λy=>Fi rfl (w_ λz=>w_ λr=> ?_);cases r<;>rfl
  let⟨r,e⟩:=e;cases r<;>rfl
 let⟨r,c⟩:=c
 cases r<;>rfl
end
def gI {xs:Ub lz}{i:Nat}(h:i<xs.size):xs.toList[i]? =some (cF xs i):=by rw[<- Jz h];simp
def Ft {xs:Ub lz}{i:Nat}(h:i<xs.size):xs.toList.drop i=cF xs i::xs.toList.drop (i+1):=by have h':i<xs.toList.length:= ⇑h;have e:=gI h;rw[aF h'] at e;rw[List.drop_eq_getElem_cons h',bq e]
def yU {xs:Ub lz}{i:Nat}(h:i<xs.size):(xs.toList.drop i).take 1= [cF xs i]:=by rw[Ft h];rfl
def iY {xs:Ub lz}{i:Nat}{y:lz}(h:y∈xs.toList.drop i): ∃k,cS (i<=k) (k<xs.size) (y=cF xs k):=by let⟨n,hn⟩:=List.mem_iff_getElem?.mp h;rw[List.getElem?_drop] at hn;have hl:=(bv.mp hn).1;have qY:i+n<xs.size:= ⇑hl;rw[gI qY] at hn;show#[i+n, ∅,qY,(bq hn).symm]
def xp {xs:Ub lz}{i k:Nat}{y:lz}(h:y∈(xs.toList.drop i).take k): ∃n,fi (i<=n) (n<i+k) (n<xs.size) (y=cF xs n):=by let⟨n,hn⟩:=List.mem_iff_getElem?.mp h;rw[List.getElem?_take] at hn;split at hn;rename_i hk;rw[List.getElem?_drop] at hn;have hl:=(bv.mp hn).1;have qY:i+n<xs.size:= ⇑hl;rw[gI qY] at hn;show#[i+n, ∅, ∅,qY,(bq hn).symm];cases hn
def mW {less:lz ->lz ->Bool}(O:Ord less){xs:Ub lz}(h:xs.toList.Pairwise (LE less)){i j:Nat}(kA:i<=j)(hj:j<xs.size):LE less (cF xs i) (cF xs j):=by
 by_cases c:i=j;subst c;show O.refl _;rw[List.pairwise_iff_getElem] at h;have qZ:i<xs.toList.length:=by simp;lia
 have Qp:j<xs.toList.length:= ⇑hj;have:=h i j qZ Qp ∅;have e1:=gI (xs:=xs) (i:=i) ∅;have e2:=gI hj;rw[aF qZ] at e1;rw[aF Qp] at e2;rwa [bq e1,bq e2] at this
theorem xw {less:lz ->lz ->Bool}(O:Ord less){xs:Ub lz}(h:xs.toList.Pairwise (LE less)){i n:Nat}(hn:i+n<=xs.size):Sg less xs i (i+n):=λx y _ Wz hy=>mW O h Wz ∅
def Ad (xs:Ub lz)(i k:Nat):(xs.extract i (i+k)).toList=(xs.toList.drop i).take k:=by rw[Array.toList_extract,List.extract_eq_take_drop];congr 1;lia
def sY (xs:Ub lz)(i:Nat):(xs.extract i xs.size).toList=xs.toList.drop i:=by rw[Array.toList_extract,List.extract_eq_take_drop];show List.take_of_length_le (by simp)
section
variable {prog:Y1}{w:ZW}{A:Z0}{E:dC ->gw ->Prop}{s:gw}{kd:SortKind}{a₀:Ub lz}{less:lz ->lz ->Bool}
structure xh (less:Keyed ->Keyed ->Bool)(a₀ a b:Array Keyed):Prop where
 sa:a.toList.Pairwise (LE less)
 sb:b.toList.Pairwise (LE less)
 ma: ∀i,i<a.size ->cF a i∈a₀.toList
 mb: ∀i,i<b.size ->cF b i∈a₀.toList
 na:1<=a.size
 nb:1<=b.size
 h0:less (cF b 0) (cF a 0)=true
 hl: ∀j,j<b.size ->less (cF b j) (cF a (a.size - 1))=true
def u8 (less:lz ->lz ->Bool)(a b r:Ub lz):Prop:=r.toList.Perm (a.toList++b.toList) /\ r.toList.Pairwise (LE less)
structure JL (less:Keyed ->Keyed ->Bool)(a b o:Array Keyed)(i j:Nat):Prop where
 mi:MI less a.toList b.toList o.toList i j
 hi:i+1<a.size
 hj:j<b.size
variable {a b:Ub lz}
def xD (T:xh less a₀ a b){o:Ub lz}{i j:Nat}(h:MI less a.toList b.toList o.toList i j)(hj:b.size<=j \/ a.size<=i):u8 less a b (Ko a b o i j):=by
 unfold u8 Ko;rw[bX,bX,sY,sY];have:=h.swap.fin T.sb T.sa λx hx y hy=>by obtain hj | hj:=hj;let⟨k,h1,h2,_⟩:=iY hy;lia;let⟨k,h1,h2,_⟩:=iY hx;lia
 show#[this.1.trans dO,this.2]
def xC (O:Ord less)(T:xh less a₀ a b){o:Ub lz}{i j:Nat}(h:MI less a.toList b.toList o.toList i j)(hi:i+1=a.size):u8 less a b (Rj a b o i j):=by unfold u8 Rj;rw[bX,bX,sY,sY];exact h.fin T.sa T.sb λx hx y hy=> ?_;let⟨k,h1,h2,rfl⟩:=iY hx;let⟨k',WY,N9,rfl⟩:=iY hy;rw[show k'=a.size - 1 by lia];show O.le (T.hl k h2)
def Bp (O:Ord less)(T:xh less a₀ a b){o:Ub lz}{i j:Nat}(h:MI less a.toList b.toList o.toList i j)(hj:j<b.size)(hc:i<a.size ->LE less (cF b j) (cF a i)):MI less a.toList b.toList (o.push (cF b j)).toList i (j+1):=by have:=(h.swap.Ml T.sb 1 λx hx y hy=>by rw[yU hj] at hx;rw[bn.mp hx];let⟨k,h1,h2,rfl⟩:=iY hy;show O.trans _ _ _ (hc ∅) (mW O T.sa h1 h2)).swap;rw[yU hj] at this;rwa [Array.toList_push]
def Hk (O:Ord less)(T:xh less a₀ a b){o:Ub lz}{i j:Nat}(h:MI less a.toList b.toList o.toList i j)(hi:i<a.size)(hc:j<b.size ->LE less (cF a i) (cF b j)):MI less a.toList b.toList (o.push (cF a i)).toList (i+1) j:=by
 have:=h.Ml T.sa 1 λx hx y hy=>by rw[yU hi] at hx;rw[bn.mp hx];let⟨k,h1,h2,rfl⟩:=iY hy;show O.trans _ _ _ (hc ∅) (mW O T.sb h1 h2)
 rw[yU hi] at this;rwa [Array.toList_push]
def QV (less:lz ->lz ->Bool)(a b:Ub lz)(st:ZY)(N:Nat)(r:ForInStep R7)(bI:ZY):Prop:=(∃g,bI=cT st g) /\ ((cE λx c=>r= .done (some x,c) /\ u8 less a b x) \/ (gm λo i j c=>cS (r= .done (none,o,i,j,c) \/ r= .yield (none,o,i,j,c)) (JL less a b o i j) (N<=i+j)))
def wp_p3L (O:Ord less)(T:xh less a₀ a b){st bI:ZY}{mg ac bc N:Nat}{o:Ub lz}{i j:Nat}(hg: ∃g,bI=cT st g)(J:JL less a b o i j)(hc:LE less (cF a i) (cF b j))(hN:N<=i+j):wpS (model prog w) A E s (Wf a b mg ac bc o i j) (QV less a b st N) bI:=by
 unfold Wf;have hi:=J.hi;exact aw (wp_elem ∅ ?_);have m:=Hk O T J.mi ∅ λ_=>hc;by_cases c:i+1+1=a.size;rw[am ⇑c];show aD #[hg, .inl #[_,_,rfl,xC O T m c]];rw[ak ⇑c];have J':JL less a b (o.push (cF a i)) (i+1) j:=#[m, ∅,J.hj]
 split;show aD #[hg, .inr #[_,_,_,_, .inl rfl,J', ∅]];show aD #[hg, .inr #[_,_,_,_, .inr rfl,J', ∅]]
def wp_p2L (O:Ord less)(L:iI prog w A E s kd a₀ less)(T:xh less a₀ a b){st bI:ZY}{mg ac bc N:Nat}{o:Ub lz}{i j:Nat}(hk:kindOf bI=kd)(hg: ∃g,bI=cT st g)(J:JL less a b o i j)(hc:less (cF b j) (cF a i)=true)(hN:N<=i+j):wpS (model prog w) A E s (Wh a b mg ac bc o i j) (QV less a b st N) bI:=by
 unfold Wh;have hi:=J.hi;have hj:=J.hj;exact aw (wp_elem hj ?_);have m:=Bp O T J.mi hj λ_=>O.le hc;by_cases c:j+1=b.size;rw[am ⇑c];show aD #[hg, .inl #[_,_,rfl,xD T m (.inl ∅)]];rw [ak ⇑c];exact aw (wp_elem ∅ ?_);exact aw (wp_galL O L hk (T.ma i ∅) (λk hk=>#[∅,T.mb _ ∅]) ∅ (xw O T.sb ∅) λk h1 h2 h3=> ?_);dsimp only;by_cases ck:k >0;rw[am ck];have m2:MI less a.toList b.toList (o.push (cF b j)++b.extract (j+1) (j+1+k)).toList i (j+1+k):=by rw[bX,Ad];exact(m.swap.Ml T.sb k λx hx y hy=> ?_).swap;let⟨n,n1,n2,n3,rfl⟩:=xp hx;let⟨k',k1,k2,rfl⟩:=iY hy;have:=h2 (n - (j+1)) ∅;rw[show j+1+(n - (j+1))=n by lia] at this;show O.trans _ _ _ (O.le this) (mW O T.sa k1 k2)
 by_cases c2:j+1+k=b.size;rw[am ⇑c2];show aD #[hg, .inl #[_,_,rfl,xD T m2 (.inl ∅)]];rw[ak ⇑c2];show wp_p3L O T hg #[m2,hi, ∅] (h3 k (aq _) ∅) ∅;rw[ak ck];have:k=0:= ∅;subst this;show wp_p3L O T hg #[m,hi, ∅] (h3 0 (aq _) ∅) ∅
def wp_p1L (O:Ord less)(L:iI prog w A E s kd a₀ less)(T:xh less a₀ a b){st bI:ZY}{mg ac bc N:Nat}{o:Ub lz}{i j:Nat}(hk:kindOf st=kd)(hg: ∃g,bI=cT st g)(J:JL less a b o i j)(hN:N<=i+j):wpS (model prog w) A E s (Wj a b mg ac bc o i j) (QV less a b st N) bI:=by
 unfold Wj;have hi:=J.hi;have hj:=J.hj;exact aw (wpS_modify ?_);have nL: ∃g,cT bI mg=cT st g:=by let⟨g,rfl⟩:=hg;show#[mg,rfl]
 have A4:kindOf (cT bI mg)=kd:=by let⟨g,rfl⟩:=hg;show hk
 exact aw (wp_elem hj ?_);exact aw (wp_galR O L A4 (T.mb j hj) (λk hk=>#[∅,T.ma _ ∅]) ∅ (xw O T.sa ∅) λk h1 h2 h3=> ?_);dsimp only;have hkl:i+k<a.size:=by by_cases c:i+k<a.size;show c;have:=h2 (a.size - 1 - i) ∅;rw[show i+(a.size - 1 - i)=a.size - 1 by lia] at this;unfold LE at this;rw[T.hl j hj] at this;cases this
 have N2:=h3 k (aq _) ∅;by_cases ck:k >0;rw[am ck];have m2:MI less a.toList b.toList (o++a.extract i (i+k)).toList (i+k) j:=by rw[bX,Ad];exact J.mi.Ml T.sa k λx hx y hy=> ?_;let⟨n,n1,n2,n3,rfl⟩:=xp hx;let⟨k',k1,k2,rfl⟩:=iY hy;have:=h2 (n - i) ∅;rw[show i+(n - i)=n by lia] at this;show O.trans _ _ _ this (mW O T.sb k1 k2)
 by_cases c2:i+k+1=a.size;rw[am ⇑c2];show aD #[nL, .inl #[_,_,rfl,xC O T m2 c2]];rw[ak ⇑c2,ak (by simp;lia)];show wp_p2L O L T A4 nL #[m2, ∅,hj] N2 ∅;rw[ak ck];have:k=0:= ∅;subst this;show wp_p2L O L T A4 nL J N2 hN
def wp_one1 (O:Ord less)(L:iI prog w A E s kd a₀ less)(T:xh less a₀ a b){bI:ZY}{mg ac bc:Nat}{o:Ub lz}{i j:Nat}{Q:ForInStep R6 ->ZY ->Prop}(hk:kindOf bI=kd)(J:JL less a b o i j) (h1: ∀x c,u8 less a b x ->Q (.done (some x,c)) bI) (h2: ∀o i' j' c,JL less a b o i' j' ->i'+j'=i+j+1 ->Q (.done (none,o,i',j',c)) bI /\ Q (.yield (none,o,i',j',c)) bI): wpS (model prog w) A E s (Pw a b mg o i j ac bc) Q bI:=by
 unfold Pw;have hi:=J.hi;have hj:=J.hj;exact aw (wp_elem hj (aw (wp_elem ∅ (aw (L _ _ _ _ (T.mb j hj) (T.ma i ∅) hk ?_)))));dsimp only;cases e:less (cF b j) (cF a i) with
 | true=>simp![cc];exact aw (wp_elem hj ?_);have m:=Bp O T J.mi hj λ_=>O.le e;by_cases c:j+1=b.size;rw[am ⇑c];show aD (h1 _ _ (xD T m (.inl ∅)));rw[ak ⇑c];have:=h2 _ i (j+1) (0,bc+1) #[m,hi, ∅] ∅;split;show aD this.1;show aD this.2
 | false=>simp![aA,bD];exact aw (wp_elem ∅ ?_);have m:=Hk O T J.mi ∅ λ_=>e;by_cases c:i+1+1=a.size;rw[am ⇑c];show aD (h1 _ _ (xC O T m c));rw[ak ⇑c];have:=h2 _ (i+1) j (ac+1,0) #[m, ∅,hj] ∅;split;show aD this.1;show aD this.2
def wp_mLo (O:Ord less)(L:iI prog w A E s kd a₀ less)(T:xh less a₀ a b){st:ZY}{Q:Ub lz ->ZY ->Prop}(hk:kindOf st=kd)(h: ∀r g,u8 less a b r ->Q r (cT st g)):wpS (model prog w) A E s (YI a b) Q st:=by
 rw[E7];have na:=T.na;have nb:=T.nb;exact aw (wpS_lift (wpAny_rule #[rfl,?_]));exact aw (wp_elem ∅ ?_);have h': ∀r,u8 less a b r ->Q r st:=λr hr=>h r (gallopOf st) hr;have m:MI less a.toList b.toList (#[cF b 0]:Ub lz).toList 0 1:=by
  have m0:MI less a.toList b.toList (#[]:Ub lz).toList 0 0:=#[by simp,by simp,by simp,by simp]
  show Bp O T m0 ∅ λ_=>O.le T.h0
 by_cases c:1=b.size;rw[am ⇑c];show aD (h' _ (xD T m (.inl ∅)));rw[ak ⇑c];by_cases c2:0+1=a.size;rw[am ⇑c2];show aD (h' _ (xC O T m c2));rw[ak ⇑c2];exact aw (wpS_get ?_);exact aw (wpS_mono (cy (I:=λn c bI=>(∃g,bI=cT st g) /\ gm λo i j mg=>cS (c=(none,o,i,j,mg)) (JL less a b o i j) (n+1<=i+j)) (Q:=λc bI=>(∃g,bI=cT st g) /\ cE λx d=>c=(some x,d) /\ u8 less a b x) ?_ ?_ #[#[gallopOf st,rfl],_,0,1,_,rfl,#[m, ∅, ∅], ∅]) ?_)
 .rintro n c bI _ hn ⟨hg,o,i,j,mg,rfl,J,hN⟩;unfold Tu;dsimp only;have A4:kindOf bI=kd:=by let⟨g,rfl⟩:=hg;show hk
  exact aw (wpS_mono (cy (I:=λx c n9=>n9=bI /\ gm λo' i' j' d=>cS (c=(none,o',i',j',d)) (JL less a b o' i' j') (i'+j'=i+j+x)) (Q:=λc n9=>n9=bI /\ ((cE λx d=>c=(some x,d) /\ u8 less a b x) \/ gm λo' i' j' d=>cS (c=(none,o',i',j',d)) (JL less a b o' i' j') (i+j+1<=i'+j'))) ?_ ?_ #[rfl,o,i,j,_,rfl,J,rfl]) ?_);rintro x c n9 _ hx ⟨rfl,o',i',j',⟨ac,bc⟩,rfl,J',N8⟩;dsimp only;exact wp_one1 O L T A4 J' (λx c hr=>#[rfl, .inl #[x,c,rfl,hr]]) λo2 i2 j2 c J2 h2=>#[#[rfl, .inr #[o2,i2,j2,c,rfl,J2, ∅]],#[rfl,o2,i2,j2,c,rfl,J2, ∅]]
  rintro c n9 ⟨rfl,o',i',j',d,rfl,J',N8⟩;show#[rfl, .inr #[o',i',j',d,rfl,J', ∅]]
  .rintro c n9 ⟨rfl,⟨x,d,rfl,hr⟩ | ⟨o',i',j',⟨ac,bc⟩,rfl,J',N8⟩⟩;show aD #[hg,x,_,rfl,hr]
   .dsimp only;exact aw (wpS_lift (wpAny_rule #[rfl,?_]));exact aw (wpS_mono (cy (I:=λx c vm=>(∃g,vm=cT st g) /\ gm λo' i' j' d=>cS (c=(none,o',i',j',d)) (JL less a b o' i' j') (i+j+1<=i'+j')) (Q:=λc vm=>(∃g,vm=cT st g) /\ ((cE λx d=>c=(some x,d) /\ u8 less a b x) \/ gm λo' i' j' d=>cS (c=(none,o',i',j',d)) (JL less a b o' i' j') (i+j+1<=i'+j'))) ?_ ?_ #[hg,o',i',j',_,rfl,J',N8]) ?_)
    .rintro x c vm _ hx ⟨Fm,o3,i3,j3,⟨YH,ac3,bc3⟩,rfl,J3,jd⟩;dsimp only;split;all_goals
      exact wpS_mono (wp_p1L O L T hk Fm J3 jd) ?_
      rintro r fP ⟨Qq,⟨x,c,rfl,hr⟩ | ⟨o,i,j,c,rfl | rfl,J4,h4⟩⟩
      show#[Qq, .inl #[x,c,rfl,hr]]
      show#[Qq, .inr #[o,i,j,c,rfl,J4,h4]]
      show#[Qq,o,i,j,c,rfl,J4,h4]
    rintro c vm ⟨Fm,o3,i3,j3,d,rfl,J3,jd⟩;show#[Fm, .inr #[o3,i3,j3,d,rfl,J3,jd]];rintro c vm ⟨Fm,⟨x,d,rfl,hr⟩ | ⟨o3,i3,j3,⟨YH,ac3,bc3⟩,rfl,J3,jd⟩⟩;show aD #[Fm,x,_,rfl,hr];dsimp only;exact aw (wpS_modify (aD #[?_,o3,i3,j3,_,rfl,J3, ∅]));let⟨g,rfl⟩:=Fm;show#[_,rfl]
 rintro c bI ⟨hg,o,i,j,mg,rfl,J,hN⟩;have:=J.hi;have:=J.hj;lia;rintro c bI ⟨⟨g,rfl⟩,x,d,rfl,hr⟩;show aD (h x g hr)
end
def vV {xs:Ub lz}{i:Nat}{y:lz}(h:y∈xs.toList.take i): ∃n,cS (n<i) (n<xs.size) (y=cF xs n):=by let⟨n,hn⟩:=List.mem_iff_getElem?.mp h;rw[List.getElem?_take] at hn;split at hn;have hl:=(bv.mp hn).1;have qY:n<xs.size:= ⇑hl;rw[gI qY] at hn;show#[n, ∅,qY,(bq hn).symm];cases hn
def CF {xs:Ub lz}{i k:Nat}{y:lz}(h:y∈(xs.toList.take i).drop k): ∃n,fi (k<=n) (n<i) (n<xs.size) (y=cF xs n):=by rw[List.drop_take] at h;let⟨n,h1,h2,h3,e⟩:=xp h;show#[n,h1, ∅,h3,e]
def V7 {xs:Ub lz}{i:Nat}(h0:1<=i)(h:i<=xs.size):(xs.toList.take i).drop (i - 1)= [cF xs (i - 1)]:=by rw[List.drop_take,show i - (i - 1)=1 by lia,yU ∅]
def nO (xs:Ub lz)(k i:Nat):(xs.extract k i).toList=(xs.toList.take i).drop k:=by rw[Array.toList_extract,List.extract_eq_take_drop,List.drop_take]
def Ea (xs:Ub lz)(i:Nat):(xs.extract 0 i).toList=xs.toList.take i:=by rw[nO,List.drop_zero]
section
variable {prog:Y1}{w:ZW}{A:Z0}{E:dC ->gw ->Prop}{s:gw}{kd:SortKind}{a₀:Ub lz}{less:lz ->lz ->Bool}
structure JH (less:Keyed ->Keyed ->Bool)(a b o:Array Keyed)(i j:Nat):Prop where
 mi:MH less a.toList b.toList o.toList.reverse i j
 hi:1<=i
 hj:2<=j
 ia:i<=a.size
 jb:j<=b.size
variable {a b:Ub lz}
def ot (T:xh less a₀ a b){o:Ub lz}{i j:Nat}(h:MH less a.toList b.toList o.toList.reverse i j)(hj:i=0 \/ j=0):u8 less a b (Kp a b o i j):=by unfold u8 Kp;rw[bX,bX,Ea,Ea,Array.toList_reverse];exact h.fin T.sa T.sb λx hx y hy=> ?_;obtain hj | hj:=hj;subst hj;simp at hx;subst hj;simp at hy
def sP (O:Ord less)(T:xh less a₀ a b){o:Ub lz}{i j:Nat}(h:MH less a.toList b.toList o.toList.reverse i j)(hj:j=1):u8 less a b (Rx a b o i j):=by
 unfold u8 Rx;rw[bX,bX,Ea,Ea,Array.toList_reverse];have:=h.swap.fin T.sb T.sa λx hx y hy=>by let⟨n,n1,n2,rfl⟩:=vV hx;let⟨k,k1,k2,rfl⟩:=vV hy;rw[show n=0 by lia];show O.trans _ _ _ (O.le T.h0) (mW O T.sa (dh _) k2)
 show#[this.1.trans dO,this.2]
def xI (O:Ord less)(T:xh less a₀ a b){o:Ub lz}{i j:Nat}(h:MH less a.toList b.toList o.toList.reverse i j)(h1:1<=i)(hi:i<=a.size)(hj:j<=b.size)(hc:1<=j ->LE less (cF b (j - 1)) (cF a (i - 1))):MH less a.toList b.toList (o.push (cF a (i - 1))).toList.reverse (i - 1) j:=by
 have:=h.Ml T.sa (k:=i - 1) ∅ λx hx y hy=>by rw[V7 h1 hi] at hx;rw[bn.mp hx];let⟨k,k1,k2,rfl⟩:=vV hy;show O.trans _ _ _ (mW O T.sb (show k<=j - 1 by lia) ∅) (hc ∅)
 rw[V7 h1 hi] at this;rw[Array.toList_push,List.reverse_append];show this
def C8 (O:Ord less)(T:xh less a₀ a b){o:Ub lz}{i j:Nat}(h:MH less a.toList b.toList o.toList.reverse i j)(h1:1<=j)(hi:i<=a.size)(hj:j<=b.size)(hc:1<=i ->LE less (cF a (i - 1)) (cF b (j - 1))):MH less a.toList b.toList (o.push (cF b (j - 1))).toList.reverse i (j - 1):=by have:=(h.swap.Ml T.sb (k:=j - 1) ∅ λx hx y hy=>by rw[V7 h1 hj] at hx;rw[bn.mp hx];let⟨k,k1,k2,rfl⟩:=vV hy;show O.trans _ _ _ (mW O T.sa (show k<=i - 1 by lia) ∅) (hc ∅)).swap;rw[V7 h1 hj] at this;rw[Array.toList_push,List.reverse_append];show this
def CZ (o x:Ub lz):(o++x.reverse).toList.reverse=x.toList++o.toList.reverse:=by rw[bX,Array.toList_reverse,List.reverse_append,List.reverse_reverse]
def QU (less:lz ->lz ->Bool)(a b:Ub lz)(st:ZY)(N:Nat)(r:ForInStep S7)(bI:ZY):Prop:=(∃g,bI=cT st g) /\ ((cE λx c=>r= .done (some x,c) /\ u8 less a b x) \/ (gm λi j o c=>cS (r= .done (none,i,j,o,c) \/ r= .yield (none,i,j,o,c)) (JH less a b o i j) (i+j<=N)))
def wp_p3H (O:Ord less)(T:xh less a₀ a b){st bI:ZY}{mg ac bc N:Nat}{o:Ub lz}{i j:Nat}(hg: ∃g,bI=cT st g)(J:JH less a b o i j)(hc:LE less (cF b (j - 1)) (cF a (i - 1)))(hN:i+j<=N):wpS (model prog w) A E s (Wg a b mg ac bc i j o) (QU less a b st N) bI:=by
 unfold Wg;have hi:=J.hi;have ia:=J.ia;exact aw (wp_elem ∅ ?_);have m:=xI O T J.mi J.hi J.ia J.jb λ_=>hc;by_cases c:i - 1=0;rw[am ⇑c];show aD #[hg, .inl #[_,_,rfl,ot T m (.inl c)]];rw[ak ⇑c];have J':JH less a b (o.push (cF a (i - 1))) (i - 1) j:=#[m, ∅,J.hj, ∅,J.jb]
 split;show aD #[hg, .inr #[_,_,_,_, .inl rfl,J', ∅]];show aD #[hg, .inr #[_,_,_,_, .inr rfl,J', ∅]]
def wp_p2H (O:Ord less)(L:iI prog w A E s kd a₀ less)(T:xh less a₀ a b){st bI:ZY}{mg ac bc N:Nat}{o:Ub lz}{i j:Nat}(hk:kindOf bI=kd)(hg: ∃g,bI=cT st g)(J:JH less a b o i j)(hc:LE less (cF a (i - 1)) (cF b (j - 1)))(hN:i+j<=N):wpS (model prog w) A E s (Wi a b mg ac bc i j o) (QU less a b st N) bI:=by
 unfold Wi;have hi:=J.hi;have hj:=J.hj;have ia:=J.ia;have jb:=J.jb;exact aw (wp_elem ∅ ?_);have m:=C8 O T J.mi ∅ ia jb λ_=>hc;by_cases c:j - 1=1;rw[am ⇑c];show aD #[hg, .inl #[_,_,rfl,sP O T m c]];rw [ak ⇑c];exact aw (wp_elem ∅ ?_);have sg:=xw O T.sb (i:=0) (n:=j - 1) ∅;exact aw (wp_galL O L hk (T.ma (i - 1) ∅) (λk hk=>#[∅,T.mb _ ∅]) ∅ sg λk h1 h2 h3=> ?_);dsimp only;simp![Nat.zero_add] at h2 h3;by_cases ck:j - 1 - k >0;rw[am ck];have m2:MH less a.toList b.toList (o.push (cF b (j - 1))++(b.extract k (j - 1)).reverse).toList.reverse i k:=by rw[CZ,nO];exact(m.swap.Ml T.sb ∅ λx hx y hy=> ?_).swap;let⟨n,n1,n2,n3,rfl⟩:=CF hx;let⟨k',k1,k2,rfl⟩:=vV hy;show O.trans _ _ _ (mW O T.sa (show k'<=i - 1 by lia) ∅) (h3 n n1 n2)
 by_cases c2:k=1;rw[am ⇑c2];show aD #[hg, .inl #[_,_,rfl,sP O T m2 c2]];rw[ak ⇑c2];by_cases c3:k=0;rw[am ⇑c3];show aD #[hg, .inl #[_,_,rfl,ot T m2 (.inr c3)]];rw[ak ⇑c3];show wp_p3H O T hg #[m2,hi, ∅,ia, ∅] (O.le (h2 (k - 1) ∅)) ∅;rw[ak ck];show wp_p3H O T hg #[m,hi, ∅,ia, ∅] (O.le (h2 (j - 1 - 1) ∅)) ∅
def wp_p1H (O:Ord less)(L:iI prog w A E s kd a₀ less)(T:xh less a₀ a b){st bI:ZY}{mg ac bc N:Nat}{o:Ub lz}{i j:Nat}(hk:kindOf st=kd)(hg: ∃g,bI=cT st g)(J:JH less a b o i j)(hN:i+j<=N):wpS (model prog w) A E s (Wl a b mg ac bc i j o) (QU less a b st N) bI:=by
 unfold Wl;have hi:=J.hi;have hj:=J.hj;have ia:=J.ia;have jb:=J.jb;exact aw (wpS_modify ?_);have nL: ∃g,cT bI mg=cT st g:=by let⟨g,rfl⟩:=hg;show#[mg,rfl]
 have A4:kindOf (cT bI mg)=kd:=by let⟨g,rfl⟩:=hg;show hk
 exact aw (wp_elem ∅ ?_);have sg:=xw O T.sa (i:=0) (n:=i) ∅;exact aw (wp_galR O L A4 (T.mb (j - 1) ∅) (λk hk=>#[∅,T.ma _ ∅]) ∅ sg λk h1 h2 h3=> ?_);dsimp only;simp![Nat.zero_add] at h2 h3;by_cases ck:i - k >0;rw[am ck];have m2:MH less a.toList b.toList (o++(a.extract k i).reverse).toList.reverse k j:=by rw[CZ,nO];exact J.mi.Ml T.sa ∅ λx hx y hy=> ?_;let⟨n,n1,n2,n3,rfl⟩:=CF hx;let⟨k',k1,k2,rfl⟩:=vV hy;show O.trans _ _ _ (mW O T.sb (show k'<=j - 1 by lia) ∅) (O.le (h3 n n1 n2))
 by_cases c2:k=0;rw[am ⇑c2];show aD #[nL, .inl #[_,_,rfl,ot T m2 (.inl c2)]];rw[ak ⇑c2];show wp_p2H O L T A4 nL #[m2, ∅,hj, ∅,jb] (h2 (k - 1) ∅) ∅;rw[ak ck];show wp_p2H O L T A4 nL J (h2 (i - 1) ∅) hN
def wp_two1 (O:Ord less)(L:iI prog w A E s kd a₀ less)(T:xh less a₀ a b){bI:ZY}{mg ac bc:Nat}{o:Ub lz}{i j:Nat}{Q:ForInStep (gC (Ub lz)×Nat×Nat×Ub lz×Nat×Nat) ->ZY ->Prop}(hk:kindOf bI=kd)(J:JH less a b o i j) (h1: ∀x c,u8 less a b x ->Q (.done (some x,c)) bI) (h2: ∀i' j' o c,JH less a b o i' j' ->i'+j'+1=i+j ->Q (.done (none,i',j',o,c)) bI /\ Q (.yield (none,i',j',o,c)) bI): wpS (model prog w) A E s (OI a b mg i j o ac bc) Q bI:=by
 unfold OI;have hi:=J.hi;have hj:=J.hj;have ia:=J.ia;have jb:=J.jb;exact aw (wp_elem ∅ (aw (wp_elem ∅ (aw (L _ _ _ _ (T.mb (j - 1) ∅) (T.ma (i - 1) ∅) hk ?_)))));dsimp only;cases e:less (cF b (j - 1)) (cF a (i - 1)) with
 | true=>simp![cc];exact aw (wp_elem ∅ ?_);have m:=xI O T J.mi hi ia jb λ_=>O.le e;by_cases c:i - 1=0;rw[am ⇑c];show aD (h1 _ _ (ot T m (.inl c)));rw[ak ⇑c];have:=h2 (i - 1) j _ (ac+1,0) #[m, ∅,hj, ∅,jb] ∅;split;show aD this.1;show aD this.2
 | false=>simp![aA,bD];exact aw (wp_elem ∅ ?_);have m:=C8 O T J.mi ∅ ia jb λ_=>e;by_cases c:j - 1=1;rw[am ⇑c];show aD (h1 _ _ (sP O T m c));rw[ak ⇑c];have:=h2 i (j - 1) _ (0,bc+1) #[m,hi, ∅,ia, ∅] ∅;split;show aD this.1;show aD this.2
def wp_mHi (O:Ord less)(L:iI prog w A E s kd a₀ less)(T:xh less a₀ a b){st:ZY}{Q:Ub lz ->ZY ->Prop}(hk:kindOf st=kd)(h: ∀r g,u8 less a b r ->Q r (cT st g)):wpS (model prog w) A E s (YJ a b) Q st:=by
 rw[E8];have na:=T.na;have nb:=T.nb;exact aw (wpS_lift (wpAny_rule #[rfl,?_]));exact aw (wp_elem ∅ ?_);have h': ∀r,u8 less a b r ->Q r st:=λr hr=>h r (gallopOf st) hr;have m:MH less a.toList b.toList (#[cF a (a.size - 1)]:Ub lz).toList.reverse (a.size - 1) b.size:=by
  have m0:MH less a.toList b.toList (#[]:Ub lz).toList.reverse a.size b.size:=#[by simp,by simp,by simp,by simp]
  show xI O T m0 ∅ (aq _) (aq _) λ_=>O.le (T.hl _ ∅)
 by_cases c:a.size - 1=0;rw[am ⇑c];show aD (h' _ (ot T m (.inl c)));rw[ak ⇑c];by_cases c2:b.size=1;rw[am ⇑c2];show aD (h' _ (sP O T m c2));rw[ak ⇑c2];exact aw (wpS_get ?_);exact aw (wpS_mono (cy (I:=λn c bI=>(∃g,bI=cT st g) /\ gm λi j o mg=>cS (c=(none,i,j,o,mg)) (JH less a b o i j) (i+j+n<a.size+b.size)) (Q:=λc bI=>(∃g,bI=cT st g) /\ cE λx d=>c=(some x,d) /\ u8 less a b x) ?_ ?_ #[#[gallopOf st,rfl],_,_,_,_,rfl,#[m, ∅, ∅, ∅, ∅], ∅]) ?_)
 .rintro n c bI _ hn ⟨hg,i,j,o,mg,rfl,J,hN⟩;unfold Tv;dsimp only;have A4:kindOf bI=kd:=by let⟨g,rfl⟩:=hg;show hk
  exact aw (wpS_mono (cy (I:=λx c n9=>n9=bI /\ gm λi' j' o' d=>cS (c=(none,i',j',o',d)) (JH less a b o' i' j') (i'+j'+x=i+j)) (Q:=λc n9=>n9=bI /\ ((cE λx d=>c=(some x,d) /\ u8 less a b x) \/ gm λi' j' o' d=>cS (c=(none,i',j',o',d)) (JH less a b o' i' j') (i'+j'+1<=i+j))) ?_ ?_ #[rfl,i,j,o,_,rfl,J,rfl]) ?_);rintro x c n9 _ hx ⟨rfl,i',j',o',⟨ac,bc⟩,rfl,J',N8⟩;dsimp only;exact wp_two1 O L T A4 J' (λx c hr=>#[rfl, .inl #[x,c,rfl,hr]]) λi2 j2 o2 c J2 h2=>#[#[rfl, .inr #[i2,j2,o2,c,rfl,J2, ∅]],#[rfl,i2,j2,o2,c,rfl,J2, ∅]]
  rintro c n9 ⟨rfl,i',j',o',d,rfl,J',N8⟩;show#[rfl, .inr #[i',j',o',d,rfl,J', ∅]]
  .rintro c n9 ⟨rfl,⟨x,d,rfl,hr⟩ | ⟨i',j',o',⟨ac,bc⟩,rfl,J',N8⟩⟩;show aD #[hg,x,_,rfl,hr]
   .dsimp only;exact aw (wpS_lift (wpAny_rule #[rfl,?_]));exact aw (wpS_mono (cy (I:=λx c vm=>(∃g,vm=cT st g) /\ gm λi' j' o' d=>cS (c=(none,i',j',o',d)) (JH less a b o' i' j') (i'+j'+1<=i+j)) (Q:=λc vm=>(∃g,vm=cT st g) /\ ((cE λx d=>c=(some x,d) /\ u8 less a b x) \/ gm λi' j' o' d=>cS (c=(none,i',j',o',d)) (JH less a b o' i' j') (i'+j'+1<=i+j))) ?_ ?_ #[hg,i',j',o',_,rfl,J',N8]) ?_)
    .rintro x c vm _ hx ⟨Fm,i3,j3,o3,⟨YH,ac3,bc3⟩,rfl,J3,jd⟩;dsimp only;split;all_goals
      exact wpS_mono (wp_p1H O L T (N:=i+j - 1) hk Fm J3 ∅) ?_
      rintro r fP ⟨Qq,⟨x,c,rfl,hr⟩ | ⟨i4,j4,o4,c,rfl | rfl,J4,h4⟩⟩
      show#[Qq, .inl #[x,c,rfl,hr]]
      show#[Qq, .inr #[i4,j4,o4,c,rfl,J4, ∅]]
      show#[Qq,i4,j4,o4,c,rfl,J4, ∅]
    rintro c vm ⟨Fm,i3,j3,o3,d,rfl,J3,jd⟩;show#[Fm, .inr #[i3,j3,o3,d,rfl,J3,jd]];rintro c vm ⟨Fm,⟨x,d,rfl,hr⟩ | ⟨i3,j3,o3,⟨YH,ac3,bc3⟩,rfl,J3,jd⟩⟩;show aD #[Fm,x,_,rfl,hr];dsimp only;exact aw (wpS_modify (aD #[?_,i3,j3,o3,_,rfl,J3, ∅]));let⟨g,rfl⟩:=Fm;show#[_,rfl]
 rintro c bI ⟨hg,i,j,o,mg,rfl,J,hN⟩;have:=J.hi;have:=J.hj;lia;rintro c bI ⟨⟨g,rfl⟩,x,d,rfl,hr⟩;show aD (h x g hr)
end
def Cu (xs:Ub lz)(at_:Nat)(l:c_ (lz×Nat)):Ub lz:=l.foldl (λa (p,j)=>a.setIfInBounds (at_+j) p) xs
theorem A9 (at_ n:Nat): ∀ (ms:c_ lz) (k:Nat) (xs:Ub lz),at_+k+ms.length<=xs.size ->(Cu xs at_ (ms.zipIdx k))[n]? =if at_+k<=n /\ n<at_+k+ms.length then ms[n - (at_+k)]? else xs[n]?
 | [],k,xs,h=>by rw[ak (by simp)];rfl
 | p ::ms,k,xs,h=>by rw[az] at h;change(Cu (xs.setIfInBounds (at_+k) p) at_ (ms.zipIdx (k+1)))[n]? =_;rw[A9 at_ n ms (k+1) _ (by rw[Array.size_setIfInBounds];lia)];rw[az];by_cases c:n=at_+k;subst c;rw[ak ∅,am ∅,Array.getElem?_setIfInBounds_self_of_lt ∅];simp;rw[Array.getElem?_setIfInBounds_ne (dy c)];by_cases c2:at_+(k+1) <=n /\ n<at_+(k+1)+ms.length;rw[am c2,am ∅,show n - (at_+k)=(n - (at_+(k+1)))+1 by lia,List.getElem?_cons_succ];rw[ak c2,ak ∅]
def Go {xs:Ub lz}{at_:Nat}{ms:c_ lz}(h:at_+ms.length<=xs.size):(Cu xs at_ ms.zipIdx).toList=xs.toList.take at_++(ms++xs.toList.drop (at_+ms.length)):=by
 apply List.ext_getElem?;intro n;have e:=A9 at_ n ms 0 xs ∅;rw[Nat.add_zero] at e;have e':(Cu xs at_ ms.zipIdx).toList[n]? =(Cu xs at_ ms.zipIdx)[n]? :=by simp
 rw[e',e];have hx: ∀k:Nat,xs.toList[k]? =xs[k]? :=λk=>Array.getElem?_toList ..;by_cases c1:n<at_;rw[ak ∅,bi (by rw[bU];simp;lia),List.getElem?_take,am c1,hx];have lt:(xs.toList.take at_).length=at_:=by rw[bU];simp;lia
 rw[a9 ∅,lt];by_cases c2:n<at_+ms.length;rw[am ∅,bi ∅];rw[ak ∅,a9 ∅,List.getElem?_drop,hx];congr 1;lia
def So (l:c_ lz)(i j k:Nat)(kA:i<=j)(hjk:j<=k)(hk:k<=l.length):l=l.take i++((l.take j).drop i++((l.take k).drop j++l.drop k)):=by
 have e1:(l.take k).drop j++l.drop k=l.drop j:=by rw[List.drop_take];have:=bH (k - j) (l.drop j);rw[List.drop_drop,show j+(k - j)=k by lia] at this;show this
 have e2:(l.take j).drop i++l.drop j=l.drop i:=by rw[List.drop_take];have:=bH (j - i) (l.drop i);rw[List.drop_drop,show i+(j - i)=j by lia] at this;show this
 rw[e1,e2,bH]
def I_ {less:lz ->lz ->Bool}(O:Ord less){xs:Ub lz}{i j lo hi:Nat}(h:Sg less xs lo hi)(h1:lo<=i)(h2:j<=hi)(h3:hi<=xs.size):(xs.extract i j).toList.Pairwise (LE less):=by
 rw[List.pairwise_iff_getElem];intro x y hx hy Wz;have e: ∀n (hn:n< (xs.extract i j).toList.length),(xs.extract i j).toList[n]=cF xs (i+n):=λn hn=>by
  have zW:n< (xs.extract i j).size:=by rw[dH] at hn;show hn
  rw[Array.size_extract] at zW;unfold cF;rw[getElem?_pos xs (i+n) ∅];simp
 rw[e x hx,e y hy];have hy':y< (xs.extract i j).size:=by rw[dH] at hy;show hy
 rw[Array.size_extract] at hy';show h _ _ ∅ ∅ ∅
def mG {xs:Ub lz}{i j n:Nat}(h:n< (xs.extract i j).size):cF (xs.extract i j) n=cF xs (i+n):=by unfold cF;rw[Array.size_extract] at h;rw[Array.getElem?_extract,am ∅]
section
variable {prog:Y1}{w:ZW}{A:Z0}{E:dC ->gw ->Prop}{s:gw}{kd:SortKind}{a₀:Ub lz}{less:lz ->lz ->Bool}
abbrev Rn:=Nat×Nat×Nat
theorem PM (i:Nat):mergeAt' i=(do
 let s <- get
 let (some (sa,na,pw),some (sb,nb,_)):=((pendingOf s)[i]?,(pendingOf s)[i+1]?) | unsupported "internal:list.sort.pending"
 set (setPending s (((pendingOf s).setIfInBounds i (sa,na+nb,pw)).eraseIdxIfInBounds (i+1)))
 let some k <- LW false (<- elem' (arrOf s) sb) (arrOf s) sa na 0 | return false
 let (sa,na):=(sa+k,na - k)
 if na==0 then return true
 let some nb <- LW true (<- elem' (arrOf s) (sa+na - 1)) (arrOf s) sb nb (nb - 1) | return false
 if nb==0 then return true
 let x:=(arrOf s).extract sa sb
 let y:=(arrOf s).extract sb (sb+nb)
 let r <- if na<=nb then YI x y else YJ x y
 modify λs=>setArr s (Cu (arrOf s) sa r.toList.zipIdx)
 return(failedOf (<- get)).isNone):=rfl
def Kw {σ:Type}{M:Model}{v:σ}{Q:PUnit ->σ ->Prop}{st:σ}(h:Q ⟨⟩ v):wpS M A E s (set v:StateT σ Sem PUnit) Q st:=by unfold wpS;rw[StateT.run_set];show a7 #[rfl,h]
def wp_mAt (O:Ord less)(L:iI prog w A E s kd a₀ less){st:ZY}{Q:Bool ->ZY ->Prop}{l1 l2:c_ Rn}{sa na pw sb nb Ym i:Nat}(B:SB kd a₀ st)(hp:pendingOf st=(l1++(sa,na,pw)::(sb,nb,Ym)::l2).toArray)(hi:i=l1.length) (Us:sb=sa+na) (h1:1<=na) (h2:1<=nb) (hz:sb+nb<=a₀.size) (s1:Sg less (arrOf st) sa sb) (s2:Sg less (arrOf st) sb (sb+nb)) (h: ∀bI,SB kd a₀ bI ->pendingOf bI=(l1++(sa,na+nb,pw)::l2).toArray ->Sg less (arrOf bI) sa (sb+nb) ->sG sa (sb+nb) (arrOf st) (arrOf bI) ->Q true bI):wpS (model prog w) A E s (mergeAt' i) Q st:=by
 subst hi;rw[PM];exact aw (wpS_get ?_);have p1:(pendingOf st)[l1.length]? =some (sa,na,pw):=by rw[hp];simp
 have p2:(pendingOf st)[l1.length+1]? =some (sb,nb,Ym):=by rw[hp];simp[a9]
 rw[p1,p2];dsimp only;exact aw (Kw ?_);have hpd:((pendingOf st).setIfInBounds l1.length (sa,na+nb,pw)).eraseIdxIfInBounds (l1.length+1)=(l1++(sa,na+nb,pw)::l2).toArray:=by rw[hp];simp![List.setIfInBounds_toArray,List.eraseIdxIfInBounds_toArray];congr 1;rw[List.set_append_right _ _ (aq _),Nat.sub_self,List.set_cons_zero];rw[List.eraseIdx_append_of_length_le ∅,show l1.length+1 - l1.length=1 by lia];rfl
 rw[hpd];let EH:ZY:=setPending st (l1++(sa,na+nb,pw)::l2).toArray
 have B1:SB kd a₀ EH:=#[B.perm,B.kd,B.fl]
 have hsz:=B.size;change wpS _ _ _ _ _ Q EH;exact aw (wp_elem ∅ ?_);exact aw (wp_galR O L B.kd (B.mem ∅) (λk hk=>#[∅,B.mem ∅]) ∅ (by rw[<- Us];show s1) λk g1 g2 g3=> ?_);dsimp only;by_cases c1:na - k=0;rw [am ⇑c1];exact aD (h EH B1 rfl (λi j hi kA hj=> ?_) sG.refl);change LE less (cF (arrOf st) i) (cF (arrOf st) j);by_cases c2:j<sb;show s1 i j hi kA c2;by_cases c3:sb<=i;show s2 i j c3 kA hj;have:=g2 (i - sa) ∅;rw[show sa+(i - sa)=i by lia] at this;show O.trans _ _ _ this (s2 sb j (aq _) ∅ hj);rw [ak ⇑c1];exact aw (wp_elem ∅ ?_);rw[show sa+k+(na - k) - 1=sb - 1 by lia];exact aw (wp_galL O L B.kd (B.mem ∅) (λk hk=>#[∅,B.mem ∅]) ∅ s2 λm f1 f2 f3=> ?_);dsimp only;by_cases c2:m=0;rw [am ⇑c2];exact aD (h EH B1 rfl (λi j hi kA hj=> ?_) sG.refl);change LE less (cF (arrOf st) i) (cF (arrOf st) j);by_cases c2:j<sb;show s1 i j hi kA c2;by_cases c3:sb<=i;show s2 i j c3 kA hj;have:=f3 (j - sb) ∅ ∅;rw[show sb+(j - sb)=j by lia] at this;show O.trans _ _ _ (s1 i (sb - 1) hi ∅ ∅) this;rw [ak ⇑c2];have Y4:((arrOf st).extract (sa+k) sb).size=na - k:=by rw[Array.size_extract];lia
 have Y3:((arrOf st).extract sb (sb+m)).size=m:=by rw[Array.size_extract];lia
 have T:xh less a₀ ((arrOf st).extract (sa+k) sb) ((arrOf st).extract sb (sb+m)):=by exact#[I_ O s1 ∅ (aq _) ∅,I_ O s2 (aq _) ∅ ∅,λi hi=> ?_,λi hi=> ?_, ∅, ∅,?_,λj hj=> ?_];rw[mG hi];rw[Y4] at hi;show B.mem ∅;rw[mG hi];rw[Y3] at hi;show B.mem ∅;rw[mG ∅,mG ∅];show g3 k (aq _) ∅;rw[mG hj,mG ∅];rw[Y3] at hj;rw[Y4,show sa+k+(na - k - 1)=sb - 1 by lia];show f2 j hj
 have fin : ∀ (r:Ub lz) (g:Nat),u8 less ((arrOf st).extract (sa+k) sb) ((arrOf st).extract sb (sb+m)) r ->wpS (model prog w) A E s (do modify λs=>setArr s (Cu (arrOf s) (sa+k) r.toList.zipIdx);return(failedOf (<- get)).isNone) Q (cT EH g):=by
  rintro r g ⟨rp,rs⟩;have rl:r.toList.length=sb+m - (sa+k):=by
   rw[rp.length_eq,aJ];have e1:((arrOf st).extract (sa+k) sb).toList.length=na - k:=by rw[dH];show Y4
   have e2:((arrOf st).extract sb (sb+m)).toList.length=m:=by rw[dH];show Y3
   rw[e1,e2];lia
  have wl:=Go (xs:=arrOf st) (at_:=sa+k) (ms:=r.toList) (by rw[rl,hsz];lia);rw[rl,show sa+k+(sb+m - (sa+k))=sb+m by lia] at wl;have wa: ∀n,cF (Cu (arrOf st) (sa+k) r.toList.zipIdx) n=if sa+k<=n /\ n<sb+m then(r.toList[n - (sa+k)]?).getD (.none, .none) else cF (arrOf st) n:=λn=>by have e:=A9 (sa+k) n r.toList 0 (arrOf st) (by rw[rl,hsz];lia);rw[Nat.add_zero,rl,show sa+k+(sb+m - (sa+k))=sb+m by lia] at e;unfold cF;rw[e];split<;>rfl
  have wm: ∀n,sa+k<=n ->n<sb+m -> ∃n',cS (sa+k<=n') (n'<sb+m) (cF (Cu (arrOf st) (sa+k) r.toList.zipIdx) n=cF (arrOf st) n'):=λn n1 n2=>by rw[wa,am #[n1,n2],aF ∅];have hm:=rp.mem_iff.mp (List.getElem_mem (l:=r.toList) (n:=n - (sa+k)) ∅);obtain hm | hm:=bh.mp hm;rw[nO] at hm;let⟨q,q1,q2,q3,e⟩:=CF hm;show#[q,q1, ∅,e];rw[nO] at hm;let⟨q,q1,q2,q3,e⟩:=CF hm;show#[q, ∅,q2,e]
  exact aw (wpS_modify ?_);exact aw (wpS_get (aD ?_));have ef:(failedOf (setArr (cT EH g) (Cu (arrOf (cT EH g)) (sa+k) r.toList.zipIdx))).isNone=true:=by change(failedOf st).isNone=true;rw[B.fl];rfl
  rw[ef];exact h _ #[?_,B.kd,B.fl] rfl (λi j hi kA hj=> ?_) (λn hn=> ?_);change(Cu (arrOf st) (sa+k) r.toList.zipIdx).Perm a₀;exact Array.Perm.trans ?_ B.perm;rw[Array.perm_iff_toList_perm,wl];have e3:=So (arrOf st).toList (sa+k) sb (sb+m) ∅ ∅ (by simp;lia);exact List.Perm.trans ?_ (List.Perm.of_eq e3.symm);exact List.Perm.append_left _ ?_;rw[<- bV];exact List.Perm.append_right _ ?_;rw[nO,nO] at rp;show rp;change LE less (cF (Cu (arrOf st) (sa+k) r.toList.zipIdx) i) (cF (Cu (arrOf st) (sa+k) r.toList.zipIdx) j);have T8: ∀x y,sa<=x ->x<sa+k ->sa+k<=y ->y<sb+nb ->LE less (cF (arrOf st) x) (cF (arrOf st) y):=λx y x1 x2 y1 y2=>by by_cases c:y<sb;show s1 x y x1 ∅ c;have:=g2 (x - sa) ∅;rw[show sa+(x - sa)=x by lia] at this;show O.trans _ _ _ this (s2 sb y (aq _) ∅ y2)
  have YS: ∀x y,sa+k<=x ->x<sb+m ->sb+m<=y ->y<sb+nb ->LE less (cF (arrOf st) x) (cF (arrOf st) y):=λx y x1 x2 y1 y2=>by by_cases c:x<sb;have:=f3 (y - sb) ∅ ∅;rw[show sb+(y - sb)=y by lia] at this;show O.trans _ _ _ (s1 x (sb - 1) ∅ ∅ ∅) this;show s2 x y ∅ ∅ y2
  by_cases i1:i<sa+k;have ei:=wa i;rw[ak ∅] at ei;rw[ei];by_cases j1:j<sa+k;have ej:=wa j;rw[ak ∅] at ej;rw[ej];show s1 i j hi kA ∅;by_cases j2:j<sb+m;let⟨n',n1,n2,e⟩:=wm j ∅ j2;rw[e];show T8 i n' hi i1 n1 ∅;have ej:=wa j;rw[ak ∅] at ej;rw[ej];show T8 i j hi i1 ∅ hj;by_cases i2:i<sb+m;by_cases j2:j<sb+m;rw[wa i,wa j,am ∅,am ∅,aF ∅,aF ∅];by_cases cij:i=j;subst cij;show O.refl _;show List.pairwise_iff_getElem.mp rs _ _ ∅ ∅ ∅;let⟨n',n1,n2,e⟩:=wm i ∅ i2;have ej:=wa j;rw[ak ∅] at ej;rw[e,ej];show YS n' j n1 n2 ∅ hj;have ei:=wa i;have ej:=wa j;rw[ak ∅] at ei ej;rw[ei,ej];show s2 i j ∅ kA hj;change cF (Cu (arrOf st) (sa+k) r.toList.zipIdx) n=_;rw[wa n,ak ∅]
 by_cases c3:na - k<=m;rw[am c3];show aw (wp_mLo O L T B.kd λr g hr=>fin r g hr);rw[ak c3];show aw (wp_mHi O L T B.kd λr g hr=>fin r g hr)
end
def Runs (less:lz ->lz ->Bool)(xs:Ub lz):c_ Rn ->Nat ->Nat ->Prop
 | [],lo,hi=>lo=hi
 | (a,n,_)::r,lo,hi=>a=lo /\ 1<=n /\ Sg less xs lo (lo+n) /\ Runs less xs r (lo+n) hi
section
variable {less:lz ->lz ->Bool}{xs ys:Ub lz}
theorem Runs.le: ∀ {l:c_ Rn} {lo hi:Nat},Runs less xs l lo hi ->lo+l.length<=hi
 | [],lo,hi,h=>Nat.le_of_eq h
 | (a,n,p)::r,lo,hi,h=>by have:=Runs.le h.2.2.2;have:=h.2.1;rw[az];lia
theorem Runs.app: ∀ {l1 l2:c_ Rn} {lo hi:Nat},Runs less xs (l1++l2) lo hi↔ ∃m,Runs less xs l1 lo m /\ Runs less xs l2 m hi
 | [],l2,lo,hi=>#[λh=>#[lo,rfl,h],λ⟨m,e,h⟩=>by cases e;show h]
 | (a,n,p)::r,l2,lo,hi=>by symm;rintro⟨h1,h2,h3,h4⟩;let⟨m,a1,a2⟩:=Runs.app.mp h4;show#[m,#[h1,h2,h3,a1],a2];rintro⟨m,⟨h1,h2,h3,a1⟩,a2⟩;show#[h1,h2,h3,Runs.app.mpr #[m,a1,a2]]
theorem Runs.out {e1 e2:Nat}(o:sG e1 e2 xs ys): ∀ {l:c_ Rn} {lo hi:Nat},(hi<=e1 \/ e2<=lo) ->Runs less xs l lo hi ->Runs less ys l lo hi
 | [],lo,hi,_,h=>h
 | (a,n,p)::r,lo,hi,hc,⟨h1,h2,h3,h4⟩=>by have:=Runs.le h4;exact#[h1,h2,λi j hi kA hj=> ?_,Runs.out o ∅ h4];rw[o i ∅,o j ∅];show h3 i j hi kA hj
theorem G4 {e1 e2 lo hi:Nat}(o:sG e1 e2 xs ys)(hc:hi<=e1 \/ e2<=lo)(h:Sg less xs lo hi):Sg less ys lo hi:=λi j hi kA hj=>by rw[o i ∅,o j ∅];show h i j hi kA hj
def GI {α:Type}{l:c_ α}(h:2<=l.length):eE λl1 x y=>l=l1++ [x,y]:=by exact#[l.take (l.length - 2),l[l.length - 2],l[l.length - 1],?_];have:=bH (l.length - 2) l;rw[List.drop_eq_getElem_cons ∅,List.drop_eq_getElem_cons ∅,List.drop_eq_nil_of_le ∅] at this;have e:l.length - 2+1=l.length - 1:= ∅;simp![e] at this;show this.symm
theorem CM {α:Type}{l:c_ α}(h:l≠ []): ∃l1 x,l=l1++ [x]:=#[l.dropLast,l.getLast h,(List.dropLast_concat_getLast h).symm]
end
section
variable {prog:Y1}{w:ZW}{A:Z0}{E:dC ->gw ->Prop}{s:gw}{kd:SortKind}{a₀:Ub lz}{less:lz ->lz ->Bool}
def zG (l1:c_ Rn)(x:Rn)(f:Rn ->Rn):(l1++ [x]).modify l1.length f=l1++ [f x]:=by
 induction l1 with
 | nil=>rfl
 | cons a l ih=>rw[List.cons_append,az,List.modify_succ_cons,ih];rfl
def wp_mR (O:Ord less)(L:iI prog w A E s kd a₀ less){st:ZY}{Q:Bool ->ZY ->Prop}{l1 l2:c_ Rn}{x y:Rn}{i lo:Nat}(B:SB kd a₀ st)(hp:pendingOf st=(l1++x::y::l2).toArray)(hi:i=l1.length)(hz:lo<=a₀.size)(R:Runs less (arrOf st) (l1++x::y::l2) 0 lo) (h: ∀bI z,SB kd a₀ bI ->pendingOf bI=(l1++z::l2).toArray ->Runs less (arrOf bI) (l1++z::l2) 0 lo ->sG 0 lo (arrOf st) (arrOf bI) ->Q true bI):wpS (model prog w) A E s (mergeAt' i) Q st:=by let⟨sa,na,pw⟩:=x;let⟨sb,nb,Ym⟩:=y;let⟨m,r1,rfl,h1,s1,rfl,h2,s2,r2⟩:=Runs.app.mp R;have Zu:=r2.le;exact wp_mAt O L B hp hi rfl h1 h2 ∅ s1 s2 λbI B' uC s' o'=>h bI _ B' uC ?_ λk hk=>o' k ∅;exact Runs.app.mpr #[_,r1.out o' (.inl (aq _)),rfl, ∅,?_,?_];rw[<- Nat.add_assoc];show s';rw[<- Nat.add_assoc];show r2.out o' (.inr (aq _))
def zj {xs:Ub lz}{l1:c_ Rn}{a n p q lo hi:Nat}(h:Runs less xs (l1++ [(a,n,p)]) lo hi):Runs less xs (l1++ [(a,n,q)]) lo hi:=by let⟨m,r1,h1,h2,h3,h4⟩:=Runs.app.mp h;show Runs.app.mpr #[m,r1,h1,h2,h3,h4]
def wp_sort (O:Ord less)(L:iI prog w A E s kd a₀ less){st:ZY}{Q:Unit ->ZY ->Prop}(B:SB kd a₀ st)(hp0:pendingOf st= #[])(h2:2<=a₀.size) (h: ∀bI,(arrOf bI).Perm a₀ ->failedOf bI=none ->Sg less (arrOf bI) 0 a₀.size ->Q () bI):wpS (model prog w) A E s sortRuns' Q st:=by
 rw[sortRuns'_eq];exact aw (wpS_get ?_);dsimp only;simp![B.size];generalize minRun' a₀.size a₀.size 0=mr;exact aw (wpS_mono (cy (I:=λx c bI=>cE λlo pl=>kQ (c=(none,lo)) (x<=lo) (lo<=a₀.size) (SB kd a₀ bI) (pendingOf bI=pl.toArray) (Runs less (arrOf bI) pl 0 lo)) (Q:=λc bI=> ∃pl,fi (c=(none,a₀.size)) (SB kd a₀ bI) (pendingOf bI=pl.toArray) (Runs less (arrOf bI) pl 0 a₀.size)) ?step ?fin #[0,[],rfl,aq _,dh _,B,hp0,rfl]) ?post);case fin=>
  rintro c bI ⟨lo,pl,rfl,h1,N9,B',hp,R⟩
  have:lo=a₀.size:= ∅
  subst this
  show#[pl,rfl,B',hp,R]
 case step =>
  rintro x c bI _ hx ⟨lo,pl,rfl,h1,N9,B',hp,R⟩
  dsimp only
  by_cases c1:lo≥a₀.size
  rw[am c1]
  have:lo=a₀.size:= ∅
  subst this
  show aD #[pl,rfl,B',hp,R]
  rw[ak c1]
  exact aw (wp_run O L ∅ ∅ B' λm n9 B2 m1 m2 s2 p2 o2=> ?_)
  dsimp only
  have R2:Runs less (arrOf n9) pl 0 lo:=R.out o2 (.inl (aq _))
  by_cases c2:m<mr
  rw [am c2]
  exact aw (wpS_lift (wpAny_rule #[rfl,?_]))
  exact aw (wp_bin O L ∅ ∅ B2 s2 λvm B3 s3 p3 o3=> ?_)
  simp![aX,aA,bD]
  have R3:=R2.out o3 (.inl (aq _))
  have n1:1<=min (a₀.size - lo) mr:= ∅
  have n2:lo+min (a₀.size - lo) mr<=a₀.size:= ∅
  rw[p2,hp] at p3
  clear o3
  revert s3 n1 n2
  generalize min (a₀.size - lo) mr=n
  intro s3 n1 n2
  exact aw (wpS_get ?_)
  cases hb:(pendingOf vm).back? with
  | none=>dsimp only;exact aw (wpS_modify (aD #[lo+n,pl++ [(lo,n,0)],rfl, ∅,n2,#[B3.perm,B3.kd,B3.fl],?_,Runs.app.mpr #[lo,R3,rfl,n1,s3,rfl]]));change(pendingOf vm).push (lo,n,0)=_;rw[p3];simp
  | some q=>
   let⟨s1,PH,p1⟩:=q;dsimp only;have nK:pl≠ []:=λe=>by subst e;rw[p3] at hb;simp at hb
   exact aw (wpS_mono (cy (I:=λ_ c fP=>c=(none,()) /\ ∃pl,gJ (pl≠ []) (SB kd a₀ fP) (Sg less (arrOf fP) lo (lo+n)) (pendingOf fP=pl.toArray) (Runs less (arrOf fP) pl 0 lo)) (Q:=λc fP=>c=(none,()) /\ ∃pl,gJ (pl≠ []) (SB kd a₀ fP) (Sg less (arrOf fP) lo (lo+n)) (pendingOf fP=pl.toArray) (Runs less (arrOf fP) pl 0 lo)) ?_ (λc fP h=>h) #[rfl,pl,nK,B3,s3,p3,R3]) ?_);rintro y c fP _ hy ⟨rfl,xL,ne4,B4,s4,p4,R4⟩;exact aw (wpS_get ?_);by_cases c2:(pendingOf fP).size >1;rw[am c2];have hl:2<=xL.length:=by rw[p4] at c2;simp at c2;lia
   let⟨l1,u,v,e4⟩:=GI hl;have e5:(pendingOf fP).size - 2=l1.length:=by rw[p4,e4];simp
   have e6:(pendingOf fP)[(pendingOf fP).size - 2]? =some u:=by rw[e5,p4,e4];simp
   rw[e6];let⟨u1,u2,u3⟩:=u;dsimp only;split;show aD #[rfl,xL,ne4,B4,s4,p4,R4];subst e4;exact aw (wp_mR O L (l2:= []) B4 p4 e5 ∅ R4 λQ7 z B5 p5 R5 o5=> ?_);simp![aX,aA,bD];show aD #[rfl,_,by simp,B5,G4 o5 (.inr (aq _)) s4,p5,R5];rw[ak c2];show aD #[rfl,xL,ne4,B4,s4,p4,R4];rintro c fP ⟨rfl,xL,ne4,B4,s4,p4,R4⟩;dsimp only;exact aw (wpS_modify (aw (wpS_modify (aD ?_))));let⟨l1,⟨u1,u2,u3⟩,rfl⟩:=CM ne4;exact#[lo+n,(l1++ [(u1,u2,power' a₀.size (2*s1+PH) (2*s1+PH+PH+n) a₀.size)])++ [(lo,n,0)],rfl, ∅,n2,#[B4.perm,B4.kd,B4.fl],?_,Runs.app.mpr #[lo,zj R4,rfl,n1,s4,rfl]];change((pendingOf fP).modify ((pendingOf fP).size - 1) _).push (lo,n,0)=_;rw[p4];simp![List.modify_toArray,List.push_toArray,aM];congr 2;rw[aJ,List.length_singleton,Nat.add_sub_cancel];show zG l1 _ _
  rw [ak c2]
  have s3:=s2
  have n1:=m1
  have n2:lo+m<=a₀.size:= ∅
  have p3:pendingOf n9=pl.toArray:=by rw[p2,hp]
  have B3:=B2
  have R3:=R2
  clear p2 o2 B2 R2 s2 m1 m2 c2
  revert s3 n1 n2
  generalize m=n
  intro s3 n1 n2
  revert p3 B3 R3 s3
  generalize n9=vm
  intro p3 B3 R3 s3
  exact aw (wpS_get ?_)
  cases hb:(pendingOf vm).back? with
  | none=>dsimp only;exact aw (wpS_modify (aD #[lo+n,pl++ [(lo,n,0)],rfl, ∅,n2,#[B3.perm,B3.kd,B3.fl],?_,Runs.app.mpr #[lo,R3,rfl,n1,s3,rfl]]));change(pendingOf vm).push (lo,n,0)=_;rw[p3];simp
  | some q=>
   let⟨s1,PH,p1⟩:=q;dsimp only;have nK:pl≠ []:=λe=>by subst e;rw[p3] at hb;simp at hb
   exact aw (wpS_mono (cy (I:=λ_ c fP=>c=(none,()) /\ ∃pl,gJ (pl≠ []) (SB kd a₀ fP) (Sg less (arrOf fP) lo (lo+n)) (pendingOf fP=pl.toArray) (Runs less (arrOf fP) pl 0 lo)) (Q:=λc fP=>c=(none,()) /\ ∃pl,gJ (pl≠ []) (SB kd a₀ fP) (Sg less (arrOf fP) lo (lo+n)) (pendingOf fP=pl.toArray) (Runs less (arrOf fP) pl 0 lo)) ?_ (λc fP h=>h) #[rfl,pl,nK,B3,s3,p3,R3]) ?_);rintro y c fP _ hy ⟨rfl,xL,ne4,B4,s4,p4,R4⟩;exact aw (wpS_get ?_);by_cases c2:(pendingOf fP).size >1;rw[am c2];have hl:2<=xL.length:=by rw[p4] at c2;simp at c2;lia
   let⟨l1,u,v,e4⟩:=GI hl;have e5:(pendingOf fP).size - 2=l1.length:=by rw[p4,e4];simp
   have e6:(pendingOf fP)[(pendingOf fP).size - 2]? =some u:=by rw[e5,p4,e4];simp
   rw[e6];let⟨u1,u2,u3⟩:=u;dsimp only;split;show aD #[rfl,xL,ne4,B4,s4,p4,R4];subst e4;exact aw (wp_mR O L (l2:= []) B4 p4 e5 ∅ R4 λQ7 z B5 p5 R5 o5=> ?_);simp![aX,aA,bD];show aD #[rfl,_,by simp,B5,G4 o5 (.inr (aq _)) s4,p5,R5];rw[ak c2];show aD #[rfl,xL,ne4,B4,s4,p4,R4];rintro c fP ⟨rfl,xL,ne4,B4,s4,p4,R4⟩;dsimp only;exact aw (wpS_modify (aw (wpS_modify (aD ?_))));let⟨l1,⟨u1,u2,u3⟩,rfl⟩:=CM ne4;exact#[lo+n,(l1++ [(u1,u2,power' a₀.size (2*s1+PH) (2*s1+PH+PH+n) a₀.size)])++ [(lo,n,0)],rfl, ∅,n2,#[B4.perm,B4.kd,B4.fl],?_,Runs.app.mpr #[lo,zj R4,rfl,n1,s4,rfl]];change((pendingOf fP).modify ((pendingOf fP).size - 1) _).push (lo,n,0)=_;rw[p4];simp![List.modify_toArray,List.push_toArray,aM];congr 2;rw[aJ,List.length_singleton,Nat.add_sub_cancel];show zG l1 _ _
 case post =>
  rintro c bI ⟨pl,rfl,B',hp,R⟩
  dsimp only
  have Zu:=R.le
  exact aw (wpS_mono (cy (I:=λx c fP=>c=(none,()) /\ ∃pl,fi (SB kd a₀ fP) (pendingOf fP=pl.toArray) (Runs less (arrOf fP) pl 0 a₀.size) (pl.length<=1 \/ pl.length+x<=a₀.size)) (Q:=λc fP=>c=(none,()) /\ ∃pl,cS (SB kd a₀ fP) (Runs less (arrOf fP) pl 0 a₀.size) (pl.length<=1)) ?_ ?_ #[rfl,pl,B',hp,R, .inr ∅]) ?_)
  rintro x c fP _ hx ⟨rfl,xL,B4,p4,R4,hl⟩
  exact aw (wpS_get ?_)
  have esz:(pendingOf fP).size=xL.length:=by rw[p4];simp
  by_cases c1:(pendingOf fP).size<=1
  rw[am c1]
  show aD #[rfl,xL,B4,R4, ∅]
  rw [ak c1]
  generalize afI:Option.any _ _=cnd
  have mk: ∀k,k+2<=xL.length -> ∀ (Q':ForInStep (gC Unit×Unit) ->ZY ->Prop),(∀bI pl,SB kd a₀ bI ->pendingOf bI=pl.toArray ->Runs less (arrOf bI) pl 0 a₀.size ->(pl.length<=1 \/ pl.length+(x+1) <=a₀.size) ->Q' (.yield (none,())) bI) ->wpS (model prog w) A E s (do
    let b <- mergeAt' k
    if(!b)=true then pure (ForInStep.done ((some (),()):gC Unit×Unit)) else pure (ForInStep.yield (none,()))) Q' fP:=by
   intro k hk Q' hQ
   have e:=bH k xL
   rw[List.drop_eq_getElem_cons ∅,List.drop_eq_getElem_cons ∅] at e
   have A4:(xL.take k).length=k:=by rw[bU];lia
   rw[<- e] at p4 R4
   exact aw (wp_mR O L B4 p4 A4.symm (aq _) R4 λQ7 z B5 p5 R5 o5=> ?_)
   simp![aX,aA,bD]
   exact aD (hQ _ _ B5 p5 R5 (.inr ?_))
   rw[aJ,A4,az,List.length_drop]
   lia
  cases cnd with
  | true=>simp![cc];show mk ((pendingOf fP).size - 2 - 1) ∅ _ λbI pl b1 b2 b3 b4=>#[rfl,pl,b1,b2,b3,b4]
  | false=>simp![aA,bD];show mk ((pendingOf fP).size - 2) ∅ _ λbI pl b1 b2 b3 b4=>#[rfl,pl,b1,b2,b3,b4]
  rintro c fP ⟨rfl,xL,B4,p4,R4,hl⟩
  show#[rfl,xL,B4,R4, ∅]
  rintro c fP ⟨rfl,xL,B4,R4,hl⟩
  exact aD (h _ B4.perm B4.fl ?_)
  match xL,R4,hl with
  | [],R4,_=>show absurd R4 (by change ¬(0=a₀.size);lia)
  | [(u1,u2,u3)],⟨_,_,h3,h4⟩,_=>have h4:0+u2=a₀.size:=h4;rw[h4] at h3;show h3
  | _::_::_,_,hl=>simp at hl
end
def E6 (h:ZX)(a:iW)(vs:c_ dC):ZX:=((h.update a (Obj.mapSeq λ_=> #[])).push (seqObj "tuple" vs.toArray 0)).push (seqObj "list" #[] 0)
def Lw {h:ZX}{a:iW}{vs:c_ dC}{n:Nat}(ho:h.get? a=some (seqObj "list" vs.toArray n)):(E6 h a vs).get? a=some (seqObj "list" #[] (if((#[]:Ub dC)).size==vs.toArray.size then n else n+1)):=by have ha:=aO ho;unfold E6;rw[Heap.get?_push_ne _ _ _ (by rw[size_push',Heap.size_update];show bA (Nat.lt_succ_of_lt ha)),Heap.get?_push_ne _ _ _ (by rw[Heap.size_update];show bA ha)];show get?_update_seq ho (λ_=> #[])
section
variable {prog:Y1}{w:ZW}{A:Z0}{E:dC ->gw ->Prop}{s:gw}
def y9 {a:iW}{vs:c_ dC}{n:Nat}{P:Fin ->gw ->Prop}{kd:SortKind}{less:lz ->lz ->Bool}(O:Ord less)(ho:s.heap.get? a=some (seqObj "list" vs.toArray n))(hsz:vs.length<=sizeLine) (hk:2<=vs.length -> ∀ (Q:SortKind ->gw ->Prop),Q kd {s with heap:=E6 s.heap a vs} ->wpAny (model prog w) A (keyKind' vs.toArray) Q E {s with heap:=E6 s.heap a vs}) (L:iI prog w A E {s with heap:=E6 s.heap a vs} kd (pairsOf vs) less) (h: ∀ (us:c_ dC),us.Perm vs ->us.Pairwise (λx y=>less (y,y) (x,x)=false) ->P (.done (.ret .none)) {s with heap:=sortedHeap s.heap a vs us.toArray}): wpAny (model prog w) A (Builtin.«list.sort» #[[.ref a],[]]) P E s:=by
 rw[list_sort_plain];exact ax (listItems_at ho rfl ?_);exact ax (listUpdate_at ho rfl ?_ (hsz:= ⇑hsz));exact ax (seqEpoch_at (get?_update_seq ho (λ_=> #[])) rfl ?_);exact ax (wpAny_newTuple ?_);exact ax (wpAny_newList ?_);exact wpAny_holding ?_;have WF:=Lw ho;change wpAny (model prog w) A _ P E {s with heap:=E6 s.heap a vs};dsimp only;have fin: ∀xs:Ub lz,xs.Perm (pairsOf vs) ->Sg less xs 0 (pairsOf vs).size ->P (.done (.ret .none)) {s with heap:=sortedHeap s.heap a vs (xs.map (·.2))}:=by
  intro xs hp hs;have hl:xs.toList.Perm (vs.zip vs):=by rw[<- pairsOf_toList];show Array.perm_iff_toList_perm.mp hp
  have Uz: ∀p,p∈xs.toList ->p.1=p.2 /\ p.1∈vs:=λp uC=>mem_zip_self (hl.mem_iff.mp uC);have:=h (xs.toList.map (·.2)) ?_ ?_;have e:(xs.toList.map (·.2)).toArray=xs.map (·.2):=by apply Array.toList_inj.mp;simp
  rwa [e] at this;have h1:=hl.map (λp:lz=>p.2);rwa [List.map_snd_zip (aq _)] at h1;rw[List.pairwise_iff_getElem];intro i j hi hj kA;have qZ:i<xs.size:= ⇑hi;have Qp:j<xs.size:= ⇑hj;have h1:=hs i j (dh _) (Nat.le_of_lt kA) (by rw[<- hp.size_eq];show Qp);have e1:cF xs i=((xs.toList.map (·.2))[i],(xs.toList.map (·.2))[i]):=by rw[List.getElem_map];have hm:=yr qZ;have e:=gI qZ;rw[aF ⇑qZ] at e;have e:=bq e;rw[e];show Prod.ext (Uz _ hm).1 rfl
  have e2:cF xs j=((xs.toList.map (·.2))[j],(xs.toList.map (·.2))[j]):=by rw[List.getElem_map];have hm:=yr Qp;have e:=gI Qp;rw[aF ⇑Qp] at e;have e:=bq e;rw[e];show Prod.ext (Uz _ hm).1 rfl
  rw[e1,e2] at h1;show h1
 have afT:vs.toArray.size=vs.length:=by simp
 by_cases h2:vs.toArray.size<2;rw[am h2,am h2];exact ax (a7 ?_);rw[StateT.run_pure];exact ax (a7 ?_);dsimp only;exact ax (seqEpoch_at WF rfl ?_);exact ax (listUpdate_at WF rfl ?_ (hsz2:=by rw[Array.size_map];change(pairsOf vs).size<=_;rw[pairsOf_size];lia));simp![bne_self_eq_false,aA,bD];exact a7 (fin (pairsOf vs) (Array.Perm.refl _) ?_);intro i j _ kA hj;have:i=j:=by rw[pairsOf_size] at hj;lia
 subst this;show O.refl _;rw[ak h2,ak h2];exact ax (hk ∅ _ ?_);exact ax (bG (wp_sort O L (st:=SortSt.mk' kd (vs.toArray.zip vs.toArray) #[] 7 none) (Q:=λ_ bI=>(arrOf bI).Perm (pairsOf vs) /\ failedOf bI=none /\ Sg less (arrOf bI) 0 (pairsOf vs).size) #[Array.Perm.refl _,rfl,rfl] rfl (by rw[pairsOf_size];lia) λbI a1 a2 a3=>#[a1,a2,a3]) ?_ λ_ _ e=>e);rintro⟨⟨⟩,bI⟩ s' ⟨rfl,hp,hf,hs⟩;dsimp only;exact ax (seqEpoch_at WF rfl ?_);exact ax (listUpdate_at WF rfl ?_ (hsz2:=by exact ar (Nat.le_of_eq ((Array.size_map ..).trans (hp.size_eq.trans (pairsOf_size _)))) ?_;lia));rw[hf];simp![bne_self_eq_false,aA,bD];show a7 (fin _ hp hs)
def uj (x y:lz):Bool:=decide (numOf x.1<numOf y.1)
def Yq:Ord uj:=by exact#[λx y h=> ?_,λx y z h1 h2=> ?_];unfold uj at*;rw[du] at h;show aL ∅;unfold LE uj at*;rw[decide_eq_false_iff_not] at*;lia
def ltI {a₀:Ub lz}(h0:IntKeys a₀):iI prog w A E s oneType' a₀ uj:=by
 intro x y st Q hx hy hk hq;let⟨n,t,e1⟩:=h0 x hx;let⟨m,u,e2⟩:=h0 y hy;rw[lt'_eq];exact aw (wpS_get ?_);rw[hk,keyLt'_oneType,e1,e2];exact aw (wpS_lift (wpAny_attempt (oneLt_int #[rfl,?_])));have e:uj x y=decide (n<m):=by unfold uj;rw[e1,e2];rfl
 rw[e] at hq;show aD hq
def EJ {a:iW}{vs:c_ dC}{ns:c_ Int}{n:Nat}{P:Fin ->gw ->Prop}(ho:s.heap.get? a=some (seqObj "list" vs.toArray n)) (hI:IntsAre vs ns) (hsz:vs.length<=sizeLine) (h: ∀ (out:Ub dC) (A1:c_ Int),IntsAre out.toList A1 ->A1.Perm ns ->A1.Pairwise (· <= ·) ->P (.done (.ret .none)) {s with heap:=sortedHeap s.heap a vs out}): wpAny (model prog w) A (Builtin.«list.sort» #[[.ref a],[]]) P E s:=by
 exact y9 Yq ho hsz (kd:=oneType') (λh2 Q hq=> ?_) (ltI hI.intKeys) λus hp hs=> ?_;let⟨v₁,v₂,c7,rfl⟩:eE λv₁ v₂ c7=>vs=v₁::v₂::c7:=by
  match vs,h2 with
  | [],h2=>simp at h2
  | [_],h2=>simp at h2
  | v₁::v₂::c7,_=>show#[v₁,v₂,c7,rfl]
 rw[keyKind_ints hI];show a7 hq;have vE: ∀v,v∈us -> ∃n t,v= .int n t:=λv hv=>hI.all v (hp.mem_iff.mp hv);exact h us.toArray (us.map numOf) ⇑(intsAre_map us vE) ?_ ?_;have:=hp.map numOf;rwa [hI.nums] at this;rw[List.pairwise_map];exact hs.imp λ{x y} e=> ?_;unfold uj at e;rw[decide_eq_false_iff_not] at e;simp only at e;lia
end
end TS
namespace L2
open PySem PySem.Spec PyProof.Rows
abbrev cz:=Sum Int Str
def oO:cz ->dC ->Bool
 | .inl k,v=>Value.isInt k v
 | .inr x,v=>Value.isStrOf x v
def YR (w:ZW):cz ->Int
 | .inl k=>hashInt k
 | .inr x=>hashStr w x
theorem dg: ∀ {k:cz} {v:dC},oO k v=true ->(cE λi t=>k=Sum.inl i /\ v=Value.int i t) \/ (cE λx t=>k=Sum.inr x /\ v=Value.str x t)
 | .inl i,v,h=>by let⟨t,e⟩:=Value.isInt_shape (k:=i) (v:=v) h;show .inl #[i,t,rfl,e]
 | .inr x,v,h=>by let⟨t,e⟩:=Value.isStrOf_shape (x:=x) (v:=v) h;show .inr #[x,t,rfl,e]
def Fc (i:Int)(t:Tok):oO (.inl i) (.int i t)=true:=by simp[oO,Value.isInt]
def Fb (x:Str)(t:Tok):oO (.inr x) (.str x t)=true:=by simp[oO,Value.isStrOf]
def PX (a b:Int):decide ((Sum.inl a:cz)=Sum.inl b)=(a==b):=by by_cases e:a=b;subst e;simp;have h:¬(Sum.inl a:cz)=Sum.inl b:=λq=>e (Sum.inl.inj q);rw[aL h];show(beq_eq_false_iff_ne.mpr e).symm
def PR (a b:Str):decide ((Sum.inr a:cz)=Sum.inr b)=decide (a=b):=by by_cases e:a=b;subst e;simp;have h:¬(Sum.inr a:cz)=Sum.inr b:=λq=>e (Sum.inr.inj q);rw[aL h,aL e]
theorem PV (a:Int)(b:Str):decide ((Sum.inl a:cz)=Sum.inr b)=false:=aL (λq=>nomatch q)
theorem PU (a:Str)(b:Int):decide ((Sum.inr a:cz)=Sum.inl b)=false:=aL (λq=>nomatch q)
def cR (prog:Y1)(w:ZW):PySem.KeyKind prog w cz where
 is:=oO
 hash:=YR w
 inj :=λv a b ha hb=>by
  rcases dg ha with⟨i,t,rfl,rfl⟩ | ⟨x,t,rfl,rfl⟩
  rcases dg hb with⟨j,u,rfl,e⟩ | ⟨y,u,rfl,e⟩
  injection e with e1 _;rw[e1];show nomatch e
  rcases dg hb with⟨j,u,rfl,e⟩ | ⟨y,u,rfl,e⟩
  show nomatch e
  injection e with e1 _;rw[e1]
 byValue:=λk v h=>by rcases dg h with⟨i,t,rfl,rfl⟩ | ⟨x,t,rfl,rfl⟩ <;>rfl
 pyHash:=λhv h=>by
  rcases dg hv with⟨i,t,rfl,rfl⟩ | ⟨x,t,rfl,rfl⟩
  show wpAny_pyHash_int h;show wpAny_pyHash_str h
 eqBool:=λhu hv h=>by
  rcases dg hu with⟨i,t,rfl,rfl⟩ | ⟨x,t,rfl,rfl⟩
  rcases dg hv with⟨j,u,rfl,rfl⟩ | ⟨y,u,rfl,rfl⟩
  rw[PX] at h;show wpAny_eqBool_int h;rw[PV] at h;show SeqAt.EqAt.int_str i t y u _ _ _ _ h;rcases dg hv with⟨j,u,rfl,rfl⟩ | ⟨y,u,rfl,rfl⟩
  rw[PU] at h;show SeqAt.EqAt.str_int x t j u _ _ _ _ h;rw[PR] at h;show wpAny_eqBool_str h
 «strs» :=λk x t v h=>by
  rcases dg h with⟨i,u,rfl,e⟩ | ⟨y,u,rfl,e⟩
  show nomatch e
  injection e with e1 _;subst e1;cases v<;>rfl
theorem zI (prog:Y1)(w:ZW)(i:Int)(t:Tok):(cR prog w).is (.inl i) (.int i t)=true:=Fc i t
theorem zH (prog:Y1)(w:ZW)(x:Str)(t:Tok):(cR prog w).is (.inr x) (.str x t)=true:=Fb x t
set_option genInjectivity true in
inductive V where
  | d0 | bl (b:Bool) | int (i:Int) | str (x:Str) | FE (b:Array UInt8) | LZ (b:UInt64) | ref (a:Addr) | ty (n:String)
 deriving DecidableEq
def RelV:V ->dC ->Prop
 | .d0,u=>u=Value.none
 | .bl b,u=>u=Value.bool b
 | .int i,u=> ∃t,u=Value.int i t
 | .str x,u=> ∃t,u=Value.str x t
 | .FE b,u=> ∃t,u=Value.bytes b t
 | .LZ b,u=> ∃t,u=Value.float b t
 | .ref a,u=>u=Value.ref a
 | .ty n,u=>u=Value.type n
abbrev cj:c_ V ->c_ dC ->Prop:=Paired RelV
theorem cj.length {xs:c_ V}{us:c_ dC}(r:cj xs us):xs.length=us.length:=Paired.length r
theorem cj.get: ∀ {xs:c_ V} {us:c_ dC} {i:Nat} {x:V},cj xs us ->xs[i]? =some x -> ∃u,us[i]? =some u /\ RelV x u
 | _,_,_,_, .nil,e=>by simp at e
 | _,_,0,_, .cons r _,e=>by simp at e;subst e;show#[_,rfl,r]
 | _,_,i+1,x, .cons _ t,e=>by let⟨u,h1,h2⟩:=cj.get (i:=i) (x:=x) t ⇑e;show#[u, ⇑h1,h2]
theorem cj.set {x:V}{u:dC}(r:RelV x u): ∀ {xs:c_ V} {us:c_ dC} (i:Nat),cj xs us ->cj (xs.set i x) (us.set i u)
 | _,_,_, .nil=> .nil
 | _,_,0, .cons _ t=> .cons r t
 | _,_,i+1, .cons q t=> .cons q (cj.set r i t)
theorem cj.append: ∀ {xs ys:c_ V} {us ws:c_ dC},cj xs us ->cj ys ws ->cj (xs++ys) (us++ws)
 | _,_,_,_, .nil,s=>s
 | _,_,_,_, .cons r t,s=> .cons r (cj.append t s)
theorem cj.take: ∀ {xs:c_ V} {us:c_ dC} (n:Nat),cj xs us ->cj (xs.take n) (us.take n)
 | _,_,0,_=> .nil
 | _,_,_+1, .nil=> .nil
 | _,_,n+1, .cons r t=> .cons r (cj.take n t)
theorem cj.drop: ∀ {xs:c_ V} {us:c_ dC} (n:Nat),cj xs us ->cj (xs.drop n) (us.drop n)
 | _,_,0,r=>r
 | _,_,_+1, .nil=> .nil
 | _,_,n+1, .cons _ t=>cj.drop n t
def j8:gC V ->gC dC ->Prop
 | some v,some u=>RelV v u
 | none,none=>True
 | _,_=>False
def KV {κ:Type}:c_ (κ×V) ->c_ (κ×dC) ->Prop:=Paired λ(p:κ×V) (q:κ×dC)=>p.1=q.1 /\ RelV p.2 q.2
def kV:cz ->V
 | .inl i=> .int i
 | .inr x=> .str x
set_option genInjectivity true in
inductive HO where
 /-- a list -/
 | lst (xs:List V)
 /-- a tuple (never changes) -/
 | tup (xs:List V)
 /-- a dict RI keys are ints and texts;one RI keys are tuples of ints and texts (Q6 empty one is both) -/
 | dK (kvs:List (cz×V)) | dT (kvs:List (List cz×V))
 /-- a set of ints:bQ members,bQ size -/
 | set (S:Int ->Bool) (n:Nat)
 /-- an instance of Q6 class at C,bQ dict at dx,bQ attributes -/
 | ins (C dx:Addr) (fs:List (Str×V))
 /-- Q6 dict of Q6 instance at x -/
 | own (x:Addr)
 /-- Q6 dict of an exception -/
 | xd (fs:List (Str×V))
 /-- a bound method,f of x -/
 | met (f x:Addr)
 /-- a range object lo,lo+1, .. below hi -/
 | Wc (lo hi:Int)
 /-- a thing afR is known to Q6 object (Q6 Yc;a dict while a loop walks it):read,never written while it is so -/
 | kT (o:Obj) (u:HO)
 /-- a code TF table -/
 | KI (ps:Array Value)
 /-- any other thing,by afN is true of bQ one object (a def of afC own:afX a S n:=HO.ext λh=> ..) -/
 | ext (φ:Heap ->Prop)
abbrev Hp:=iW ->gC HO
def cM (H:Hp)(a:iW)(o:HO):Hp:=λb=>if b=a then some o else H b
def bZ {H:Hp}{a:iW}{o:HO}:cM H a o a=some o:=by unfold cM;rw[am rfl]
def bR {H:Hp}{a b:iW}{o:HO}(h:b≠a):cM H a o b=H b:=by unfold cM;rw[ak h]
def TN {H:Hp}{a b:iW}{o u:HO}(h:H a=some o)(h':H b=some u)(d:o≠u):a≠b:=by intro e;subst e;rw[h] at h';show d (bq h')
def fc {H:Hp}{a b:iW}{o:HO}(h:H a=some o)(h':H b=none):a≠b:=by intro e;subst e;rw[h] at h';cases h'
def yx (h:ZX)(a:iW)(bQ:Ub dC):Prop:= ∃o,h.get? a=some o /\ o.cls= .type "tuple" /\ ∃n,o.data= .seq bQ n /\ o.dict=none
theorem yx.t {h:ZX}{a:iW}{bQ:Ub dC}(x:yx h a bQ):IsTup h a bQ:=let ⟨o,e,c,n,d,_⟩:=x;#[o,e,c,n,d]
theorem yx.lt {h:ZX}{a:iW}{bQ:Ub dC}(x:yx h a bQ):a<h.objs.size:=let ⟨_,e,_⟩:=x;aO e
theorem yx.new (h:ZX)(bQ:Ub dC):yx (h.push {cls:= .type "tuple",data:= .seq bQ}) h.objs.size bQ:=#[_,aY _ rfl,rfl,_,rfl,rfl]
section
variable (P:Y1)(w:ZW)
def d3 (H:Hp)(h:ZX)(a:iW):HO ->Prop
 | .lst xs=>xs.length<=sizeLine /\ cE λ(bQ:c_ dC) (n:Nat)=>cj xs bQ /\ h.get? a=some {cls:= .type "list",data:= .seq bQ.toArray n}
 | .tup xs=>xs.length<=sizeLine /\ ∃bQ:c_ dC,cj xs bQ /\ yx h a bQ.toArray
 | .dK kvs=>kvs.length<=sizeLine /\ (a==sysModules)=false /\ ∃vs,KV kvs vs /\ h.DictOf (cR P w) a vs
 | .dT kvs=>kvs.length<=sizeLine /\ (a==sysModules)=false /\ ∃xs:c_ (c_ cz×iW×dC),Paired (λ(p:c_ cz×V) (q:c_ cz×iW×dC)=>p.1=q.1 /\ H q.2.1=some (.tup (p.1.map kV)) /\ RelV p.2 q.2.2) kvs xs /\∃o es ep,h.get? a=some o /\ o.ExactDict /\ o.data= .dict es ep /\ es.toList=xs.map (entryOfKey (tupleKind (cR P w))) /\ (xs.map (·.1)).Nodup
 | .set S n=>h.SetOf (intKind P w) a S n
 | .ins C dx fs=>H dx=some (.own a) /\ fs.length<=1000 /\ dx≠a /\ h.get? a=some (W.instObj C dx) /\∃mA,h.Ns1 dx mA /\ (∀f,j8 (fs.lookup f) (mA f)) /\ PySem.Within mA (fs.map (·.1))
 | .own _=> ∃o,h.get? a=some o
 | .xd fs=> ∃mA,h.Ns1 a mA /\ ∀f,j8 (fs.lookup f) (mA f)
 | .Wc lo hi=>eE λt u v=>h.get? a=some {cls:= .type "range",data:= .fields (List.toArray [.int lo t, .int hi u, .int 1 v])}
 | .kT o u=>h.get? a=some o /\ d3 H h a u
 | .KI ps=>h.get? a=some {cls:= .none,data:= .fields ps}
 | .met f x=>h.get? a=some (W.methodObj (.ref f) (.ref x))
 | .ext φ=>φ h /\ (∃o,h.get? a=some o) /\ ∀h1 h2:ZX,φ h1 ->(∀o,h1.get? a=some o ->h2.get? a=some o) ->φ h2
def mH (H:Hp)(h:ZX):Prop:= ∀a o,H a=some o ->d3 P w H h a o
end
section
variable {P:Y1}{w:ZW}{H H':Hp}{h h':ZX}{a:iW}{o:HO}
def d3.lt (x:d3 P w H h a o):a<h.objs.size:=by
 cases o with
 | lst xs=>let⟨_,_,_,_,e⟩:=x;show aO e
 | tup xs=>let⟨_,_,_,p⟩:=x;show p.lt
 | dK kvs=>let⟨_,_,_,_,o,_,_,e,_⟩:=x;show aO e
 | dT kvs=>let⟨_,_,_,_,o,_,_,e,_⟩:=x;show aO e
 | set S n=>let⟨o,_,_,_,e,_⟩:=x;show aO e
 | ins C dx fs=>let⟨_,_,_,e,_⟩:=x;show aO e
 | own y=>let⟨_,e⟩:=x;show aO e
 | xd fs=>let⟨_,⟨_,_,_,e,_⟩,_⟩:=x;show aO e
 | Wc lo hi=>let⟨_,_,_,e⟩:=x;show aO e
 | kT ob u=>let⟨e,_⟩:=x;show aO e
 | KI ps=>show aO (show h.get? a=some _ from x)
 | met f y=>show aO (show h.get? a=some _ from x)
 | ext φ=>let⟨_,⟨_,e⟩,_⟩:=x;show aO e
theorem Paired.PL {α β:Type}{F G:α ->β ->Prop}: ∀ {l₁:c_ α} {l₂:c_ β},Paired F l₁ l₂ ->(∀a b,F a b ->G a b) ->Paired G l₁ l₂
 | _,_, .nil,_=> .nil
 | _,_, .cons r t,f=> .cons (f _ _ r) (Paired.PL t f)
def d3.tJ (x:d3 P w H h a o)(k: ∀b u,(b=a \/ H b=some (.own a)) ->h.get? b=some u ->h'.get? b=some u) (ho: ∀b,H b=some (.own a) ->H' b=some (.own a)) (ht: ∀b xs,H b=some (.tup xs) ->H' b=some (.tup xs)):d3 P w H' h' a o:=by
 induction o with
 | lst xs=>let⟨z,bQ,n,r,e⟩:=x;show#[z,bQ,n,r,k _ _ (.inl rfl) e]
 | tup xs=>let⟨z,bQ,r,ob,e,c⟩:=x;show#[z,bQ,r,ob,k _ _ (.inl rfl) e,c]
 | dK kvs=>let⟨z,y,vs,r,ob,es,ep,e,c⟩:=x;show#[z,y,vs,r,ob,es,ep,k _ _ (.inl rfl) e,c]
 | dT kvs=>let⟨z,y,xs,r,ob,es,ep,e,c⟩:=x;show#[z,y,xs,Paired.PL r λp q z=>#[z.1,ht _ _ z.2.1,z.2.2],ob,es,ep,k _ _ (.inl rfl) e,c]
 | set S n=>let⟨ob,es,ep,t,e,c⟩:=x;show#[ob,es,ep,t,k _ _ (.inl rfl) e,c]
 | ins C dx fs=>let⟨d,z,ne,e,mA,⟨od,es,ep,e2,c⟩,r⟩:=x;show#[ho _ d,z,ne,k _ _ (.inl rfl) e,mA,#[od,es,ep,k _ _ (.inr d) e2,c],r]
 | own y=>let⟨ob,e⟩:=x;show#[ob,k _ _ (.inl rfl) e]
 | xd fs=>let⟨mA,⟨od,es,ep,e,c⟩,r⟩:=x;show#[mA,#[od,es,ep,k _ _ (.inl rfl) e,c],r]
 | Wc lo hi=>let⟨t,u,v,e⟩:=x;show#[t,u,v,k _ _ (.inl rfl) e]
 | kT ob u ih=>let⟨e,q⟩:=x;show#[k _ _ (.inl rfl) e,ih q]
 | KI ps=>have e:h.get? a=some {cls:= .none,data:= .fields ps}:=x;change h'.get? a=some {cls:= .none,data:= .fields ps};show k a _ (.inl rfl) e
 | met f y=>have e:h.get? a=some (W.methodObj (.ref f) (.ref y)):=x;change h'.get? a=some (W.methodObj (.ref f) (.ref y));show k a _ (.inl rfl) e
 | ext φ=>let⟨p,⟨o,e⟩,st⟩:=x;show#[st _ _ p λo q=>k _ _ (.inl rfl) q,#[o,k _ _ (.inl rfl) e],st]
theorem mH.lt (x:mH P w H h)(e:H a=some o):a<h.objs.size:=(x a o e).lt
def mH.fresh (x:mH P w H h)(e:h.objs.size<=a):H a=none:=by
 cases q:H a with
 | none=>rfl
 | some u=>show absurd (bF (x.lt q) e) (Nat.lt_irrefl _)
theorem mH.kept (x:mH P w H h)(k: ∀b u,h.get? b=some u ->h'.get? b=some u):mH P w H h':=λa o e=>(x a o e).tJ (λb u _ q=>k b u q) (λ_ q=>q) λ_ _ q=>q
theorem mH.laid (x:mH P w H h)(k: ∀b u,h.get? b=some u ->h'.get? b=some u)(hp:h.objs.size<=a)(new:d3 P w (cM H a o) h' a o):mH P w (cM H a o) h':=λb u e=>by have hn:=x.fresh hp;by_cases hb:b=a;subst hb;rw[bZ] at e;cases e;show new;rw[bR hb] at e;show(x b u e).tJ (λc v _ q=>k c v q) (λc q=>by rw[bR (fc q hn)];show q) λc xs q=>by rw[bR (fc q hn)];show q
end
def Rd (H:Hp)(a:iW)(u:HO):Prop:=H a=some u \/ ∃o,H a=some (.kT o u)
def Rd.ok {P:Y1}{w:ZW}{H:Hp}{h:ZX}{a:iW}{u:HO}(r:Rd H a u)(x:mH P w H h):d3 P w H h a u:=by obtain r | ⟨o,r⟩:=r;show x a u r;let⟨_,q⟩:=x a _ r;show q
def Vo:gC HO ->Prop
 | some (.lst _)=>True
 | some (.dK _)=>True
 | some (.dT _)=>True
 | some (.set _ _)=>True
 | some (.ins _ _ _)=>True
 | some (.ext _)=>True
 | _=>False
section
variable {P:Y1}{w:ZW}{H:Hp}{h h':ZX}{x e:iW}{o':HO}
theorem mH.write (ok:mH P w H h)(mu:Vo (H x))(he:e=x \/ H e=some (.own x))(k: ∀b u,b≠e ->h.get? b=some u ->h'.get? b=some u)(Rt: ∃u,h'.get? e=some u) (new:d3 P w (cM H x o') h' x o'):mH P w (cM H x o') h':=λb u q=>by
 have TJ: ∀c y,H c=some (.own y) ->c≠x:=λc y r z=>by subst z;rw[r] at mu;show mu
 have Yx: ∀c xs,H c=some (.tup xs) ->c≠x:=λc xs r z=>by subst z;rw[r] at mu;show mu
 by_cases hb:b=x;subst hb;rw[bZ] at q;cases q;show new;rw [bR hb] at q;by_cases Qu:b=e;have q':H b=some (.own x):=by obtain z | z:=he;show absurd (Qu.trans z) hb;rw[Qu];show z
 rw[q] at q';cases q';let⟨v,hv⟩:=Rt;show#[v,by rw[Qu];show hv];exact(ok b u q).tJ (λc v hc r=>k c v ?_ r) (λc r=>by rw[bR (TJ c b r)];show r) λc xs r=>by rw[bR (Yx c xs r)];show r
 obtain rfl | hc:=hc;show Qu;rintro rfl;obtain z | z:=he;show TJ c b hc z;rw[hc] at z;cases z;show hb rfl
end
structure Un (fs ex:List Addr)(H H':Hp)(h h':Heap):Prop where
 keep: ∀b o,h.get? b=some o ->H b=none ->b∉fs ->b∉ex ->h'.get? b=some o
 slot: ∀b o,h.get? b=some o ->H b=none ->b∈fs ->b∉ex -> ∃sl,h'.get? b=some {o with slots:=sl}
 free: ∀b o,h.get? b=some o ->H b=none ->b∉ex ->H' b=none
 there: ∀b o,h.get? b=some o ->b∉ex -> ∃o',h'.get? b=some o'
 nX: ∀b xs,H b=some (.tup xs) ->H' b=some (.tup xs)
 mL: ∀b o u,H b=some (.kT o u) ->H' b=some (.kT o u)
 pL: ∀b ps,H b=some (.KI ps) -> ∃more,H' b=some (.KI (ps++more))
section
variable {fs fs' ex ex':c_ iW}{H H1 H2:Hp}{h h1 h2 h':ZX}{a x e:iW}{o:HO}
def Un.any (u:Un fs ex H H1 h h1){b:iW}{ob:Obj}(q:h.get? b=some ob)(n:H b=none)(hx:b∉ex): ∃sl,h1.get? b=some {ob with slots:=sl}:=by by_cases hb:b∈fs;show u.slot b ob q n hb hx;show#[ob.slots,u.keep b ob q n hb hx]
theorem Un.kept (k: ∀b u,h.get? b=some u ->h'.get? b=some u):Un fs ex H H h h':=#[λb ob q _ _ _=>k b ob q,λb ob q _ _ _=>#[ob.slots,k b ob q],λ_ _ _ n _=>n,λb ob q _=>#[ob,k b ob q],λ_ _ q=>q,λ_ _ _ q=>q,λ_ ps q=>#[#[],by rw[q];simp]]
theorem Un.refl:Un fs ex H H h h:=Un.kept λ_ _ q=>q
theorem Un.laid (k: ∀b u,h.get? b=some u ->h'.get? b=some u)(hp:h.objs.size<=a)(hn:H a=none):Un fs ex H (cM H a o) h h' where
 keep:=λb u q _ _ _=>k b u q
 slot:=λb u q _ _ _=>#[u.slots,k b u q]
 free:=λb u q n _=>by rw[bR (bA (bF (aO q) hp))];show n
 there:=λb u q _=>#[u,k b u q]
 nX:=λb xs q=>by rw[bR (fc q hn)];show q
 mL:=λb u xs q=>by rw[bR (fc q hn)];show q
 pL:=λb ps q=>#[#[],by rw[bR (fc q hn),q];simp]
def Un.write (mu:Vo (H x))(he:e=x \/ H e=some (.own x))(k: ∀b u,b≠e ->h.get? b=some u ->h'.get? b=some u)(Rt: ∃u,h'.get? e=some u):Un fs ex H (cM H x o) h h':=by
 have hx: ∀b,H b=none ->b≠x:=λb n z=>by subst z;rw[n] at mu;show mu
 have hb: ∀b,H b=none ->b≠e:=λb n z=>by subst z;obtain r | r:=he;show hx b n r;rw[n] at r;cases r
 have hm: ∀b u,H b=some u ->¬Vo (some u) ->b≠x:=λb u q nm z=>by subst z;rw[q] at mu;show nm mu
 exact#[λb u q n _ _=>k b u (hb b n) q,λb u q n _ _=>#[u.slots,k b u (hb b n) q],λb u q n _=>by rw[bR (hx b n)];show n,λb u q _=> ?_,λb xs q=>by rw[bR (hm b _ q λz=>z)];show q,λb u xs q=>by rw[bR (hm b _ q λz=>z)];show q,λb ps q=>#[#[],by rw[bR (hm b _ q λz=>z),q];simp]];by_cases Qu:b=e;subst Qu;show Rt;show#[u,k b u Qu q]
end
def V6 (h:ZX)(H:Hp):c_ iW:=(List.range h.objs.size).filter λa=>(H a).isSome
def ye (h:ZX)(H:Hp):ZX:=W.hideAll h (V6 h H)
theorem Fl (h:ZX)(H:Hp):(ye h H).objs.size=h.objs.size:=W.hideAll_size _ _
theorem IF {h:ZX}{H:Hp}{b:iW}{o:Obj}(e:h.get? b=some o)(n:H b=none):(ye h H).get? b=some o:=W.hideAll_get _ e λhm=>by have q:(H b).isSome=true:=(List.mem_filter.mp hm).2;rw[n] at q;simp at q
def Ln {h:ZX}{H:Hp}{b:iW}{o:Obj}(e:(ye h H).get? b=some o):h.get? b=some o /\ H b=none:=by
 have e':h.get? b=some o:=W.of_hideAll (V6 h H) e;exact#[e',?_];cases q:H b with
 | none=>rfl
 | some x=>have hm:b∈V6 h H:=List.mem_filter.mpr #[List.mem_range.mpr (aO e'),by simp[q]];have z:(ye h H).get? b=none:=W.hideAll_none (V6 h H) hm;rw[z] at e;cases e
def Mn (g h:ZX)(L:iW):c_ (iW×Obj):=(List.range h.objs.size).filterMap λa=>if a=L \/ (g.get? a).isSome=true then none else(h.get? a).map λo=>(a,o)
def c7 (g h:ZX)(L d:iW):c_ (iW×Obj):=(Mn g h L).filter λp=>decide (p.1≠d)
structure Mod (K:PySem.W.Frag)(mg:Str ->Option Value)(base:Heap):Prop where
 NV:K.In base
 glob:base.Ns mainGlobals mg
 blt: ∃mb,base.Ns builtinsNs mb /\ ∀x:Str,x≠ "__name__" ->mb x=bootBuiltins x
 nolimit:base.NoLimit
structure Cx where
 prog:Program
 w:World
 K:PySem.W.Frag
 mg:Str ->Option Value
 base:Heap
 A:Around
 N:List Str
 s₀:Shared
 H₀:Hp
 env:Env
 outer:List Env
 stack:List Env
 ex:List Addr
 fn:Str ->Bool
 calm:Bool
 pn:List (Addr×Obj)
 xe:Value ->Shared ->Prop
def kU (l:c_ Env):c_ iW:=l.filterMap (·.frame)
abbrev Cx.fs (X:Cx):c_ iW:=kU X.outer
def Vk (sc:Scope)(x:Str):Prop:=sc.names.lookup x=some .local \/ sc.names.lookup x=some .cell \/ sc.names.lookup x=some .free
def Loc (sc:Scope)(x:Str):Prop:=sc.names.lookup x=some .local \/ sc.names.lookup x=some .cell
def Look (env:Env)(h:ZX)(m:Str ->gC dC)(x:Str)(u:dC):Prop:=(env.kindOf x=some .local /\ m x=some u) \/ ((env.kindOf x=some .cell \/ env.kindOf x=some .free) /\ ∃c,env.cells.lookup x=some c /\ h.IsCell c (some u))
structure Cx.Ok (X:Cx):Prop where
 mod:Mod X.K X.mg X.base
 kind:X.env.scope.kind= .function
 glob:X.env.globals=mainGlobals
 blt:X.env.builtins=builtinsNs
 above:X.s₀.heap.objs.size<=X.env.locals
 inj: ∀x y c,X.env.cells.lookup x=some c ->X.env.cells.lookup y=some c ->x=y
 has: ∀x,(X.env.kindOf x=some .cell \/ X.env.kindOf x=some .free) -> ∃c,X.env.cells.lookup x=some c
 RA: ∀x c,X.fn x=true ->X.env.cells.lookup x=some c ->X.s₀.heap.objs.size<=c
 hd:X.calm=true ->X.A.handled=none
 frames:X.A.frames=some X.stack
 OS:X.stack=X.outer \/ (X.stack=X.env::X.outer /\ X.env.frame=some X.env.locals)
 exf: ∀b∈X.ex,b≠X.env.locals /\ ∀x c,X.env.cells.lookup x=some c ->c≠b
 bs: ∀b o,X.base.get? b=some o ->X.s₀.heap.get? b=some o /\ X.H₀ b=none
 Jx:X.base.objs.size<=X.s₀.heap.objs.size
 E5: ∀b o,X.base.get? b=some o ->b∉X.ex
 BX: ∀b∈X.ex,b∉X.fs
 nN:X.s₀.heap.FunFrames X.base X.outer
 Kn: ∀b∈X.fs,X.H₀ b=none
structure Inv (X:Cx)(ah:List (Addr×Obj))(σ:List (Option V))(H:Hp)(s:Shared):Prop where
 ok:X.Ok
 os:s.os=X.s₀.os
 bare:AllBare s.gens
 base:Un X.fs X.ex X.H₀ H X.s₀.heap s.heap
 loc: ∃m,s.heap.Ns X.env.locals m /\ ∀ (i:Nat) (x:Str) (v:V),X.N[i]? =some x ->σ[i]? =some (some v) ->Vk X.env.scope x -> ∃u,RelV v u /\ Look X.env s.heap m x u
 cell: ∀x c,X.env.cells.lookup x=some c -> ∃v,s.heap.IsCell c v
 free:H X.env.locals=none
 gF: ∀x c,X.env.cells.lookup x=some c ->H c=none
 pin: ∀p∈X.pn++ah,s.heap.get? p.1=some p.2 /\ H p.1=none /\ p.1≠X.env.locals /\ p.1∉X.fs /\ ∀v,p.2.data≠ .cell v
 c6:mH X.prog X.w H s.heap
 len:σ.length=X.N.length
section
variable {X:Cx}{ah:c_ (iW×Obj)}{σ:c_ (gC V)}{H H':Hp}{s:gw}{h':ZX}
theorem Cx.Ok.YB (ok:X.Ok){b:iW}{o:Obj}(e:X.base.get? b=some o):b∉X.fs:=λhb=>by have:=(ok.nN.mem hb).1;rw[e] at this;cases this
theorem Inv.bs (I:Inv X ah σ H s): ∀b o,X.base.get? b=some o ->s.heap.get? b=some o /\ H b=none:=λb o e=>#[I.base.keep b o (I.ok.bs b o e).1 (I.ok.bs b o e).2 (I.ok.YB e) (I.ok.E5 b o e),I.base.free b o (I.ok.bs b o e).1 (I.ok.bs b o e).2 (I.ok.E5 b o e)]
theorem Inv.bk (I:Inv X ah σ H s): ∀b o,X.base.get? b=some o ->s.heap.get? b=some o:=λb o e=>(I.bs b o e).1
theorem Inv.mod (I:Inv X ah σ H s):Mod X.K X.mg X.base:=I.ok.mod
theorem Inv.m7 (I:Inv X ah σ H s):X.K.In s.heap:=I.ok.mod.NV.keeps I.bk
theorem Inv.fr (I:Inv X ah σ H s): ∃m,Fr X.base X.env.locals s.heap m:=
 let ⟨m,hn,_⟩:=I.loc
 #[m,hn,I.bk,ar I.ok.Jx I.ok.above]
theorem Inv.lt (I:Inv X ah σ H s):X.env.locals<s.heap.objs.size:=let ⟨_,hn,_⟩:=I.loc;hn.lt
theorem Inv.sz (I:Inv X ah σ H s):X.s₀.heap.objs.size<=s.heap.objs.size:=ar I.ok.above (Nat.le_of_lt I.lt)
theorem Inv.YA (I:Inv X ah σ H s){a:iW}(h:s.heap.objs.size<=a):a∉X.fs:=λhb=>by let⟨_,o,ho,_⟩:=I.ok.nN.mem hb;show absurd (bF (aO ho) (ar I.sz h)) (Nat.lt_irrefl _)
theorem Inv.QJ (I:Inv X ah σ H s): ∀x c,X.env.cells.lookup x=some c ->c≠X.env.locals:=λx c e z=>by let⟨v,o,ho,hd⟩:=I.cell x c e;let⟨m,⟨o',es,ep,yd,UK,_⟩,_⟩:=I.loc;rw[z,yd] at ho;cases ho;rw[UK] at hd;cases hd
def Inv.nN (I:Inv X ah σ H s):s.heap.FunFrames X.base X.outer:=by
 have all: ∀ (l:c_ Env),(∀b∈kU l,b∈X.fs) ->X.s₀.heap.FunFrames X.base l ->s.heap.FunFrames X.base l:=by
  intro l;induction l with
  | nil=>intro _ _;trivial
  | cons env r ih=>intro hs hl;let⟨hk,⟨L,o,hf,hn,ho,hd⟩,hr⟩:=hl;have hL:L∈X.fs:=hs L (by unfold kU;rw[List.filterMap_cons,hf];show List.mem_cons_self);let⟨sl,e⟩:=I.base.slot L o ho (I.ok.Kn L hL) hL λz=>I.ok.BX L z hL;show#[hk,#[L,_,hf,hn,e,hd],ih (λb hb=>hs b (by unfold kU;rw[List.filterMap_cons,hf];show dj _ hb)) hr]
 show all X.outer (λ_ hb=>hb) I.ok.nN
def Inv.stack (I:Inv X ah σ H s):s.heap.FunFrames X.base X.stack:=by obtain e | ⟨e,hf⟩:=I.ok.OS;rw[e];show I.nN;rw[e];let⟨m,hn,_⟩:=I.loc;exact .cons (by rw[I.ok.kind];decide) hf hn ?_ I.nN;show Heap.get?_none_of_le (ar I.ok.Jx I.ok.above)
theorem Inv.xr (I:Inv X ah σ H s): ∀b∈kU X.stack,b∈X.env.locals::X.fs:=λb hb=>by obtain e | ⟨e,hf⟩:=I.ok.OS;rw[e] at hb;show dj _ hb;rw[e] at hb;unfold kU at hb;rw[List.filterMap_cons,hf] at hb;show hb
theorem Inv.sN (I:Inv X ah σ H s): ∀b∈kU X.stack,H b=none:=λb hb=>by obtain e | hb:=aP.mp (I.xr b hb);rw[e];show I.free;let⟨_,o,ho,_⟩:=I.ok.nN.mem hb;show I.base.free b o ho (I.ok.Kn b hb) λz=>I.ok.BX b z hb
def Inv.step {g':Ub GenState}{t':Nat}{d':Drawn}{ch:c_ iW}(I:Inv X ah σ H s) (Kj: ∀b∈ch,(b∈X.ex \/ X.s₀.heap.objs.size<=b) /\ b≠X.env.locals /\ (∀x c,X.env.cells.lookup x=some c ->c≠b) /\ ∀p∈X.pn++ah,p.1≠b) (keep: ∀b o,b≠X.env.locals ->b∉X.fs ->b∉ch ->s.heap.get? b=some o ->H b=none ->h'.get? b=some o) (slot: ∀b o,b≠X.env.locals ->b∈X.fs ->b∉ch ->s.heap.get? b=some o ->H b=none -> ∃sl,h'.get? b=some {o with slots:=sl}) (free: ∀b o,b∉ch ->s.heap.get? b=some o ->H b=none ->H' b=none) (there: ∀b o,b∉ch ->s.heap.get? b=some o -> ∃o',h'.get? b=some o') (nX: ∀b xs,H b=some (.tup xs) ->H' b=some (.tup xs)) (mL: ∀b o u,H b=some (.kT o u) ->H' b=some (.kT o u)) (pL: ∀b ps,H b=some (.KI ps) -> ∃more,H' b=some (.KI (ps++more))) (ns: ∀m,s.heap.Ns X.env.locals m ->h'.Ns X.env.locals m) (c6:mH X.prog X.w H' h') (hg:AllBare g'): Inv X ah σ H' {s with heap:=h',gens:=g',drawn:=d',toks:=t'}:=by
 have neL: ∀b o,X.s₀.heap.get? b=some o ->b≠X.env.locals:=λb o e=>bA (bF (aO e) I.ok.above);have Wq: ∀b o,X.s₀.heap.get? b=some o ->b∉X.ex ->b∉ch:=λb o e hx hb=>by obtain z | z:=(Kj b hb).1;show hx z;show absurd (bF (aO e) z) (Nat.lt_irrefl _)
 have cellK: ∀x c,X.env.cells.lookup x=some c -> ∀v,s.heap.IsCell c v ->h'.IsCell c v:=λx c e v ⟨o,ho,hd⟩=>by have TQ:c∉ch:=λz=>(Kj c z).2.2.1 x c e rfl;by_cases hc:c∈X.fs;let⟨sl,q⟩:=slot c o (I.QJ x c e) hc TQ ho (I.gF x c e);show#[_,q,hd];show#[o,keep c o (I.QJ x c e) hc TQ ho (I.gF x c e),hd]
 exact#[I.ok,I.os,hg,#[λb o e n hb hx=> ?_,λb o e n hb hx=> ?_,λb o e n hx=> ?_,λb o e hx=> ?_,λb xs e=>nX b xs (I.base.nX b xs e),λb o xs e=>mL b o xs (I.base.mL b o xs e),λb ps e=> ?_],?_,λx c e=> ?_,?_,λx c e=> ?_,λp hp=> ?_,c6,I.len];show keep b o (neL b o e) hb (Wq b o e hx) (I.base.keep b o e n hb hx) (I.base.free b o e n hx);let⟨sl,e1⟩:=I.base.slot b o e n hb hx;let⟨sl',e2⟩:=slot b _ (neL b o e) hb (Wq b o e hx) e1 (I.base.free b o e n hx);show#[sl',e2];let⟨o',e1⟩:=I.base.there b o e hx;show free b o' (Wq b o e hx) e1 (I.base.free b o e n hx);let⟨o',e1⟩:=I.base.there b o e hx;show there b o' (Wq b o e hx) e1;let⟨m1,e1⟩:=I.base.pL b ps e;let⟨m2,e2⟩:=pL b _ e1;show#[m1++m2,by rw[e2,Array.append_assoc]];let⟨m,hn,hl⟩:=I.loc;exact#[m,ns m hn,λi x v e1 e2 e3=> ?_];let⟨u,r,l⟩:=hl i x v e1 e2 e3;exact#[u,r,?_];obtain l | ⟨k,c,e,z⟩:=l;show .inl l;show .inr #[k,c,e,cellK x c e _ z];let⟨v,z⟩:=I.cell x c e;show#[v,cellK x c e v z];let⟨m,⟨o,_,_,ho,_⟩,_⟩:=I.loc;show free _ o (λz=>(Kj _ z).2.1 rfl) ho I.free;let⟨v,o,ho,hd⟩:=I.cell x c e;show free c o (λz=>(Kj c z).2.2.1 x c e rfl) ho (I.gF x c e);let⟨e,n,ne,nf,d⟩:=I.pin p hp;have TQ:p.1∉ch:=λz=>(Kj p.1 z).2.2.2 p hp rfl;show#[keep p.1 p.2 ne nf TQ e n,free p.1 p.2 TQ e n,ne,nf,d]
def Inv.un {t':Nat}(I:Inv X ah σ H s)(u:Un X.fs [] H H' s.heap h')(c6:mH X.prog X.w H' h'):Inv X ah σ H' {s with heap:=h',toks:=t'}:=by let⟨m,⟨o,es,ep,ho,r⟩,_⟩:=id I.loc;let⟨sl,hL⟩:=u.any ho I.free (by simp);show I.step (g':=s.gens) (d':=s.drawn) (ch:= []) (λ_ z=>nomatch z) (λb o _ hb _ e n=>u.keep b o e n hb (by simp)) (λb o _ hb _ e n=>u.slot b o e n hb (by simp)) (λb o _ e n=>u.free b o e n (by simp)) (λb o _ e=>u.there b o e (by simp)) u.nX u.mL u.pL (λm' hm=>by let⟨o',W1,W2,yd,r'⟩:=hm;rw[ho] at yd;cases yd;show#[_,W1,W2,hL,r']) c6 I.bare
def Inv.call {g':Ub GenState}{t':Nat}{d':Drawn}{ch:c_ iW}(I:Inv X ah σ H s)(u:Un (kU X.stack) ch H H' s.heap h')(c6:mH X.prog X.w H' h')(hg:AllBare g') (Kj: ∀b∈ch,(b∈X.ex \/ X.s₀.heap.objs.size<=b) /\ b≠X.env.locals /\ (∀x c,X.env.cells.lookup x=some c ->c≠b) /\ ∀p∈X.pn++ah,p.1≠b): Inv X ah σ H' {s with heap:=h',gens:=g',drawn:=d',toks:=t'}:=by let⟨m,⟨o,es,ep,ho,r⟩,_⟩:=id I.loc;let⟨sl,hL⟩:=u.any ho I.free λz=>(Kj _ z).2.1 rfl;show I.step (ch:=ch) Kj (λb o hL hb hc e n=>u.keep b o e n (λz=>(aP.mp (I.xr b z)).elim hL hb) hc) (λb o _ _ hc e n=>u.any e n hc) (λb o hc e n=>u.free b o e n hc) (λb o hc e=>u.there b o e hc) u.nX u.mL u.pL (λm' hm=>by let⟨o',W1,W2,yd,r'⟩:=hm;rw[ho] at yd;cases yd;show#[_,W1,W2,hL,r']) c6 hg
def Inv.turned {t':Nat}{it:iW}(I:Inv X ah σ H s)(k: ∀b o,b≠it ->s.heap.get? b=some o ->h'.get? b=some o)(hn:H it=none)(hL:it≠X.env.locals) (h1:it∈X.ex \/ X.s₀.heap.objs.size<=it) (h2: ∀x c,X.env.cells.lookup x=some c ->c≠it) (h3: ∀p∈X.pn++ah,p.1≠it):Inv X ah σ H {s with heap:=h',toks:=t'}:=by
 have nit: ∀b u,H b=some u ->b≠it:=λb u e z=>by rw[z,hn] at e;cases e
 exact I.step (g':=s.gens) (d':=s.drawn) (ch:= [it]) (λb hb=> ?_) (λb o _ _ hc e _=>k b o (λz=>hc (by simp[z])) e) (λb o _ _ hc e _=>#[o.slots,k b o (λz=>hc (by simp[z])) e]) (λ_ _ _ _ n=>n) (λb o hc e=>#[o,k b o (λz=>hc (by simp[z])) e]) (λ_ _ e=>e) (λ_ _ _ e=>e) (λb ps e=>#[#[],by rw[e];simp]) (λm hm=> ?_) (λb u e=> ?_) I.bare;have e:b=it:=by simpa using hb
 subst e;show#[h1,hL,h2,h3];let⟨o,es,ep,ho,r⟩:=hm;show#[o,es,ep,k _ o (dy hL) ho,r];exact(I.c6 b u e).tJ (λc v hc q=>k c v ?_ q) (λ_ q=>q) λ_ _ q=>q;obtain z | z:=hc;rw[z];show nit b u e;show nit c _ z
theorem Inv.tok (I:Inv X ah σ H s)(t:Nat):Inv X ah σ H {s with toks:=t}:=I.un (h':=s.heap) (t':=t) Un.refl I.c6
theorem Inv.kept {t':Nat}(I:Inv X ah σ H s)(k: ∀b u,s.heap.get? b=some u ->h'.get? b=some u):Inv X ah σ H {s with heap:=h',toks:=t'}:=I.un (Un.kept k) (I.c6.kept k)
theorem Inv.laid {a:iW}{o:HO}{t':Nat}(I:Inv X ah σ H s)(k: ∀b u,s.heap.get? b=some u ->h'.get? b=some u)(hp:s.heap.objs.size<=a)(new:d3 X.prog X.w (cM H a o) h' a o): Inv X ah σ (cM H a o) {s with heap:=h',toks:=t'}:=I.un (Un.laid k hp (I.c6.fresh hp)) (I.c6.laid k hp new)
theorem Inv.write {x e:iW}{o:HO}{t':Nat}(I:Inv X ah σ H s)(mu:Vo (H x))(he:e=x \/ H e=some (.own x))(k: ∀b u,b≠e ->s.heap.get? b=some u ->h'.get? b=some u)(Rt: ∃u,h'.get? e=some u) (new:d3 X.prog X.w (cM H x o) h' x o):Inv X ah σ (cM H x o) {s with heap:=h',toks:=t'}:=I.un (Un.write mu he k Rt) (I.c6.write mu he k Rt new)
theorem Inv.weak {σ':c_ (gC V)}(I:Inv X ah σ H s)(hl:σ'.length=σ.length)(w: ∀ (i:Nat) v,σ'[i]? =some (some v) ->σ[i]? =some (some v)):Inv X ah σ' H s:=#[I.ok,I.os,I.bare,I.base,let ⟨m,hn,qY⟩:=I.loc;#[m,hn,λi x v e1 e2 e3=>qY i x v e1 (w i v e2) e3],I.cell,I.free,I.gF,I.pin,I.c6,hl.trans I.len]
theorem Inv.C9 {C_:c_ (iW×Obj)}(I:Inv X ah σ H s)(h: ∀p∈C_,s.heap.get? p.1=some p.2 /\ H p.1=none /\ p.1≠X.env.locals /\ p.1∉X.fs /\ ∀v,p.2.data≠ .cell v):Inv X C_ σ H s:=#[I.ok,I.os,I.bare,I.base,I.loc,I.cell,I.free,I.gF,λp hp=>(bh.mp hp).elim (λz=>I.pin p (List.mem_append_left _ z)) (h p),I.c6,I.len]
def zC {N:c_ Str}(hN:N.Nodup){i j:Nat}{x:Str}(a:N[i]? =some x)(b:N[j]? =some x):i=j:=by let⟨h1,e1⟩:=bv.mp a;let⟨h2,e2⟩:=bv.mp b;show(List.getElem_inj hN).mp (e1.trans e2.symm)
def vY {M:Model}{A:Z0}{E:dC ->gw ->Prop}{i:Nat}{x:Str}{v:V}{u:dC}{Q:Unit ->gw ->Prop}(I:Inv X ah σ H s)(hN:X.N.Nodup)(hi:X.N[i]? =some x)(hx:Loc X.env.scope x)(r:RelV v u) (h: ∀s',Inv X ah (σ.set i (some v)) H s' ->(∃a,Heap.SameBut a s.heap s'.heap /\ (a=X.env.locals \/ X.env.cells.lookup x=some a)) ->Q () s') (hf:X.fn x=true \/ X.env.scope.names.lookup x=some .local:=by first | show .inl rfl | show .inr rfl | assumption):wpAny M A (storeName X.env x u) Q E s:=by
 let⟨m,hn,hl⟩:=id I.loc;have ZH:(X.env.scope.kind== .class || (X.env.scope.kind== .module && X.env.locals !=X.env.globals))=false:=by rw[I.ok.kind];rfl
 have hiσ:i<σ.length:=by rw[I.len];show(bv.mp hi).1
 have QJ:=I.QJ;have tracked: ∀ {a:iW} {h':ZX},(∃o,s.heap.get? a=some o /\ H a=none) ->Heap.SameBut a s.heap h' ->mH X.prog X.w H h':=λ{a h'} ha hs b ob e=>by let⟨_,_,N5⟩:=ha;exact(I.c6 b ob e).tJ (λc w' hc q=>(hs.2 c ?_).trans q) (λ_ q=>q) λ_ _ q=>q;rintro rfl;obtain rfl | hc:=hc;rw[N5] at e;cases e;rw[N5] at hc;cases hc
 obtain hk | hk:=hx;exact wpAny_storeName_local hk hn (λh' zW hs=> ?_) ZH;let⟨oL,_,_,hoL,_⟩:=id hn;exact h _ #[I.ok,I.os,I.bare,#[λb o e n hb hx=> ?_,λb o e n hb hx=> ?_,I.base.free,λb o e hx=> ?_,I.base.nX,I.base.mL,I.base.pL],#[_,zW,λj y v' e1 e2 e3=> ?_],λy c e=> ?_,I.free,I.gF,λp hp=> ?_,tracked #[oL,hoL,I.free] hs, ⇑I.len] #[_,hs, .inl rfl];show(hs.2 b (bA (bF (aO e) I.ok.above))).trans (I.base.keep b o e n hb hx);let⟨sl,e1⟩:=I.base.slot b o e n hb hx;show#[sl,(hs.2 b (bA (bF (aO e) I.ok.above))).trans e1];let⟨o',e1⟩:=I.base.there b o e hx;show#[o',(hs.2 b (bA (bF (aO e) I.ok.above))).trans e1];by_cases hj:j=i;subst hj;rw[hi] at e1;cases e1;rw[List.getElem?_set_self hiσ] at e2;cases e2;show#[u,r, .inl #[hk,by simp]];rw[List.getElem?_set_ne (dy hj)] at e2;let⟨u',r',q⟩:=hl j y v' e1 e2 e3;exact#[u',r',?_];rcases q with⟨k,e⟩ | ⟨k,c,e,z⟩
 exact .inl #[k,?_];have:y≠x:=λe=>hj (zC hN e1 (e▸hi));simp[this,e];show .inr #[k,c,e,z.sameBut hs (QJ y c e)];let⟨w',z⟩:=I.cell y c e;show#[w',z.sameBut hs (QJ y c e)];let⟨e,n,ne,nf,d⟩:=I.pin p hp;show#[(hs.2 p.1 ne).trans e,n,ne,nf,d];have ZD:X.fn x=true:=by obtain z | z:=hf;show z;rw[z] at hk;cases hk
 let⟨c,hc⟩:=I.ok.has x (.inl hk);let⟨w',z⟩:=I.cell x c hc;exact wpAny_storeName_cell I.ok.kind hk hc z (λh' WN hs=> ?_);let⟨oc,hoc,Zn⟩:=id z;exact h {s with heap:=h'} #[I.ok,I.os,I.bare,#[λb o e n hb hx=> ?_,λb o e n hb hx=> ?_,I.base.free,λb o e hx=> ?_,I.base.nX,I.base.mL,I.base.pL],#[m,hn.sameBut hs (dy (QJ x c hc)),λj y v' e1 e2 e3=> ?_],λy c' e=> ?_,I.free,I.gF,λp hp=> ?_,tracked #[oc,hoc,I.gF x c hc] hs, ⇑I.len] #[c,hs, .inr hc];show(hs.2 b (bA (bF (aO e) (I.ok.RA x c ZD hc)))).trans (I.base.keep b o e n hb hx);let⟨sl,e1⟩:=I.base.slot b o e n hb hx;show#[sl,(hs.2 b (bA (bF (aO e) (I.ok.RA x c ZD hc)))).trans e1];let⟨o',e1⟩:=I.base.there b o e hx;show#[o',(hs.2 b (bA (bF (aO e) (I.ok.RA x c ZD hc)))).trans e1];by_cases hj:j=i;subst hj;rw[hi] at e1;cases e1;rw[List.getElem?_set_self hiσ] at e2;cases e2;show#[u,r, .inr #[.inl hk,c,hc,WN]];rw[List.getElem?_set_ne (dy hj)] at e2;let⟨u',r',q⟩:=hl j y v' e1 e2 e3;exact#[u',r',?_];obtain q | ⟨k,c',e,z'⟩:=q;show .inl q;exact .inr #[k,c',e,z'.sameBut hs ?_];rintro rfl;show hj (zC hN e1 (I.ok.inj _ _ _ e hc▸hi));by_cases hcc:c'=c;subst hcc;show#[_,WN];let⟨w2,z2⟩:=I.cell y c' e;show#[w2,z2.sameBut hs hcc];let⟨e,n,ne,nf,d⟩:=I.pin p hp;exact#[(hs.2 p.1 ?_).trans e,n,ne,nf,d];intro q;rw[q,hoc] at e;have q':oc=p.2:=bq e;show d w' (by rw[<- q'];show Zn)
theorem n8 {M:Model}{A:Z0}{E:dC ->gw ->Prop}{i:Nat}{x:Str}{v:V}{u:dC}{Q:Unit ->gw ->Prop}(I:Inv X ah σ H s)(hN:X.N.Nodup)(hi:X.N[i]? =some x)(hx:Loc X.env.scope x)(r:RelV v u) (h: ∀s',Inv X ah (σ.set i (some v)) H s' ->Q () s') (hf:X.fn x=true \/ X.env.scope.names.lookup x=some .local:=by first | show .inl rfl | show .inr rfl | assumption):wpAny M A (storeName X.env x u) Q E s:=vY I hN hi hx r (λs' I' _=>h s' I') hf
def Inv.Jw {s':gw}{ch:c_ iW}(I:Inv X ah σ H s)(ho:s'.os=s.os)(u:Un (kU X.stack) ch H H' s.heap s'.heap)(c6:mH X.prog X.w H' s'.heap)(hg:AllBare s'.gens) (Kj: ∀b∈ch,(b∈X.ex \/ X.s₀.heap.objs.size<=b) /\ b≠X.env.locals /\ (∀x c,X.env.cells.lookup x=some c ->c≠b) /\ ∀p∈X.pn++ah,p.1≠b):Inv X ah σ H' s':=by let⟨h',g',d',t',o'⟩:=s';have e:o'=s.os:=ho;subst e;show I.call (g':=g') (t':=t') (d':=d') u c6 hg Kj
end
abbrev XK:=dC ->gC iW ->Hp ->Prop
abbrev St:=c_ (gC V)
abbrev VK:=V ->Hp ->Prop
abbrev TE:=St ->Hp ->VK ->Prop
abbrev TT:=St ->Hp ->(Bool ->Hp ->Prop) ->Prop
abbrev TA:=St ->Hp ->(c_ V ->Hp ->Prop) ->Prop
structure vi where
 nx:St ->Hp ->Prop
 rt:VK
 bk:St ->Hp ->Prop:=λ_ _=>False
 ct:St ->Hp ->Prop:=λ_ _=>False
abbrev TS:=vi ->St ->Hp ->Prop
def EP (X:Cx)(ah:c_ (iW×Obj))(σ:St)(Q:VK)(u:dC)(s':gw):Prop:=cE λv H'=>cS (Inv X ah σ H' s') (RelV v u) (Q v H')
def TP (X:Cx)(ah:c_ (iW×Obj))(σ:St)(Q:Bool ->Hp ->Prop)(b:Bool)(s':gw):Prop:= ∃H',Inv X ah σ H' s' /\ Q b H'
def AP (X:Cx)(ah:c_ (iW×Obj))(σ:St)(Q:c_ V ->Hp ->Prop)(us:c_ dC)(s':gw):Prop:=cE λvs H'=>cS (Inv X ah σ H' s') (cj vs us) (Q vs H')
def SP (X:Cx)(ah:c_ (iW×Obj))(D:vi)(f:Flow)(s':gw):Prop:=
 match f with
 | .next=>cE λσ' H'=>Inv X ah σ' H' s' /\ D.nx σ' H'
 | .brk=>cE λσ' H'=>Inv X ah σ' H' s' /\ D.bk σ' H'
 | .cont=>cE λσ' H'=>Inv X ah σ' H' s' /\ D.ct σ' H'
 | .ret u=>eE λv σ' H'=>cS (Inv X ah σ' H' s') (RelV v u) (D.rt v H')
def PE (X:Cx)(e:Expr)(t:TE):Prop:=∀ (ah:c_ (iW×Obj)) (s:gw) (σ:St) (H:Hp) (Q:VK),Inv X ah σ H s ->t σ H Q ->wpAny (model X.prog X.w) X.A (eval e X.env) (EP X ah σ Q) X.xe s
def PT (X:Cx)(e:Expr)(t:TT):Prop:=∀ (ah:c_ (iW×Obj)) (s:gw) (σ:St) (H:Hp) (Q:Bool ->Hp ->Prop),Inv X ah σ H s ->t σ H Q ->wpAny (model X.prog X.w) X.A (isTrue e X.env (eval e X.env)) (TP X ah σ Q) X.xe s
def PW (X:Cx)(e:Expr)(t:TT):Prop:=∀ (Cv:Sem dC) (ah:c_ (iW×Obj)) (s:gw) (σ:St) (H:Hp) (Q:Bool ->Hp ->Prop),Inv X ah σ H s ->t σ H Q ->wpAny (model X.prog X.w) X.A (isTrue e X.env Cv) (TP X ah σ Q) X.xe s
theorem PW.pt {X:Cx}{e:Expr}{t:TT}(h:PW X e t):PT X e t:=h _
def PA (X:Cx)(es:c_ Expr)(t:TA):Prop:=∀ (pos:Pos) (ah:c_ (iW×Obj)) (s:gw) (σ:St) (H:Hp) (Q:c_ V ->Hp ->Prop),Inv X ah σ H s ->t σ H Q ->wpAny (model X.prog X.w) X.A (spliced (backTo pos (starEach es X.env))) (AP X ah σ Q) X.xe s
def PS (X:Cx)(st:Stmt)(t:TS):Prop:=∀ (ah:c_ (iW×Obj)) (s:gw) (σ:St) (H:Hp) (D:vi),Inv X ah σ H s ->t D σ H ->wpAny (model X.prog X.w) X.A (exec st X.env) (SP X ah D) X.xe s
def yI (X:Cx)(st:c_ Stmt)(t:TS):Prop:=∀ (ah:c_ (iW×Obj)) (s:gw) (σ:St) (H:Hp) (D:vi),Inv X ah σ H s ->t D σ H ->wpAny (model X.prog X.w) X.A (execs st X.env) (SP X ah D) X.xe s
theorem cX {α:Type}{t:Sem α}{Q Q':α ->gw ->Prop}{M:Model}{A:Z0}{E:dC ->gw ->Prop}{s:gw}(h:wpAny M A t Q E s)(hQ: ∀a s,Q a s ->Q' a s):wpAny M A t Q' E s:=bG h hQ λ_ _ x=>x
section
variable {X:Cx}
def bin {a b:Expr}{ta tb:TE}(ha:PE X a ta)(hb:PE X b tb){ah:c_ (iW×Obj)}{s:gw}{σ:St}{H:Hp}{R:V ->V ->Hp ->Prop}(I:Inv X ah σ H s)(h:ta σ H λx H1=>tb σ H1 λy H2=>R x y H2) {α:Type} {Q:α ->gw ->Prop} {f:dC ->dC ->Sem α} (hf: ∀v u s2 x y H2,Inv X ah σ H2 s2 ->RelV x v ->RelV y u ->R x y H2 ->wpAny (model X.prog X.w) X.A (f v u) Q X.xe s2): wpAny (model X.prog X.w) X.A (eval a X.env) (λv s₁=>wpAny (model X.prog X.w) X.A (eval b X.env) (λu s₂=>wpAny (model X.prog X.w) X.A (f v u) Q X.xe s₂) X.xe s₁) X.xe s:=by exact cX (ha ah s σ H _ I h) λv s1 ⟨x,H1,I1,r1,q1⟩=> ?_;exact cX (hb ah s1 σ H1 _ I1 q1) λu s2 ⟨y,H2,I2,r2,q2⟩=> ?_;show hf v u s2 x y H2 I2 r1 r2 q2
def KL (i:Nat):TE:=λσ H Q=> ∃v,σ[i]? =some (some v) /\ Q v H
def tC (v:V):TE:=λ_ H Q=>Q v H
def O6 {i:Nat}{x:Str}{pos:Pos}(hN:X.N[i]? =some x)(hv:Vk X.env.scope x)(hd:(x==("__debug__" :Str))=false:=by decide)(DN:(x==("__classdict__" :Str))=false:=by decide):PE X (.Name x pos) (KL i):=by
 intro ah s σ H Q I h;let⟨v,e,h⟩:=h;let⟨m,hn,hl⟩:=I.loc;let⟨u,r,l⟩:=hl i x v hN e hv;have fin:EP X ah σ Q u s:=#[v,H,I,r,h]
 rcases l with⟨hk,hm⟩ | ⟨hk,c,hc,DM⟩
 show wpAny_Name (wpAny_loadName_local I.ok.kind hk hn hm fin) hd;obtain hk | hk:=hk;show wpAny_Name (wpAny_loadName_cell I.ok.kind hk hc DM fin) hd;show wpAny_Name (wpAny_loadName_free I.ok.kind hk hc DM fin DN) hd
theorem ai {i j pos}:PE X (.Constant (.int i) j pos) (tC (.int i)):=λ_ _ _ H _ I h=>wpAny_Constant_int #[.int i,H,I.tok _,#[_,rfl],h]
theorem gV {b j pos}:PE X (.Constant (.bool b) j pos) (tC (.bl b)):=λ_ _ _ H _ I h=>Constant_bool #[.bl b,H,I,rfl,h]
theorem tT {j pos}:PE X (.Constant .none j pos) (tC .d0):=λ_ _ _ H _ I h=>Constant_none #[.d0,H,I,rfl,h]
theorem aC {x j pos}:PE X (.Constant (.str x) j pos) (tC (.str x)):=λ_ _ _ H _ I h=>Calls.Constant_str #[.str x,H,I.tok _,#[_,rfl],h]
def Gl (X:Cx)(x:Str):Prop:=X.env.kindOf x=some .globalImplicit
theorem oJ {E:dC ->gw ->Prop}{ah:c_ (iW×Obj)}{s:gw}{σ:St}{H:Hp}{x:Str}{u:dC}{pos:Pos}{Q:dC ->gw ->Prop}(I:Inv X ah σ H s)(hg:Gl X x)(hm:X.mg x=some u)(h:Q u s) (hd:(x==("__debug__" :Str))=false:=by decide):wpAny (model X.prog X.w) X.A (eval (.Name x pos) X.env) Q E s:=Calls.Name_function_global I.ok.kind hg (Calls.loadGlobal_global (by rw[I.ok.glob];show I.mod.glob.keeps I.bk) hm h) hd
def xZ {E:dC ->gw ->Prop}{ah:c_ (iW×Obj)}{s:gw}{σ:St}{H:Hp}{x:Str}{u:dC}{pos:Pos}{Q:dC ->gw ->Prop}(I:Inv X ah σ H s)(hg:Gl X x)(hm:X.mg x=none)(hv:bootBuiltins x=some u)(h:Q u s) (hn:x≠ "__name__" :=by decide) (hd:(x==("__debug__" :Str))=false:=by decide):wpAny (model X.prog X.w) X.A (eval (.Name x pos) X.env) Q E s:=by let⟨mb,h1,h2⟩:=I.mod.blt;show Calls.Name_function_global I.ok.kind hg (Calls.loadGlobal_builtin (by rw[I.ok.glob];show I.mod.glob.keeps I.bk) hm (by rw[I.ok.blt];show h1.keeps I.bk) ((h2 x hn).trans hv) h) hd
theorem fU {x:Str}{v:V}{u:dC}{pos:Pos}(hg:Gl X x)(hm:X.mg x=some u)(r:RelV v u)(hd:(x==("__debug__" :Str))=false:=by decide):PE X (.Name x pos) (tC v):=λ_ _ _ H _ I h=>oJ I hg hm #[v,H,I,r,h] hd
theorem gv {x:Str}{v:V}{u:dC}{pos:Pos}(hg:Gl X x)(hm:X.mg x=none)(hv:bootBuiltins x=some u)(r:RelV v u)(hn:x≠ "__name__" :=by decide)(hd:(x==("__debug__" :Str))=false:=by decide):PE X (.Name x pos) (tC v):=λ_ _ _ H _ I h=>xZ I hg hm hv #[v,H,I,r,h] hn hd
variable {a b:Expr}{ta tb:TE}{pos:Pos}
def PC (X:Cx)(op:CmpOp)(a b:Expr)(t:TE):Prop:=∀ (ah:c_ (iW×Obj)) (s:gw) (σ:St) (H:Hp) (Q:VK),Inv X ah σ H s ->t σ H Q ->wpAny (model X.prog X.w) X.A (eval a X.env) (λv s₁=>wpAny (model X.prog X.w) X.A (eval b X.env) (λu s₂=>wpAny (model X.prog X.w) X.A (compareOp op v u) (EP X ah σ Q) X.xe s₂) X.xe s₁) X.xe s
def zD (b:Expr){op:CmpOp}(h:op≠ .In)(h2:op≠ .NotIn):behindInMarks op b=false:=by
 have e1:(op==CmpOp.In)=false:=by cases op<;>first | rfl | show absurd rfl h
 have e2:(op==CmpOp.NotIn)=false:=by cases op<;>first | rfl | show absurd rfl h2
 cases b<;>simp[behindInMarks,e1,e2]
def tB (t:TE):TT:=λσ H Q=>t σ H λx H1=> ∃c,x= .bl c /\ Q c H1
theorem O8 {op:CmpOp}{t:TE}(h:PC X op a b t)(h1:behindInMarks op b=false:=by first | show zD _ ⋯ ⋯ | rfl):PE X (.Compare a [op] [b] pos) t:=λah s σ H Q I hw=>wpAny_Compare1 (h ah s σ H Q I hw) h1
def nB {op:CmpOp}{t:TE}(h:PC X op a b t)(h1:behindInMarks op b=false:=by first | show zD _ ⋯ ⋯ | rfl):PT X (.Compare a [op] [b] pos) (tB t):=by intro ah s σ H Q I hw;exact wpAny_isTrue_Compare1 (cX (h ah s σ H _ I hw) λv s1 h1=>cX h1 λu s2 h2=>cX h2 λc s3 ⟨x,H1,I1,r1,q1⟩=> ?_) h1;let⟨d,rfl,q⟩:=q1;cases r1;show cJ #[H1,I1,q]
def dt {e:Expr}{t:TE}(h:PE X e t)(he: ∀Cv,isTrue e X.env Cv=(do let v <- Cv;standAt e.pos;holding [v] (truthy v)):=by intro _;rfl):PT X e (tB t):=by intro ah s σ H Q I hw;exact isTrue_plain (cX (h ah s σ H _ I hw) λv s1 ⟨x,H1,I1,r1,q1⟩=> ?_) (he _);let⟨d,rfl,q⟩:=q1;cases r1;show cJ #[H1,I1,q]
variable {tA V9:TT}{c7:c_ Expr}
def SJ (t u:TT):TT:=λσ H Q=>t σ H λc H1=>if c=true then u σ H1 Q else Q false H1
def tOr (t u:TT):TT:=λσ H Q=>t σ H λc H1=>if c=true then Q true H1 else u σ H1 Q
def Sy (t:TT):TT:=λσ H Q=>t σ H λc H1=>Q (!c) H1
def mq (ha:PT X a tA):PW X (.BoolOp .And [a] pos) tA:=by
 intro wh ah s σ H Q I h;exact isTrue_and (cX (ha ah s σ H Q I h) λc s1 e=> ?_);cases c with
 | true=>show isTrue_and_nil e
 | false=>show e
def ix (ha:PT X a tA):PW X (.BoolOp .Or [a] pos) tA:=by
 intro wh ah s σ H Q I h;exact isTrue_or (cX (ha ah s σ H Q I h) λc s1 e=> ?_);cases c with
 | false=>show isTrue_or_nil e
 | true=>show e
def pS (ha:PT X a tA)(hb:PW X (.BoolOp .And (b::c7) pos) V9):PW X (.BoolOp .And (a::b::c7) pos) (SJ tA V9):=by
 intro wh ah s σ H Q I h;exact isTrue_and (cX (ha ah s σ H _ I h) λc s1 ⟨H1,I1,q1⟩=> ?_);cases c with
 | true=>show hb wh ah s1 σ H1 Q I1 q1
 | false=>show#[H1,I1,q1]
def kn (ha:PT X a tA)(hb:PW X (.BoolOp .Or (b::c7) pos) V9):PW X (.BoolOp .Or (a::b::c7) pos) (tOr tA V9):=by
 intro wh ah s σ H Q I h;exact isTrue_or (cX (ha ah s σ H _ I h) λc s1 ⟨H1,I1,q1⟩=> ?_);cases c with
 | true=>show#[H1,I1,q1]
 | false=>show hb wh ah s1 σ H1 Q I1 q1
def d9 (ha:PT X a tA):PT X (.UnaryOp .Not a pos) (Sy tA):=by intro ah s σ H Q I h;show isTrue_not (ha ah s σ H (λc H1=>Q (!c) H1) I h)
def Nl (ta tb:TE):TE:=λσ H Q=>ta σ H λx H1=> ∃c,x= .bl c /\ if c=true then tb σ H1 Q else Q (.bl false) H1
def Sw (ta tb:TE):TE:=λσ H Q=>ta σ H λx H1=> ∃c,x= .bl c /\ if c=true then Q (.bl true) H1 else tb σ H1 Q
def Nh (ta:TE):TE:=λσ H Q=>ta σ H λx H1=> ∃c,x= .bl c /\ Q (.bl (!c)) H1
theorem tS {op}{t:TE}(h:PE X a t):PE X (.BoolOp op [a] pos) t:=λah s σ H Q I hw=>BoolOp_one (h ah s σ H Q I hw)
def xM (ha:PE X a ta)(hb:PE X (.BoolOp .And (b::c7) pos) tb):PE X (.BoolOp .And (a::b::c7) pos) (Nl ta tb):=by
 intro ah s σ H Q I h;exact BoolOp_and (cX (ha ah s σ H _ I h) λv s1 ⟨x,H1,I1,r1,q1⟩=> ?_);let⟨c,rfl,q1⟩:=q1;cases r1;exact cJ ?_;cases c with
 | true=>show hb ah s1 σ H1 Q I1 q1
 | false=>show#[.bl false,H1,I1,rfl,q1]
def Tf (ha:PE X a ta)(hb:PE X (.BoolOp .Or (b::c7) pos) tb):PE X (.BoolOp .Or (a::b::c7) pos) (Sw ta tb):=by
 intro ah s σ H Q I h;exact BoolOp_or (cX (ha ah s σ H _ I h) λv s1 ⟨x,H1,I1,r1,q1⟩=> ?_);let⟨c,rfl,q1⟩:=q1;cases r1;exact cJ ?_;cases c with
 | false=>show hb ah s1 σ H1 Q I1 q1
 | true=>show#[.bl true,H1,I1,rfl,q1]
def Bq (ha:PE X a ta):PE X (.UnaryOp .Not a pos) (Nh ta):=by intro ah s σ H Q I h;exact UnaryOp_ (cX (ha ah s σ H _ I h) λv s1 ⟨x,H1,I1,r1,q1⟩=> ?_);let⟨c,rfl,q1⟩:=q1;cases r1;show not_of (cJ #[.bl (!c),H1,I1,rfl,q1])
end
def iH (K:Uc)(H:Hp)(a:iW)(xs:c_ V):Prop:=Rd H a (.lst xs) \/eE λ(o:Obj) (bQ:Ub dC) (n:Nat)=>kQ (K.lookup a=some o) (o.cls= .type "list") (o.dict=none) (o.data= .seq bQ n) (bQ.size<=sizeLine) (cj xs bQ.toList)
def kW (K:Uc)(H:Hp)(a:iW)(xs:c_ V):Prop:=Rd H a (.tup xs) \/eE λ(o:Obj) (bQ:Ub dC) (n:Nat)=>kQ (K.lookup a=some o) (o.cls= .type "tuple") (o.dict=none) (o.data= .seq bQ n) (bQ.size<=sizeLine) (cj xs bQ.toList)
def afk:dC ->gC V
 | .none=>some .d0
 | .bool b=>some (.bl b)
 | .int i _=>some (.int i)
 | .str x _=>some (.str x)
 | .bytes b _=>some (.FE b)
 | .float b _=>some (.LZ b)
 | .ref a=>some (.ref a)
 | .type n=>some (.ty n)
 | _=>none
def RelV.abs {x:V}{u:dC}(r:RelV x u):afk u=some x:=by
 cases x with
 | d0=>cases r;rfl
 | bl _=>cases r;rfl
 | int _=>let⟨t,rfl⟩:=r;rfl
 | str _=>let⟨t,rfl⟩:=r;rfl
 | FE _=>let⟨t,rfl⟩:=r;rfl
 | LZ _=>let⟨t,rfl⟩:=r;rfl
 | ref _=>cases r;rfl
 | ty _=>cases r;rfl
theorem RelV.inj {x y:V}{u:dC}(r:RelV x u)(q:RelV y u):x=y:=bq (r.abs.symm.trans q.abs)
theorem cj.inj: ∀ {xs ys:c_ V} {us:c_ dC},cj xs us ->cj ys us ->xs=ys
 | _,_,_, .nil, .nil=>rfl
 | _,_,_, .cons r t, .cons r' t'=>by rw[r.inj r',cj.inj t t']
section
variable {X:Cx}{ah:c_ (iW×Obj)}{σ:St}{H:Hp}{s:gw}{a:iW}{xs ys:c_ V}
theorem iH.of {K:Uc}(h:H a=some (.lst xs)):iH K H a xs:= .inl (.inl h)
theorem kW.of {K:Uc}(h:H a=some (.tup xs)):kW K H a xs:= .inl (.inl h)
def Inv.list (I:Inv X ah σ H s)(h:iH X.K H a xs): ∃bQ:c_ dC,cS (cj xs bQ) (PlainL s.heap a bQ.toArray) (xs.length<=sizeLine):=by obtain h | ⟨o,bQ,n,hk,hc,hd,hs,hz,r⟩:=h;let⟨z,bQ,n,r,e⟩:=h.ok I.c6;show#[bQ,r,#[_,n,e,rfl,rfl,rfl],z];exact#[bQ.toList,r,#[o,n,I.m7 a o hk,hc,hd, ⇑hs],?_];have e:=r.length;simp![dH] at e;lia
def Inv.tuple (I:Inv X ah σ H s)(h:kW X.K H a xs): ∃bQ:c_ dC,cS (cj xs bQ) (IsTup s.heap a bQ.toArray) (xs.length<=sizeLine):=by obtain h | ⟨o,bQ,n,hk,hc,_,hs,hz,r⟩:=h;let⟨z,bQ,r,p⟩:=h.ok I.c6;show#[bQ,r,p.t,z];exact#[bQ.toList,r,#[o,I.m7 a o hk,hc,n, ⇑hs],?_];have e:=r.length;simp![dH] at e;lia
def Inv.list_inj (I:Inv X ah σ H s)(h:iH X.K H a xs)(h':iH X.K H a ys):xs=ys:=by let⟨bQ,r,⟨o,n,e,_,_,d⟩,_⟩:=I.list h;let⟨its',r',⟨o',n',e',_,_,d'⟩,_⟩:=I.list h';rw[e] at e';cases e';rw[d] at d';injection d' with d1 _;have:bQ=its':= ⇑(congrArg Array.toList d1);subst this;show r.inj r'
def Inv.vT (I:Inv X ah σ H s)(h:kW X.K H a xs)(h':kW X.K H a ys):xs=ys:=by let⟨bQ,r,⟨o,e,_,n,d⟩,_⟩:=I.tuple h;let⟨its',r',⟨o',e',_,n',d'⟩,_⟩:=I.tuple h';rw[e] at e';cases e';rw[d] at d';injection d' with d1 _;have:bQ=its':= ⇑(congrArg Array.toList d1);subst this;show r.inj r'
end
abbrev Cx.pI (X:Cx)(E:dC ->gw ->Prop):Cx:= {X with xe:=E}
abbrev Cx.J7 (X:Cx):Cx:=X.pI λ_ _=>False
theorem Cx.Ok.pI {X:Cx}(ok:X.Ok)(E:dC ->gw ->Prop):(X.pI E).Ok:=#[ok.mod,ok.kind,ok.glob,ok.blt,ok.above,ok.inj,ok.has,ok.RA,ok.hd,ok.frames,ok.OS,ok.exf,ok.bs,ok.Jx,ok.E5,ok.BX,ok.nN,ok.Kn]
theorem Cx.Ok.h_ {X:Cx}{E:dC ->gw ->Prop}(ok:(X.pI E).Ok):X.Ok:=#[ok.mod,ok.kind,ok.glob,ok.blt,ok.above,ok.inj,ok.has,ok.RA,ok.hd,ok.frames,ok.OS,ok.exf,ok.bs,ok.Jx,ok.E5,ok.BX,ok.nN,ok.Kn]
section
variable {X:Cx}{ah:c_ (iW×Obj)}{σ:St}{H:Hp}{s:gw}{E:dC ->gw ->Prop}
theorem Inv.pI (I:Inv X ah σ H s)(E:dC ->gw ->Prop):Inv (X.pI E) ah σ H s:=#[I.ok.pI E,I.os,I.bare,I.base,I.loc,I.cell,I.free,I.gF,I.pin,I.c6,I.len]
theorem Inv.h_ (I:Inv (X.pI E) ah σ H s):Inv X ah σ H s:=#[I.ok.h_,I.os,I.bare,I.base,I.loc,I.cell,I.free,I.gF,I.pin,I.c6,I.len]
def SP.h_ {D:vi}{f:Flow}{s':gw}(h:SP (X.pI E) ah D f s'):SP X ah D f s':=by
 cases f with
 | next=>let⟨σ',H',I,q⟩:=h;show#[σ',H',I.h_,q]
 | brk=>let⟨σ',H',I,q⟩:=h;show#[σ',H',I.h_,q]
 | cont=>let⟨σ',H',I,q⟩:=h;show#[σ',H',I.h_,q]
 | ret u=>let⟨v,σ',H',I,r,q⟩:=h;show#[v,σ',H',I.h_,r,q]
theorem yI.J7 {st:c_ Stmt}{t:TS}(h:yI X.J7 st t):yI X st t:=λah s σ H D I hw=>bG (h ah s σ H D (I.pI _) hw) (λ_ _ q=>q.h_) λ_ _ z=>False.elim z
end
section
variable {X:Cx}{st:Stmt}{c7:c_ Stmt}{t u:TS}{e:Expr}{te:TE}{pos:Pos}
def Ni:TS:=λD σ H=>D.nx σ H
def OO (t u:TS):TS:=λD σ H=>t {D with nx:=u D} σ H
theorem aK:yI X [] Ni:=λ_ _ σ H _ I h=>wpAny_execs_nil #[σ,H,I,h]
def ag (h1:PS X st t)(h2:yI X c7 u):yI X (st::c7) (OO t u):=by
 intro ah s σ H D I h;exact wpAny_execs_cons (cX (h1 ah s σ H {D with nx:=u D} I h) λf s1 q=> ?_);cases f with
 | next=>let⟨σ',H',I',q⟩:=q;show h2 ah s1 σ' H' D I' q
 | ret v=>show q
 | brk=>show q
 | cont=>show q
def aj (h1:PS X st t):yI X [st] t:=by
 intro ah s σ H D I h;exact wpAny_execs_cons (cX (h1 ah s σ H D I h) λf s1 q=> ?_);cases f with
 | next=>show wpAny_execs_nil q
 | ret v=>show q
 | brk=>show q
 | cont=>show q
def Inv.quiet {ah:c_ (iW×Obj)}{σ:St}{H:Hp}{s:gw}(I:Inv X ah σ H s):interactive X.env=false:=by simp[interactive,I.ok.kind]
def Nj (te:TE):TS:=λD σ H=>te σ H λ_ H1=>D.nx σ H1
def bN (he:PE X e te)(hs:swapsWith e none pos.line X.env=pure false:=by rfl):PS X (.Expr e pos) (Nj te):=by intro ah s σ H D I h;show wpAny_Expr_any (cX (he ah s σ H _ I h) λv s1 ⟨x,H1,I1,r1,q1⟩=>#[σ,H1,I1,q1]) I.quiet hs
def Sv (te:TE):TS:=λD σ H=>te σ H D.rt
def aE (he:PE X e te):PS X (.Return (some e) pos) (Sv te):=by intro ah s σ H D I h;show wpAny_Return_some (cX (he ah s σ H _ I h) λv s1 ⟨x,H1,I1,r1,q1⟩=>#[x,σ,H1,I1,r1,q1])
def SA (c:TT)(t u:TS):TS:=λD σ H=>c σ H λb H1=>if b=true then t D σ H1 else u D σ H1
def bu {c:Expr}{a b:c_ Stmt}{tc:TT}(hc:PT X c tc)(ha:yI X a t)(hb:yI X b u):PS X (.If c a b pos) (SA tc t u):=by
 intro ah s σ H D I h;exact wpAny_If (cX (hc ah s σ H _ I h) λd s1 ⟨H1,I1,q1⟩=> ?_);cases d with
 | true=>show ha ah s1 σ H1 D I1 q1
 | false=>show hb ah s1 σ H1 D I1 q1
def GP:TS:=λ_ _ _=>False
theorem Hm:PS X st GP:=λ_ _ _ _ _ _ h=>h.elim
end
abbrev TG:=V ->St ->Hp ->(St ->Hp ->Prop) ->Prop
abbrev Ku:=c_ V ->St ->Hp ->(St ->Hp ->Prop) ->Prop
def PG (X:Cx)(pM:Expr)(t:TG):Prop:=∀ (ah:c_ (iW×Obj)) (s:gw) (σ:St) (H:Hp) (v:V) (u:dC) (Q:St ->Hp ->Prop),Inv X ah σ H s ->RelV v u ->t v σ H Q ->wpAny (model X.prog X.w) X.A (assign pM X.env u) (λ_ s'=>cE λσ' H'=>Inv X ah σ' H' s' /\ Q σ' H') X.xe s
def W6 (X:Cx)(ts:c_ Expr)(t:Ku):Prop:=∀ (ah:c_ (iW×Obj)) (s:gw) (σ:St) (H:Hp) (vs:c_ V) (us:c_ dC) (Q:St ->Hp ->Prop),Inv X ah σ H s ->cj vs us ->t vs σ H Q ->wpAny (model X.prog X.w) X.A (assignInOrder ((assignEach ts X.env).map (·.2)) us) (λ_ s'=>cE λσ' H'=>Inv X ah σ' H' s' /\ Q σ' H') X.xe s
abbrev JF:=V ->V ->V ->Hp ->(Hp ->Prop) ->Prop
def Vn (X:Cx)(t:JF):Prop:=∀ (ah:c_ (iW×Obj)) (s:gw) (σ:St) (H:Hp) (o i v:V) (ov iv u:dC) (Q:Hp ->Prop),Inv X ah σ H s ->RelV o ov ->RelV i iv ->RelV v u ->t o i v H Q ->wpAny (model X.prog X.w) X.A (setItem ov iv u) (λ_ s'=> ∃H',Inv X ah σ H' s' /\ Q H') X.xe s
abbrev RC:=V ->V ->Hp ->VK ->Prop
def PIp (X:Cx)(op:Operator)(t:RC):Prop:=∀ (ah:c_ (iW×Obj)) (s:gw) (σ:St) (H:Hp) (x y:V) (v u:dC) (Q:VK),Inv X ah σ H s ->RelV x v ->RelV y u ->t x y H Q ->wpAny (model X.prog X.w) X.A (inplaceOp op v u) (EP X ah σ Q) X.xe s
section
variable {X:Cx}{pos:Pos}
def lF (i:Nat):TG:=λv σ H Q=>Q (σ.set i (some v)) H
def aZ {i:Nat}{x:Str}(hN:X.N.Nodup)(hi:X.N[i]? =some x)(hx:Loc X.env.scope x)(hf:X.fn x=true \/ X.env.scope.names.lookup x=some .local:=by first | show .inl rfl | show .inr rfl | assumption):PG X (.Name x pos) (lF i):=by intro ah s σ H v u Q I r h;show wpAny_assign_Name (n8 I hN hi hx r (λs' I'=>#[_,H,I',h]) hf)
def LY:Ku:=λvs σ H Q=>vs= [] /\ Q σ H
def wE (t:TG)(u:Ku):Ku:=λvs σ H Q=>cE λv r=>vs=v::r /\ t v σ H λσ' H'=>u r σ' H' Q
def dA:W6 X [] LY:=by intro ah s σ H vs us Q I r h;let⟨e,h⟩:=h;subst e;cases r;show assignInOrder_nil #[σ,H,I,h]
def bw {e:Expr}{es:c_ Expr}{t:TG}{u:Ku}(h1:PG X e t)(h2:W6 X es u) (hs:(assignEach (e::es) X.env).map (·.2)=assign e X.env::(assignEach es X.env).map (·.2):=by rfl):W6 X (e::es) (wE t u):=by
 intro ah s σ H vs us Q I r h;let⟨v,vr,e1,h⟩:=h;subst e1;cases r with
 | cons r rr=>rw[hs];exact assignInOrder_cons (cX (h1 ah s σ H _ _ _ I r h) λ_ s1 ⟨σ1,H1,I1,q1⟩=> ?_);show h2 ah s1 σ1 H1 _ _ Q I1 rr q1
def LX (K:Uc)(n:Nat)(t:Ku):TG:=λv σ H Q=>cE λa xs=>fi (v= .ref a) (kW K H a xs) (xs.length=n) (t xs σ H Q)
def d_ {es:c_ Expr}{k:Nat}{t:Ku}{n:Nat}(hc:X.calm=true)(h:W6 X es t) (hn:(assignEach es X.env).length=n:=by rfl) (qp:(assignEach es X.env).findIdx? (·.1)=none:=by rfl):PG X (.Tuple es k pos) (LX X.K n t):=by intro ah s σ H v u Q I r hw;let⟨a,xs,e1,hq,hl,hw⟩:=hw;subst e1;cases r;let⟨bQ,rv,ht,hz⟩:=I.tuple hq;exact assign_Tuple_tuple (I.ok.hd hc) ht (by simp[hn, <- hl,rv.length]) qp λh' hx=> ?_;have I1:Inv X ah σ H {s with heap:=h'}:=I.kept (t':=s.toks) λb o e=>hx b o (bA (aO e)) e;show h ah _ σ H xs _ Q I1 ⇑rv hw
def UT (to ti:TE)(t:JF):TG:=λv σ H Q=>to σ H λo H1=>ti σ H1 λi H2=>t o i v H2 λH3=>Q σ H3
theorem pU {o i:Expr}{to ti:TE}{t:JF}(ho:PE X o to)(hi:PE X i ti)(hs:Vn X t) (ha: ∀v,assign (.Subscript o i pos) X.env v=(do
  let ov <- holding [v] (eval o X.env)
  let iv <- holding [v,ov] (eval i X.env)
  standAt pos
  holding [v,ov,iv] (setItem ov iv v)
  release [v,ov,iv] []):=by intro _;rfl):PG X (.Subscript o i pos) (UT to ti t):=by
 intro ah s σ H v u Q I r h
 rw[ha]
 exact ax (wpAny_holding (cX (ho ah s σ H _ I h) λov s1 ⟨x,H1,I1,r1,q1⟩=> ?_))
 exact ax (wpAny_holding (cX (hi ah s1 σ H1 _ I1 q1) λiv s2 ⟨y,H2,I2,r2,q2⟩=> ?_))
 exact ax (wpAny_standAt (ax (wpAny_holding (cX (hs ah s2 σ H2 x y v ov iv u _ I2 r1 r2 r q2) λ_ s3 ⟨H3,I3,q3⟩=> ?_))))
 show wpAny_release #[σ,H3,I3,q3]
def GZ (te:TE)(g:TG):TS:=λD σ H=>te σ H λx H1=>g x σ H1 D.nx
def gk {tg e:Expr}{te:TE}{g:TG}(he:PE X e te)(hg:PG X tg g)(hs:swapsWithSole [tg] e pos.line X.env=pure false:=by rfl)(hw:swappedStores [tg] e X.env=pure none:=by rfl) (h1:(assignEach [tg] X.env).map (·.2)= [assign tg X.env]:=by rfl):PS X (.Assign [tg] e pos) (GZ te g):=by intro ah s σ H D I h;exact wpAny_Assign_stores (cX (he ah s σ H _ I h) λv s1 ⟨x,H1,I1,r1,q1⟩=> ?_) hs hw;rw[h1];show cX (hg ah s1 σ H1 x v _ I1 r1 q1) λ_ s2 q=>q
def a8 {i:Nat}{x:Str}{e:Expr}{te:TE}{lq:Pos}(hN:X.N.Nodup)(hi:X.N[i]? =some x)(hx:Loc X.env.scope x)(he:PE X e te)(hs:swapsWith e (some (.Name x lq)) pos.line X.env=pure false:=by rfl)(hf:X.fn x=true \/ X.env.scope.names.lookup x=some .local:=by first | show .inl rfl | show .inr rfl | assumption): PS X (.Assign [.Name x lq] e pos) (GZ te (lF i)):=by intro ah s σ H D I h;exact wpAny_Assign_Name (cX (he ah s σ H _ I h) λv s1 ⟨y,H1,I1,r1,q1⟩=> ?_) hs;show n8 I1 hN hi hx r1 (λs2 I2=>#[_,H1,I2,q1]) hf
def SI (i:Nat)(te:TE)(ti:RC):TS:=λD σ H=> ∃x,σ[i]? =some (some x) /\ te σ H λy H1=>ti x y H1 λz H2=>D.nx (σ.set i (some z)) H2
def O4 {i:Nat}{x:Str}{e:Expr}{te:TE}{op:Operator}{ti:RC}{lq:Pos}(hN:X.N.Nodup)(hi:X.N[i]? =some x)(hx:Loc X.env.scope x)(he:PE X e te)(ho:PIp X op ti)(hf:X.fn x=true \/ X.env.scope.names.lookup x=some .local:=by first | show .inl rfl | show .inr rfl | assumption): PS X (.AugAssign (.Name x lq) op e pos) (SI i te ti):=by
 intro ah s σ H D I h;let⟨v,e1,h⟩:=h;let⟨m,hn,hl⟩:=I.loc;have XY:Vk X.env.scope x:=by obtain k | k:=hx;show .inl k;show .inr (.inl k)
 let⟨u,r,l⟩:=hl i x v hi e1 XY;exact wpAny_AugAssign_Name ?_;have go:wpAny (model X.prog X.w) X.A (eval e X.env) (λw s₂=>wpAny (model X.prog X.w) X.A (inplaceOp op u w) (λr s₃=>wpAny (model X.prog X.w) X.A (storeName X.env x r) (λ_=>SP X ah D .next) X.xe s₃) X.xe s₂) X.xe s:=by exact cX (he ah s σ H _ I h) λw s1 ⟨y,H1,I1,r1,q1⟩=> ?_;exact cX (ho ah s1 σ H1 v y u w _ I1 r r1 q1) λz s2 ⟨zv,H2,I2,r2,q2⟩=> ?_;show n8 I2 hN hi hx r2 (λs3 I3=>#[_,H2,I3,q2]) hf
 rcases l with⟨hk,hm⟩ | ⟨hk,c,hc,DM⟩
 show wpAny_loadName_local I.ok.kind hk hn hm go;obtain hk | hk:=hk;show wpAny_loadName_cell I.ok.kind hk hc DM go;obtain k | k:=hx;have:X.env.scope.names.lookup x=some .free:=hk;rw[k] at this;cases this;have:X.env.scope.names.lookup x=some .free:=hk;rw[k] at this;cases this
def ipI (f:Int ->Int ->Int):RC:=λx y H Q=>cE λi j=>cS (x= .int i) (y= .int j) (Q (.int (f i j)) H)
def P':PIp X .Add (ipI λi j=>i+j):=by intro ah s σ H x y v u Q I r1 r2 h;let⟨i,j,e1,e2,q⟩:=h;subst e1;subst e2;let⟨t,rfl⟩:=r1;let⟨t',rfl⟩:=r2;show iadd_int #[.int _,H,I.tok _,#[_,rfl],q]
end
structure It where
 go:Nat ->Hp ->Prop
 QX:Nat ->Hp ->V ->Hp ->Prop
 stop:Nat ->Hp ->Prop
def kR (X:Cx)(ah:c_ (iW×Obj))(H:Hp)(b:iW):Prop:=H b=none /\ b≠X.env.locals /\ b∉X.fs /\ (b∈X.ex \/ X.s₀.heap.objs.size<=b) /\ (∀x c,X.env.cells.lookup x=some c ->c≠b) /\ ∀p∈X.pn++ah,p.1≠b
def Inv.BV {X:Cx}{ah:c_ (iW×Obj)}{σ:St}{H H':Hp}{s:gw}{b:iW}(I:Inv X ah σ H s)(hb:s.heap.objs.size<=b)(hn:H' b=none):kR X ah H' b:=by exact#[hn,Nat.ne_of_gt (bF I.lt hb),I.YA hb, .inr (ar I.sz hb),λx c e z=> ?_,λp hp z=> ?_];let⟨v,q⟩:=I.cell x c e;show absurd (bF q.lt (by rw[z];show hb)) (Nat.lt_irrefl _);show absurd (bF (aO (I.pin p hp).1) (by rw[z];show hb)) (Nat.lt_irrefl _)
structure yu (P:Program)(w:World)(K:PySem.W.Frag)(tg:Expr)(J:It)(fp:List Addr)(it:Addr)(tn:Nat ->Heap ->Prop):Prop where
 mem:it∈fp
 obj: ∀i h,tn i h -> ∀b∈fp, ∃o,h.get? b=some o /\ ∀v,o.data≠ .cell v
 keep: ∀i h h',tn i h ->(∀b∈fp, ∀o,h.get? b=some o ->h'.get? b=some o) ->tn i h'
 item: ∀ (X:Cx),X.prog=P ->X.w=w ->X.K=K ->X.calm=true -> ∀ (i:Nat) (ah:List (Addr×Obj)) (s:Shared) (σ:St) (H:Hp) (E:Value ->Shared ->Prop),Inv X ah σ H s ->(∀b∈fp,kR X ah H b) ->tn i s.heap ->J.go i H ->wpAny (model P w) X.A (pyNext (.ref it)) (λr s1=> ∃u,r=some u /\wpAny (model P w) X.A (letOwnedTupleGo tg (.ref it) u) (λ_ s2=>cE λx H'=>gJ (Inv X ah σ H' s2) (RelV x u) (J.QX i H x H') (tn (i+1) s2.heap) (∀b∈fp,H' b=none)) E s1) E s
 done: ∀ (X:Cx),X.prog=P ->X.w=w ->X.K=K ->X.calm=true -> ∀ (i:Nat) (ah:List (Addr×Obj)) (s:Shared) (σ:St) (H:Hp) (E:Value ->Shared ->Prop),Inv X ah σ H s ->(∀b∈fp,kR X ah H b) ->tn i s.heap ->J.stop i H ->wpAny (model P w) X.A (pyNext (.ref it)) (λr s1=>r=none /\ Inv X ah σ H s1) E s
 self: ∀ (A:Around) (i:Nat) (s:Shared) (Q:Value ->Shared ->Prop) (E:Value ->Shared ->Prop),tn i s.heap ->Q (.ref it) s ->wpAny (model P w) A (pyIter (.ref it)) Q E s
abbrev TI:=St ->Hp ->(It ->Hp ->Prop) ->Prop
def PIE (X:Cx)(ah:c_ (iW×Obj))(σ:St)(tg:Expr)(R:It ->Hp ->Prop)(Ua:dC)(s2:gw):Prop:=sD λ(it:iW) (fp:c_ iW) (tn:Nat ->ZX ->Prop) (J:It) (H':Hp)=>kQ (Ua= .ref it) (Inv X ah σ H' s2) (yu X.prog X.w X.K tg J fp it tn) (tn 0 s2.heap) (∀b∈fp,kR X ah H' b) (R J H')
def PI (X:Cx)(tg iter:Expr)(wi:TI):Prop:=∀ (ah:c_ (iW×Obj)) (s:gw) (σ:St) (H:Hp) (R:It ->Hp ->Prop),Inv X ah σ H s ->wi σ H R ->wpAny (model X.prog X.w) X.A (eval iter X.env) (λv s1=>wpAny (model X.prog X.w) X.A (pyIter v) (PIE X ah σ tg R) X.xe s1) X.xe s
def wB {M:Model}{A:Z0}{E:dC ->gw ->Prop}{s:gw}{tg:Expr}{it:iW}{u:dC}{o:Obj}{n:String}{vs:Ub dC}{Q:Unit ->gw ->Prop}(ho:s.heap.get? it=some o)(hc:o.cls= .type n)(hd:o.data= .fields vs) (hn: ["enumerate","zip","dict_itemiterator","dict_reverseitemiterator","odict_iterator","itertools.zip_longest","itertools.pairwise"].contains n=false) (hQ:Q () s):wpAny M A (letOwnedTupleGo tg (.ref it) u) Q E s:=by
 unfold letOwnedTupleGo;cases tg <;>first
 | show a7 hQ
 | (cases u<;>first
  | show a7 hQ
  | (exact ax (wpAny_load ho ?_)
     rw[hc,hd]
     change wpAny M A (if(["enumerate","zip","dict_itemiterator","dict_reverseitemiterator","odict_iterator","itertools.zip_longest","itertools.pairwise"].contains n && vs[0]? ==some (rawInt _))=true then _ else _) Q E s
     rw[ak (by intro h;rw[hn,Bool.false_and] at h;cases h)]
     show a7 hQ))
def W_ (K:Uc)(a:iW):It:=#[λi H=>cE λxs x=>iH K H a xs /\ xs[i]? =some x,λi H x H'=>H'=H /\ ∀xs,iH K H a xs ->xs[i]? =some x,λi H=> ∃xs,iH K H a xs /\ xs.length<=i]
def W9 (K:Uc)(a:iW):It:=#[λi H=>cE λxs x=>kW K H a xs /\ xs[i]? =some x,λi H x H'=>H'=H /\ ∀xs,kW K H a xs ->xs[i]? =some x,λi H=> ∃xs,kW K H a xs /\ xs.length<=i]
def W' (lo:Int)(n:Nat):It:=#[λi _=>i<n,λi H x H'=>H'=H /\ x= .int (lo+i),λi _=>n<=i]
def vS {P:Y1}{w:ZW}{K:Uc}{tg:Expr}(a it:iW):yu P w K tg (W_ K a) [it] it (λi h=>h.IsListIter it a i) where
 mem:=by simp
 obj:=λi h st b hb=>by have e:b=it:= ⇑hb;subst e;let⟨o,e,c,d⟩:=st;show#[o,e,λv z=>by rw[d] at z;cases z]
 keep:=λi h h' st k=>st.at λo e=>k it (by simp) o e
 item:=by intro X hP hw hK hc i ah s σ H E I hf st hg;subst hP hw hK;let⟨xs,x,hq,hx⟩:=hg;let⟨bQ,rv,p,hz⟩:=I.list hq;let⟨u,hu,ru⟩:=rv.get hx;let⟨f0,f1,f2,f3,f4,f5⟩:=hf it (by simp);exact wpAny_pyNext_list_item st p.isList (x:=u) ⇑hu λh' bI sb=> ?_;have I1:Inv X ah σ H {s with heap:=h'}:=I.turned (t':=s.toks) (λb o hb e=>(sb.2 b hb).trans e) f0 f1 f3 f4 f5;let⟨o,e,c,d⟩:=id bI;show#[u,rfl,wB (s:= {s with heap:=h'}) e c d ⋯ #[x,H,I1,ru,#[rfl,λys hy=>by rw[I.list_inj hy hq];show hx],bI,λb hb=>(hf b hb).1]]
 done:=by intro X hP hw hK hc i ah s σ H E I hf st hg;subst hP hw hK;let⟨xs,hq,hx⟩:=hg;let⟨bQ,rv,p,hz⟩:=I.list hq;let⟨f0,f1,f2,f3,f4,f5⟩:=hf it (by simp);have hl:=rv.length;show wpAny_pyNext_list_end (I.ok.hd hc) st p.isList (by simp;lia) λh' eb=>#[rfl,I.turned (t':=s.toks) (λb o hb e=>eb b o hb e) f0 f1 f3 f4 f5]
 self:=λ_ _ _ _ _ st h=>wpAny_pyIter_listiter st h
def tF {P:Y1}{w:ZW}{K:Uc}{tg:Expr}(a it:iW):yu P w K tg (W9 K a) [it] it (λi h=>h.IsTupleIter it a i) where
 mem:=by simp
 obj:=λi h st b hb=>by have e:b=it:= ⇑hb;subst e;let⟨o,e,c,d⟩:=st;show#[o,e,λv z=>by rw[d] at z;cases z]
 keep:=λi h h' st k=>st.at λo e=>k it (by simp) o e
 item:=by intro X hP hw hK hc i ah s σ H E I hf st hg;subst hP hw hK;let⟨xs,x,hq,hx⟩:=hg;let⟨bQ,rv,p,hz⟩:=I.tuple hq;let⟨u,hu,ru⟩:=rv.get hx;let⟨f0,f1,f2,f3,f4,f5⟩:=hf it (by simp);exact wpAny_pyNext_tuple_item st (show s.heap.IsTuple a bQ.toArray from p) (x:=u) ⇑hu λh' bI sb=> ?_;have I1:Inv X ah σ H {s with heap:=h'}:=I.turned (t':=s.toks) (λb o hb e=>(sb.2 b hb).trans e) f0 f1 f3 f4 f5;let⟨o,e,c,d⟩:=id bI;show#[u,rfl,wB (s:= {s with heap:=h'}) e c d ⋯ #[x,H,I1,ru,#[rfl,λys hy=>by rw[I.vT hy hq];show hx],bI,λb hb=>(hf b hb).1]]
 done:=by intro X hP hw hK hc i ah s σ H E I hf st hg;subst hP hw hK;let⟨xs,hq,hx⟩:=hg;let⟨bQ,rv,p,hz⟩:=I.tuple hq;let⟨f0,f1,f2,f3,f4,f5⟩:=hf it (by simp);have hl:=rv.length;show wpAny_pyNext_tuple_end (I.ok.hd hc) st (show s.heap.IsTuple a bQ.toArray from p) (by simp;lia) λh' eb=>#[rfl,I.turned (t':=s.toks) (λb o hb e=>eb b o hb e) f0 f1 f3 f4 f5]
 self:=λ_ _ _ _ _ st h=>wpAny_pyIter_tupleiter st h
def Bc {P:Y1}{w:ZW}{K:Uc}{tg:Expr}(it:iW)(lo:Int)(n:Nat):yu P w K tg (W' lo n) [it] it (λi h=>IsRangeIter h it (lo+(i:Nat)*1) ((n:Int) - (i:Nat)) 1) where
 mem:=by simp
 obj :=λi h st b hb=>by have e:b=it:= ⇑hb;subst e;show#[_,st,λv z=>by have z':Data.fields _=Data.cell v:=z;cases z']
 keep:=λi h h' st k=>k it (by simp) _ st
 item:=by intro X hP hw hK hc i ah s σ H E I hf st hg;subst hP hw hK;let⟨f0,f1,f2,f3,f4,f5⟩:=hf it (by simp);have W:=Walks.range (prog:=X.prog) (w:=X.w) (I.ok.hd hc) it lo 1 n;exact W.item i s _ _ hg st λv h' tk hv bI kk=> ?_;let⟨t,rfl⟩:=hv;have I1:Inv X ah σ H {s with heap:=h',toks:=tk}:=I.turned (λb o hb e=>kk b o ⇑hb e) f0 f1 f3 f4 f5;exact#[_,rfl,wB (s:= {s with heap:=h',toks:=tk}) (n:= "range_iterator") bI rfl rfl ⋯ #[.int (lo+i),H,I1,#[t,?_],#[rfl,rfl],bI,λb hb=>(hf b hb).1]];rw[Int.mul_one]
 done:=by intro X hP hw hK hc i ah s σ H E I hf st hg;subst hP hw hK;let⟨f0,f1,f2,f3,f4,f5⟩:=hf it (by simp);show wpAny_pyNext_range_end (I.ok.hd hc) st (by have:n<=i:=hg;lia) λh' eb=>#[rfl,I.turned (t':=s.toks) (λb o hb e=>eb b o hb e) f0 f1 f3 f4 f5]
 self:=λ_ _ _ _ _ st h=>wpAny_pyIter_rangeiter st h
section
variable {X:Cx}{tg:Expr}
def Ip (K:Uc)(tl:TE):TI:=λσ H R=>tl σ H λx H1=> ∃a,cS (x= .ref a) (∃xs,iH K H1 a xs) (R (W_ K a) H1)
def P_ (K:Uc)(tl:TE):TI:=λσ H R=>tl σ H λx H1=> ∃a,cS (x= .ref a) (∃xs,kW K H1 a xs) (R (W9 K a) H1)
def sR {l:Expr}{tl:TE}(hl:PE X l tl):PI X tg l (Ip X.K tl):=by intro ah s σ H R I h;exact cX (hl ah s σ H _ I h) λv s1 ⟨x,H1,I1,r1,q1⟩=> ?_;let⟨a,e,⟨xs,hq⟩,q⟩:=q1;subst e;cases r1;let⟨bQ,rv,p,hz⟩:=I1.list hq;exact wpAny_pyIter_list p.isList ?_;exact#[s1.heap.objs.size,[s1.heap.objs.size],_,_,H1,rfl,I1.kept (t':=s1.toks) λb o e=>av _ e,vS a _,#[_,aY _ rfl,rfl,rfl],λb hb=> ?_,q];have e:b=s1.heap.objs.size:= ⇑hb;subst e;show I1.BV (aq _) (I1.c6.fresh (aq _))
def pT {l:Expr}{tl:TE}(hl:PE X l tl):PI X tg l (P_ X.K tl):=by intro ah s σ H R I h;exact cX (hl ah s σ H _ I h) λv s1 ⟨x,H1,I1,r1,q1⟩=> ?_;let⟨a,e,⟨xs,hq⟩,q⟩:=q1;subst e;cases r1;let⟨bQ,rv,p,hz⟩:=I1.tuple hq;exact wpAny_pyIter_tuple (show s1.heap.IsTuple a bQ.toArray from p) ?_;exact#[s1.heap.objs.size,[s1.heap.objs.size],_,_,H1,rfl,I1.kept (t':=s1.toks) λb o e=>av _ e,tF a _,#[_,aY _ rfl,rfl,rfl],λb hb=> ?_,q];have e:b=s1.heap.objs.size:= ⇑hb;subst e;show I1.BV (aq _) (I1.c6.fresh (aq _))
def Hf {ah:c_ (iW×Obj)}{σ:St}{H:Hp}{s:gw}{R:It ->Hp ->Prop}{E:dC ->gw ->Prop}{lo hi:Int}{t u v:Tok}{tk:Nat}(I:Inv X ah σ H s)(h1: -(2 ^ 62) <=lo)(h2:lo<2 ^ 62)(h3: -(2 ^ 62) <=hi)(h4:hi<2 ^ 62) (q:R (W' lo (hi - lo).toNat) H):wpAny (model X.prog X.w) X.A (pyIter (.ref s.heap.objs.size)) (PIE X ah σ tg R) E {s with heap:=s.heap.push {cls:= .type "range",data:= .fields (List.toArray [.int lo t, .int hi u, .int 1 v])},toks:=tk}:=by
 exact wpAny_pyIter_range (IsRange.new ..) (small_one h1 h2 h3 h4) ?_;have I1:Inv X ah σ H {s with heap:=s.heap.push {cls:= .type "range",data:= .fields (List.toArray [.int lo t, .int hi u, .int 1 v])},toks:=tk}:=I.kept λb o e=>av _ e;exact#[(s.heap.push {cls:= .type "range",data:= .fields (List.toArray [.int lo t, .int hi u, .int 1 v])}).objs.size,[(s.heap.push {cls:= .type "range",data:= .fields (List.toArray [.int lo t, .int hi u, .int 1 v])}).objs.size],_,_,H,rfl,I1.kept (t':=tk) λb o e=>av _ e,Bc _ lo (hi - lo).toNat,?_,λb hb=> ?_,q];have e1:lo+((0:Nat):Int)*1=lo:=by simp
 have e2:(((hi - lo).toNat:Nat):Int) - ((0:Nat):Int)=Builtin.Range.rangeSize lo hi 1:=by rw[rangeSize_one];split<;>lia
 change IsRangeIter _ _ (lo+((0:Nat):Int)*1) ((((hi - lo).toNat:Nat):Int) - ((0:Nat):Int)) 1;rw[e1,e2];show aY _ rfl;have e:b=(s.heap.push {cls:= .type "range",data:= .fields (List.toArray [.int lo t, .int hi u, .int 1 v])}).objs.size:=by simpa using hb
 subst e;show I1.BV (aq _) (I1.c6.fresh (aq _))
def NY (ta:TA):TI:=λσ H R=>ta σ H λvs H1=> ∃j:Int,fi (vs= [.int j]) (-(2 ^ 62) <=j) (j<2 ^ 62) (R (W' 0 j.toNat) H1)
def fJ {a:Expr}{ta:TA}{p pos:Pos}(hg:Gl X "range")(hm:X.mg "range" =none)(ha:PA X [a] ta)(hs:starEach [a] X.env= [(false,eval a X.env)]:=by rfl):PI X tg (.Call (.Name "range" p) [a] [] pos) (NY ta):=by
 intro ah s σ H R I h;exact Call_ (xZ I hg hm boot_range (PyProof.Rows.callWith_type1 (cX (ha pos ah s σ H _ I h) λus s1 ⟨vs,H1,I1,r1,q1⟩=> ?_) hs rfl));let⟨j,e,q1,q2,q⟩:=q1;subst e;cases r1 with
 | cons r rr=>cases rr;let⟨t,rfl⟩:=r;show call_range_1 (Hf I1 ∅ ∅ q1 q2 ⇑q)
def SF (wi:TI)(g:TG)(tb:TS):TS:=λD σ H=>wi σ H λJ H1=> ∃W:Nat ->Nat ->St ->Hp ->Prop,(∃m,W 0 m σ H1) /\ ∀i m σ H,W i m σ H ->(J.stop i H /\ D.nx σ H) \/ (J.go i H /\ ∃N:St ->Hp ->Prop,(∀σ' H',N σ' H' -> ∃m',m'<m /\ W (i+1) m' σ' H') /\ ∀x H',J.QX i H x H' ->g x σ H' λσ2 H2=>tb {D with nx:=N,ct:=N,bk:=D.nx} σ2 H2)
def iz (fp:c_ iW)(h:ZX):c_ (iW×Obj):=fp.filterMap λb=>(h.get? b).map λo=>(b,o)
theorem fe {fp:c_ iW}{h:ZX}{b:iW}{o:Obj}(hb:b∈fp)(e:h.get? b=some o):(b,o)∈iz fp h:=List.mem_filterMap.mpr #[b,hb,by rw[e];rfl]
def E3 {fp:c_ iW}{h:ZX}{p:iW×Obj}(hp:p∈iz fp h):p.1∈fp /\ h.get? p.1=some p.2:=by
 let⟨b,hb,e⟩:=List.mem_filterMap.mp hp;cases q:h.get? b with
 | none=>rw[q] at e;cases e
 | some o=>rw[q] at e;have e':(b,o)=p:=bq e;subst e';show#[hb,q]
theorem Inv.pinned {ah:c_ (iW×Obj)}{σ:St}{H:Hp}{s:gw}{fp:c_ iW}(I:Inv X ah σ H s)(hf: ∀b∈fp,kR X ah H b)(ho: ∀b∈fp, ∃o,s.heap.get? b=some o /\ ∀v,o.data≠ .cell v):Inv X (ah++iz fp s.heap) σ H s:=I.C9 λp hp=>(bh.mp hp).elim (λz=>I.pin p (aW _ z)) λz=>by let⟨hb,e⟩:=E3 z;let⟨f0,f1,f2,_⟩:=hf p.1 hb;let⟨o,e',d⟩:=ho p.1 hb;rw[e] at e';cases e';show#[e,f0,f1,f2,d]
theorem Inv.jk {ah pl:c_ (iW×Obj)}{σ:St}{H:Hp}{s:gw}(I:Inv X (ah++pl) σ H s):Inv X ah σ H s:=I.C9 λp hp=>I.pin p (aW _ (List.mem_append_left _ hp))
def gj {iter:Expr}{body:c_ Stmt}{wi:TI}{g:TG}{tb:TS}{pos:Pos}(hp:PassesOwn (model X.prog X.w) X.A X.env X.xe)(hc:X.calm=true)(hi:PI X tg iter wi)(hg:PG X tg g)(hb:yI X body tb) (hs: ∀x,foldedSetIterable iter X.env x=pure x:=by intro _;rfl):PS X (.For tg iter body [] pos) (SF wi g tb):=by
 intro ah s σ H D I h;exact wpAny_For (cX (hi ah s σ H _ I h) λv s1 h1=>cX h1 λUa s2 h2=> ?_) hs;let⟨it,fp,tn,J,H2,e,I2,T,n9,f2,W,⟨m0,w0⟩,turn⟩:=h2;subst e;have tK: ∀ {H':Hp},(∀b∈fp,H' b=none) -> ∀b∈fp,kR X ah H' b:=λhn b hb=>#[hn b hb,(f2 b hb).2]
 exact codeAny_forLoop_any (λn s'=>eE λi σ' H'=>fi (Inv X ah σ' H' s') (tn i s'.heap) (∀b∈fp,H' b=none) (W i n σ' H')) ?_ m0 #[0,σ,H2,I2,n9,λb hb=>(f2 b hb).1,w0];rintro n s3 ⟨i,σ3,H3,I3,vm,fr3,w3⟩;rcases turn i n σ3 H3 w3 with⟨stop,qn⟩ | ⟨go,N,hN,step⟩
 .exact wpAny_passesOwn hp (cX (T.done X rfl rfl rfl hc i ah s3 σ3 H3 X.xe I3 (tK fr3) vm stop) λr s4 ⟨hr,I4⟩=> ?_);subst hr;show wpAny_execs_nil #[σ3,H3,I4,qn]
 .exact wpAny_passesOwn hp (cX (T.item X rfl rfl rfl hc i ah s3 σ3 H3 X.xe I3 (tK fr3) vm go) λr s4 ⟨u,hr,h4⟩=> ?_);subst hr;exact wpAny_passesOwn hp (cX h4 λ_ s5 ⟨x,H5,I5,r5,y5,Q7,fr5⟩=> ?_);have I5':=I5.pinned (tK fr5) (T.obj _ _ Q7);exact wpAny_passesOwn hp (cX (hg _ s5 σ3 H5 x u _ I5' r5 (step x H5 y5)) λ_ s6 ⟨σ6,H6,I6,q6⟩=> ?_);exact wpAny_passesOwn hp (cX (hb _ s6 σ6 H6 _ I6 q6) λf s7 q7=> ?_);have again: ∀ {σ7:St} {H7:Hp},Inv X (ah++iz fp s5.heap) σ7 H7 s7 ->N σ7 H7 -> ∃m,m<n /\ eE λi σ' H'=>fi (Inv X ah σ' H' s7) (tn i s7.heap) (∀b∈fp,H' b=none) (W i m σ' H'):=λ{σ7 H7} I7 n7=>by let⟨m',hm,w7⟩:=hN σ7 H7 n7;exact#[m',hm,i+1,σ7,H7,I7.jk,T.keep _ _ _ Q7 λb hb o e=>(I7.pin (b,o) (aW _ (aW _ (fe hb e)))).1,λb hb=> ?_,w7];let⟨o,e,d⟩:=T.obj _ _ Q7 b hb;show(I7.pin (b,o) (aW _ (aW _ (fe hb e)))).2.1
  cases f with
  | next=>let⟨σ7,H7,I7,n7⟩:=q7;show again I7 n7
  | cont=>let⟨σ7,H7,I7,n7⟩:=q7;show again I7 n7
  | brk=>let⟨σ7,H7,I7,q7⟩:=q7;show#[σ7,H7,I7.jk,q7]
  | ret v=>let⟨x7,σ7,H7,I7,r7,q7⟩:=q7;show#[x7,σ7,H7,I7.jk,r7,q7]
end
abbrev R2:=V ->V ->Hp ->VK ->Prop
def iK (X:Cx)(f:dC ->dC ->Sem dC)(r:R2):Prop:=∀ (ah:c_ (iW×Obj)) (s:gw) (σ:St) (H:Hp) (x y:V) (v u:dC) (Q:VK),Inv X ah σ H s ->RelV x v ->RelV y u ->r x y H Q ->wpAny (model X.prog X.w) X.A (f v u) (EP X ah σ Q) X.xe s
def UnR (X:Cx)(f:dC ->Sem dC)(r:V ->Hp ->VK ->Prop):Prop:=∀ (ah:c_ (iW×Obj)) (s:gw) (σ:St) (H:Hp) (x:V) (v:dC) (Q:VK),Inv X ah σ H s ->RelV x v ->r x H Q ->wpAny (model X.prog X.w) X.A (f v) (EP X ah σ Q) X.xe s
def fq (X:Cx)(f:dC)(r:c_ V ->Hp ->VK ->Prop):Prop:=∀ (ah:c_ (iW×Obj)) (s:gw) (σ:St) (H:Hp) (xs:c_ V) (us:c_ dC) (Q:VK),Inv X ah σ H s ->cj xs us ->r xs H Q ->wpAny (model X.prog X.w) X.A (call f us) (EP X ah σ Q) X.xe s
def Sx (r:R2)(ta tb:TE):TE:=λσ H Q=>ta σ H λx H1=>tb σ H1 λy H2=>r x y H2 Q
def tUn (r:V ->Hp ->VK ->Prop)(ta:TE):TE:=λσ H Q=>ta σ H λx H1=>r x H1 Q
def rI (C:Int ->Int ->Prop)(g:Int ->Int ->V):R2:=λx y H Q=>cE λi j=>fi (x= .int i) (y= .int j) (C i j) (Q (g i j) H)
def K0 (g:Int ->Int ->V):R2:=λx y H Q=>cE λi j=>cS (x= .int i) (y= .int j) (Q (g i j) H)
def rU (g:Int ->V):V ->Hp ->VK ->Prop:=λx H Q=> ∃i,x= .int i /\ Q (g i) H
section
variable {X:Cx}{a b c:Expr}{ta tb tc:TE}{pos:Pos}
def QK (ha:PE X a ta)(hb:PE X b tb){ah:c_ (iW×Obj)}{s:gw}{σ:St}{H:Hp}{R:V ->V ->Hp ->Prop}(I:Inv X ah σ H s) (h:ta σ H λx H1=>tb σ H1 λy H2=>R x y H2) {Q:dC ->gw ->Prop} {f:dC ->dC ->Sem dC} (hf: ∀v u s2 x y H2,Inv X ah σ H2 s2 ->RelV x v ->RelV y u ->R x y H2 ->wpAny (model X.prog X.w) X.A (f v u) Q X.xe s2): wpAny (model X.prog X.w) X.A (eval a X.env) (λv s₁=>wpAny (model X.prog X.w) X.A (eval b X.env) (λu s₂=>wpAny (model X.prog X.w) X.A (f v u) Q X.xe s₂) X.xe s₁) X.xe s:=by exact cX (ha ah s σ H _ I h) λv s1 ⟨x,H1,I1,r1,q1⟩=> ?_;exact cX (hb ah s1 σ H1 _ I1 q1) λu s2 ⟨y,H2,I2,r2,q2⟩=> ?_;show hf v u s2 x y H2 I2 r1 r2 q2
def bS {op:Operator}{r:R2}(ho:iK X (binaryOp op) r)(ha:PE X a ta)(hb:PE X b tb):PE X (.BinOp a op b pos) (Sx r ta tb):=by intro ah s σ H Q I h;show wpAny_BinOp (QK ha hb I h λv u s2 x y H2 I2 rx ry q=>ho ah s2 σ H2 x y v u Q I2 rx ry q)
def gh {op:UnaryOp}{r:V ->Hp ->VK ->Prop}(ho:UnR X (unaryOp op) r)(ha:PE X a ta):PE X (.UnaryOp op a pos) (tUn r ta):=by intro ah s σ H Q I h;show UnaryOp_ (cX (ha ah s σ H _ I h) λv s1 ⟨x,H1,I1,r1,q1⟩=>ho ah s1 σ H1 x v Q I1 r1 q1)
def Wm {f:dC ->dC ->Sem dC}{C:Int ->Int ->Prop}{g:Int ->Int ->Int} (rule: ∀ (i j:Int) (t u:Tok) (s:gw) (Q:dC ->gw ->Prop) (E:dC ->gw ->Prop),C i j ->Q (.int (g i j) s.toks) {s with toks:=s.toks+1} ->wpAny (model X.prog X.w) X.A (f (.int i t) (.int j u)) Q E s): iK X f (rI C λi j=> .int (g i j)):=by intro ah s σ H x y v u Q I rx ry h;let⟨i,j,rfl,rfl,hc,q⟩:=h;let⟨t,rfl⟩:=rx;let⟨t',rfl⟩:=ry;show rule i j t t' s _ _ hc #[.int (g i j),H,I.tok _,#[_,rfl],q]
def Tw {f:dC ->dC ->Sem dC}{g:Int ->Int ->Int} (rule: ∀ (i j:Int) (t u:Tok) (s:gw) (Q:dC ->gw ->Prop) (E:dC ->gw ->Prop),Q (.int (g i j) s.toks) {s with toks:=s.toks+1} ->wpAny (model X.prog X.w) X.A (f (.int i t) (.int j u)) Q E s): iK X f (K0 λi j=> .int (g i j)):=by intro ah s σ H x y v u Q I rx ry h;let⟨i,j,rfl,rfl,q⟩:=h;let⟨t,rfl⟩:=rx;let⟨t',rfl⟩:=ry;show rule i j t t' s _ _ #[.int (g i j),H,I.tok _,#[_,rfl],q]
def Lk {f:dC ->dC ->Sem dC}{g:Int ->Int ->Bool} (rule: ∀ (i j:Int) (t u:Tok) (s:gw) (Q:dC ->gw ->Prop) (E:dC ->gw ->Prop),Q (.bool (g i j)) s ->wpAny (model X.prog X.w) X.A (f (.int i t) (.int j u)) Q E s): iK X f (K0 λi j=> .bl (g i j)):=by intro ah s σ H x y v u Q I rx ry h;let⟨i,j,rfl,rfl,q⟩:=h;let⟨t,rfl⟩:=rx;let⟨t',rfl⟩:=ry;show rule i j t t' s _ _ #[.bl (g i j),H,I,rfl,q]
def J5 (i j:Int):Prop:=0<j /\ j<1073741824
def QW (i j:Int):Prop:=0<=j /\ j<=1000000 /\ i.natAbs<2 ^ 64
def mQ (i j:Int):Prop:=(-(2 ^ 64) <i /\ i<2 ^ 64) \/ (-(2 ^ 64) <j /\ j<2 ^ 64)
def mQ.ok {i j:Int}(h:mQ i j):IntMulOk i j:=by
 rcases h with⟨h1,h2⟩ | ⟨h1,h2⟩
 show .of_left (intBits_le_64 h1 h2);show .of_right (intBits_le_64 h1 h2)
theorem eY:iK X (binaryOp .Add) (K0 λi j=> .int (i+j)):=Tw λ_ _ _ _ _ _ _ q=>add_int q
theorem tV:iK X (binaryOp .Sub) (K0 λi j=> .int (i - j)):=Tw λ_ _ _ _ _ _ _ q=>sub_int q
theorem gQ:iK X (binaryOp .Mult) (rI mQ λi j=> .int (i*j)):=Wm λ_ _ _ _ _ _ _ hc q=>mul_int q hc.ok
theorem Dh:iK X (binaryOp .FloorDiv) (rI J5 λi j=> .int (i / j)):=Wm λi j _ _ _ _ _ hc q=>by have h1:(0:Int) <j:=hc.1;have h2:j<1073741824:=hc.2;show floordiv_int ∅ (by rw[Int.fdiv_eq_ediv_of_nonneg i ∅];show q) (.inl (PyProof.noPylong_small ∅))
theorem ls:iK X (binaryOp .Mod) (rI (λ_ j=>0<j) λi j=> .int (i % j)):=Wm λi j _ _ _ _ _ hc q=>by have h1:(0:Int) <j:=hc;show mod_int' ∅ (by rw[Int.fmod_eq_emod_of_nonneg i ∅];show q)
theorem Pp:iK X (binaryOp .Pow) (rI QW λi j=> .int (i ^ j.toNat)):=Wm λ_ _ _ _ _ _ _ hc q=>pow_int_small hc.1 hc.2.1 hc.2.2 q
def unI {f:dC ->Sem dC}{g:Int ->Int} (rule: ∀ (i:Int) (t:Tok) (s:gw) (Q:dC ->gw ->Prop) (E:dC ->gw ->Prop),Q (.int (g i) s.toks) {s with toks:=s.toks+1} ->wpAny (model X.prog X.w) X.A (f (.int i t)) Q E s): UnR X f (rU λi=> .int (g i)):=by intro ah s σ H x v Q I rx h;let⟨i,rfl,q⟩:=h;let⟨t,rfl⟩:=rx;show rule i t s _ _ #[.int (g i),H,I.tok _,#[_,rfl],q]
theorem eV:UnR X (unaryOp .USub) (rU λi=> .int (-i)):=unI λ_ _ _ _ _ q=>neg_int q
end
def KS:V ->V ->Bool
 | .d0, .d0=>true | .d0, .int _=>true | .int _, .d0=>true | .d0, .bl _=>true | .bl _, .d0=>true | .d0, .str _=>true | .str _, .d0=>true
 | .int _, .int _=>true | .bl _, .bl _=>true | .str _, .str _=>true | .FE _, .FE _=>true
 | .int _, .str _=>true | .str _, .int _=>true | .bl _, .str _=>true | .str _, .bl _=>true
 | _,_=>false
def rEq:R2:=λx y H Q=>KS x y=true /\ Q (.bl (decide (x=y))) H
def rNe:R2:=λx y H Q=>KS x y=true /\ Q (.bl (!decide (x=y))) H
def Ef {i j:Int}:decide (V.int i=V.int j)=(i==j):=by rw[Bool.eq_iff_iff];simp
def Jh {i j:Bool}:decide (V.bl i=V.bl j)=(i==j):=by rw[Bool.eq_iff_iff];simp
def Ee {i j:Str}:decide (V.str i=V.str j)=(i==j):=by rw[Bool.eq_iff_iff];simp
def Eg {i j:Ub UInt8}:decide (V.FE i=V.FE j)=(i.toList==j.toList):=by rw[Bool.eq_iff_iff];cases i;cases j;simp
section
variable {X:Cx}{a b c:Expr}{ta tb tc:TE}{pos:Pos}
def cP {ah:c_ (iW×Obj)}{σ:St}{H:Hp}{s:gw}{Q:VK}{k k':Bool}(I:Inv X ah σ H s)(q:Q (.bl k) H)(e:k=k'):EP X ah σ Q (.bool k') s:=by subst e;show#[.bl k,H,I,rfl,q]
def dI:iK X (compareOp .Eq) rEq:=by
 intro ah s σ H x y v u Q I rx ry h;let⟨hs,q⟩:=h;cases x with
 | d0=>
  cases rx;cases y with
  | d0=>cases ry;show PySem.EqNone.eq_none_none (cP I q (by simp))
  | bl j=>cases ry;show PySem.EqNone.eq_none_bool (cP I q (by simp))
  | int j=>let⟨t',rfl⟩:=ry;show PySem.EqNone.eq_none_int (cP I q (by simp))
  | str j=>let⟨t',rfl⟩:=ry;show PySem.EqNone.eq_none_str (cP I q (by simp))
  | _=>show absurd (show false=true from hs) be
 | bl i=>
  cases rx;cases y with
  | d0=>cases ry;show PySem.EqNone.eq_bool_none (cP I q (by simp))
  | bl j=>cases ry;show eq_bool (cP I q Jh)
  | str j=>let⟨t',rfl⟩:=ry;show PySem.EqMixed.eq_bool_str (cP I q (by simp))
  | _=>show absurd (show false=true from hs) be
 | int i=>
  let⟨t,rfl⟩:=rx;cases y with
  | d0=>cases ry;show PySem.EqNone.eq_int_none (cP I q (by simp))
  | int j=>let⟨t',rfl⟩:=ry;show eq_int (cP I q Ef)
  | str j=>let⟨t',rfl⟩:=ry;show PySem.EqMixed.eq_int_str (cP I q (by simp))
  | _=>show absurd (show false=true from hs) be
 | str i=>
  let⟨t,rfl⟩:=rx;cases y with
  | d0=>cases ry;show PySem.EqNone.eq_str_none (cP I q (by simp))
  | bl j=>cases ry;show PySem.EqMixed.eq_str_bool (cP I q (by simp))
  | int j=>let⟨t',rfl⟩:=ry;show PySem.EqMixed.eq_str_int (cP I q (by simp))
  | str j=>let⟨t',rfl⟩:=ry;show eq_str (cP I q Ee)
  | _=>show absurd (show false=true from hs) be
 | FE i=>
  let⟨t,rfl⟩:=rx;cases y with
  | FE j=>let⟨t',rfl⟩:=ry;show W.eq_bytes (cP I q Eg)
  | _=>show absurd (show false=true from hs) be
 | _=>cases y<;>show absurd (show false=true from hs) be
def oB:iK X (compareOp .NotEq) rNe:=by
 intro ah s σ H x y v u Q I rx ry h;let⟨hs,q⟩:=h;cases x with
 | d0=>
  cases rx;cases y with
  | d0=>cases ry;show PySem.EqNone.ne_none_none (cP I q (by simp))
  | bl j=>cases ry;show PySem.EqNone.ne_none_bool (cP I q (by simp))
  | int j=>let⟨t',rfl⟩:=ry;show PySem.EqNone.ne_none_int (cP I q (by simp))
  | str j=>let⟨t',rfl⟩:=ry;show PySem.EqNone.ne_none_str (cP I q (by simp))
  | _=>show absurd (show false=true from hs) be
 | bl i=>
  cases rx;cases y with
  | d0=>cases ry;show PySem.EqNone.ne_bool_none (cP I q (by simp))
  | bl j=>cases ry;show ne_bool (cP I q (congrArg not Jh))
  | str j=>let⟨t',rfl⟩:=ry;show PySem.EqMixed.ne_bool_str (cP I q (by simp))
  | _=>show absurd (show false=true from hs) be
 | int i=>
  let⟨t,rfl⟩:=rx;cases y with
  | d0=>cases ry;show PySem.EqNone.ne_int_none (cP I q (by simp))
  | int j=>let⟨t',rfl⟩:=ry;show ne_int (cP I q (congrArg not Ef))
  | str j=>let⟨t',rfl⟩:=ry;show PySem.EqMixed.ne_int_str (cP I q (by simp))
  | _=>show absurd (show false=true from hs) be
 | str i=>
  let⟨t,rfl⟩:=rx;cases y with
  | d0=>cases ry;show PySem.EqNone.ne_str_none (cP I q (by simp))
  | bl j=>cases ry;show PySem.EqMixed.ne_str_bool (cP I q (by simp))
  | int j=>let⟨t',rfl⟩:=ry;show PySem.EqMixed.ne_str_int (cP I q (by simp))
  | str j=>let⟨t',rfl⟩:=ry;show ne_str (cP I q (congrArg not Ee))
  | _=>show absurd (show false=true from hs) be
 | FE i=>
  let⟨t,rfl⟩:=rx;cases y with
  | FE j=>let⟨t',rfl⟩:=ry;show W.ne_bytes (cP I q (congrArg not Eg))
  | _=>show absurd (show false=true from hs) be
 | _=>cases y<;>show absurd (show false=true from hs) be
theorem ko:iK X (compareOp .Lt) (K0 λi j=> .bl (decide (i<j))):=Lk λ_ _ _ _ _ _ _ q=>lt_int q
theorem tW:iK X (compareOp .LtE) (K0 λi j=> .bl (decide (i<=j))):=Lk λ_ _ _ _ _ _ _ q=>le_int q
theorem HA:iK X (compareOp .Gt) (K0 λi j=> .bl (decide (j<i))):=Lk λ_ _ _ _ _ _ _ q=>gt_int q
theorem zw:iK X (compareOp .GtE) (K0 λi j=> .bl (decide (j<=i))):=Lk λ_ _ _ _ _ _ _ q=>ge_int q
def EV:iK X (compareOp .In) (λx y H Q=>cE λi j=>cS (x= .str i) (y= .str j) (Q (.bl (!(Builtin.Str.occurrences j i 0 j.length 1).isEmpty)) H)):=by intro ah s σ H x y v u Q I rx ry h;let⟨i,j,rfl,rfl,q⟩:=h;let⟨t,rfl⟩:=rx;let⟨t',rfl⟩:=ry;show in_str (cP I q rfl)
def Pq:iK X (compareOp .Is) (λx y H Q=>y= .d0 /\ Q (.bl (decide (x= .d0))) H):=by
 intro ah s σ H x y v u Q I rx ry h;let⟨rfl,q⟩:=h;cases ry;exact is_none_gen (cP I q ?_);cases x<;>first
 | (cases rx;rfl)
 | (let⟨t,rfl⟩:=rx;rfl)
def a_ (b:Expr){op:CmpOp}(h:op≠ .In:=by decide)(h2:op≠ .NotIn:=by decide):behindInMarks op b=false:=by
 have e1:(op==CmpOp.In)=false:=by cases op<;>first | rfl | show absurd rfl h
 have e2:(op==CmpOp.NotIn)=false:=by cases op<;>first | rfl | show absurd rfl h2
 cases b<;>simp[behindInMarks,e1,e2]
def gu {op:CmpOp}{r:R2}(ho:iK X (compareOp op) r)(ha:PE X a ta)(hb:PE X b tb)(hm:behindInMarks op b=false):PE X (.Compare a [op] [b] pos) (Sx r ta tb):=by intro ah s σ H Q I h;show wpAny_Compare1 (QK ha hb I h λv u s2 x y H2 I2 rx ry q=>ho ah s2 σ H2 x y v u Q I2 rx ry q) hm
def GO (t:TE):TT:=λσ H Q=>t σ H λx H'=> ∃k,x= .bl k /\ Q k H'
def aR {op:CmpOp}{r:R2}(ho:iK X (compareOp op) r)(ha:PE X a ta)(hb:PE X b tb)(hm:behindInMarks op b=false):PT X (.Compare a [op] [b] pos) (GO (Sx r ta tb)):=by intro ah s σ H Q I h;exact wpAny_isTrue_Compare1 (cX (ha ah s σ H _ I h) λv s1 ⟨x,H1,I1,r1,q1⟩=>cX (hb ah s1 σ H1 _ I1 q1) λu s2 ⟨y,H2,I2,r2,q2⟩=>cX (ho ah s2 σ H2 x y v u _ I2 r1 r2 q2) λc s3 ⟨z,H3,I3,r3,k,e,q3⟩=> ?_) hm;subst e;cases r3;show cJ #[H3,I3,q3]
def Bh (r r':R2)(ta tb tc:TE):TE:=λσ H Q=>ta σ H λx H1=>tb σ H1 λy H2=>r x y H2 λz H3=> ∃k,z= .bl k /\(if k=true then tc σ H3 λw' H4=>r' y w' H4 Q else Q (.bl false) H3)
def Hq {op Ps:CmpOp}{r r':R2}(ho:iK X (compareOp op) r)(yd:iK X (compareOp Ps) r')(ha:PE X a ta)(hb:PE X b tb)(hc:PE X c tc) (hm:lastMarks [op,Ps] [b,c]=false:=by with_unfolding_all rfl):PE X (.Compare a [op,Ps] [b,c] pos) (Bh r r' ta tb tc):=by
 intro ah s σ H Q I h;exact Compare_chain (cX (ha ah s σ H _ I h) λv s1 ⟨x,H1,I1,r1,q1⟩=>chain_link (cX (hb ah s1 σ H1 _ I1 q1) λu s2 ⟨y,H2,I2,r2,q2⟩=>cX (ho ah s2 σ H2 x y v u _ I2 r1 r2 q2) λd s3 ⟨z,H3,I3,r3,k,e,q3⟩=> ?_)) hm;subst e;cases r3;exact cJ ?_;cases k with
 | false=>show ite_ff #[.bl false,H3,I3,rfl,q3]
 | true=>show ite_tt (chain_last (cX (hc ah s3 σ H3 _ I3 q3) λw' s4 ⟨z',H4,I4,r4,q4⟩=>yd ah s4 σ H4 y z' u w' Q I4 r2 r4 q4))
def zp {op Ps:CmpOp}{r r':R2}(ho:iK X (compareOp op) r)(yd:iK X (compareOp Ps) r')(ha:PE X a ta)(hb:PE X b tb)(hc:PE X c tc) (hm:lastMarks [op,Ps] [b,c]=false:=by with_unfolding_all rfl):PT X (.Compare a [op,Ps] [b,c] pos) (GO (Bh r r' ta tb tc)):=by
 intro ah s σ H Q I h;exact isTrue_chain (cX (ha ah s σ H _ I h) λv s1 ⟨x,H1,I1,r1,q1⟩=>test_link (cX (hb ah s1 σ H1 _ I1 q1) λu s2 ⟨y,H2,I2,r2,q2⟩=>cX (ho ah s2 σ H2 x y v u _ I2 r1 r2 q2) λd s3 ⟨z,H3,I3,r3,k,e,q3⟩=> ?_)) hm;subst e;cases r3;exact cJ ?_;cases k with
 | false=>let⟨k',e',q'⟩:=q3;cases e';show ite_ff #[H3,I3,q']
 | true=>exact ite_tt (test_last (cX (hc ah s3 σ H3 _ I3 q3) λw' s4 ⟨z',H4,I4,r4,q4⟩=>cX (yd ah s4 σ H4 y z' u w' _ I4 r2 r4 q4) λd' s5 ⟨z2,H5,I5,r5,k2,e2,q5⟩=> ?_));subst e2;cases r5;show cJ #[H5,I5,q5]
def p9:(sizeLine:Nat) <2 ^ 63:=by rw[c9];decide
def Bw:iK X (binaryOp .Add) (λx y H Q=>cE λi j=>fi (x= .str i) (y= .str j) (i.length+j.length<=sizeLine) (Q (.str (i++j)) H)):=by intro ah s σ H x y v u Q I rx ry h;let⟨i,j,rfl,rfl,hz,q⟩:=h;let⟨t,rfl⟩:=rx;let⟨t',rfl⟩:=ry;show add_str (λt' tk=>#[.str (i++j),H,I.tok _,#[_,rfl],q]) hz
def vals1 {x:V}{us:c_ dC}(r:cj [x] us): ∃u,us= [u] /\ RelV x u:=by
 cases r with
 | cons r1 r2=>cases r2;show#[_,rfl,r1]
def vals2 {x y:V}{us:c_ dC}(r:cj [x,y] us):cE λu w'=>cS (us= [u,w']) (RelV x u) (RelV y w'):=by
 cases r with
 | cons r1 r2=>
  cases r2 with
  | cons r3 r4=>cases r4;show#[_,_,rfl,r1,r3]
def Jv:fq X (.builtin "abs") (λxs H Q=> ∃i,xs= [.int i] /\ Q (.int (if i<0 then -i else i)) H):=by intro ah s σ H xs us Q I r h;let⟨i,rfl,q⟩:=h;let⟨u,rfl,t,rfl⟩:=vals1 r;show call_abs_int λu tk=>#[.int (if i<0 then -i else i),H,I.tok _,#[_,rfl],q]
def yl:fq X (.type "str") (λxs H Q=> ∃i,cS (xs= [.int i]) (i.natAbs.log2<1920) (Q (.str (toString i)) H)):=by intro ah s σ H xs us Q I r h;let⟨i,rfl,hz,q⟩:=h;let⟨u,rfl,t,rfl⟩:=vals1 r;show PySem.P.str_of_int hz #[.str _,H,I.tok _,#[_,rfl],q]
end
structure Cd (h:Heap)(x dx C:Addr)(mA:Str ->Option Value):Prop where
 obj:h.get? x=some (PySem.W.instObj C dx)
 ns:h.Ns1 dx mA
 ne:dx≠x
def E9 {h:ZX}{dx:iW}{mA:Str ->gC dC}(n:h.Ns1 dx mA): ∃od,h.get? dx=some od /\ ∀name,W.lookIn name od=some (mA name):=by
 let⟨o,es,ep,ho,hd,hk,_,hm⟩:=n;exact#[o,ho,λname=> ?_];have e:=hm name;unfold nsFind findBy at e;rw[<- Array.find?_toList] at e;unfold W.lookIn;rw[hd];dsimp only;split;rename_i y q;rw[q] at e;show congrArg some e;rename_i q;rw[q] at e;have a:es.toList.any (·.refKey)=false:=by rw[List.any_eq_false];intro y hy;let⟨z,t,Qo⟩:=hk y (Array.mem_toList_iff.mp hy);simp[DictEntry.refKey,Qo]
 have a':¬es.toList.any (·.refKey)=true:=by rw[a];show be
 rw[ak a'];show congrArg some e
theorem Cd.look {h:ZX}{x dx C:iW}{mA:Str ->gC dC}(I:Cd h x dx C mA): ∃od,W.InstAt h x (W.instObj C dx) C (some od) /\ ∀name,W.lookIn name od=some (mA name):=
 let ⟨od,ho,hl⟩:=E9 I.ns
 #[od,#[I.obj,rfl,rfl,ho],hl]
section
variable {prog:Y1}{w:ZW}{A:Z0}{E:dC ->gw ->Prop}{s:gw}{K:Uc}{x dx C f:iW}{mA:Str ->gC dC}{name:Str}{v:dC}
def LV {ae9:Bool}{Q:dC ->gw ->Prop}(X:K.In s.heap)(I:Cd s.heap x dx C mA)(hg:W.plainGet K C name=true)(hh:W.hasDictIn K C=true) (ha:W.findIn K (.ref C) name=some none) (hv:mA name=some v) (LM:W.handedIn v=true) (h:Q v {s with toks:=s.toks+1}): wpAny (model prog w) A (getAttr (.ref x) name ae9) Q E s:=by let⟨od,J,hl⟩:=I.look;show W.get_value X J (W.plainGet_of hg).1 (W.findObj_own hh ha rfl (by rw[hl,hv])) LM h
def IK {pl:Sem Bool}{Q:dC×c_ dC ->gw ->Prop}(X:K.In s.heap)(I:Cd s.heap x dx C mA)(hg:W.plainGet K C name=true) (hf:W.findIn K (.ref C) name=some (some (.ref f))) (ht:W.isFn K (.ref f)=true) (hv:mA name=none) (h:Q (.ref f,[.ref x]) s): wpAny (model prog w) A (getMethod (.ref x) name pl) Q E s:=by let⟨od,J,hl⟩:=I.look;show W.method_fn X J (W.plainGet_of hg).1 (W.plainGet_of hg).2 hf (beq_iff_eq.mp ht) (by change(W.lookIn name od).map (·.isSome)=some false;rw[hl,hv];rfl) h
def KP {ns:c_ Str}{Q:Unit ->gw ->Prop}(X:K.In s.heap)(I:Cd s.heap x dx C mA) (hs:W.findIn K (.ref C) "__setattr__" =some (some (.builtin "object.__setattr__"))) (hp:W.plainOver K C=true) (ht:W.takerIn K C name=some none) (hh:W.hasDictIn K C=true) (hw:PySem.Within mA ns) (hsz:ns.length<=sizeLine) (h: ∀h',Cd h' x dx C (λy=>if y=name then some v else mA y) ->Heap.SameBut dx s.heap h' ->Q () {s with heap:=h',toks:=s.toks+2}): wpAny (model prog w) A (setAttr (.ref x) name v) Q E s:=by let⟨od,J,hl⟩:=I.look;exact W.set_plain X J hs (W.osa_open (s:= {s with toks:=s.toks+1}) (r:=none) X J hp ht λb=> ?_);let⟨cd,hc,UK⟩:=W.any_some hh;have hx:s.heap.get? x=some #[.ref C,some dx, .plain, #[]]:=I.obj;exact ax (a7 (ax (ax (wpAny_loadPart hx (ax (W.Looks.here (s:= {s with toks:=s.toks+1}) (W.looks_clsIn X hc) ?_))))));rw[UK];exact a7 (a:=some dx) (ax (a7 (ax ?_)));exact wpAny_nsSet1 (s:= {s with toks:=s.toks+1}) I.ns λh' vo DK=> ?_;let⟨oD,esD,epD,hoD,hdD,hcD⟩:=vo.count (PySem.Within.cons name v hw);exact ax (wpAny_lookBehind hoD (by rw[hdD];show pastItsLine_dict (ar hcD (by rw[az];lia))) ?_);show a7 (h _ #[(DK.2 _ (dy I.ne)).trans I.obj,vo,I.ne] DK)
def HM {R:Result ->gw ->Prop}{vs:c_ dC}{kw:c_ (Str×dC)}(X:K.In s.heap)(hm:W.makesIn K C=true) (hi:W.findIn K (.ref C) "__init__" =some (some (.ref f))) (hf:W.typeIn K (.ref f)=some (.type "function")) (h:codeAny (model prog w) (A.under (.builtin "type.__call__" #[.ref C::vs,kw])) (.call (.ref f) #[.ref (s.heap.objs.size+1)::vs,kw]) (W.InitBack (s.heap.objs.size+1) R) {s with heap:=(s.heap.push W.emptyDict).push (W.instObj C s.heap.objs.size)}): codeAny (model prog w) A (.call (.ref C) #[vs,kw]) R s:=by let⟨hh,g,d,t,os⟩:=s;show W.make_core (W.makes_of X hm) (W.looks_findIn X hi) (λself=>W.bind_fn X self hf) (.inl rfl) h
end
def jv (f:Str)(v:V):c_ (Str×V) ->c_ (Str×V)
 | []=> [(f,v)]
 | (g,x)::r=>if g=f then(g,v)::r else(g,x)::jv f v r
theorem qQ (f g:Str)(v:V): ∀fs:c_ (Str×V),(jv f v fs).lookup g=if g=f then some v else fs.lookup g
 | []=>by change List.lookup g [(f,v)]=_;by_cases h:g=f;have hb:(g==f)=true:=beq_iff_eq.mpr h;simp![List.lookup,hb,am h];have hb:(g==f)=false:=beq_eq_false_iff_ne.mpr h;simp![List.lookup,hb,ak h]
 | (k, x)::r=>by have ih:=qQ f g v r;rw[show jv f v ((k,x)::r)=(if k=f then(k,v)::r else(k,x)::jv f v r) from rfl];by_cases hk:k=f;rw[am hk];by_cases h:g=k;have hb:(g==k)=true:=beq_iff_eq.mpr h;simp![List.lookup,hb,am (h.trans hk)];have hb:(g==k)=false:=beq_eq_false_iff_ne.mpr h;simp![List.lookup,hb,ak (λe:g=f=>h (e.trans hk.symm))];rw[ak hk];by_cases h:g=k;have hb:(g==k)=true:=beq_iff_eq.mpr h;simp![List.lookup,hb,ak (λe:g=f=>hk (h.symm.trans e))];have hb:(g==k)=false:=beq_eq_false_iff_ne.mpr h;simp![List.lookup,hb];show ih
theorem qa (f:Str)(v:V): ∀fs:c_ (Str×V),f∈(jv f v fs).map (·.1) /\ ∀g,g∈fs.map (·.1) ->g∈(jv f v fs).map (·.1)
 | []=>#[by simp[jv],λg h=>by simp at h]
 | (k, x)::r=>by let⟨i1,i2⟩:=qa f v r;rw[show jv f v ((k,x)::r)=(if k=f then(k,v)::r else(k,x)::jv f v r) from rfl];by_cases hk:k=f;rw[am hk];subst hk;show#[by simp,λg h=> ⇑h];rw[ak hk];exact#[?_,λg h=> ?_];rw[aH];show dj _ i1;rw[aH] at h ⊢;obtain e | e:=aP.mp h;show aP.mpr (.inl e);show dj _ (i2 g e)
theorem qS (f:Str)(v:V): ∀fs:c_ (Str×V),(jv f v fs).length<=fs.length+1
 | []=>by simp[jv]
 | (k,x)::r=>by have ih:=qS f v r;rw[show jv f v ((k,x)::r)=(if k=f then(k,v)::r else(k,x)::jv f v r) from rfl];by_cases hk:k=f;rw[am hk,az,az];lia;rw[ak hk,az,az];lia
def j8.some_of {v:V}{o:gC dC}(r:j8 (some v) o): ∃u,o=some u /\ RelV v u:=by
 cases o with
 | none=>show(show False from r).elim
 | some u=>show#[u,rfl,r]
def j8.none_of {o:gC dC}(r:j8 none o):o=none:=by
 cases o with
 | none=>rfl
 | some u=>show(show False from r).elim
def Fp {v:V}{u:dC}(r:RelV v u):W.handedIn u=true:=by
 cases v with
 | d0=>cases (show u=Value.none from r);rfl
 | bl b=>cases (show u=Value.bool b from r);rfl
 | int i=>let⟨t,e⟩:=(show ∃t,u=Value.int i t from r);cases e;rfl
 | str x=>let⟨t,e⟩:=(show ∃t,u=Value.str x t from r);cases e;rfl
 | FE b=>let⟨t,e⟩:=(show ∃t,u=Value.bytes b t from r);cases e;rfl
 | LZ b=>let⟨t,e⟩:=(show ∃t,u=Value.float b t from r);cases e;rfl
 | ref a=>cases (show u=Value.ref a from r);rfl
 | ty n=>cases (show u=Value.type n from r);rfl
section
variable {P:Y1}{w:ZW}{H H':Hp}{h h':ZX}{a C dx:iW}{fs fs':c_ (Str×V)}
def sU (c6:mH P w H h)(e:H a=some (.ins C dx fs)): ∃mA,gJ (Cd h a dx C mA) (∀f,j8 (fs.lookup f) (mA f)) (PySem.Within mA (fs.map (·.1))) (fs.length<=1000) (H dx=some (.own a)):=by
 let⟨d,z,ne,ob,mA,n,r,q⟩:=(show d3 P w H h a (.ins C dx fs) from c6 a _ e)
 show#[mA,#[ob,n,ne],r,q,z,d]
end
structure AU (K:PySem.W.Frag)(C:Addr):Prop where
 pg:PySem.W.plainGet K C Str.empty=true
 hd:PySem.W.hasDictIn K C=true
 po:PySem.W.plainOver K C=true
 sa:PySem.W.findIn K (.ref C) "__setattr__" =some (some (.builtin "object.__setattr__"))
theorem AU.get {K:Uc}{C:iW}(c:AU K C)(f:Str):W.plainGet K C f=true:=c.pg
def eZ (K:Uc)(C:iW)(f:Str):Prop:=W.findIn K (.ref C) f=some none
def eZ.Sq {K:Uc}{C:iW}{f:Str}(n:eZ K C f):W.takerIn K C f=some none:=by unfold W.takerIn;rw[show W.findIn K (.ref C) f=some none from n];rfl
structure JJ (K:PySem.W.Frag)(C:Addr)(m:Str)(f:Addr):Prop where
 at_:PySem.W.findIn K (.ref C) m=some (some (.ref f))
 fn:PySem.W.isFn K (.ref f)=true
 kp:PySem.W.keepIn K (.ref f)=true
section
variable {X:Cx}{ah:c_ (iW×Obj)}{σ:St}{H:Hp}{s:gw}{a C dx:iW}{fs:c_ (Str×V)}{f:Str}{v:V}{A:Z0}{E:dC ->gw ->Prop}
def BU {b:Bool}{Q:dC ->gw ->Prop}(I:Inv X ah σ H s)(e:H a=some (.ins C dx fs))(c:AU X.K C)(n:eZ X.K C f)(l:fs.lookup f=some v) (h: ∀u s',Inv X ah σ H s' ->RelV v u ->Q u s'):wpAny (model X.prog X.w) A (getAttr (.ref a) f b) Q E s:=by let⟨mA,O,r,_,_,_⟩:=sU I.c6 e;let⟨u,hu,ru⟩:=j8.some_of (v:=v) (o:=mA f) (by rw[<- l];show r f);show LV I.m7 O (c.get f) c.hd n hu (Fp ru) (h u _ (I.tok _) ru)
def jW {m:Str}{g:iW}{pl:Sem Bool}{Q:dC×c_ dC ->gw ->Prop}(I:Inv X ah σ H s)(e:H a=some (.ins C dx fs))(c:AU X.K C)(k:JJ X.K C m g)(l:fs.lookup m=none) (h:Q (.ref g,[.ref a]) s):wpAny (model X.prog X.w) A (getMethod (.ref a) m pl) Q E s:=by let⟨mA,O,r,_,_,_⟩:=sU I.c6 e;have hn:mA m=none:=j8.none_of (by rw[<- l];show r m);show IK I.m7 O (c.get m) k.at_ k.fn hn h
def Bi {y:V}{u:dC}{Q:Unit ->gw ->Prop}(I:Inv X ah σ H s)(e:H a=some (.ins C dx fs))(c:AU X.K C)(n:eZ X.K C f)(hl:fs.length<1000)(ry:RelV y u) (h: ∀s',Inv X ah σ (cM H a (.ins C dx (jv f y fs))) s' ->Q () s'):wpAny (model X.prog X.w) A (setAttr (.ref a) f u) Q E s:=by
 let⟨mA,O,r,wi,_,ho⟩:=sU I.c6 e;have hz:(fs.map (·.1)).length<=sizeLine:=by rw[af,c9];lia
 exact KP I.m7 O c.sa c.po n.Sq c.hd wi hz λh' O' sb=>h _ ?_;have hd: ∃o,h'.get? dx=some o:=let ⟨o,_,_,e',_⟩:=O'.ns;#[o,e']
 exact I.write (x:=a) (e:=dx) (by rw[e];show True.intro) (.inr ho) (λb q hb z=>(sb.2 b hb).trans z) hd ?_;exact#[by rw[bR O.ne];show ho,?_,O.ne,O'.obj,_,O'.ns,λg=> ?_,λg hg=> ?_];have:=qS f y fs;lia;change j8 ((jv f y fs).lookup g) (if g=f then some u else mA g);rw[qQ];by_cases q:g=f;rw[am q,am q];show ry;rw[ak q,ak q];show r g;by_cases q:g=f;rw[q];show(qa f y fs).1;exact(qa f y fs).2 g (wi g λz=>hg ?_);change(if g=f then some u else mA g)=none;rw[ak q];show z
def Inv.made (I:Inv X ah σ H s):Inv X ah σ (cM (cM H s.heap.objs.size (.own (s.heap.objs.size+1))) (s.heap.objs.size+1) (.ins C s.heap.objs.size [])) {s with heap:=(s.heap.push W.emptyDict).push (W.instObj C s.heap.objs.size)}:=by
 have e1:(s.heap.push W.emptyDict).get? s.heap.objs.size=some W.emptyDict:=aY s.heap rfl;have e2:((s.heap.push W.emptyDict).push (W.instObj C s.heap.objs.size)).get? (s.heap.objs.size+1)=some (W.instObj C s.heap.objs.size):=by have:=aY (s.heap.push W.emptyDict) (o:=W.instObj C s.heap.objs.size) rfl;rwa [Heap.size_push] at this
 have e3:(s.heap.push W.emptyDict).Ns s.heap.objs.size (λ_=>none):=#[W.emptyDict, #[],_,e1,rfl,(λe he=>absurd he (by simp)),λ_=>rfl]
 have I1:=I.laid (a:=s.heap.objs.size) (o:= .own (s.heap.objs.size+1)) (h':=s.heap.push W.emptyDict) (t':=s.toks) (λb u q=>av _ q) (aq _) #[_,e1];exact I1.laid (a:=s.heap.objs.size+1) (o:= .ins C s.heap.objs.size []) (t':=s.toks) (λb u q=>av _ q) (Nat.le_of_eq (Heap.size_push _ _)) ?_;have ne:s.heap.objs.size≠s.heap.objs.size+1:=bA (Nat.lt_succ_self _);exact#[by rw[bR ne,bZ],dh _,ne,e2,λ_=>none,(Heap.Ns1.of_empty e3).at λo q=>av _ q,λ_=>True.intro,λy hy=>absurd rfl hy]
theorem Mm {prog:Y1}{w:ZW}{env:Env}{e:Expr}{f:Str}{pos:Pos}{s:gw}{Q:dC ->gw ->Prop}(hb:attributeBase e f env (eval e env)=eval e env) (h:wpAny (model prog w) A (eval e env) (λo s₁=>wpAny (model prog w) A (getAttr o f true) Q E s₁) E s):wpAny (model prog w) A (eval (.Attribute e f pos) env) Q E s:=Attribute_any_ h (by rw[arm_eval_Attribute,hb])
end
def OP (K:Uc)(ta:TE)(f:Str):TE:=λσ H Q=>ta σ H λx H1=>sD λa C dx fs v=>kQ (x= .ref a) (H1 a=some (.ins C dx fs)) (AU K C) (eZ K C f) (fs.lookup f=some v) (Q v H1)
def SW (K:Uc)(ta tv:TE)(f:Str):TS:=λD σ H=>tv σ H λy H1=>ta σ H1 λx H2=>gm λa C dx fs=>kQ (x= .ref a) (H2 a=some (.ins C dx fs)) (AU K C) (eZ K C f) (fs.length<1000) (D.nx σ (cM H2 a (.ins C dx (jv f y fs))))
section
variable {X:Cx}{o e value:Expr}{f:Str}{pos lq Sl:Pos}{ta tv:TE}
def O7 (he:PE X e ta)(hb:attributeBase e f X.env (eval e X.env)=eval e X.env):PE X (.Attribute e f pos) (OP X.K ta f):=by intro ah s σ H Q I h;exact Mm hb (cX (he ah s σ H _ I h) λu s1 ⟨x,H1,I1,rx,a,C,dx,fs,v,ex,ea,c,n,l,q⟩=> ?_);subst ex;obtain rfl:u=Value.ref a:=rx;show BU I1 ea c n l λu' s2 I2 ru=>#[v,H1,I2,ru,q]
def jQ (ha:PE X o ta)(hv:PE X value tv)(hs:swapsWith value (some (.Attribute o f lq)) pos.line X.env=pure false):PS X (.Assign [.Attribute o f lq] value pos) (SW X.K ta tv f):=by intro ah s σ H D I h;exact plainObj_wpAny_Assign_Attribute (cX (hv ah s σ H _ I h) λu s1 ⟨y,H1,I1,ry,q⟩=>cX (ha ah s1 σ H1 _ I1 q) λov s2 ⟨x,H2,I2,rx,a,C,dx,fs,ex,ea,c,n,l,q2⟩=> ?_) hs;subst ex;obtain rfl:ov=Value.ref a:=rx;show Bi I2 ea c n l ry λs3 I3=>#[σ,_,I3,q2]
theorem NM {pl:Sem Bool}{m:Str}{dL:Pos}{args:c_ Expr}{ah:c_ (iW×Obj)}{s:gw}{σ:St}{H:Hp}{Q:dC ->gw ->Prop}{te:TE}(he:PE X e te)(I:Inv X ah σ H s) (h:te σ H λx H1=>sD λa C dx fs g=>kQ (x= .ref a) (H1 a=some (.ins C dx fs)) (AU X.K C) (JJ X.K C m g) (fs.lookup m=none) (∀s1,Inv X ah σ H1 s1 ->wpAny (model X.prog X.w) X.A (callWith pos (.ref g) [.ref a] (backTo pos (starEach args X.env)) (backToKw pos (keywordEach [] X.env))) Q X.xe s1)) (ht:eval (.Call (.Attribute e m dL) args [] pos) X.env=(do
   let ov <- eval e X.env
   standAt dL.atName
   let (f,first) <- holding [ov] (getMethod ov m pl)
   callWith pos f first (backTo pos (starEach args X.env)) (backToKw pos (keywordEach [] X.env)))):
  wpAny (model X.prog X.w) X.A (eval (.Call (.Attribute e m dL) args [] pos) X.env) Q X.xe s:=by
 exact W.methodCall_KW (pl:=pl) (cX (he ah s σ H _ I h) λu s1 ⟨x,H1,I1,rx,a,C,dx,fs,g,ex,ea,c,k,l,q⟩=> ?_) ht
 subst ex
 obtain rfl:u=Value.ref a:=rx
 show jW I1 ea c k l (q s1 I1)
end
section
variable {X:Cx}{ah:c_ (iW×Obj)}{σ:St}{H:Hp}{s:gw}{A:Z0}{E:dC ->gw ->Prop}{Q:dC ->gw ->Prop}{c:dC}{b:Bool}
inductive qA (K:PySem.W.Frag)(H:Hp):V ->Value ->Prop where
 | d0:qA K H .d0 (.type "NoneType")
 | bl (x:Bool):qA K H (.bl x) (.type "bool")
 | int (i:Int):qA K H (.int i) (.type "int")
 | str (x:Str):qA K H (.str x) (.type "str")
 | LZ (x:UInt64):qA K H (.LZ x) (.type "float")
 | lst {a:Addr} {xs:List V} (e:H a=some (.lst xs)):qA K H (.ref a) (.type "list")
 | kT {a:Addr} {o:Obj} {xs:List V} (e:H a=some (.kT o (.lst xs))):qA K H (.ref a) (.type "list")
 | tup {a:Addr} {xs:List V} (e:H a=some (.tup xs)):qA K H (.ref a) (.type "tuple")
 | dK {a:Addr} {kvs:List (cz×V)} (e:H a=some (.dK kvs)):qA K H (.ref a) (.type "dict")
 | dT {a:Addr} {kvs:List (List cz×V)} (e:H a=some (.dT kvs)):qA K H (.ref a) (.type "dict")
 | ins {a C dx:Addr} {fs:List (Str×V)} (e:H a=some (.ins C dx fs)) (cl:AU K C) (ha:PySem.W.findIn K (.ref C) "__class__" =some (some (.builtin "object.__class__"))) (hn:PySem.W.specialIn K (.builtin "object.__class__") "__get__" =some (some (.builtin "getset_descriptor.__get__"))) (htk:PySem.W.takesIn K (.builtin "object.__class__")=some true) (hm:PySem.W.mroIn K C (.type "object")=some true):qA K H (.ref a) (.ref C)
def Ff {x:V}{u t:dC}(I:Inv X ah σ H s)(rx:RelV x u)(ty:qA X.K H x t)(e:W.kitOne X.K t c=some b)(h: ∀tk,Q (.bool b) {s with toks:=tk}): wpAny (model X.prog X.w) A (call (.builtin "isinstance") [u,c]) Q E s:=by
 cases ty with
 | d0=>cases (show u=Value.none from rx);show cA W.kitx_none I.m7 True.intro e (λz=>nomatch z) h
 | bl y=>cases (show u=Value.bool y from rx);show cA W.kitx_bool I.m7 True.intro e (λz=>nomatch z) h
 | int i=>let⟨t,q⟩:=(show ∃t,u=Value.int i t from rx);cases q;show cA W.kitx_int I.m7 True.intro e (λz=>nomatch z) h
 | str y=>let⟨t,q⟩:=(show ∃t,u=Value.str y t from rx);cases q;show cA W.kitx_str I.m7 True.intro e (λz=>nomatch z) h
 | LZ y=>let⟨t,q⟩:=(show ∃t,u=Value.float y t from rx);cases q;show cA W.kitx_float I.m7 True.intro e (λz=>nomatch z) h
 | @lst a xs ea=>
  cases (show u=Value.ref a from rx);let⟨_,_,n,_,h1⟩:=(show d3 X.prog X.w H s.heap a (.lst xs) from I.c6 a _ ea)
  show cA W.kitx_list I.m7 #[_,h1,rfl] e (λz=>nomatch z) h
 | @kT a ob xs ea=>
  cases (show u=Value.ref a from rx);let⟨_,_,_,n,_,h1⟩:=(show d3 X.prog X.w H s.heap a (.kT ob (.lst xs)) from I.c6 a _ ea)
  show cA W.kitx_list I.m7 #[_,h1,rfl] e (λz=>nomatch z) h
 | @tup a xs ea=>
  cases (show u=Value.ref a from rx);let⟨_,_,_,p⟩:=(show d3 X.prog X.w H s.heap a (.tup xs) from I.c6 a _ ea)
  let⟨o,h1,h2,_⟩:=p;show cA W.kitx_tuple I.m7 #[o,h1,h2] e (λz=>nomatch z) h
 | @dK a kvs ea=>
  cases (show u=Value.ref a from rx);let⟨_,_,vs,_,p⟩:=(show d3 X.prog X.w H s.heap a (.dK kvs) from I.c6 a _ ea)
  let⟨o,es,ep,h1,h2,_⟩:=p;show cA W.kitx_dict I.m7 #[o,h1,h2.1] e (λz=>nomatch z) h
 | @dT a kvs ea=>
  cases (show u=Value.ref a from rx);let⟨_,_,xs,_,o,es,ep,h1,h2,_⟩:=(show d3 X.prog X.w H s.heap a (.dT kvs) from I.c6 a _ ea)
  show cA W.kitx_dict I.m7 #[o,h1,h2.1] e (λz=>nomatch z) h
 | @ins a C dx fs ea cl ha hn htk hm=>cases (show u=Value.ref a from rx);let⟨mA,O,_⟩:=sU I.c6 ea;let⟨od,J,_⟩:=O.look;show cA (W.kitx_own (cl.get _) cl.hd ha hn htk hm) I.m7 J e (λz=>nomatch z) h
end
structure eG (k:Nat)(A:Around):Prop where
 hd:A.handled=none
 dp:A.depth+3*k+5<recursionLimit
 un:A.units+16*k+200<cLine
theorem eG.mono {j k:Nat}{A:Z0}(r:eG k A)(h:j<=k):eG j A:=#[r.hd,by have:=r.dp;lia,by have:=r.un;lia]
theorem eG.deeper {k:Nat}{A:Z0}(r:eG (k+1) A)(env:Env):eG k (A.deeper env):=#[r.hd,by have:=r.dp;change A.depth+1+3*k+5<_;lia,by have:=r.un;change A.units+3+16*k+200<_;lia]
def BG {A:Z0}{C:iW}{us:c_ dC}{kw:c_ (Str×dC)}:(A.under (.builtin "type.__call__" #[.ref C::us,kw])).depth=A.depth+1:=by first | rfl | simp[Around.under,Code.weight,Code.isCreation,Code.isGuard,Code.isCaller,Code.frames,Code.isFrame,guardIds]
def BF {A:Z0}{C:iW}{us:c_ dC}{kw:c_ (Str×dC)}:(A.under (.builtin "type.__call__" #[.ref C::us,kw])).units=A.units+1:=by first | rfl | simp[Around.under,Code.cUnits,Code.frames,Code.isFrame]
theorem eG.make {k:Nat}{A:Z0}(r:eG (k+1) A)(C:iW)(us:c_ dC)(kw:c_ (Str×dC)):eG k (A.under (.builtin "type.__call__" #[.ref C::us,kw])):=#[r.hd,by have:=r.dp;rw[BG];lia,by have:=r.un;rw[BF];lia]
def eG.depth {k:Nat}{A:Z0}(r:eG k A):A.depth<recursionLimit:=by have:=r.dp;lia
def eG.units {k:Nat}{A:Z0}(r:eG k A):A.units+64<cLine:=by have:=r.un;lia
def EE:TA:=λ_ H Q=>Q [] H
def GX (ta:TE)(tr:TA):TA:=λσ H Q=>ta σ H λx H1=>tr σ H1 λxs H2=>Q (x::xs) H2
section
variable {X:Cx}{e:Expr}{es:c_ Expr}{te:TE}{t:TA}{pos:Pos}
theorem ae:PA X [] EE:=λ_ _ _ _ H Q I h=>Calls.spliced_nil #[[],H,I, .nil,h]
def aa (ha:PE X e te)(hr:PA X es t)(hs:starEach (e::es) X.env=(false,eval e X.env)::starEach es X.env:=by rfl):PA X (e::es) (GX te t):=by intro pos ah s σ H Q I h;rw[hs];change wpAny _ _ (spliced ((false,eval e X.env)::backTo pos (starEach es X.env))) _ _ s;exact Calls.spliced_cons (cX (ha ah s σ H _ I h) λu s1 ⟨x,H1,I1,r1,q1⟩=> ?_);show cX (hr pos ah s1 σ H1 _ I1 q1) λus s2 ⟨xs,H2,I2,r2,q2⟩=>#[x::xs,H2,I2, .cons r1 r2,q2]
def Ss (t:TA):TE:=λσ H Q=>t σ H λxs H1=>xs.length<=sizeLine /\ ∀p,H1 p=none ->Q (.ref p) (cM H1 p (.tup xs))
def Sz (t:TA):TE:=λσ H Q=>t σ H λxs H1=>xs.length<=sizeLine /\ ∀p,H1 p=none ->Q (.ref p) (cM H1 p (.lst xs))
def aN {x1}(h:PA X es t):PE X (.Tuple es x1 pos) (Ss t):=by intro ah s σ H Q I hq;exact wpAny_Tuple_spliced (cX (h pos ah s σ H _ I hq) λus s1 ⟨xs,H1,I1,r,z,q⟩=>#[by rw[<- r.length];show z,?_]);have hf:H1 s1.heap.objs.size=none:=I1.c6.fresh (aq _);exact#[.ref s1.heap.objs.size,cM H1 s1.heap.objs.size (.tup xs),I1.laid (t':=s1.toks) (λb u e=>av _ e) (aq _) ?_,rfl,q _ hf];show#[z,us,r,#[_,aY _ rfl,rfl,_,rfl,rfl]]
def fI (h:PA X es t):PE X (.List es pos) (Sz t):=by intro ah s σ H Q I hq;exact wpAny_List_spliced (cX (h pos ah s σ H _ I hq) λus s1 ⟨xs,H1,I1,r,z,q⟩=>#[by rw[<- r.length];show z,?_]);have hf:H1 s1.heap.objs.size=none:=I1.c6.fresh (aq _);exact#[.ref s1.heap.objs.size,cM H1 s1.heap.objs.size (.lst xs),I1.laid (t':=s1.toks) (λb u e=>av _ e) (aq _) ?_,rfl,q _ hf];show#[z,us,0,r,aY _ rfl]
end
abbrev Sp:=c_ V ->Hp ->VK ->XK ->Prop
abbrev AV:=c_ Env ->Hp ->gw ->XK ->dC ->gw ->Prop
structure Cp (P:Program)(w:World)(K:PySem.W.Frag)(mg:Str ->Option Value)(base:Heap)(A:Around)(outer:List Env)(s:Shared)(H:Hp):Prop where
 frames:A.frames=some outer
 mod:Mod K mg base
 bs: ∀b o,base.get? b=some o ->s.heap.get? b=some o /\ H b=none
 Jx:base.objs.size<=s.heap.objs.size
 nN:s.heap.FunFrames base outer
 Kn: ∀b∈kU outer,H b=none
 c6:mH P w H s.heap
 bare:AllBare s.gens
def CE (outer:c_ Env)(P:Y1)(w:ZW)(H:Hp)(s:gw)(Q:VK)(u:dC)(s':gw):Prop:=cE λv H'=>kQ (s'.os=s.os) (AllBare s'.gens) (Un (kU outer) [] H H' s.heap s'.heap) (mH P w H' s'.heap) (RelV v u) (Q v H')
def CR (CX:AV)(outer:c_ Env)(P:Y1)(w:ZW)(H:Hp)(s:gw)(Q:VK)(E:XK)(r:Result)(s':gw):Prop:=
 match r with
 | .ok (.ret u)=>CE outer P w H s Q u s'
 | .ok _=>False
 | .error e=>CX outer H s E e s'
structure bE (P:Program)(w:World)(K:PySem.W.Frag)(mg:Str ->Option Value)(base:Heap)(CX:AV)(k:Nat)(f:Addr)(fd:FuncData)(ps:List Str)(sp:Sp):Prop where
 len: ∀vs H Q E,sp vs H Q E ->vs.length=ps.length
 run: ∀ (A:Around) (outer:List Env) (s:Shared) (H:Hp) (args:Args) (us:List Value) (vs:List V) (Q:VK) (E:XK),eG k A ->Cp P w K mg base A outer s H ->BindsTo s fd args (ps.zip us) ->cj vs us ->sp vs H Q E ->codeAny (model P w) A (.call (.ref f) args) (CR CX outer P w H s Q E) s
theorem bE.mono {P:Y1}{w:ZW}{K:Uc}{mg:Str ->gC dC}{base:ZX}{CX:AV}{j k:Nat}{f:iW}{fd:ZZ}{ps:c_ Str}{sp:Sp}(F:bE P w K mg base CX j f fd ps sp)(h:j<=k): bE P w K mg base CX k f fd ps sp:=#[F.len,λA outer s H args us vs Q E hr=>F.run A outer s H args us vs Q E (hr.mono h)]
theorem bE.imp {P:Y1}{w:ZW}{K:Uc}{mg:Str ->gC dC}{base:ZX}{CX:AV}{k:Nat}{f:iW}{fd:ZZ}{ps:c_ Str}{sp SR:Sp}(F:bE P w K mg base CX k f fd ps sp) (h: ∀vs H Q E,SR vs H Q E ->sp vs H Q E):bE P w K mg base CX k f fd ps SR:=#[λvs H Q E q=>F.len vs H Q E (h _ _ _ _ q),λA outer s H args us vs Q E hr he hb hv hs=>F.run A outer s H args us vs Q E hr he hb hv (h _ _ _ _ hs)]
theorem Cp.make {P:Y1}{w:ZW}{K:Uc}{mg:Str ->gC dC}{base:ZX}{A:Z0}{outer:c_ Env}{s:gw}{H:Hp}(e:Cp P w K mg base A outer s H)(C:iW)(us:c_ dC)(kw:c_ (Str×dC)): Cp P w K mg base (A.under (.builtin "type.__call__" #[.ref C::us,kw])) outer s H:=#[by first | show e.frames | (simpa [Around.under,Code.envs,Code.isFrame,pushEnvs] using e.frames),e.mod,e.bs,e.Jx,e.nN,e.Kn,e.c6,e.bare]
section
variable {X:Cx}{ah:c_ (iW×Obj)}{σ:St}{H:Hp}{s s':gw}
theorem Inv.L' (I:Inv X ah σ H s):Cp X.prog X.w X.K X.mg X.base X.A X.stack s H:=#[I.ok.frames,I.ok.mod,I.bs,ar I.ok.Jx I.sz,I.stack,I.sN,I.c6,I.bare]
def Inv.after {Q:VK}{u:dC}(I:Inv X ah σ H s)(h:CE X.stack X.prog X.w H s Q u s'):EP X ah σ Q u s':=by let⟨v,H',os,bare,un,c6,r,q⟩:=h;let⟨hh,g,d,t,os'⟩:=s';obtain rfl:os'=s.os:=os;show#[v,H',I.call (h':=hh) (g':=g) (d':=d) (t':=t) (ch:= []) un c6 bare (λb z=>absurd z (by simp)),r,q]
end
def vW (sp:Sp)(vG:c_ V)(E:XK)(t:TA):TE:=λσ H Q=>t σ H λvs H1=>sp (vs++vG) H1 Q E
def qE (C:iW)(m:Str)(sp:Sp)(vG:c_ V)(E:XK)(ta:TE)(t:TA):TE:=λσ H Q=>ta σ H λx H1=>eE λa dx fs=>fi (x= .ref a) (H1 a=some (.ins C dx fs)) (fs.lookup m=none) (t σ H1 λvs H2=>sp (x::(vs++vG)) H2 Q E)
def GQ (C:iW)(sp:Sp)(vG:c_ V)(E:XK)(t:TA):TE:=λσ H Q=>t σ H λvs H1=> ∀x dx,H1 x=none ->H1 dx=none ->dx≠x ->sp (.ref x::(vs++vG)) (cM (cM H1 dx (.own x)) x (.ins C dx [])) (λv H2=>v= .d0 /\ Q (.ref x) H2) E
def Binds (K:Uc)(fd:ZZ)(ps:c_ Str)(ds:c_ dC):Prop:=∀ (s:gw) (us:c_ dC),K.In s.heap ->(us++ds).length=ps.length ->BindsTo s fd #[us,[]] (ps.zip (us++ds))
theorem Binds.all {K:Uc}{fd:ZZ}{ps:c_ Str}(h: ∀us:c_ dC,us.length=ps.length ->bindArgs fd #[us,[]]=pure (ps.zip us)):Binds K fd ps []:=λs us _ hl=>by rw[c8] at hl ⊢;show .of_eq (h us hl)
def gT (CX:AV)(X:Cx)(E:XK):Prop:= ∀ (ah:c_ (iW×Obj)) (σ:St) (H:Hp) (s:gw) (e:dC) (s':gw),Inv X ah σ H s ->CX X.stack H s E e s' ->X.xe e s'
section
variable {X:Cx}{CX:AV}{k:Nat}{f C:iW}{fd:ZZ}{ps:c_ Str}{sp:Sp}{vG:c_ V}{ds:c_ dC}{E:XK}{x m:Str}{p pos dL:Pos}{e o:Expr}{es:c_ Expr}{ta:TE}{t:TA}
def Bo {ah:c_ (iW×Obj)}{σ:St}{H:Hp}{s:gw}{Q:VK}{us:c_ dC}{vs:c_ V}(F:bE X.prog X.w X.K X.mg X.base CX k f fd ps sp)(hr:eG k X.A)(hb:Binds X.K fd ps ds)(hd:cj vG ds)(hx:gT CX X E) (I:Inv X ah σ H s) (r:cj vs us) (h:sp (vs++vG) H Q E):wpAny (model X.prog X.w) X.A (call (.ref f) us) (EP X ah σ Q) X.xe s:=by
 have r2:cj (vs++vG) (us++ds):=r.append hd;have hl:(us++ds).length=ps.length:=by rw[<- r2.length];show F.len _ _ _ _ h
 exact wpAny_call (codeAny_mono (F.run X.A X.stack s H #[us,[]] (us++ds) (vs++vG) Q E hr I.L' (hb s us I.m7 hl) r2 h) λr s' hq=> ?_);cases r with
 | error e=>show hx ah σ H s e s' I hq
 | ok fl=>
  cases fl with
  | ret u=>show I.after hq
  | next=>show False.elim hq
  | brk=>show False.elim hq
  | cont=>show False.elim hq
def De (F:bE X.prog X.w X.K X.mg X.base CX k f fd ps sp)(hr:eG k X.A)(hg:Gl X x)(hm:X.mg x=some (.ref f))(hk:W.keepIn X.K (.ref f)=true)(hb:Binds X.K fd ps ds)(hd:cj vG ds)(hx:gT CX X E) (ha:PA X (e::es) t) (wA:(x==("__debug__" :Str))=false:=by decide) (he:starEach (e::es) X.env=(false,eval e X.env)::starEach es X.env:=by rfl) (pG:(backTo pos (starEach es X.env)).any (·.1)=false:=by rfl): PE X (.Call (.Name x p) (e::es) [] pos) (vW sp vG E t):=by intro ah s σ H Q I h;exact wpAny_Call_Name_kw (oJ I hg hm ?_ wA);exact W.callWith_K (h₀:=X.base) I.ok.mod.NV hk (cX (ha pos ah s σ H _ I h) λus s1 ⟨vs,H1,I1,r,q⟩=>#[I1.m7,?_]) he pG;show Bo F hr hb hd hx I1 r q
theorem Dd {pl:Sem Bool}(he:PE X o ta)(c:AU X.K C)(hm:JJ X.K C m f)(F:bE X.prog X.w X.K X.mg X.base CX k f fd ps sp)(hr:eG k X.A)(hb:Binds X.K fd ps ds)(hd:cj vG ds)(hx:gT CX X E)(ha:PA X (e::es) t) (qp:starEach (e::es) X.env=(false,eval e X.env)::starEach es X.env:=by rfl) (pG:(backTo pos (starEach es X.env)).any (·.1)=false:=by rfl) (ht:eval (.Call (.Attribute o m dL) (e::es) [] pos) X.env=(do
   let ov <- eval o X.env
   standAt dL.atName
   let (f,first) <- holding [ov] (getMethod ov m pl)
   callWith pos f first (backTo pos (starEach (e::es) X.env)) (backToKw pos (keywordEach [] X.env))):=by rfl):
  PE X (.Call (.Attribute o m dL) (e::es) [] pos) (qE C m sp vG E ta t):=by
 intro ah s σ H Q I h
 exact W.methodCall_KW (pl:=pl) (cX (he ah s σ H _ I h) λu s1 ⟨x,H1,I1,rx,a,dx,fs,ex,ea,l,q⟩=> ?_) ht
 subst ex
 obtain rfl:u=Value.ref a:=rx
 exact jW I1 ea c hm l ?_
 exact W.callWith_K (first:= [.ref a]) (h₀:=X.base) I.ok.mod.NV hm.kp (cX (ha pos ah s1 σ H1 _ I1 q) λus s2 ⟨vs,H2,I2,r,q2⟩=>#[I2.m7,?_]) qp pG
 show Bo (us:= .ref a::us) (vs:= .ref a::vs) F hr hb hd hx I2 (.cons rfl r) q2
theorem zq {pl:Sem Bool}(he:PE X o ta)(c:AU X.K C)(hm:JJ X.K C m f)(F:bE X.prog X.w X.K X.mg X.base CX k f fd ps sp)(hr:eG k X.A)(hb:Binds X.K fd ps ds)(hd:cj vG ds)(hx:gT CX X E) (ht:eval (.Call (.Attribute o m dL) [] [] pos) X.env=(do
   let ov <- eval o X.env
   standAt dL.atName
   let (f,first) <- holding [ov] (getMethod ov m pl)
   callWith pos f first (backTo pos (starEach [] X.env)) (backToKw pos (keywordEach [] X.env))):=by rfl):
  PE X (.Call (.Attribute o m dL) [] [] pos) (qE C m sp vG E ta EE):=by
 intro ah s σ H Q I h
 exact W.methodCall_KW (pl:=pl) (cX (he ah s σ H _ I h) λu s1 ⟨x,H1,I1,rx,a,dx,fs,ex,ea,l,q⟩=> ?_) ht
 subst ex
 obtain rfl:u=Value.ref a:=rx
 exact jW I1 ea c hm l ?_
 show W.callWith_K0 (first:= [.ref a]) I1.m7 hm.kp (Bo (us:= [.ref a]) (vs:= [.ref a]) F hr hb hd hx I1 (.cons rfl .nil) q)
structure Mk (K:PySem.W.Frag)(C f:Addr):Prop where
 makes:PySem.W.makesIn K C=true
 init:PySem.W.findIn K (.ref C) "__init__" =some (some (.ref f))
 fn:PySem.W.isFn K (.ref f)=true
 kp:PySem.W.keepIn K (.ref C)=true
def G' {ah:c_ (iW×Obj)}{σ:St}{H:Hp}{s:gw}{Q:VK}{us:c_ dC}{vs:c_ V}(M:Mk X.K C f)(F:bE X.prog X.w X.K X.mg X.base CX k f fd ps sp)(hr:eG (k+1) X.A)(hb:Binds X.K fd ps ds)(hd:cj vG ds) (hx:gT CX X E) (I:Inv X ah σ H s) (r:cj vs us) (h: ∀x dx,H x=none ->H dx=none ->dx≠x ->sp (.ref x::(vs++vG)) (cM (cM H dx (.own x)) x (.ins C dx [])) (λv H2=>v= .d0 /\ Q (.ref x) H2) E): wpAny (model X.prog X.w) X.A (call (.ref C) us) (EP X ah σ Q) X.xe s:=by
 have hq:=h (s.heap.objs.size+1) s.heap.objs.size (I.c6.fresh (Nat.le_succ _)) (I.c6.fresh (aq _)) (bA (Nat.lt_succ_self _));have I2:=Inv.made (C:=C) I;have r2:cj (V.ref (s.heap.objs.size+1)::(vs++vG)) (Value.ref (s.heap.objs.size+1)::(us++ds)):= .cons rfl (r.append hd);have hl:(Value.ref (s.heap.objs.size+1)::us++ds).length=ps.length:=by have e:=r2.length;rw[F.len _ _ _ _ hq] at e;show e.symm
 exact wpAny_call (HM (f:=f) I.m7 M.makes M.init (beq_iff_eq.mp M.fn) (codeAny_mono (F.run _ X.stack _ _ #[Value.ref (s.heap.objs.size+1)::us,[]] (Value.ref (s.heap.objs.size+1)::(us++ds)) _ _ E (hr.make C us []) (I2.L'.make C us []) (hb _ (Value.ref (s.heap.objs.size+1)::us) I2.m7 hl) r2 hq) λr s' Uu=> ?_));cases r with
 | error e=>show hx ah σ _ _ e s' I2 Uu
 | ok fl=>
  cases fl with
  | ret u=>let⟨v,H',I3,rv,ev,q3⟩:=I2.after Uu;subst ev;show#[rv,#[V.ref (s.heap.objs.size+1),H',I3,rfl,q3]]
  | next=>show False.elim Uu
  | brk=>show False.elim Uu
  | cont=>show False.elim Uu
def K5 (M:Mk X.K C f)(F:bE X.prog X.w X.K X.mg X.base CX k f fd ps sp)(hr:eG (k+1) X.A)(hg:Gl X x)(hm:X.mg x=some (.ref C))(hb:Binds X.K fd ps ds)(hd:cj vG ds)(hx:gT CX X E) (ha:PA X (e::es) t) (wA:(x==("__debug__" :Str))=false:=by decide) (he:starEach (e::es) X.env=(false,eval e X.env)::starEach es X.env:=by rfl) (pG:(backTo pos (starEach es X.env)).any (·.1)=false:=by rfl): PE X (.Call (.Name x p) (e::es) [] pos) (GQ C sp vG E t):=by intro ah s σ H Q I h;exact wpAny_Call_Name_kw (oJ I hg hm ?_ wA);exact W.callWith_K (h₀:=X.base) I.ok.mod.NV M.kp (cX (ha pos ah s σ H _ I h) λus s1 ⟨vs,H1,I1,r,q⟩=>#[I1.m7,?_]) he pG;show G' M F hr hb hd hx I1 r q
end
structure cH (N P:List Str)(sc:Scope):Prop where
 kind:sc.kind= .function
 co:sc.isCoroutine=false
 gen:sc.isGenerator=false
 nd:N.Nodup
 pre:N.take P.length=P
 par: ∀x∈P,sc.names.lookup x=some .local \/ sc.names.lookup x=some .cell
 Pz: ∀y∈sc.names,y.2≠ .free
theorem xa {kindOf:Str ->gC NameKind}{x:Str}: ∀ {binds:c_ (Str×dC)} {m:Str ->gC dC},(∀v,(x,v)∉binds) ->bindL kindOf binds m x=m x
 | [],_,_=>rfl
 | (n,v)::r,m,h=>by
  unfold bindL;rw[xa λw hw=>h w (dj _ hw)];split;have:x≠n:=by rintro rfl;show h v List.mem_cons_self
  simp[this];rfl
theorem xc {kindOf:Str ->gC NameKind}{x:Str}: ∀ {binds:c_ (Str×dC)} {m:Str ->gC dC},(∀v,(x,v)∉binds) ->bindC kindOf binds m x=m x
 | [],_,_=>rfl
 | (n,v)::r,m,h=>by
  unfold bindC;rw[xc λw hw=>h w (dj _ hw)];split;rfl;have:x≠n:=by rintro rfl;show h v List.mem_cons_self
  simp[this]
theorem xb {kindOf:Str ->gC NameKind}{x:Str}{v:dC}: ∀ {P:c_ Str} {vs:c_ dC} {i:Nat} {m:Str ->gC dC},P.Nodup ->P[i]? =some x ->vs[i]? =some v ->kindOf x=some .local ->bindL kindOf (P.zip vs) m x=some v
 | [],_,_,_,_,h,_,_=>by simp at h
 | _::_,[],_,_,_,_,h,_=>by simp at h
 | p::P,w::vs,0,m,nd,h1,h2,hk=>by simp at h1 h2;subst h1;subst h2;change bindL kindOf ((p,w)::P.zip vs) m p=_;unfold bindL;rw[xa λv hv=>(List.nodup_cons.mp nd).1 (List.of_mem_zip hv).1,am hk];simp
 | p::P,w::vs,i+1,m,nd,h1,h2,hk=>by change bindL kindOf ((p,w)::P.zip vs) m x=_;unfold bindL;show xb (i:=i) (List.nodup_cons.mp nd).2 ⇑h1 ⇑h2 hk
theorem xf {kindOf:Str ->gC NameKind}{x:Str}{v:dC}: ∀ {P:c_ Str} {vs:c_ dC} {i:Nat} {m:Str ->gC dC},P.Nodup ->P[i]? =some x ->vs[i]? =some v ->kindOf x≠some .local ->bindC kindOf (P.zip vs) m x=some v
 | [],_,_,_,_,h,_,_=>by simp at h
 | _::_,[],_,_,_,_,h,_=>by simp at h
 | p::P,w::vs,0,m,nd,h1,h2,hk=>by simp at h1 h2;subst h1;subst h2;change bindC kindOf ((p,w)::P.zip vs) m p=_;unfold bindC;rw[xc λv hv=>(List.nodup_cons.mp nd).1 (List.of_mem_zip hv).1,ak hk];simp
 | p::P,w::vs,i+1,m,nd,h1,h2,hk=>by change bindC kindOf ((p,w)::P.zip vs) m x=_;unfold bindC;show xf (i:=i) (List.nodup_cons.mp nd).2 ⇑h1 ⇑h2 hk
def start (N:c_ Str)(vs:c_ V):St:=vs.map some++List.replicate (N.length - vs.length) none
def eL (CX:AV)(P:Y1)(w:ZW)(K:Uc)(mg:Str ->gC dC)(base:ZX)(N:c_ Str)(qual:Str)(scope:Scope)(f:iW)(cd:dC)(A:Z0)(outer:c_ Env)(s:gw)(H:Hp)(E:XK):Cx where
 prog:=P
 w:=w
 K:=K
 mg:=mg
 base:=base
 A:=A.deeper (envOfC qual scope s.heap.objs.size f cd)
 N:=N
 s₀:=s
 H₀:=H
 env:=envOfC qual scope s.heap.objs.size f cd
 outer:=outer
 stack:=envOfC qual scope s.heap.objs.size f cd::outer
 ex:= []
 calm:=true
 fn:=λ_=>true
 pn:= []
 xe:=λe s'=>wpAny (model P w) (A.deeper (envOfC qual scope s.heap.objs.size f cd)) (leaving (envOfC qual scope s.heap.objs.size f cd) e) (λ_ Yh=>CX outer H s E e Yh) (λe' Yh=>CX outer H s E e' Yh) s'
def Au {sc:Scope}{n:Nat}{x:Str}(h:sc.names.lookup x=some .cell): ∃c,(cellsFrom n sc.names []).lookup x=some c:=by have q:=W.cellsFrom_some sc.names n [] (.inl h);show Option.isSome_iff_exists.mp q
def Fg {CX:AV}{P:Y1}{w:ZW}{K:Uc}{mg:Str ->gC dC}{base:ZX}{N ps:c_ Str}{qual:Str}{scope:Scope}{f:iW}{cd:dC}{A:Z0}{outer:c_ Env}{s s1:gw}{H:Hp}{E:XK}{us:c_ dC}{vs:c_ V} (S:cH N ps scope) (hd:A.handled=none) (e0:Cp P w K mg base A outer s H) (hl:vs.length=ps.length) (r:cj vs us) (x:InCallC s s.heap.objs.size (bindL (envOfC qual scope s.heap.objs.size f cd).kindOf (ps.zip us) λ_=>none) (cellsFrom (s.heap.objs.size+1) scope.names []) (bindC (envOfC qual scope s.heap.objs.size f cd).kindOf (ps.zip us) λ_=>none) s1): Inv (eL CX P w K mg base N qual scope f cd A outer s H E) [] (start N vs) H s1:=by
 have pG:ps.length<=N.length:=by have:=congrArg List.length S.pre;rw[bU] at this;lia
 let⟨h1,tk,rfl,hk⟩:=x.done;have NJ: ∀b:iW,b∉(eL CX P w K mg base N qual scope f cd A outer s H E).ex:=λb z=>absurd (show b∈([]:c_ iW) from z) (by simp);exact#[#[e0.mod,S.kind,rfl,rfl,aq _,λy z c h1 h2=> ?_,λy hy=> ?_,λy c _ h=> ?_,λ_=>hd,Around.frames_deeper e0.frames, .inr #[rfl,rfl],λb z=>absurd z (NJ b),e0.bs,e0.Jx,λb _ _=>NJ b,λb z=>absurd z (NJ b),e0.nN,e0.Kn],
  rfl,e0.bare,Un.kept hk,#[_,x.toInCall.ns,λi y v h1 h2 h3=> ?_],λy c h=>#[_,x.cell y c h],e0.c6.fresh (aq _),λy c h=> ?_,λp hp=>absurd (show p∈([]:c_ (iW×Obj)) from hp) (by simp),e0.c6.kept hk,?_]
 show name_of_addr x.apart (dE h1) (dE h2);have hy:scope.names.lookup y=some .cell \/ scope.names.lookup y=some .free:=hy;obtain hy | hy:=hy;show Au hy;show absurd rfl (S.Pz _ (dE hy));show Nat.le_of_lt (x.above y c (dE h));have hi:i<vs.length:=by unfold start at h2;by_cases hi:i<vs.length;show hi;rw[a9 ⇑hi] at h2;rw[dk] at h2;split at h2<;>cases h2
 have ha:vs[i]? =some v:=by
  unfold start at h2;rw[bi ⇑hi,aI] at h2;cases e:vs[i]? with
  | none=>rw[e] at h2;cases h2
  | some a=>rw[e] at h2;cases h2;rfl
 let⟨u,hu,rv⟩:=r.get ha;have hp:ps[i]? =some y:=by rw[<- S.pre,List.getElem?_take_of_lt ∅];show h1
 have ndP:ps.Nodup:=by rw[<- S.pre];show S.nd.sublist (List.take_sublist _ _)
 exact#[u,rv,?_];obtain k | k:=S.par y (aT hp);show .inl #[k,xb ndP hp hu k];let⟨c,e⟩:=Au (n:=s.heap.objs.size+1) k;exact .inr #[.inl k,c,e,?_];have q:=x.cell y c e;rw[xf ndP hp hu (by change scope.names.lookup y≠_;rw[k];decide)] at q;show q;show e0.c6.fresh (Nat.le_of_lt (x.above y c (dE h)));unfold start;change _=N.length;rw[aJ,af,List.length_replicate];lia
def Ob {CX:AV}{P:Y1}{w:ZW}{K:Uc}{mg:Str ->gC dC}{base:ZX}{k:Nat}{f:iW}{name qual:Str}{params:Arguments}{body:c_ Stmt}{scope:Scope}{dV kV jf pm cdv ct oc:dC}{an od:gC iW} {Bv:Ub (gC dC)} {N ps:c_ Str} {sp:Sp} (lk:K.lookup f=some #[oc,od, .func (W.fnOf name qual params body scope dV kV jf pm an cdv ct),Bv]) (DN:W.codeIn K cdv qual=true) (S:cH N ps scope) (len: ∀vs H Q E,sp vs H Q E ->vs.length=ps.length) (jC: ∀ (A:Z0) (outer:c_ Env) (s:gw) (H:Hp) (vs:c_ V) (Q:VK) (E:XK),eG k (A.deeper (envOfC qual scope s.heap.objs.size f cdv)) ->sp vs H Q E ->∃t,yI (eL CX P w K mg base N qual scope f cdv A outer s H E) body t /\ t {nx:=λ_ H'=>Q .d0 H',rt:=Q} (start N vs) H): bE P w K mg base CX (k+1) f (W.fnOf name qual params body scope dV kV jf pm an cdv ct) ps sp:=by
 exact#[len,λA outer s H args us vs Q E hr e0 hb r A3=> ?_];have hl:=len _ _ _ _ A3;have KX:K.In s.heap:=e0.mod.NV.keeps λb o e=>(e0.bs b o e).1;have lim:s.heap.NoLimit:=e0.mod.nolimit.keeps λb o e=>(e0.bs b o e).1;have UE: ∀y∈ps.zip us,scope.names.lookup y.1=some .local \/ (scope.names.lookup y.1=some .cell /\ ((cellsFrom (s.heap.objs.size+1) scope.names []).lookup y.1).isSome=true):=λ⟨n,v⟩ hy=>by obtain q | q:=S.par n (List.of_mem_zip hy).1;show .inl q;show .inr #[q,W.cellsFrom_some _ _ _ (.inl q)]
 exact codeAny_call_function hr.depth (KX _ _ lk) rfl S.co S.gen rfl (W.codeRec_of KX DN) (hb _ _ _ _ ?_);exact wpAny_newFunctionEnv_cells S.kind UE λenv he s1 x=> ?_;subst he;exact#[lim.keeps x.toInCall.keep,codeAny_func ?_];let⟨t,ht,hq⟩:=jC A outer s H vs Q E (hr.deeper _) A3;have I:Inv (eL CX P w K mg base N qual scope f cdv A outer s H E) [] (start N vs) H s1:=Fg S hr.hd e0 hl r x;exact bG (ht [] s1 (start N vs) H _ I hq) (λfl s' hs=> ?_) λe s' hs=>hs;have fin: ∀ {σ':St} {H':Hp} {v:V} {u:dC},Inv (eL CX P w K mg base N qual scope f cdv A outer s H E) [] σ' H' s' ->RelV v u ->Q v H' ->CE outer P w H s Q u s':=λ{σ' H' v u} J rv q=>#[v,H',J.os,J.bare,J.base,J.c6,rv,q]
 cases fl with
 | ret u=>let⟨v,σ',H',J,rv,q⟩:=hs;show fin J rv q
 | next=>let⟨σ',H',J,q⟩:=hs;show fin (v:=V.d0) (u:=Value.none) J rfl q
 | brk=>let⟨_,_,_,q⟩:=hs;show False.elim q
 | cont=>let⟨_,_,_,q⟩:=hs;show False.elim q
section
variable {X:Cx}{x:Str}{p pos:Pos}{e:Expr}{es:c_ Expr}{t:TA}{id T:String}{r:c_ V ->Hp ->VK ->Prop}
def X6 (r:c_ V ->Hp ->VK ->Prop)(t:TA):TE:=λσ H Q=>t σ H λvs H1=>r vs H1 Q
def br (hc:fq X (.builtin id) r)(hg:Gl X x)(hm:X.mg x=none)(hv:bootBuiltins x=some (.builtin id))(ha:PA X (e::es) t)(hn:x≠ "__name__" :=by decide)(wA:(x==("__debug__" :Str))=false:=by decide) (he:starEach (e::es) X.env=(false,eval e X.env)::starEach es X.env:=by rfl) (pG:(backTo pos (starEach es X.env)).any (·.1)=false:=by rfl):PE X (.Call (.Name x p) (e::es) [] pos) (X6 r t):=by intro ah s σ H Q I h;exact wpAny_Call_Name_kw (xZ I hg hm hv ?_ hn wA);show PyProof.Rows.callWith_builtin1 (cX (ha pos ah s σ H _ I h) λus s1 ⟨vs,H1,I1,r1,q1⟩=>hc ah s1 σ H1 vs us Q I1 r1 q1) he pG
def b_ (hc:fq X (.type T) r)(hg:Gl X x)(hm:X.mg x=none)(hv:bootBuiltins x=some (.type T))(ha:PA X (e::es) t)(hn:x≠ "__name__" :=by decide)(wA:(x==("__debug__" :Str))=false:=by decide) (he:starEach (e::es) X.env=(false,eval e X.env)::starEach es X.env:=by rfl) (pG:(backTo pos (starEach es X.env)).any (·.1)=false:=by rfl):PE X (.Call (.Name x p) (e::es) [] pos) (X6 r t):=by intro ah s σ H Q I h;exact wpAny_Call_Name_kw (xZ I hg hm hv ?_ hn wA);show PyProof.Rows.callWith_type1 (cX (ha pos ah s σ H _ I h) λus s1 ⟨vs,H1,I1,r1,q1⟩=>hc ah s1 σ H1 vs us Q I1 r1 q1) he pG
end
end L2
namespace HT
open PySem PyProof.Rows
section
variable {prog:Y1}{w:ZW}{A:Z0}{E:dC ->gw ->Prop}{s:gw}
def Mh {t b:iW}{vs ws:c_ dC}{Q:dC ->gw ->Prop}(ht:IsTup s.heap t vs.toArray)(hb:IsTup s.heap b ws.toArray)(hv:vs≠ []) (h1:ws= [] ->Q (.ref t) s) (h2:ws≠ [] ->Q (.ref s.heap.objs.size) {s with heap:=s.heap.push {cls:= .type "tuple",data:= .seq (vs++ws).toArray}}) (hsz:vs.length+ws.length<=sizeLine):wpAny (model prog w) A (binaryOp .Add (.ref t) (.ref b)) Q E s:=by
 let⟨⟨cls,dd,data,sl⟩,ho,hc,n,hd⟩:=id ht;let⟨⟨afd,W3,data2,No⟩,Qi,Fo,n2,hd2⟩:=id hb;simp only at hc hd Fo hd2;subst hc hd Fo hd2;have e:vs.toArray++ws.toArray=(vs++ws).toArray:=by simp
 by_cases hw:ws= []
 show concat_meets #[_,ho,rfl] #[_,Qi,rfl] noFill_tuple_add seq_tuple_add PySem.F.slot_tuple_add PySem.F.entry_tuple_add (PySem.F.args_tuple_add_2 _ _) (tuple_addW1 t b vs.toArray ws.toArray n n2 dd W3 sl No ⇑hv (by simp[hw])) #[ho,Qi,h1 hw];exact concat_meets #[_,ho,rfl] #[_,Qi,rfl] noFill_tuple_add seq_tuple_add PySem.F.slot_tuple_add PySem.F.entry_tuple_add (PySem.F.args_tuple_add_2 _ _) (tuple_addW2 t b vs.toArray ws.toArray n n2 dd W3 sl No ⇑hv ⇑hw (by rw[aM,aM];show hsz)) #[ho,Qi,?_];rw[e];show h2 hw
def yF (n d:Nat):gC Int ->Nat
 | none=>d
 | some v=>if v<0 then(v+(n:Int)).toNat else min v.toNat n
end
end HT
namespace L2
open PySem PySem.Spec PyProof.Rows
abbrev TO:=St ->Hp ->(gC Int ->Hp ->Prop) ->Prop
def PO (X:Cx)(e:gC Expr)(t:TO):Prop:=∀ (ah:c_ (iW×Obj)) (s:gw) (σ:St) (H:Hp) (Q:gC Int ->Hp ->Prop),Inv X ah σ H s ->t σ H Q ->wpAny (model X.prog X.w) X.A (evalPart e X.env) (λu s'=>cE λo H'=>cS (Inv X ah σ H' s') (IsPart u o) (Q o H')) X.xe s
def CH:TO:=λ_ H Q=>Q none H
def Nf (t:TE):TO:=λσ H Q=>t σ H λx H1=> ∃i,x= .int i /\ Q (some i) H1
section
variable {X:Cx}{e:Expr}{te:TE}{lo hi:gC Expr}{tl th:TO}{pos p2:Pos}
def xK:PO X none CH:=by intro ah s σ H Q I h;rw[evalPart_none];show a7 #[none,H,I, .none,h]
def xJ (h:PE X e te):PO X (some e) (Nf te):=by intro ah s σ H Q I hw;rw[evalPart_some];exact cX (h ah s σ H _ I hw) λu s1 ⟨x,H1,I1,r1,q1⟩=> ?_;let⟨i,rfl,q⟩:=q1;let⟨t,rfl⟩:=r1;show#[some i,H1,I1, .int i t,q]
def SlR (X:Cx)(r:V ->gC Int ->gC Int ->Hp ->VK ->Prop):Prop:=∀ (ah:c_ (iW×Obj)) (s:gw) (σ:St) (H:Hp) (x:V) (v vl vu:dC) (lo hi:gC Int) (sl:iW) (Q:VK),Inv X ah σ H s ->RelV x v ->s.heap.IsSliceOf sl vl vu .none ->IsPart vl lo ->IsPart vu hi ->r x lo hi H Q ->cE λT id=>cS (typeLookup (.type T) "__getitem__" =pure (some (.builtin id))) (s.TypeIs v T) (wpAny (model X.prog X.w) X.A (getItem v (.ref sl)) (EP X ah σ Q) X.xe s)
def tSl (r:V ->gC Int ->gC Int ->Hp ->VK ->Prop)(te:TE)(tl th:TO):TE:=λσ H Q=>te σ H λx H1=>tl σ H1 λl H2=>th σ H2 λu H3=>r x l u H3 Q
def tR {r:V ->gC Int ->gC Int ->Hp ->VK ->Prop}(hr:SlR X r)(he:PE X e te)(hl:PO X lo tl)(hu:PO X hi th):PE X (.Subscript e (.Slice lo hi none p2) pos) (tSl r te tl th):=by intro ah s σ H Q I h;exact Subscript_ (cX (he ah s σ H _ I h) λv s1 ⟨x,H1,I1,r1,q1⟩=> ?_);exact wpAny_Slice (cX (hl ah s1 σ H1 _ I1 q1) λvl s2 ⟨l,H2,I2,pl,q2⟩=>cX (hu ah s2 σ H2 _ I2 q2) λvu s3 ⟨u,H3,I3,pu,q3⟩=> ?_);rw[evalPart_none];exact a7 ?_;have I4:Inv X ah σ H3 {s3 with heap:=s3.heap.push {cls:= .type "slice",data:= .fields (List.toArray [vl,vu, .none])}}:=I3.kept (t':=s3.toks) λb ob q=>av _ q;let⟨T,id,hT,ht,hg⟩:=hr ah {s3 with heap:=s3.heap.push {cls:= .type "slice",data:= .fields (List.toArray [vl,vu, .none])}} σ H3 x v vl vu l u s3.heap.objs.size Q I4 r1 (Heap.IsSliceOf.new ..) pl pu q3;change wpAny (model X.prog X.w) X.A (subscriptTail e (.Slice lo hi none p2) v (.ref s3.heap.objs.size)) (EP X ah σ Q) X.xe {s3 with heap:=s3.heap.push {cls:= .type "slice",data:= .fields (List.toArray [vl,vu, .none])}};show tail_any (ops:= [.ref s3.heap.objs.size,v]) ht hT hg (by with_unfolding_all rfl)
def Fy (xs:c_ V)(lo hi:gC Int):c_ V:=(xs.drop (HT.yF xs.length 0 lo)).take (HT.yF xs.length xs.length hi - HT.yF xs.length 0 lo)
def Ar (xs:c_ V)(lo hi:gC Int):(Fy xs lo hi).length<=xs.length:=by unfold Fy;rw[bU,List.length_drop];lia
def Ta (K:Uc):R2:=λx y H Q=>gm λa b xs ys=>AB (x= .ref a) (y= .ref b) (kW K H a xs) (kW K H b ys) (xs≠ []) (xs.length+ys.length<=sizeLine) (ys= [] ->Q (.ref a) H) (ys≠ [] -> ∀p,H p=none ->Q (.ref p) (cM H p (.tup (xs++ys))))
def cj.jT {xs:c_ V}{us:c_ dC}(r:cj xs us):us= []↔xs= []:=by
 cases r with
 | nil=>simp
 | cons _ _=>simp
def Lj:iK X (binaryOp .Add) (Ta X.K):=by intro ah s σ H x y v u Q I rx ry h;let⟨a,b,xs,ys,rfl,rfl,ha,hb,hx,hz,q1,q2⟩:=h;cases rx;cases ry;let⟨bQ,r1,p1,_⟩:=I.tuple ha;let⟨ya,r2,p2,_⟩:=I.tuple hb;exact HT.Mh p1 p2 (λz=>hx (r1.jT.mp z)) (λz=>#[.ref a,H,I,rfl,q1 (r2.jT.mp z)]) (λz=> ?_) (by rw[<- r1.length, <- r2.length];show hz);exact#[.ref s.heap.objs.size,_,I.laid (t':=s.toks) (o:= .tup (xs++ys)) (λb ob q=>av _ q) (aq _) ?_,rfl,q2 (λw=>z (r2.jT.mpr w)) _ (I.c6.fresh (aq _))];show#[by rw[aJ];show hz,_,r1.append r2,yx.new _ _]
end
def A2 (n:Nat)(i:Int):gC Nat:=if 0<=i then(if i<n then some i.toNat else none) else if -(n:Int) <=i then some (i+n).toNat else none
def iF {α:Type}(xs:c_ α)(i:Int):gC α:=(A2 xs.length i).bind λj=>xs[j]?
def DG {n:Nat}{i:Int}{j:Nat}(h:A2 n i=some j): seqIndex? i n=some j /\ j<n /\ -(n:Int) <=i /\ i<n:=by unfold A2 at h;by_cases h0:0<=i;rw[am h0] at h;by_cases h1:i<n;rw[am h1] at h;have e:i.toNat=j:=bq h;show#[by rw[seqIndex_of h0 h1,e], ∅, ∅,h1];rw[ak h1] at h;cases h;rw[ak h0] at h;by_cases h1: -(n:Int) <=i;rw[am h1] at h;have e:(i+n).toNat=j:=bq h;show#[by rw[seqIndex_neg ∅ h1,e], ∅,h1, ∅];rw[ak h1] at h;cases h
def yt {α:Type}{xs:c_ α}{i:Int}{v:α}(h:iF xs i=some v): ∃j,gJ (seqIndex? i xs.length=some j) (xs[j]? =some v) (j<xs.length) (-(xs.length:Int) <=i) (i<xs.length):=by
 unfold iF at h;cases e:A2 xs.length i with
 | none=>rw[e] at h;cases h
 | some j=>rw[e] at h;let⟨h1,h2,h3,h4⟩:=DG e;show#[j,h1,h,h2,h3,h4]
def fF {α:Type}{xs:c_ α}{j:Nat}{v:α}(h:xs[j]? =some v):iF xs (j:Int)=some v:=by
 have hj:j<xs.length:=(bv.mp h).1;have e:A2 xs.length (j:Int)=some j:=by unfold A2;rw[am ∅,am ∅];simp
 unfold iF;rw[e];show h
def Mq (b:Expr):Prop:= ∀o i,subscripted b false o i=operate [o,i] (getItem o i)
def ce (X:Cx)(r:R2):Prop:=∀ (value slice:Expr) (ah:c_ (iW×Obj)) (s:gw) (σ:St) (H:Hp) (x y:V) (v u:dC) (Q:VK),Inv X ah σ H s ->RelV x v ->RelV y u ->r x y H Q ->subscripted slice false v u=operate [v,u] (getItem v u) ->wpAny (model X.prog X.w) X.A (subscriptTail value slice v u) (EP X ah σ Q) X.xe s
def Gj (X:Cx)(id:String)(r:V ->c_ V ->Hp ->VK ->Prop):Prop:=∀ (ah:c_ (iW×Obj)) (s:gw) (σ:St) (H:Hp) (x:V) (xs:c_ V) (v:dC) (us:c_ dC) (Q:VK),Inv X ah σ H s ->RelV x v ->cj xs us ->r x xs H Q ->wpAny (model X.prog X.w) X.A (call (.builtin id) (v::us)) (EP X ah σ Q) X.xe s
section
variable {X:Cx}{a b:Expr}{ta tb:TE}{pos:Pos}
def aG {r:R2}(hr:ce X r)(ha:PE X a ta)(hb:PE X b tb)(hs:Mq b):PE X (.Subscript a b pos) (Sx r ta tb):=by intro ah s σ H Q I h;show Subscript_ (QK ha hb I h λv u s2 x y H2 I2 rx ry q=>hr a b ah s2 σ H2 x y v u Q I2 rx ry q (hs _ _))
def i_ (K:Uc):R2:=λx y H Q=>gm λp xs i v=>gJ (x= .ref p) (y= .int i) (iH K H p xs) (iF xs i=some v) (Q v H)
def bt (K:Uc):R2:=λx y H Q=>gm λp xs i v=>gJ (x= .ref p) (y= .int i) (kW K H p xs) (iF xs i=some v) (Q v H)
def S6:R2:=λx y H Q=>eE λz i c=>gJ (x= .str z) (y= .int i) (z.length<=sizeLine) (iF z.cps.toList i=some c) (Q (.str ⟨#[c]⟩) H)
def dS:ce X (i_ X.K):=by
 intro value slice ah s σ H x y v u Q I rx ry h hs;let⟨p,xs,i,z,rfl,rfl,hq,he,q⟩:=h;cases rx;let⟨t,rfl⟩:=ry;let⟨bQ,r,pl,hz⟩:=I.list hq;let⟨j,h1,h2,h3,h4,h5⟩:=yt he;let⟨w,ew,xA⟩:=r.get h2;have hl:=r.length;have hn:=p9;have fin:EP X ah σ Q w s:=#[z,H,I,xA,q]
 by_cases h0:0<=i;have hj:i.toNat=j:=by rw[seqIndex_of h0 h5] at h1;show bq h1
 show item_listR pl.isList h0 ∅ (by rw[hj];simpa using ew) fin hs;have hj:(i+(bQ.toArray.size:Int)).toNat=j:=by rw[seqIndex_neg ∅ h4] at h1;rw[aM, <- hl];show bq h1
 show subscriptTail_builtinR (x:=w) pl.isList.typeIs slot_list_getitem.lookup (wpAny_getItem_list_neg (Q:=λr s'=>r=w /\ EP X ah σ Q r s') pl.isList ∅ (by rw[aM] <;>lia) ∅ (by rw[hj];simpa using ew) #[rfl,fin]) hs
def aB:ce X (bt X.K):=by
 intro value slice ah s σ H x y v u Q I rx ry h hs;let⟨p,xs,i,z,rfl,rfl,hq,he,q⟩:=h;cases rx;let⟨t,rfl⟩:=ry;let⟨bQ,r,pl,hz⟩:=I.tuple hq;let⟨j,h1,h2,h3,h4,h5⟩:=yt he;let⟨w,ew,xA⟩:=r.get h2;have hl:=r.length;have hn:=p9;have fin:EP X ah σ Q w s:=#[z,H,I,xA,q]
 show subscriptTail_builtinR (x:=w) pl.typeIs slot_tuple_getitem.lookup (getItem_tuple (j:=j) (Q:=λr s'=>r=w /\ EP X ah σ Q r s') pl ∅ ∅ (by rw[aM, <- hl];show h1) ⇑ew #[rfl,fin]) hs
def Ij:ce X S6:=by
 intro value slice ah s σ H x y v u Q I rx ry h hs;let⟨z,i,c,rfl,rfl,hz,he,q⟩:=h;let⟨t,rfl⟩:=rx;let⟨t',rfl⟩:=ry;let⟨j,h1,h2,h3,h4,h5⟩:=yt he;have hl:z.cps.toList.length=z.length:=by simp[Str.length]
 rw[hl] at h1 h4 h5;have hn:=p9;show tail_any (typeIs_str s z t) slot_str_getitem.lookup (getItem_str (c:=c) (by have e1:decide (i< -(2 ^ 63:Int))=false:=aL ∅;have e2:decide (i≥2 ^ 63)=false:=aL ∅;rw[e1,e2,Bool.or_false]) (by rw[h1];simpa using h2) #[.str ⟨#[c]⟩,H,I.tok _,#[_,rfl],q]) hs
def BE (bQ:c_ dC)(n j:Nat)(u:dC):Obj.mapSeq (·.setIfInBounds j u) {cls:= .type "list",data:= .seq bQ.toArray n}= {cls:= .type "list",data:= .seq (bQ.set j u).toArray n}:=by simp[Obj.mapSeq]
def Inv.lst {ah:c_ (iW×Obj)}{σ:St}{H:Hp}{s:gw}{p:iW}{xs:c_ V}(I:Inv X ah σ H s)(h:H p=some (.lst xs)): cE λ(bQ:c_ dC) (n:Nat)=>cS (cj xs bQ) (s.heap.get? p=some {cls:= .type "list",data:= .seq bQ.toArray n}) (xs.length<=sizeLine):=by let⟨z,bQ,n,r,e⟩:=I.c6 p _ h;show#[bQ,n,r,e,z]
def Inv.PN {ah:c_ (iW×Obj)}{σ:St}{H:Hp}{s:gw}{p:iW}{xs ys:c_ V}{bQ its':c_ dC}{n n':Nat}{f:Obj ->Obj}(I:Inv X ah σ H s)(h:H p=some (.lst xs)) (ho:s.heap.get? p=some {cls:= .type "list",data:= .seq bQ.toArray n}) (hf:f {cls:= .type "list",data:= .seq bQ.toArray n}= {cls:= .type "list",data:= .seq its'.toArray n'}) (r:cj ys its') (hz:ys.length<=sizeLine) (t:Nat): Inv X ah σ (cM H p (.lst ys)) {s with heap:=s.heap.update p f,toks:=t}:=by
 have e:(s.heap.update p f).get? p=some {cls:= .type "list",data:= .seq its'.toArray n'}:=by rw[Heap.get?_update_self f ho (by rw[hf] <;>rfl),hf]
 exact I.write (x:=p) (e:=p) (by rw[h];trivial) (.inl rfl) (λb u hb q=>(Heap.get?_update_other _ _ (dy hb)).trans q) #[_,e] ?_;show#[hz,its',n',r,e]
def Ny:V ->V ->V ->Hp ->(Hp ->Prop) ->Prop:=λo i v H Q=>gm λp xs k j=>gJ (o= .ref p) (i= .int k) (H p=some (.lst xs)) (A2 xs.length k=some j) (Q (cM H p (.lst (xs.set j v))))
def jp:Vn X Ny:=by
 intro ah s σ H o i v ov iv u Q I ro ri rv h;let⟨p,xs,k,j,rfl,rfl,hp,hj,q⟩:=h;cases ro;let⟨t,rfl⟩:=ri;let⟨bQ,n,r,ho,hz⟩:=I.lst hp;let⟨h1,h2,h3,h4⟩:=DG hj;have hl:=r.length;have hn:=p9;have I':Inv X ah σ (cM H p (.lst (xs.set j v))) {s with heap:=s.heap.update p (Obj.mapSeq (·.setIfInBounds j u))}:=I.PN hp ho (BE bQ n j u) (r.set rv j) (by rw[List.length_set];show hz) s.toks;by_cases h0:0<=k;have hk:k.toNat=j:=by rw[seqIndex_of h0 h4] at h1;show bq h1
 show W.ki_setAt ho h0 ∅ (by rw[aM, <- hl];show h4) (by rw[hk];show#[_,I',q]);have hk:(k+(bQ.toArray.size:Int)).toNat=j:=by rw[seqIndex_neg ∅ h3] at h1;rw[aM, <- hl];show bq h1
 show W.ki_setBack ho ∅ (by rw[aM, <- hl];show h3) ∅ (by rw[hk];show#[_,I',q])
def xu (lo hi:gC Int)(n:Nat):(sliceBounds lo hi none n).1=((HT.yF n 0 lo:Nat):Int) /\ (sliceBounds lo hi none n).2.1=((HT.yF n n hi:Nat):Int) /\ (sliceBounds lo hi none n).2.2=1:=by
 exact#[?_,?_,rfl];cases lo with
 | none=>simp[sliceBounds,HT.yF]
 | some i=>simp![sliceBounds,HT.yF,Option.getD_none,show(1:Int) >0 by decide,cc];by_cases h:i<0;simp![h,cc] <;>lia;simp![h,bD] <;>lia
 cases hi with
 | none=>simp[sliceBounds,HT.yF]
 | some i=>simp![sliceBounds,HT.yF,Option.getD_none,show(1:Int) >0 by decide,cc];by_cases h:i<0;simp![h,cc] <;>lia;simp![h,bD] <;>lia
def vt (bQ:c_ dC)(lo hi:gC Int):slicePick bQ.toArray lo hi none=((bQ.drop (HT.yF bQ.length 0 lo)).take (HT.yF bQ.length bQ.length hi - HT.yF bQ.length 0 lo)).toArray:=by let⟨h1,h2,h3⟩:=xu lo hi bQ.toArray.size;unfold slicePick;rw[h1,h2,h3];simp![sliceRange_one,pick_run,aM] <;>rfl
def Yl (K:Uc):V ->gC Int ->gC Int ->Hp ->VK ->Prop:=λx lo hi H Q=>cE λa xs=>cS (x= .ref a) (iH K H a xs) (∀p,H p=none ->Q (.ref p) (cM H p (.lst (Fy xs lo hi))))
def KO:SlR X (Yl X.K):=by intro ah s σ H x v vl vu lo hi sl Q I rx hs pl pu h;let⟨a,xs,rfl,hx,q⟩:=h;cases rx;let⟨bQ,r,ht,hz⟩:=I.list hx;have d4:=r.length;exact#["list",_,slot_list_getitem.lookup,ht.isList.typeIs,?_];exact wpAny_getItem_list_slice ht.isList hs pl pu .none (by simp) ?_ (by rw[aM] <;>lia);rw[vt, <- d4];exact#[.ref s.heap.objs.size,_,I.laid (t':=s.toks) (o:= .lst (Fy xs lo hi)) (λb ob q=>av _ q) (aq _) ?_,rfl,q _ (I.c6.fresh (aq _))];show#[ar (Ar xs lo hi) hz,_,0,(r.drop (HT.yF xs.length 0 lo)).take (HT.yF xs.length xs.length hi - HT.yF xs.length 0 lo),aY _ rfl]
def lG:V ->Bool
 | .d0=>true
 | .bl _=>true
 | .int _=>true
 | .str _=>true
 | _=>false
def Gi:V ->V ->Bool
 | .d0, .d0=>true
 | .bl a, .bl b=>a==b
 | .bl a, .int b=>(if a then 1 else 0)==b
 | .int a, .bl b=>a==(if b then 1 else 0)
 | .int a, .int b=>a==b
 | .str a, .str b=>a==b
 | _,_=>false
def Jc {A:Z0}{s:gw}{y x:V}{u v:dC}(ry:RelV y u)(rx:RelV x v)(fy:lG y=true)(fx:lG x=true):SeqAt.EqAt A s u v (Gi y x):=by
 cases y with
 | d0=>
  cases ry;cases x with
  | d0=>cases rx;show SeqAt.EqAt.same _
  | bl b=>cases rx;show SeqAt.EqAt.none_bool b
  | int b=>let⟨t,rfl⟩:=rx;show SeqAt.EqAt.none_int b t
  | str b=>let⟨t,rfl⟩:=rx;show SeqAt.EqAt.none_str b t
  | _=>show absurd (show false=true from fx) be
 | bl a=>
  cases ry;cases x with
  | d0=>cases rx;show SeqAt.EqAt.bool_none a
  | bl b=>cases rx;show SeqAt.EqAt.bool_bool a b
  | int b=>let⟨t,rfl⟩:=rx;show SeqAt.EqAt.bool_int a b t
  | str b=>let⟨t,rfl⟩:=rx;show SeqAt.EqAt.bool_str a b t
  | _=>show absurd (show false=true from fx) be
 | int a=>
  let⟨t',rfl⟩:=ry;cases x with
  | d0=>cases rx;show SeqAt.EqAt.int_none a t'
  | bl b=>cases rx;show SeqAt.EqAt.int_bool a t' b
  | int b=>let⟨t,rfl⟩:=rx;show SeqAt.EqAt.int_int a t' b t
  | str b=>let⟨t,rfl⟩:=rx;show SeqAt.EqAt.int_str a t' b t
  | _=>show absurd (show false=true from fx) be
 | str a=>
  let⟨t',rfl⟩:=ry;cases x with
  | d0=>cases rx;show SeqAt.EqAt.str_none a t'
  | bl b=>cases rx;show SeqAt.EqAt.str_bool a t' b
  | int b=>let⟨t,rfl⟩:=rx;show SeqAt.EqAt.str_int a t' b t
  | str b=>let⟨t,rfl⟩:=rx;show SeqAt.EqAt.str_str a t' b t
  | _=>show absurd (show false=true from fx) be
 | _=>show absurd (show false=true from fy) be
def BY (x:V)(u:dC):Bool:=match u with
 | .none=>Gi .d0 x
 | .bool b=>Gi (.bl b) x
 | .int i _=>Gi (.int i) x
 | .str z _=>Gi (.str z) x
 | _=>false
def Jb {x y:V}{u:dC}(r:RelV y u)(f:lG y=true):BY x u=Gi y x:=by
 cases y with
 | d0=>cases r;rfl
 | bl b=>cases r;rfl
 | int i=>let⟨t,rfl⟩:=r;rfl
 | str z=>let⟨t,rfl⟩:=r;rfl
 | _=>show absurd (show false=true from f) be
theorem py {x:V}: ∀ {xs:c_ V} {us:c_ dC},cj xs us ->xs.all lG=true ->us.any (BY x)=xs.any λy=>Gi y x
 | _,_, .nil,_=>rfl
 | y::xs,u::us, .cons r t,f=>by rw[List.all_cons,cB] at f;rw[List.any_cons,List.any_cons,Jb r f.1,py t f.2]
theorem lA {A:Z0}{s:gw}{x:V}{v:dC}(rx:RelV x v)(fx:lG x=true): ∀ {xs:c_ V} {us:c_ dC},cj xs us ->xs.all lG=true -> ∀u∈us,SeqAt.EqAt A s u v (BY x u)
 | _,_, .nil,_=>λu hu=>by cases hu
 | y::xs,u::us, .cons r t,f=>λu' hu=>by rw[List.all_cons,cB] at f;obtain rfl | hu:=aP.mp hu;rw[Jb r f.1];show Jc r rx f.1 fx;show lA rx fx t f.2 u' hu
def NW (x:V)(xs:c_ V):Bool:=xs.any λy=>Gi y x
def S_ (K:Uc)(Ra:Bool):R2:=λx y H Q=>cE λp xs=>gJ (y= .ref p) (iH K H p xs \/ kW K H p xs) (lG x=true) (xs.all lG=true) (Q (.bl (if Ra then !NW x xs else NW x xs)) H)
def EW:iK X (compareOp .In) (S_ X.K false):=by intro ah s σ H x y v u Q I rx ry h;let⟨p,xs,rfl,hq,fx,fs,q⟩:=h;cases ry;obtain hq | hq:=hq;let⟨bQ,r,pl,hz⟩:=I.list hq;exact SeqAt.in_listAt (BY x) pl.isList (λw hw=>lA rx fx r fs w ⇑hw) #[.bl _,H,I,rfl,?_];rw[show bQ.toArray.any (BY x)=bQ.any (BY x) by simp,py r fs];show q;let⟨bQ,r,pl,hz⟩:=I.tuple hq;exact SeqAt.in_tupleAt (BY x) pl (λw hw=>lA rx fx r fs w ⇑hw) #[.bl _,H,I,rfl,?_];rw[show bQ.toArray.any (BY x)=bQ.any (BY x) by simp,py r fs];show q
def xR:iK X (compareOp .NotIn) (S_ X.K true):=by intro ah s σ H x y v u Q I rx ry h;let⟨p,xs,rfl,hq,fx,fs,q⟩:=h;cases ry;obtain hq | hq:=hq;let⟨bQ,r,pl,hz⟩:=I.list hq;exact SeqAt.notIn_listAt (BY x) pl.isList (λw hw=>lA rx fx r fs w ⇑hw) #[.bl _,H,I,rfl,?_];rw[show bQ.toArray.any (BY x)=bQ.any (BY x) by simp,py r fs];show q;let⟨bQ,r,pl,hz⟩:=I.tuple hq;exact SeqAt.notIn_tupleAt (BY x) pl (λw hw=>lA rx fx r fs w ⇑hw) #[.bl _,H,I,rfl,?_];rw[show bQ.toArray.any (BY x)=bQ.any (BY x) by simp,py r fs];show q
def xQ:iK X (compareOp .NotIn) (λx y H Q=>cE λi j=>cS (x= .str i) (y= .str j) (Q (.bl (!(!(Builtin.Str.occurrences j i 0 j.length 1).isEmpty))) H)):=by intro ah s σ H x y v u Q I rx ry h;let⟨i,j,rfl,rfl,q⟩:=h;let⟨t,rfl⟩:=rx;let⟨t',rfl⟩:=ry;show notIn_str #[.bl _,H,I,rfl,q]
def yo:fq X (.builtin "len") (λxs H Q=>cE λp ys=>cS (xs= [.ref p]) (iH X.K H p ys \/ kW X.K H p ys) (Q (.int ys.length) H)):=by intro ah s σ H xs us Q I r h;let⟨p,ys,rfl,hq,q⟩:=h;let⟨u,rfl,rx⟩:=vals1 r;cases rx;have hn:=p9;obtain hq | hq:=hq;let⟨bQ,r',pl,hz⟩:=I.list hq;have d4:=r'.length;show Calls.call_len_list pl.isList (by simp![aM] <;>lia) #[.int ys.length,H,I.tok _,#[s.toks+1,by rw[aM,d4]],q];let⟨bQ,r',pl,hz⟩:=I.tuple hq;have d4:=r'.length;show len_tuple pl (by simp![aM] <;>lia) #[.int ys.length,H,I.tok _,#[s.toks+1,by rw[aM,d4]],q]
def yn:fq X (.builtin "len") (λxs H Q=> ∃z,cS (xs= [.str z]) (z.length<=sizeLine) (Q (.int z.length) H)):=by intro ah s σ H xs us Q I r h;let⟨z,rfl,hz,q⟩:=h;let⟨u,rfl,t,rfl⟩:=vals1 r;have hn:=p9;show len_str ∅ #[.int z.length,H,I.tok _,#[_,rfl],q]
def ym:fq X (.type "list") (λxs H Q=>cE λp ys=>cS (xs= [.ref p]) (iH X.K H p ys \/ kW X.K H p ys) (∀l,H l=none ->Q (.ref l) (cM H l (.lst ys)))):=by
 intro ah s σ H xs us Q I r h;let⟨p,ys,rfl,hq,q⟩:=h;let⟨u,rfl,rx⟩:=vals1 r;cases rx;have fin: ∀ (bQ:c_ dC),cj ys bQ ->ys.length<=sizeLine -> ∀ (h':ZX) (c':Nat),(∀b o',s.heap.get? b=some o' ->h'.get? b=some o') ->h'.get? s.heap.objs.size=some {cls:= .type "list",dict:=none,data:= .seq bQ.toArray c',slots:= #[]} ->EP X ah σ Q (.ref s.heap.objs.size) {s with heap:=h'}:=λbQ r' hz h' c' kp e=>#[.ref s.heap.objs.size,_,I.laid (t':=s.toks) kp (aq _) (show d3 X.prog X.w _ h' _ (.lst ys) from#[hz,bQ,c',r',e]),rfl,q _ (I.c6.fresh (aq _))]
 obtain hq | hq:=hq;let⟨bQ,r',pl,hz⟩:=I.list hq;have d4:=r'.length;let⟨o,ho,hc,n,hd⟩:=pl.isList;show call_list_seq p (.inl rfl) ho hc hd (λh' c' kp e=>fin bQ r' hz h' c' kp e) (by simp![aM] <;>lia);let⟨bQ,r',pl,hz⟩:=I.tuple hq;have d4:=r'.length;let⟨o,ho,hc,n,hd⟩:=pl;show call_list_seq p (.inr rfl) ho hc hd (λh' c' kp e=>fin bQ r' hz h' c' kp e) (by simp![aM] <;>lia)
def vH:fq X (.type "tuple") (λxs H Q=>cE λp ys=>xs= [.ref p] /\ ((iH X.K H p ys /\ ∀l,H l=none ->Q (.ref l) (cM H l (.tup ys))) \/ (kW X.K H p ys /\ Q (.ref p) H))):=by
 intro ah s σ H xs us Q I r h;let⟨p,ys,rfl,h⟩:=h;let⟨u,rfl,rx⟩:=vals1 r;cases rx;rcases h with⟨hq,q⟩ | ⟨hq,q⟩
 let⟨bQ,r',pl,hz⟩:=I.list hq;have d4:=r'.length;exact call_tuple_list pl.isList (λh' kp=> ?_) (by simp![aM] <;>lia);have I1:Inv X ah σ H {s with heap:=h'}:=I.kept (t':=s.toks) kp;have I2:Inv X ah σ (cM H h'.objs.size (.tup ys)) {s with heap:=h'.push {cls:= .type "tuple",data:= .seq bQ.toArray}}:=I1.laid (t':=s.toks) (λb o e=>av _ e) (aq _) (show d3 X.prog X.w _ _ _ (.tup ys) from#[hz,bQ,r',yx.new _ _]);show#[.ref h'.objs.size,_,I2,rfl,q _ (I1.c6.fresh (aq _))];let⟨bQ,r',pl,hz⟩:=I.tuple hq;show call_tuple_same pl #[.ref p,H,I,rfl,q]
def V5 (K:Uc)(T:String)(x:V)(H:Hp):Prop:=match x with
 | .str _=>T= "str"
 | .int _=>T= "int"
 | .ref p=>(T= "list" /\ ∃xs,iH K H p xs) \/ (T= "tuple" /\ ∃o,cS (K.lookup p=some o) (o.cls= .type "tuple") (o.dict=none)) \/(T= "dict" /\ ((∃kvs,H p=some (.dK kvs)) \/ ∃kvs,H p=some (.dT kvs))) \/ (T= "set" /\ ∃S n,H p=some (.set S n))
 | _=>False
def GH {ah:c_ (iW×Obj)}{σ:St}{H:Hp}{s:gw}{T:String}{x:V}{v:dC}(I:Inv X ah σ H s)(r:RelV x v)(ty:V5 X.K T x H): s.TypeIs v T /\ ∀a,v= .ref a -> ∃ob,s.heap.get? a=some ob /\ ob.dict=none:=by
 cases x with
 | str z=>let⟨t,rfl⟩:=r;cases (show T= "str" from ty);show#[typeIs_str s z t,λ_ e=>nomatch e]
 | int i=>let⟨t,rfl⟩:=r;cases (show T= "int" from ty);show#[typeIs_int s i t,λ_ e=>nomatch e]
 | ref p =>
  cases r;rcases ty with⟨rfl,xs,hq⟩ | ⟨rfl,o,hk,hc,hd⟩ | ⟨rfl,hk⟩ | ⟨rfl,S,n,hk⟩
  let⟨bQ,_,pl,_⟩:=I.list hq;exact#[pl.isList.typeIs,λa e=> ?_];cases e;let⟨o,n,e,c,hd,_⟩:=pl;show#[o,e,hd];exact#[#[o,I.m7 p o hk,hc],λa e=> ?_];cases e;show#[o,I.m7 _ o hk,hd];have z: ∃o,s.heap.get? p=some o /\ o.ExactDict:=by
   rcases hk with⟨kvs,hk⟩ | ⟨kvs,hk⟩
   let⟨_,_,_,_,o,_,_,e,ex,_⟩:=I.c6 p _ hk;show#[o,e,ex];let⟨_,_,_,_,o,_,_,e,ex,_⟩:=I.c6 p _ hk;show#[o,e,ex]
  let⟨o,e,ex⟩:=z;exact#[#[o,e,ex.1],λa e2=> ?_];cases e2;show#[o,e,ex.2.1];let⟨o,_,_,_,e,ex,_⟩:=I.c6 p _ hk;exact#[#[o,e,ex.1],λa e2=> ?_];cases e2;show#[o,e,ex.2.1]
 | _=>show False.elim ty
def SH (K:Uc)(T:String)(r:V ->c_ V ->Hp ->VK ->Prop)(to:TE):TE:=λσ H Q=>to σ H λx H1=>V5 K T x H1 /\ r x [] H1 Q
def V8 (K:Uc)(T:String)(r:V ->c_ V ->Hp ->VK ->Prop)(to:TE)(t:TA):TE:=λσ H Q=>to σ H λx H1=>V5 K T x H1 /\ t σ H1 λxs H2=>r x xs H2 Q
variable {o e:Expr}{es:c_ Expr}{to:TE}{t:TA}{name:Str}{dL dn:Pos}{T id:String}{r:V ->c_ V ->Hp ->VK ->Prop}
def Hr (pa:PlainAttrs T)(slot:Slot T name id)(Um:typeOf (.builtin id)=pure (.type "method_descriptor"))(hm:Gj X id r)(ho:PE X o to) (uF:attributeBase o name X.env (eval o X.env)=eval o X.env:=by rfl) (uE:(dL.endLine==dn.line)=true:=by rfl):PE X (.Call (.Attribute o name dL) [] [] dn) (SH X.K T r to):=by intro ah s σ H Q I h;exact wpAny_Call_method0_late uF uE (cX (ho ah s σ H _ I h) λv s1 ⟨x,H1,I1,r1,ty,q1⟩=> ?_);let⟨h1,h2⟩:=GH I1 r1 ty;show#[T,id,pa,slot,Um,h1,h2,Calls.callWith_builtin rfl (PySem.evalArgs_none (hm ah s1 σ H1 x [] v [] Q I1 r1 .nil q1))]
def e7 (pa:PlainAttrs T)(slot:Slot T name id)(Um:typeOf (.builtin id)=pure (.type "method_descriptor"))(hm:Gj X id r)(ho:PE X o to)(ha:PA X (e::es) t) (uF:attributeBase o name X.env (eval o X.env)=eval o X.env:=by rfl) (Qr:((backTo dn (starEach (e::es) X.env)).all (λx=> !x.1) && (backToKw dn (keywordEach [] X.env)).all (λx=>x.1.isSome) && decide ((e::es).length+([]:c_ Keyword).length+(if([]:c_ Keyword).isEmpty then 0 else 1) <30))=true:=by rfl) (uE:(dL.endLine==dn.line)=true:=by rfl) (hs:starEach (e::es) X.env=(false,eval e X.env)::starEach es X.env:=by rfl) (BP:(backTo dn (starEach es X.env)).any (·.1)=false:=by rfl): PE X (.Call (.Attribute o name dL) (e::es) [] dn) (V8 X.K T r to t):=by intro ah s σ H Q I h;exact wpAny_Call_method_late uF Qr uE rfl (cX (ho ah s σ H _ I h) λv s1 ⟨x,H1,I1,r1,ty,q1⟩=> ?_);let⟨h1,h2⟩:=GH I1 r1 ty;exact#[T,id,pa,slot,Um,h1,h2,?_];have hA:=ha dn ah s1 σ H1 _ I1 q1;rw[hs] at hA ⊢;exact Calls.callWith_builtin (by change(false || (backTo dn (starEach es X.env)).any (·.1))=false;rw[BP] <;>rfl) (Calls.evalArgs_plain ?_);show cX hA λus s2 ⟨vs,H2,I2,r2,q2⟩=>hm ah s2 σ H2 x vs v us Q I2 r1 r2 q2
end
def W7 (X:Cx)(id:String)(r:V ->c_ V ->Hp ->VK ->Prop):Prop:=∀ (ah:c_ (iW×Obj)) (s:gw) (σ:St) (H:Hp) (x:V) (xs:c_ V) (v:dC) (us:c_ dC) (Q:VK),Inv X ah σ H s ->RelV x v ->cj xs us ->r x xs H Q ->wpAny (model X.prog X.w) X.A (call (.builtin id) (v::us)) (EP X ah σ Q) X.xe s
def cj.one: ∀ {x:V} {us:c_ dC},cj [x] us -> ∃u,us= [u] /\ RelV x u :=by intro x us h;cases h with | cons r t=>cases t;show#[_,rfl,r]
def cj.two: ∀ {x y:V} {us:c_ dC},cj [x,y] us ->cE λu v=>cS (us= [u,v]) (RelV x u) (RelV y v) :=by intro x y us h;cases h with | cons r t=>cases t with | cons q t=>cases t;show#[_,_,rfl,r,q]
theorem cj.zero: ∀ {us:c_ dC},cj [] us ->us= []
 | _, .nil=>rfl
def QC {α:Type}(l:c_ α):l.eraseIdx (l.length - 1)=l.dropLast:=by
 induction l with
 | nil=>rfl
 | cons a r ih=>
  cases r with
  | nil=>rfl
  | cons b r=>
   have e:(a::b::r).length - 1=((b::r).length - 1)+1:=by have h1:(a::b::r).length=r.length+2:=rfl;have h2:(b::r).length=r.length+1:=rfl;lia
   rw[e,List.eraseIdx_cons_succ,ih];all_goals rfl
section
variable {X:Cx}{ah:c_ (iW×Obj)}{σ:St}{H:Hp}{s:gw}{l b:iW}{xs ys zs:c_ V}
def Inv.Lx {bQ its':c_ dC}{n:Nat}{f:Ub dC ->Ub dC}{t':Nat}(I:Inv X ah σ H s)(hH:H l=some (.lst xs)) (e:s.heap.get? l=some {cls:= .type "list",data:= .seq bQ.toArray n}) (hf:f bQ.toArray=its'.toArray) (hv:cj ys its') (hz:ys.length<=sizeLine): Inv X ah σ (cM H l (.lst ys)) {s with heap:=s.heap.update l (Obj.mapSeq f),toks:=t'}:=by have q:=PySem.IsL.update e f;rw[hf] at q;exact I.write (x:=l) (e:=l) (by rw[hH];show trivial) (.inl rfl) (λb' u hb hu=>(Heap.get?_update_other s.heap (Obj.mapSeq f) (dy hb)).trans hu) #[_,q] ?_;show#[hz,its',_,hv,q]
theorem Inv.YL {bQ:c_ dC}{t':Nat}(I:Inv X ah σ H s)(hv:cj ys bQ)(hz:ys.length<=sizeLine): Inv X ah σ (cM H s.heap.objs.size (.lst ys)) {s with heap:=s.heap.push {cls:= .type "list",data:= .seq bQ.toArray},toks:=t'}:=I.laid (λ_ _ q=>av _ q) (aq _) #[hz,bQ,0,hv,aY _ rfl]
theorem Inv.fresh (I:Inv X ah σ H s):H s.heap.objs.size=none:=I.c6.fresh (aq _)
def Inv.BH (I:Inv X ah σ H s)(hH:H l=some (.lst xs)):xs.length<=sizeLine /\ cE λ(bQ:c_ dC) (n:Nat)=>cS (cj xs bQ) (xs.length=bQ.length) (s.heap.get? l=some {cls:= .type "list",data:= .seq bQ.toArray n}):=by let⟨z,bQ,n,r,e⟩:=I.c6 l _ hH;show#[z,bQ,n,r,r.length,e]
def HH {n:Nat}(h:n<=sizeLine):Builtin.List.listTooLong n=false:=by unfold Builtin.List.listTooLong;show aL ∅
end
section
variable {X:Cx}
def C6:V ->c_ V ->Hp ->VK ->Prop:=λx vs H Q=>eE λl xs y=>gJ (x= .ref l) (vs= [y]) (H l=some (.lst xs)) (xs.length<sizeLine) (Q .d0 (cM H l (.lst (xs++ [y]))))
def dW:W7 X "list.append" C6:=by intro ah s σ H x vs v us Q I rx rv h;let⟨l,xs,y,rfl,rfl,hH,hz,q⟩:=h;cases rx;let⟨u,rfl,ru⟩:=rv.one;let⟨z,bQ,n,r,hl,e⟩:=I.BH hH;exact call_meets F.slot_list_append #[_,e,rfl] F.entry_list_append (F.args_list_append_2 _ _) (PySem.list_append l bQ.toArray n u (by rw[aM];lia)) #[e,?_];exact#[.d0,_,I.Lx (its':=bQ++ [u]) hH e (by simp) (r.append (.cons ru .nil)) ?_,rfl,q];rw[aJ,List.length_singleton];lia
def C5:V ->c_ V ->Hp ->VK ->Prop:=λx vs H Q=>gm λl b xs zs=>kQ (x= .ref l) (vs= [.ref b]) (H l=some (.lst xs)) (H b=some (.lst zs)) (xs.length+zs.length<=sizeLine) (Q .d0 (cM H l (.lst (xs++zs))))
def mD:W7 X "list.extend" C5:=by
 intro ah s σ H x vs v us Q I rx rv h;let⟨l,b,xs,zs,rfl,rfl,hH,hB,hz,q⟩:=h;cases rx;let⟨u,rfl,ru⟩:=rv.one;cases ru;let⟨z,bQ,n,r,hl,e⟩:=I.BH hH;let⟨z2,ya,n2,r2,UD,e2⟩:=I.BH hB;have hsz:bQ.toArray.size+ya.toArray.size<=sizeLine:=by rw[aM,aM];lia
 have UB:¬(!bQ.toArray.isEmpty && Builtin.List.listTooLong (bQ.toArray.size+ya.toArray.size))=true:=by rw[HH hsz,Bool.and_false];show be
 exact call_meets F.slot_list_extend #[_,e,rfl] F.entry_list_extend (F.args_list_extend_2 _ _) (AutoSeq1.list_extend_list_list_0 l bQ.toArray n b ya.toArray n2 UB (by rw[aM];lia) ∅) #[e,e2,?_];exact#[.d0,_,I.Lx (its':=bQ++ya) hH e (by simp) (r.append r2) ?_,rfl,q];rw[aJ];lia
def afS:V ->c_ V ->Hp ->VK ->Prop:=λx vs H Q=>eE λl xs y=>gJ (x= .ref l) (vs= []) (H l=some (.lst xs)) (xs[xs.length - 1]? =some y) (Q y (cM H l (.lst xs.dropLast)))
def Hh:V ->c_ V ->Hp ->VK ->Prop:=λx vs H Q=>cE λl xs=>fi (x= .ref l) (vs= []) (H l=some (.lst xs)) (Q .d0 (cM H l (.lst [])))
def zF:W7 X "list.clear" Hh:=by intro ah s σ H x vs v us Q I rx rv h;let⟨l,xs,rfl,rfl,hH,q⟩:=h;cases rx;have yG:=rv.zero;subst yG;let⟨z,bQ,n,r,hl,e⟩:=I.BH hH;exact call_meets F.slot_list_clear #[_,e,rfl] F.entry_list_clear (F.args_list_clear_1 _) (AutoSeq1.list_clear_list_0 l bQ.toArray n (by rw[aM];lia)) #[e,?_];show#[.d0,_,I.Lx (its':= []) (ys:= []) hH e rfl .nil (dh _),rfl,q]
def Tb:R2:=λx y H Q=>gm λl b xs zs=>kQ (x= .ref l) (y= .ref b) (H l=some (.lst xs)) (H b=some (.lst zs)) (xs.length+zs.length<=sizeLine) (∀p,H p=none ->Q (.ref p) (cM H p (.lst (xs++zs))))
def xS:iK X (binaryOp .Add) Tb:=by
 intro ah s σ H x y v u Q I rx ry h;let⟨l,b,xs,zs,rfl,rfl,hH,hB,hz,q⟩:=h;cases rx;cases ry;let⟨z,bQ,n,r,hl,e⟩:=I.BH hH;let⟨z2,ya,n2,r2,UD,e2⟩:=I.BH hB;exact PySem.P.add_list e e2 ?_ (by rw[aM,aM];lia);have ea:bQ.toArray++ya.toArray=(bQ++ya).toArray:=by simp
 rw[ea];show#[.ref _,_,I.YL (t':=s.toks) (r.append r2) (by rw[aJ];lia),rfl,q _ I.fresh]
end
section
variable {κ:Type} [DecidableEq κ]
def iL (kvs:c_ (κ×V))(k:κ):gC V:=(kvs.find? λkv=>decide (kv.1=k)).map (·.2)
def mI (kvs:c_ (κ×V))(k:κ)(v:V):c_ (κ×V):=if(kvs.any λkv=>decide (kv.1=k))=true then kvs.map (λkv=>if kv.1=k then(kv.1,v) else kv) else kvs++ [(k,v)]
def lS (kvs:c_ (κ×V))(k:κ):c_ (κ×V):=kvs.filter λkv=>decide (kv.1≠k)
def tw {p:κ×V}{r:c_ (κ×V)}{k:κ}(e:p.1=k):iL (p::r) k=some p.2:=by simp[iL,cL,e]
def tz {p:κ×V}{r:c_ (κ×V)}{k:κ}(e:¬p.1=k):iL (p::r) k=iL r k:=by simp[iL,cL,e]
theorem yR (k:κ): ∀kvs:c_ (κ×V),(kvs.any λkv=>decide (kv.1=k))=(iL kvs k).isSome
 | []=>rfl
 | p::r=>by rw[List.any_cons];by_cases e:p.1=k;simp![tw e,bL e,Bool.true_or,cq];rw[tz e,aL e,Bool.false_or];show yR k r
def qR (kvs:c_ (κ×V))(k:κ)(v:V):(mI kvs k v).length<=kvs.length+1:=by unfold mI;split;rw[af];lia;rw[aJ,az,List.length_nil];lia
def j8.hV {o:gC V}{u:gC dC}(r:j8 o u):o.isSome=u.isSome:=by
 cases o with
 | none=>cases u with
  | none=>rfl
  | some _=>show(show False from r).elim
 | some _=>cases u with
  | none=>show(show False from r).elim
  | some _=>rfl
def j8.getD {o:gC V}{u:gC dC}{d:V}{d':dC}(r:j8 o u)(rd:RelV d d'):RelV (o.getD d) (u.getD d'):=by
 cases o with
 | none=>cases u with
  | none=>show rd
  | some _=>show(show False from r).elim
 | some _=>cases u with
  | none=>show(show False from r).elim
  | some _=>show r
def KV.val {kvs:c_ (κ×V)}{vs:c_ (κ×dC)}(r:KV kvs vs)(k:κ):j8 (iL kvs k) (valueAt vs k):=by
 unfold KV at r;induction r with
 | nil=>show True.intro
 | @cons p q ps qs h t ih=>
  let⟨h1,h2⟩:=h;by_cases e:p.1=k;have e':q.1=k:=h1.symm.trans e;have b:valueAt (q::qs) k=some q.2:=by simp[valueAt,cL,e']
  rw[tw e,b];show h2;have e':¬q.1=k:=λz=>e (h1.trans z);have b:valueAt (q::qs) k=valueAt qs k:=by simp[valueAt,cL,e']
  rw[tz e,b];show ih
def KV.any {kvs:c_ (κ×V)}{vs:c_ (κ×dC)}(r:KV kvs vs)(k:κ):(kvs.any λkv=>decide (kv.1=k))=vs.any λkv=>decide (kv.1=k):=by
 unfold KV at r;induction r with
 | nil=>rfl
 | cons h t ih=>rw[List.any_cons,List.any_cons,ih,h.1]
def KV.OY {kvs:c_ (κ×V)}{vs:c_ (κ×dC)}(r:KV kvs vs)(k:κ){y:V}{u:dC}(ry:RelV y u): KV (kvs.map λkv=>if kv.1=k then(kv.1,y) else kv) (vs.map λkv=>if kv.1=k then(kv.1,u) else kv):=by
 unfold KV at r ⊢;induction r with
 | nil=>show .nil
 | @cons p q ps qs h t ih=>rw[aH,aH];exact .cons ?_ ih;let⟨h1,h2⟩:=h;by_cases e:p.1=k;rw[am e,am (h1.symm.trans e)];show#[h1,ry];rw[ak e,ak (λz=>e (h1.trans z))];show#[h1,h2]
def KV.put {kvs:c_ (κ×V)}{vs:c_ (κ×dC)}(r:KV kvs vs)(k:κ){y:V}{u:dC}(ry:RelV y u):KV (mI kvs k y) (stored vs k u):=by unfold mI stored;rw[r.any k];by_cases e:(vs.any λkv=>decide (kv.1=k))=true;rw[am e,am e];show r.OY k ry;rw[ak e,ak e];show Paired.snoc r #[rfl,ry]
def KV.drop {kvs:c_ (κ×V)}{vs:c_ (κ×dC)}(r:KV kvs vs)(k:κ):KV (lS kvs k) (without vs k):=by
 unfold KV at r ⊢;unfold lS without;induction r with
 | nil=>show .nil
 | @cons p q ps qs h t ih=>
  let⟨h1,h2⟩:=h;rw[List.filter_cons,List.filter_cons];by_cases e:p.1=k;have a:¬decide (p.1≠k)=true:=by simp[e]
  have b:¬decide (q.1≠k)=true:=by simp[h1.symm.trans e]
  rw[ak a,ak b];show ih;have e':¬q.1=k:=λz=>e (h1.trans z);have a:decide (p.1≠k)=true:=by simp[e]
  have b:decide (q.1≠k)=true:=by simp[e']
  rw[am a,am b];show .cons #[h1,h2] ih
def KV.keys {kvs:c_ (κ×V)}{vs:c_ (κ×dC)}(r:KV kvs vs):kvs.map (·.1)=vs.map (·.1):=by
 unfold KV at r;induction r with
 | nil=>rfl
 | cons h t ih=>rw[aH,aH,ih,h.1]
theorem KV.length {kvs:c_ (κ×V)}{vs:c_ (κ×dC)}(r:KV kvs vs):kvs.length=vs.length:=Paired.length r
theorem Ae (kvs:c_ (κ×V))(k:κ):(lS kvs k).length<=kvs.length:=List.length_filter_le _ _
end
def qV {P:Y1}{w:ZW}{k:cz}{u:dC}(r:RelV (kV k) u):(cR P w).is k u=true:=by
 cases k with
 | inl i=>let⟨t,e⟩:=(show ∃t,u=Value.int i t from r);subst e;show zI P w i t
 | inr x=>let⟨t,e⟩:=(show ∃t,u=Value.str x t from r);subst e;show zH P w x t
theorem wz {P:Y1}{w:ZW}: ∀ {ks:c_ cz} {us:c_ dC},cj (ks.map kV) us ->ItemsAre (cR P w) ks us
 | [],_,r=>by rw[List.map_nil] at r;cases r;show .nil
 | k::ks,_,r=>by
  rw[aH] at r;cases r with
  | cons h t=>show .cons (qV h) (wz t)
abbrev KT (H:Hp):c_ (c_ cz×V) ->c_ (c_ cz×iW×dC) ->Prop:=Paired λp q=>p.1=q.1 /\ H q.2.1=some (.tup (p.1.map kV)) /\ RelV p.2 q.2.2
def KT.val {H:Hp}{kvs:c_ (c_ cz×V)}{xs:c_ (c_ cz×iW×dC)}(r:KT H kvs xs)(k:c_ cz):j8 (iL kvs k) ((atKey xs k).map (·.2)):=by
 induction r with
 | nil=>show True.intro
 | @cons p q ps qs h t ih=>
  let⟨h1,_,h2⟩:=h;by_cases e:p.1=k;have e':q.1=k:=h1.symm.trans e;have b:atKey (q::qs) k=some q.2:=by simp[atKey,cL,e']
  rw[tw e,b];show h2;have e':¬q.1=k:=λz=>e (h1.trans z);have b:atKey (q::qs) k=atKey qs k:=by simp[atKey,cL,e']
  rw[tz e,b];show ih
def KT.OY {H:Hp}{kvs:c_ (c_ cz×V)}{xs:c_ (c_ cz×iW×dC)}(r:KT H kvs xs)(k:c_ cz){y:V}{u:dC}(ry:RelV y u): KT H (kvs.map λkv=>if kv.1=k then(kv.1,y) else kv) (xs.map (putAt k u)):=by
 induction r with
 | nil=>show .nil
 | @cons p q ps qs h t ih=>rw[aH,aH];exact .cons ?_ ih;let⟨h1,h2,h3⟩:=h;unfold putAt;by_cases e:p.1=k;rw[am e,am (h1.symm.trans e)];show#[h1,h2,ry];rw[ak e,ak (λz=>e (h1.trans z))];show#[h1,h2,h3]
def KT.put {H:Hp}{kvs:c_ (c_ cz×V)}{xs:c_ (c_ cz×iW×dC)}(r:KT H kvs xs)(k:c_ cz){b:iW}{y:V}{u:dC}(hb:H b=some (.tup (k.map kV)))(ry:RelV y u): KT H (mI kvs k y) (storedH xs k b u):=by
 have e:(kvs.any λkv=>decide (kv.1=k))=(atKey xs k).isSome:=by rw[yR,(r.val k).hV,b0]
 unfold mI storedH;rw[e];by_cases q:(atKey xs k).isSome=true;rw[am q,am q];show r.OY k ry;rw[ak q,ak q];show Paired.snoc r #[rfl,hb,ry]
theorem KT.keeps {H H':Hp}{kvs:c_ (c_ cz×V)}{xs:c_ (c_ cz×iW×dC)}(r:KT H kvs xs)(ht: ∀b ys,H b=some (.tup ys) ->H' b=some (.tup ys)):KT H' kvs xs:=Paired.PL r λ_ _ z=>#[z.1,ht _ _ z.2.1,z.2.2]
section
variable {P:Y1}{w:ZW}{H:Hp}{h:ZX}{a:iW}
theorem Nw {u:HO}(ok:mH P w H h)(e:Rd H a u):d3 P w H h a u:=e.ok ok
theorem o_ {kvs:c_ (cz×V)}(ok:mH P w H h)(e:Rd H a (.dK kvs)):kvs.length<=sizeLine /\ (a==sysModules)=false /\ ∃vs,KV kvs vs /\ h.DictOf (cR P w) a vs:=
 show d3 P w H h a (.dK kvs) from Nw ok e
theorem wO {kvs:c_ (cz×V)}(ok:mH P w H h)(e:H a=some (.dK kvs)):kvs.length<=sizeLine /\ (a==sysModules)=false /\ ∃vs,KV kvs vs /\ h.DictOf (cR P w) a vs:=o_ ok (.inl e)
def qb {ks:c_ cz}(ok:mH P w H h)(e:H a=some (.tup (ks.map kV))):(tupleKind (cR P w)).is h ks a:=by
 let⟨_,bQ,r,o,h1,h2,n,h3,_⟩:=(show d3 P w H h a (.tup (ks.map kV)) from ok a _ e)
 show#[o,bQ.toArray,n,h1,h2,h3, ⇑(wz r)]
def uL {kvs:c_ (c_ cz×V)}(ok:mH P w H h)(e:Rd H a (.dT kvs)):kvs.length<=sizeLine /\ (a==sysModules)=false /\∃xs,KT H kvs xs /\ h.DictOfH (tupleKind (cR P w)) a xs:=by
 let⟨z,y,xs,r,o,es,ep,h1,h2,h3,h4,h5⟩:=(show d3 P w H h a (.dT kvs) from Nw ok e)
 exact#[z,y,xs,r,o,es,ep,h1,h2,h3,h4,λx hx=> ?_,h5];have all: ∀ {l:c_ (c_ cz×V)} {m:c_ (c_ cz×iW×dC)},KT H l m -> ∀x∈m,(tupleKind (cR P w)).is h x.1 x.2.1:=by
  intro l m q;induction q with
  | nil=>intro x hx;show nomatch hx
  | @cons p q ps qs hq t ih=>intro x hx;obtain e | hx:=aP.mp hx;subst e;show qb ok (by rw[<- hq.1];show hq.2.1);show ih x hx
 show all r x hx
theorem U5 {kvs:c_ (c_ cz×V)}(ok:mH P w H h)(e:H a=some (.dT kvs)):kvs.length<=sizeLine /\ (a==sysModules)=false /\∃xs,KT H kvs xs /\ h.DictOfH (tupleKind (cR P w)) a xs:=uL ok (.inl e)
end
def mP (H:Hp)(a:iW)(y:V)(r:gC V):Prop:=(cE λkvs k=>cS (Rd H a (.dK kvs)) (y=kV k) (r=iL kvs k)) \/ eE λkvs k b=>fi (Rd H a (.dT kvs)) (y= .ref b) (H b=some (.tup (k.map kV))) (r=iL kvs k)
def J1 (H:Hp)(a:iW)(y v:V)(H':Hp):Prop:=(cE λkvs k=>fi (H a=some (.dK kvs)) (y=kV k) (kvs.length<sizeLine) (H'=cM H a (.dK (mI kvs k v)))) \/eE λkvs k b=>gJ (H a=some (.dT kvs)) (y= .ref b) (H b=some (.tup (k.map kV))) (kvs.length<sizeLine) (H'=cM H a (.dT (mI kvs k v)))
theorem mP.k {H:Hp}{a:iW}{kvs:c_ (cz×V)}{k:cz}(e:H a=some (.dK kvs)):mP H a (kV k) (iL kvs k):= .inl #[kvs,k, .inl e,rfl,rfl]
theorem J1.k {H:Hp}{a:iW}{kvs:c_ (cz×V)}{k:cz}{v:V}(e:H a=some (.dK kvs))(hl:kvs.length<sizeLine):J1 H a (kV k) v (cM H a (.dK (mI kvs k v))):= .inl #[kvs,k,e,rfl,hl,rfl]
section
variable {X:Cx}{ah:c_ (iW×Obj)}{σ:St}{H:Hp}{s:gw}{a:iW}{y v:V}{u r:dC}{o:gC V}{A:Z0}{E:dC ->gw ->Prop}
def Inv.big (I:Inv X ah σ H s):sysModules<s.heap.objs.size:=by have h:mainGlobals<s.heap.objs.size:=(I.mod.glob.keeps I.bk).lt;show Nat.lt_trans ⋯ h
def Fv {Q:dC ->gw ->Prop}(hu:A.units+1<cLine)(I:Inv X ah σ H s)(g:mP H a y (some v))(ry:RelV y u)(h: ∀w' s',Inv X ah σ H s' ->RelV v w' ->Q w' s'): wpAny (model X.prog X.w) A (getItem (.ref a) u) Q E s:=by
 rcases g with⟨kvs,k,e,ey,l⟩ | ⟨kvs,k,b,e,ey,eb,l⟩
 subst ey;let⟨z,hd,vs,f_,dd⟩:=o_ I.c6 e;let⟨w',hw,xA⟩:=j8.some_of (v:=v) (o:=valueAt vs k) (by rw[l];show f_.val k);show wpAny_getItem_of (qV ry) dd.mapOf hw (h w' _ (I.tok _) xA);subst ey;cases (show u=Value.ref b from ry);let⟨z,hd,xs,f_,dd⟩:=uL I.c6 e;let⟨w',hw,xA⟩:=j8.some_of (v:=v) (o:=(atKey xs k).map (·.2)) (by rw[l];show f_.val k);let⟨p,hp,Zj⟩:=Option.map_eq_some_iff.mp hw;exact wpAny_getItem_heap (tupleKind_room_in1 hu) (qb I.c6 eb) dd hp ?_;rw[Zj];show h w' _ (I.tok _) xA
def afb {Q:dC ->gw ->Prop}(hu:A.units+1<cLine)(I:Inv X ah σ H s)(g:mP H a y o)(ry:RelV y u)(h: ∀s',Inv X ah σ H s' ->Q (.bool o.isSome) s'): wpAny (model X.prog X.w) A (compareOp .In u (.ref a)) Q E s:=by
 rcases g with⟨kvs,k,e,ey,l⟩ | ⟨kvs,k,b,e,ey,eb,l⟩
 subst ey;let⟨z,hd,vs,f_,dd⟩:=o_ I.c6 e;exact wpAny_in_of (qV ry) hd dd.mapOf ?_;rw[<- (f_.val k).hV, <- l];show h _ (I.tok _);subst ey;cases (show u=Value.ref b from ry);let⟨z,hd,xs,f_,dd⟩:=uL I.c6 e;exact wpAny_in_heap (tupleKind_room_in1 hu) (qb I.c6 eb) hd dd ?_;have q:=(f_.val k).hV;rw[b0] at q;rw[<- q, <- l];show h _ (I.tok _)
def Ma {Q:dC ->gw ->Prop}(hu:A.units+1<cLine)(I:Inv X ah σ H s)(g:mP H a y o)(ry:RelV y u)(h: ∀s',Inv X ah σ H s' ->Q (.bool (!o.isSome)) s'): wpAny (model X.prog X.w) A (compareOp .NotIn u (.ref a)) Q E s:=by
 rcases g with⟨kvs,k,e,ey,l⟩ | ⟨kvs,k,b,e,ey,eb,l⟩
 subst ey;let⟨z,hd,vs,f_,dd⟩:=o_ I.c6 e;exact wpAny_notIn_of (qV ry) hd dd.mapOf ?_;rw[<- (f_.val k).hV, <- l];show h _ (I.tok _);subst ey;cases (show u=Value.ref b from ry);let⟨z,hd,xs,f_,dd⟩:=uL I.c6 e;exact wpAny_notIn_heap (tupleKind_room_in1 hu) (qb I.c6 eb) hd dd ?_;have q:=(f_.val k).hV;rw[b0] at q;rw[<- q, <- l];show h _ (I.tok _)
theorem s_ {h':ZX}{t':Nat}{ob:HO}(I:Inv X ah σ H s)(mu:Vo (H a))(hs:Heap.SameBut a s.heap h')(he: ∃q,h'.get? a=some q)(new:d3 X.prog X.w (cM H a ob) h' a ob): Inv X ah σ (cM H a ob) {s with heap:=h',toks:=t'}:=I.write (x:=a) (e:=a) mu (.inl rfl) (λb q hb z=>(hs.2 b hb).trans z) he new
theorem B0 {P:Y1}{w:ZW}{H':Hp}{h':ZX}{kvs:c_ (cz×V)}{vs:c_ (cz×dC)}(z:kvs.length<=sizeLine)(hd:(a==sysModules)=false)(f_:KV kvs vs)(dd:h'.DictOf (cR P w) a vs): d3 P w H' h' a (.dK kvs):=#[z,hd,vs,f_,dd]
def Fu {H':Hp}{Q:Unit ->gw ->Prop}(hu:A.units+1<cLine)(I:Inv X ah σ H s)(g:J1 H a y v H')(ry:RelV y u)(rv:RelV v r)(h: ∀s',Inv X ah σ H' s' ->Q () s'): wpAny (model X.prog X.w) A (setItem (.ref a) u r) Q E s:=by
 rcases g with⟨kvs,k,e,ey,l,eH⟩ | ⟨kvs,k,b,e,ey,eb,l,eH⟩
 subst ey eH;let⟨z,hd,vs,f_,dd⟩:=wO I.c6 e;have hz:vs.length<=sizeLine:=by rw[<- f_.length];show z
 have hl:(mI kvs k v).length<=sizeLine:=by have:=qR kvs k v;lia
 exact wpAny_setItem_pairs (hsz:=hz) (qV ry) dd λh' Kr hs=>h _ ?_;have he: ∃q,h'.get? a=some q:=let ⟨q,_,_,hq,_⟩:=Kr;#[q,hq]
 show s_ I (by rw[e];show True.intro) hs he (B0 hl hd (f_.put k rv) Kr);subst ey eH;cases (show u=Value.ref b from ry);let⟨z,hd,xs,f_,dd⟩:=U5 I.c6 e;have hz:xs.length<=sizeLine:=by rw[<- Paired.length f_];show z
 have hl:(mI kvs k v).length<=sizeLine:=by have:=qR kvs k v;lia
 exact wpAny_setItem_heap (hsz:=hz) (tupleKind_room_in1 hu) (qb I.c6 eb) dd λh' Kr hs=>h _ ?_;let⟨q,es,ep,hq,h2,h3,h4,_,h5⟩:=Kr;exact s_ I (by rw[e];show True.intro) hs #[q,hq] #[hl,hd,_,(f_.put k eb rv).keeps λc ys ec=> ?_,q,es,ep,hq,h2,h3,h4,h5];rw[bR (TN ec e (λz=>nomatch z))];show ec
end
section
variable {X:Cx}{ah:c_ (iW×Obj)}{σ:St}{H:Hp}{s:gw}{a:iW}{kvs:c_ (cz×V)}{k:cz}{u:dC}{A:Z0}{E:dC ->gw ->Prop}
def Fw {Q:Unit ->gw ->Prop}(I:Inv X ah σ H s)(e:H a=some (.dK kvs))(ry:RelV (kV k) u)(l:(iL kvs k).isSome=true)(h: ∀s',Inv X ah σ (cM H a (.dK (lS kvs k))) s' ->Q () s'): wpAny (model X.prog X.w) A (delItem (.ref a) u) Q E s:=by
 let⟨z,hd,vs,f_,dd⟩:=wO I.c6 e;exact wpAny_delItem_slot dd.typeIs ⋯ PySem.F.slot_dict_delitem (call_meetsIn PySem.F.slot_dict_delitem dd.typeIs PySem.F.entry_dict_delitem (PySem.F.args_dict_delitem_2 _ _) (meets_dict_delitem_pairs (cR X.prog X.w) a (qV ry)) #[vs,dd,by rw[<- f_.length];show z,by rw[<- (f_.val k).hV];show l,λh' Kr hs=>h _ ?_]);have he: ∃q,h'.get? a=some q:=let ⟨q,_,_,hq,_⟩:=Kr;#[q,hq]
 show s_ I (by rw[e];show True.intro) hs he (B0 (ar (Ae kvs k) z) hd (f_.drop k) Kr)
def U7 {v:V}{more:c_ dC}{Q:dC ->gw ->Prop}(I:Inv X ah σ H s)(e:H a=some (.dK kvs))(ry:RelV (kV k) u)(l:iL kvs k=some v)(hm:more= [] \/ ∃x,more= [x]) (h: ∀w' s',Inv X ah σ (cM H a (.dK (lS kvs k))) s' ->RelV v w' ->Q w' s'):wpAny (model X.prog X.w) A (call (.builtin "dict.pop") (.ref a::u::more)) Q E s:=by
 let⟨z,hd,vs,f_,dd⟩:=wO I.c6 e;let⟨w',hw,xA⟩:=j8.some_of (v:=v) (o:=valueAt vs k) (by rw[<- l];show f_.val k);have hp:(keyPart u).isSome=true:=by
  cases k with
  | inl i=>let⟨t,q⟩:=(show ∃t,u=Value.int i t from ry);subst q;rfl
  | inr x=>let⟨t,q⟩:=(show ∃t,u=Value.str x t from ry);subst q;rfl
 have ha:argsOk "dict.pop" #[.ref a::u::more,[]]:=by obtain q | ⟨x,q⟩:=hm;subst q;show PySem.F.args_dict_pop_2 _ _;subst q;show PySem.F.args_dict_pop_3 _ _ _
 exact call_meetsIn PySem.F.slot_dict_pop dd.typeIs PySem.F.entry_dict_pop ha (meets_dict_pop_there (cR X.prog X.w) a (qV ry) more hm hp) #[vs,w',dd,by rw[<- f_.length];show z,hw,λh' Kr hs=>h w' _ ?_ xA];have he: ∃q,h'.get? a=some q:=let ⟨q,_,_,hq,_⟩:=Kr;#[q,hq]
 show s_ I (by rw[e];show True.intro) hs he (B0 (ar (Ae kvs k) z) hd (f_.drop k) Kr)
end
def QQ (i:Expr):Prop:= ∀ov iv,subscripted i false ov iv=operate [ov,iv] (getItem ov iv)
def KN {prog:Y1}{w:ZW}{A:Z0}{E:dC ->gw ->Prop}{s:gw}{env:Env}{value slice:Expr}{pos:Pos}{T id:String}{Q:dC ->gw ->Prop} (hl:typeLookup (.type T) "__getitem__" =pure (some (.builtin id))) (hs:QQ slice) (h:wpAny (model prog w) A (eval value env) (λo s₁=>wpAny (model prog w) A (eval slice env) (λi s₂=>s₂.TypeIs o T /\ wpAny (model prog w) A (getItem o i) Q E s₂) E s₁) E s): wpAny (model prog w) A (eval (.Subscript value slice pos) env) Q E s:=by
 exact Subscript_ (bG h (λo s₁ h₁=>bG h₁ (λi s₂ h₂=> ?_) λ_ _ x=>x) λ_ _ x=>x);let⟨hT,h₂⟩:=h₂;unfold subscriptTail;exact ax ?_;rw[getitemInPython_of_ne hT.not_modules];exact ax (wpAny_specialOf hT hl ?_);have fin:wpAny (model prog w) A (subscripted slice false o i) (λr s₃=>wpAny (model prog w) A (letTemporaryGo value o r >>=λ_=>pure r) Q E s₃) E s₂:=by rw[hs o i];show wpAny_operating (bG h₂ (λr s₃ h₃=>ax (wpAny_letTemporaryGo (a7 h₃))) λ_ _ x=>x)
 first
 | show a7 (ax fin)
 | show ax (a7 (ax fin))
 | show ax fin
def Ag {X:Cx}{ah:c_ (iW×Obj)}{σ:St}{H:Hp}{s:gw}{a:iW}{y:V}{o:gC V}(I:Inv X ah σ H s)(g:mP H a y o):s.TypeIs (.ref a) "dict" :=by
 rcases g with⟨kvs,k,e,_,_⟩ | ⟨kvs,k,b,e,_,_,_⟩
 let⟨_,_,vs,_,dd⟩:=o_ I.c6 e;show dd.typeIs;let⟨_,_,xs,_,dd⟩:=uL I.c6 e;show dd.typeIs
def GW (td ty:TE):TE:=λσ H Q=>td σ H λx H1=>ty σ H1 λy H2=>cE λa v=>cS (x= .ref a) (mP H2 a y (some v)) (Q v H2)
def SG (ty td:TE):TE:=λσ H Q=>ty σ H λy H1=>td σ H1 λx H2=>cE λa o=>cS (x= .ref a) (mP H2 a y o) (Q (.bl o.isSome) H2)
def CI (ty td:TE):TE:=λσ H Q=>ty σ H λy H1=>td σ H1 λx H2=>cE λa o=>cS (x= .ref a) (mP H2 a y o) (Q (.bl (!o.isSome)) H2)
def Nr (td ty tv:TE):TS:=λD σ H=>tv σ H λv H1=>td σ H1 λx H2=>ty σ H2 λy H3=>cE λa H4=>cS (x= .ref a) (J1 H3 a y v H4) (D.nx σ H4)
def Nt (td ty:TE):TS:=λD σ H=>td σ H λx H1=>ty σ H1 λy H2=>eE λa kvs k=>gJ (x= .ref a) (H2 a=some (.dK kvs)) (y=kV k) ((iL kvs k).isSome=true) (D.nx σ (cM H2 a (.dK (lS kvs k))))
section
variable {X:Cx}{o i e value:Expr}{pos lq Sl:Pos}{td ty tv:TE}
def eA (hu:X.A.units+1<cLine)(ho:PE X o td)(hi:PE X i ty)(hs:QQ i):PE X (.Subscript o i pos) (GW td ty):=by intro ah s σ H Q I h;exact KN PySem.F.slot_dict_getitem.lookup hs (cX (ho ah s σ H _ I h) λu s1 ⟨x,H1,I1,rx,q1⟩=>cX (hi ah s1 σ H1 _ I1 q1) λiv s2 ⟨y,H2,I2,ry,a,v,ex,g,q2⟩=> ?_);subst ex;obtain rfl:u=Value.ref a:=rx;show#[Ag I2 g,Fv hu I2 g ry λw' s3 I3 xA=>#[v,H2,I3,xA,q2]]
def Br (hu:X.A.units+1<cLine)(hi:PE X i ty)(ho:PE X o td):PC X .In i o (SG ty td):=by intro ah s σ H Q I h;exact cX (hi ah s σ H _ I h) λiv s1 ⟨y,H1,I1,ry,q1⟩=>cX (ho ah s1 σ H1 _ I1 q1) λu s2 ⟨x,H2,I2,rx,a,ov,ex,g,q2⟩=> ?_;subst ex;obtain rfl:u=Value.ref a:=rx;show afb hu I2 g ry λs3 I3=>#[.bl ov.isSome,H2,I3,rfl,q2]
def jy (hu:X.A.units+1<cLine)(hi:PE X i ty)(ho:PE X o td):PC X .NotIn i o (CI ty td):=by intro ah s σ H Q I h;exact cX (hi ah s σ H _ I h) λiv s1 ⟨y,H1,I1,ry,q1⟩=>cX (ho ah s1 σ H1 _ I1 q1) λu s2 ⟨x,H2,I2,rx,a,ov,ex,g,q2⟩=> ?_;subst ex;obtain rfl:u=Value.ref a:=rx;show Ma hu I2 g ry λs3 I3=>#[.bl (!ov.isSome),H2,I3,rfl,q2]
def mx (hu:X.A.units+1<cLine)(ho:PE X o td)(hi:PE X i ty)(hv:PE X value tv)(hs:swapsWith value (some (.Subscript o i lq)) pos.line X.env=pure false): PS X (.Assign [.Subscript o i lq] value pos) (Nr td ty tv):=by intro ah s σ H D I h;exact wpAny_Assign_Subscript (cX (hv ah s σ H _ I h) λr s1 ⟨v,H1,I1,rv,q1⟩=>cX (ho ah s1 σ H1 _ I1 q1) λu s2 ⟨x,H2,I2,rx,q2⟩=>cX (hi ah s2 σ H2 _ I2 q2) λiv s3 ⟨y,H3,I3,ry,a,H4,ex,g,q3⟩=> ?_) hs;subst ex;obtain rfl:u=Value.ref a:=rx;show Fu hu I3 g ry rv λs4 I4=>#[σ,H4,I4,q3]
def K2 (ho:PE X o td)(hi:PE X i ty):PS X (.Delete [.Subscript o i Sl] pos) (Nt td ty):=by intro ah s σ H D I h;exact wpAny_Delete (wpAny_deleteEach_cons (wpAny_delete_Subscript (cX (ho ah s σ H _ I h) λu s1 ⟨x,H1,I1,rx,q1⟩=>cX (hi ah s1 σ H1 _ I1 q1) λiv s2 ⟨y,H2,I2,ry,a,kvs,k,ex,e,ey,l,q2⟩=> ?_)));subst ex ey;obtain rfl:u=Value.ref a:=rx;show Fw I2 e ry l λs3 I3=>wpAny_deleteEach_nil #[σ,_,I3,q2]
end
theorem Jf {P:Y1}{w:ZW}{H:Hp}(h:ZX)(hb:sysModules<h.objs.size):d3 P w H (h.push {cls:= .type "dict",data:= .dict #[]}) h.objs.size (.dK []):=#[dh _,beq_eq_false_iff_ne.mpr (dy (bA hb)),[], .nil,Heap.DictOf.new h]
def GS:TE:=λ_ H Q=> ∀p,H p=none ->Q (.ref p) (cM H p (.dK []))
section
variable {X:Cx}{pos:Pos}
theorem jx:PE X (.Dict [] [] pos) GS:=λah s σ H Q I h=>wpAny_Dict_empty #[.ref s.heap.objs.size,_,I.laid (a:=s.heap.objs.size) (o:= .dK []) (t':=s.toks) (λ_ _ q=>av _ q) (aq _) (Jf s.heap I.big),rfl,h _ (I.c6.fresh (aq _))]
end
structure M1 (X:Cx)(o:Expr)(m:Str)(dL:Pos)(e:Expr)(dn:Pos):Prop where
 base:attributeBase o m X.env (eval o X.env)=eval o X.env
 BW:((backTo dn (starEach [e] X.env)).all (λx=> !x.1) && (backToKw dn (keywordEach [] X.env)).all (λx=>x.1.isSome) && decide (([e]:List Expr).length+([]:List Keyword).length+(if([]:List Keyword).isEmpty then 0 else 1) <30))=true
 line:(dL.endLine==dn.line)=true
 trees:backTo dn (starEach [e] X.env)= [(false,eval e X.env)]
structure M2 (X:Cx)(o:Expr)(m:Str)(dL:Pos)(e f:Expr)(dn:Pos):Prop where
 base:attributeBase o m X.env (eval o X.env)=eval o X.env
 BW:((backTo dn (starEach [e,f] X.env)).all (λx=> !x.1) && (backToKw dn (keywordEach [] X.env)).all (λx=>x.1.isSome) && decide (([e,f]:List Expr).length+([]:List Keyword).length+(if([]:List Keyword).isEmpty then 0 else 1) <30))=true
 line:(dL.endLine==dn.line)=true
 trees:backTo dn (starEach [e,f] X.env)= [(false,eval e X.env),(false,eval f X.env)]
def IsD (H:Hp)(a:iW):Prop:=(∃kvs,Rd H a (.dK kvs)) \/ ∃kvs,Rd H a (.dT kvs)
def BN {X:Cx}{ah:c_ (iW×Obj)}{σ:St}{H:Hp}{s:gw}{a:iW}(I:Inv X ah σ H s)(d:IsD H a): s.TypeIs (.ref a) "dict" /\ (∀b,Value.ref a= .ref b -> ∃ob,s.heap.get? b=some ob /\ ob.dict=none) /\ (a==sysModules)=false:=by
 rcases d with⟨kvs,e⟩ | ⟨kvs,e⟩
 let⟨_,hd,vs,_,dd⟩:=o_ I.c6 e;exact#[dd.typeIs,λb q=> ?_,hd];cases q;let⟨ob,_,_,h1,h2,_⟩:=dd;show#[ob,h1,h2.2.1];let⟨_,hd,xs,_,dd⟩:=uL I.c6 e;exact#[dd.typeIs,λb q=> ?_,hd];cases q;let⟨ob,_,_,h1,h2,_⟩:=dd;show#[ob,h1,h2.2.1]
section
variable {X:Cx}{ah:c_ (iW×Obj)}{σ:St}{H:Hp}{s:gw}{a:iW}{y d:V}{u r:dC}{o:gC V}{A:Z0}{E:dC ->gw ->Prop}
def QH {Q:dC ->gw ->Prop}(hu:A.units+1<cLine)(I:Inv X ah σ H s)(g:mP H a y o)(ry:RelV y u)(rd:RelV d r)(h: ∀w' s',Inv X ah σ H s' ->RelV (o.getD d) w' ->Q w' s'): wpAny (model X.prog X.w) A (call (.builtin "dict.get") [.ref a,u,r]) Q E s:=by
 rcases g with⟨kvs,k,e,ey,l⟩ | ⟨kvs,k,b,e,ey,eb,l⟩
 subst ey;let⟨z,hd,vs,f_,dd⟩:=o_ I.c6 e;exact call_meetsIn PySem.F.slot_dict_get dd.typeIs PySem.F.entry_dict_get (PySem.F.args_dict_get_3 _ _ _) (meets_dict_get_default (cR X.prog X.w) a (qV ry) hd r) #[_,dd.mapOf,h _ _ (I.tok _) ?_];rw[l];show(f_.val k).getD rd;subst ey;cases (show u=Value.ref b from ry);let⟨z,hd,xs,f_,dd⟩:=uL I.c6 e;exact call_meetsIn PySem.F.slot_dict_get dd.typeIs PySem.F.entry_dict_get (PySem.F.args_dict_get_3 _ _ _) (meetsH_dict_get_default (tupleKind (cR X.prog X.w)) a b hd r) #[tupleKind_room_in1 hu,k,xs,qb I.c6 eb,dd,h _ _ (I.tok _) ?_];rw[l];show(f_.val k).getD rd
end
def GV (td ty tx:TE):TE:=λσ H Q=>td σ H λx H1=> ∃a,cS (x= .ref a) (IsD H1 a) (ty σ H1 λy H2=>tx σ H2 λz H3=> ∃o,mP H3 a y o /\ Q (o.getD z) H3)
def GR (td ty:TE):TE:=λσ H Q=>td σ H λx H1=> ∃a,cS (x= .ref a) (IsD H1 a) (ty σ H1 λy H2=>eE λkvs k v=>fi (H2 a=some (.dK kvs)) (y=kV k) (iL kvs k=some v) (Q v (cM H2 a (.dK (lS kvs k)))))
section
variable {X:Cx}{o e f:Expr}{dL dn:Pos}{td ty tx:TE}
def zt (hu:X.A.units+1<cLine)(ho:PE X o td)(he:PE X e ty)(hf:PE X f tx)(m:M2 X o "get" dL e f dn):PE X (.Call (.Attribute o "get" dL) [e,f] [] dn) (GV td ty tx):=by intro ah s σ H Q I h;exact wpAny_Call_method m.base m.BW m.line PySem.F.plainAttrs_dict PySem.F.slot_dict_get PySem.F.type_dict_get (cX (ho ah s σ H _ I h) λu s1 ⟨x,H1,I1,rx,a,ex,d,q1⟩=> ?_);subst ex;obtain rfl:u=Value.ref a:=rx;let⟨t1,t2,_⟩:=BN I1 d;exact#[t1,t2,?_];rw[m.trees];exact Calls.callWith_builtin rfl (Calls.evalArgs_plain (Calls.spliced_cons (cX (he ah s1 σ H1 _ I1 q1) λiv s2 ⟨y,H2,I2,ry,q2⟩=>Calls.spliced_cons (cX (hf ah s2 σ H2 _ I2 q2) λfv s3 ⟨z,H3,I3,rz,ov,g,q3⟩=>Calls.spliced_nil ?_))));show QH hu I3 g ry rz λw' s4 I4 xA=>#[_,H3,I4,xA,q3]
def zr (ho:PE X o td)(he:PE X e ty)(m:M1 X o "pop" dL e dn):PE X (.Call (.Attribute o "pop" dL) [e] [] dn) (GR td ty):=by intro ah s σ H Q I h;exact wpAny_Call_method m.base m.BW m.line PySem.F.plainAttrs_dict PySem.F.slot_dict_pop PySem.F.type_dict_pop (cX (ho ah s σ H _ I h) λu s1 ⟨x,H1,I1,rx,a,ex,d,q1⟩=> ?_);subst ex;obtain rfl:u=Value.ref a:=rx;let⟨t1,t2,_⟩:=BN I1 d;exact#[t1,t2,?_];rw[m.trees];exact Calls.callWith_builtin rfl (Calls.evalArgs_plain (Calls.spliced_cons (cX (he ah s1 σ H1 _ I1 q1) λiv s2 ⟨y,H2,I2,ry,kvs,k,v,ea,ey,l,q2⟩=>Calls.spliced_nil ?_)));subst ey;show U7 I2 ea ry l (.inl rfl) λw' s3 I3 xA=>#[v,_,I3,xA,q2]
end
end L2
namespace Att
open PySem PySem.W PySem.Calls PyProof.Rows
def se {P:Params}{h:ZX}: ∀ (ns:c_ Int) (vs:c_ dC),WellAll P h vs (ns.map WData.int) ->IntsAre vs ns:=by
 intro ns;induction ns with
 | nil=>intro vs w;rw[List.map_nil] at w;cases w;show .nil
 | cons n ns ih=>
  intro vs w;rw[aH] at w;cases w with
  | cons a b=>cases a;show .cons _ _ (ih _ b)
def EK {l:OpenLaw}{n:Nat}(hn:l.most=some n){P:Params}{h:ZX}{args:c_ WData}{vals:c_ dC} (LN:l.row.toRowW.claim.pre args=true) (Y6:WellAll P h vals args): eE λa vs ns=>gJ (vals= [Value.ref a]) (args= [WData.list (ns.map WData.int)]) (h.get? a=some {cls:= .type "list",data:= .seq vs.toArray}) (IntsAre vs ns) (ns.length<=n):=by
 have hsh:WShape.hasAll [] args [.list .int]=true:=(pre_splitW LN).1;have hc:l.pre.holds [] {args:=args}=true:=(pre_splitW LN).2;let⟨d,r,rfl,h1,h2⟩:=hasAllW_cons hsh;obtain rfl:=hasAllW_nil h2;let⟨xs,rfl,h3⟩:=hasW_list h1;let⟨ns,rfl⟩:=items_int h3;have d4:ns.length<=n:=by
  unfold OpenLaw.pre at hc;have h4:(WTm.not (.lt (.lit (.int (n:Int))) (.len (.arg 0)))).holds [] {args:= [.list (ns.map .int)]}=true:=by have h4:=(holds_andW hc).1;rw[hn] at h4;show h4
  have h5:=condW_of h4 (w_not (w_lt w_lit (w_len_list (w_arg rfl))));rw[af] at h5;exact Nat.le_of_not_lt λq=> ?_;have q':(n:Int) < ((ns.length:Nat):Int):= ∅;first
  | (rw[bL q'] at h5;show absurd h5 ⋯)
  | (simp at h5;lia)
 cases Y6 with
 | cons w1 w2=>
  cases w2;cases w1 with
  | list ho vE=>show#[_,_,ns,rfl,rfl,ho,se ns _ vE,d4]
theorem EQ (l:OpenLaw)(args:c_ WData):l.row.toRowW.claim.post args (.bool true) args=true:=postW_of (r:=l.row.toRowW) (X:=(true==true)) (show WShape.has [] (.bool true) .bool=true by first | rfl | decide | simp[WShape.has,WShape.arms,WShape.armsAll]) (show(WTm.eq .res (.lit (.bool true))).value [] {args:=args,res:=some (.bool true),after:=args}=some (.bool (true==true)) from w_eq_bool (w_res rfl) w_lit) rfl
def Az {l:OpenLaw}{n:Nat}{q:Y1}{wq:c_ Str}{XP:(Str ->gC dC) ->ZX ->Prop}{YP:ZW ->ZX ->Prop}{d:DefRec} (hn:l.most=some n) (Qt:d.params.defaults= []) (call: ∀ (w:ZW) (s₀ s₁:gw) (mg mb:Str ->gC dC) (fa:iW) (o:Obj) (pm cd jf:dC) (a:iW) (vs:c_ dC) (ns:c_ Int),Ground q wq [] XP w s₀ mg mb s₁.heap ->YP w s₁.heap ->s₁.heap.get? fa=some o ->o.data= .func (docDef d.name d.params d.body d.scope pm cd jf) ->s₁.heap.CodeRec cd d.name ->mg d.name=some (.ref fa) ->s₁.heap.get? a=some {cls:= .type "list",data:= .seq vs.toArray} ->IntsAre vs ns ->ns.length<=n ->s₁.gens= #[] ->codeAny (model l.prog w) callerA (.call (.ref fa) #[[.ref a],[]]) (λr s'=>r= .ok (.ret (.bool true)) /\ OldK s₁.heap s'.heap /\ s'.os=s₁.os /\ AllBare s'.gens) s₁): WalkO q wq XP YP l.row.toRowW d [] (λf vs=>PySem.call f vs):=by intro w s₀ s₁ mg mb G Y fa o pm cd jf dV kV ho hd DN hD Zr hg args vals as LN afV hrd Y6 Qm;obtain rfl:dV= .none:=Dflts.none hD Qt;obtain rfl:kV= .none:=Dflts.noKw hD;let⟨a,vs,ns,rfl,rfl,Qh,ID,d4⟩:=EK hn LN Y6;exact enter_call (codeAny_mono (call w s₀ s₁ mg mb fa o pm cd jf a vs ns G Y ho (fd_plain hd) DN Zr Qh ID d4 hg) λr s' hq=> ?_);let⟨rfl,h2,h3,h4⟩:=hq;show#[.inl #[.bool true, .bool true,[],rfl,λ_=>rfl, .bool true,EQ l _,λ_=>#[List.Pairwise.nil,λ_ hm=>(nomatch hm)]],h2,h3,h4]
end Att
namespace L2
open PySem PySem.Spec PyProof.Rows
theorem pJ: ∀ {vs:c_ dC} {ns:c_ Int},IntsAre vs ns ->cj (ns.map V.int) vs
 | _,_, .nil=> .nil
 | _,_, .cons n t h=> .cons #[t,rfl] (pJ h)
def QO (H:Hp):Prop:= ∀b,H b=none \/ ∃o xs,H b=some (.kT o (.lst xs))
def HP {P:Y1}{w:ZW}{K:Uc}{mg mb:Str ->gC dC}{CX:AV}{k:Nat}{fa a:iW}{fd:ZZ}{x:Str}{sp:Sp}{s₁:gw}{vs:c_ dC}{ns:c_ Int} (KX:K.In s₁.heap) (oS:s₁.heap.Ns mainGlobals mg) (hb:s₁.heap.Ns builtinsNs mb) (hbb: ∀x:Str,x≠ "__name__" ->mb x=bootBuiltins x) (Zt:s₁.heap.NoLimit) (hg:s₁.gens= #[]) (ha:s₁.heap.get? a=some {cls:= .type "list",data:= .seq vs.toArray}) (hi:IntsAre vs ns) (hl:ns.length<=sizeLine) (hr:eG k callerA) (F: ∀base:ZX,K.In base ->base.Ns mainGlobals mg ->bE P w K mg base CX k fa fd [x] sp) (UM: ∀ (s:gw) (u:dC),BindsTo s fd #[[u],[]] [(x,u)]) (A3: ∀H:Hp,QO H ->iH K H a (ns.map V.int) ->sp [.ref a] H (λv _=>v= .bl true) λ_ _ _=>False) (ZT: ∀H e s',CX [] H s₁ (λ_ _ _=>False) e s' ->False): codeAny (model P w) callerA (.call (.ref fa) #[[.ref a],[]]) (λr s'=>r= .ok (.ret (.bool true)) /\ OldK s₁.heap s'.heap /\ s'.os=s₁.os /\ AllBare s'.gens) s₁:=by
 have rv:=pJ hi;have YM:=hi.length;have core : ∀H:Hp,QO H ->iH K H a (ns.map V.int) ->mH P w H s₁.heap ->(∀b,H b≠none ->b=a) ->(H a≠none ->K.lookup a=none) ->codeAny (model P w) callerA (.call (.ref fa) #[[.ref a],[]]) (λr s'=>r= .ok (.ret (.bool true)) /\ OldK s₁.heap s'.heap /\ s'.os=s₁.os /\ AllBare s'.gens) s₁:=by
  intro H hO hS c6 hA hK;have Eu: ∀ {b:iW} {o:Obj},s₁.heap.get? b=some o ->H b=none ->(ye s₁.heap H).get? b=some o:=λe n=>IF e n;have NJ: ∀ {b:iW} {o:Obj} {es:Ub DictEntry} {ep:Nat},s₁.heap.get? b=some o ->o.data= .dict es ep ->H b=none:=λ{b o es ep} e d=>by
   cases q:H b with
   | none=>rfl
   | some u=>have e':b=a:=hA b (by rw[q];simp);subst e';rw[ha] at e;cases e;have d':Data.seq vs.toArray _=Data.dict es ep:=d;cases d'
  have Wo: ∀ {b:iW} {m:Str ->gC dC},s₁.heap.Ns b m ->(ye s₁.heap H).Ns b m:=λ{b m} ⟨o,es,ep,e,d,r⟩=>#[o,es,ep,Eu e (NJ e d),d,r]
  have hKb:K.In (ye s₁.heap H):=λb o e=>Eu (KX b o e) (by
   cases q:H b with
   | none=>rfl
   | some u=>have e':b=a:=hA b (by rw[q];simp);subst e';rw[hK (by rw[q];simp)] at e;cases e)
  have hM:Mod K mg (ye s₁.heap H):=#[hKb,Wo oS,#[mb,Wo hb,hbb],let ⟨mc,h1,h2⟩:=Zt;#[mc,Wo h1,h2]]
  have e0:Cp P w K mg (ye s₁.heap H) callerA [] s₁ H:=#[rfl,hM,λb o e=>Ln e,Nat.le_of_eq (Fl _ _),trivial,λb hb=>absurd (show b∈([]:c_ iW) from hb) (by simp),c6, .of_eq hg]
  exact codeAny_mono ((F _ hKb (Wo oS)).run callerA [] s₁ H #[[.ref a],[]] [.ref a] [.ref a] _ _ hr e0 (UM s₁ (.ref a)) (.cons rfl .nil) (A3 H hO hS)) λr s' h=> ?_;cases r with
  | error e=>show(ZT H e s' h).elim
  | ok fl =>
   cases fl with
   | next=>show False.elim h
   | brk=>show False.elim h
   | cont=>show False.elim h
   | ret u=>
    let⟨v,H',os,bare,un,Zm,r',q⟩:=h;have q':v= .bl true:=q;subst q';obtain rfl:u=Value.bool true:=r';exact#[rfl,OldK.of_keep λb o e=> ?_,os,bare];cases q:H b with
    | none=>show un.keep b o e q (by intro z;show absurd (show b∈([]:c_ iW) from z) (by simp)) (by simp)
    | some u=>obtain z | ⟨ob,xs,z⟩:=hO b;rw[q] at z;cases z;have z2:=un.mL b ob _ z;let⟨e1,_⟩:=c6 b _ z;let⟨e2,_⟩:=Zm b _ z2;rw[e] at e1;cases e1;show e2
 cases hk:K.lookup a with
 | some o=>have e:=KX a o hk;rw[ha] at e;cases e;exact core (λ_=>none) (λ_=> .inl rfl) (.inr #[_,vs.toArray,_,hk,rfl,rfl,rfl,by rw[aM,YM];show hl, ⇑rv]) (λb u z=>by have z':(none:gC HO)=some u:=z;cases z') (λb z=>absurd rfl z) λz=>absurd rfl z
 | none=>exact core (λb=>if b=a then some (.kT {cls:= .type "list",data:= .seq vs.toArray} (.lst (ns.map V.int))) else none) (λb=> ?_) (.inl (.inr #[{cls:= .type "list",data:= .seq vs.toArray},am rfl])) (λb u z=> ?_) (λb z=> ?_) λ_=>hk;by_cases hb:b=a;show .inr #[_,_,am hb];show .inl (ak hb);by_cases hb:b=a;have z':=(am hb).symm.trans z;cases z';subst hb;show#[ha,by rw[af];show hl,vs,_,rv,ha];have z':=(ak hb).symm.trans z;cases z';by_cases hb:b=a;show hb;show absurd (ak hb) z
def Kx {l:W.OpenLaw}{n k:Nat}{q:Y1}{wq:c_ Str}{XP:(Str ->gC dC) ->ZX ->Prop}{YP:ZW ->ZX ->Prop}{d:DefRec}{K:Params ->Uc}{CX:ZW ->AV}{sp:ZW ->Sp}{x:Str} (hn:l.most=some n) (vo:n<=sizeLine) (Qt:d.params.defaults= []) (hr:eG k callerA) (hY: ∀ (w:ZW) (h:ZX),YP w h ->(K w.params).In h) (F : ∀ (w:ZW) (mg:Str ->gC dC) (fa:iW) (h:ZX),(K w.params).In h ->h.Ns mainGlobals mg ->mg d.name=some (.ref fa) ->∃ fd:ZZ,(∀ (s:gw) (u:dC),BindsTo s fd #[[u],[]] [(x,u)]) /\∀base:ZX,(K w.params).In base ->base.Ns mainGlobals mg ->bE l.prog w (K w.params) mg base (CX w) k fa fd [x] (sp w)) (A3: ∀ (w:ZW) (H:Hp) (a:iW) (ns:c_ Int),ns.length<=n ->QO H ->iH (K w.params) H a (ns.map V.int) ->sp w [.ref a] H (λv _=>v= .bl true) λ_ _ _=>False) (ZT: ∀ (w:ZW) (H:Hp) (s:gw) (e:dC) (s':gw),CX w [] H s (λ_ _ _=>False) e s' ->False): W.WalkO q wq XP YP l.row.toRowW d [] (λf vs=>PySem.call f vs):=by exact Att.Az hn Qt λw s₀ s₁ mg mb fa o pm cd jf a vs ns G Y ho hd DN Zr Qh ID d4 hg=> ?_;have KX:=hY w _ Y;let⟨fd,hb,hF⟩:=F w mg fa _ KX G.T.g Zr;show HP KX G.T.g G.T.b G.T.builtins G.T.nolimit hg Qh ID (ar d4 vo) hr hF hb (λH hO hS=>A3 w H a ns d4 hO hS) λH e s'=>ZT w H s₁ e s'
nonrec def e8 (s:Stmt):Arguments:=match s with
 | .FunctionDef _ a _ _ _ _ _ _ _ _=>a
 | _=> {posonlyargs:= [],args:= [],vararg:=none,kwonlyargs:= [],kw_defaults:= [],kwarg:=none,defaults:= []}
nonrec def dM (s:Stmt):c_ Stmt:=match s with
 | .FunctionDef _ _ b _ _ _ _ _ _ _=>b
 | _=> []
nonrec def aV (s:Stmt):Scope:=match s with
 | .FunctionDef _ _ _ _ _ _ sc _ _ _=>sc
 | _=> {kind:= .function,names:= [],isGenerator:=false,isCoroutine:=false}
abbrev e9:AV:=λ_ _ _ _ _ _=>False
abbrev E0:XK:=λ_ _ _=>False
theorem Df {X:Cx}:gT e9 X E0:=λ_ _ _ _ _ _ _ h=>h.elim
structure AI (K:PySem.W.Frag)(x qual:Str)(st:Stmt)(f:Addr)(fd:FuncData):Prop where
 ex:XE8 λ(oc:Value) (od:Option Addr) (kV jf pm:Value) (an:Option Addr) (cdv ct:Value)=> ∃ (Bv:Array (Option Value)),cS (fd=PySem.W.fnOf x qual (e8 st) (dM st) (aV st) .none kV jf pm an cdv ct) (K.lookup f=some #[oc,od, .func fd,Bv]) (PySem.W.codeIn K cdv qual=true)
 kp:PySem.W.keepIn K (.ref f)=true
section
variable {P:Y1}{w:ZW}{K:Uc}{mg:Str ->gC dC}{base:ZX}
def AI.ok {x qual:Str}{st:Stmt}{f:iW}{fd:ZZ}{N ps:c_ Str}{k:Nat}{sp:Sp}(F:AI K x qual st f fd)(S:cH N ps (aV st))(len: ∀vs H Q E,sp vs H Q E ->vs.length=ps.length) (jC: ∀ (cdv:dC) (A:Z0) (outer:c_ Env) (s:gw) (H:Hp) (vs:c_ V) (Q:VK) (E:XK),eG k (A.deeper (envOfC qual (aV st) s.heap.objs.size f cdv)) ->sp vs H Q E ->∃t,yI (eL e9 P w K mg base N qual (aV st) f cdv A outer s H E).J7 (dM st) t /\ t {nx:=λ_ H'=>Q .d0 H',rt:=Q} (start N vs) H):bE P w K mg base e9 (k+1) f fd ps sp:=by let⟨oc,od,kV,jf,pm,an,cdv,ct,Bv,rfl,lk,DN⟩:=F.ex;exact Ob lk DN S len λA outer s H vs Q E hr A3=> ?_;let⟨t,h,q⟩:=jC cdv A outer s H vs Q E hr A3;show#[t,h.J7,q]
def AI.binds {x qual:Str}{st:Stmt}{f:iW}{fd:ZZ}{ps:c_ Str}(F:AI K x qual st f fd) (h: ∀ (kV jf pm:dC) (an:gC iW) (cdv ct:dC) (us:c_ dC),us.length=ps.length ->bindArgs (W.fnOf x qual (e8 st) (dM st) (aV st) .none kV jf pm an cdv ct) #[us,[]]=pure (ps.zip us)):Binds K fd ps []:=by let⟨oc,od,kV,jf,pm,an,cdv,ct,Bv,rfl,lk,DN⟩:=F.ex;show .all (h kV jf pm an cdv ct)
theorem qq {x qual:Str}{st:Stmt}{f:iW}{oc:dC}{od an:gC iW}{Bv:Ub (gC dC)}{kV jf pm cdv ct:dC}(l:K.lookup f=some #[oc,od, .func (W.fnOf x qual (e8 st) (dM st) (aV st) .none kV jf pm an cdv ct),Bv]) (c:W.codeIn K cdv qual=true) (k:W.keepIn K (.ref f)=true):AI K x qual st f (W.fnOf x qual (e8 st) (dM st) (aV st) .none kV jf pm an cdv ct):=#[#[oc,od,kV,jf,pm,an,cdv,ct,Bv,rfl,l,c],k]
end
theorem dU {A:Z0}{k:Nat}(hr:eG k A):A.units+1<cLine:=Nat.lt_of_le_of_lt (Nat.add_le_add_left (by decide:1<=64) _) hr.units
section
variable {X:Cx}
theorem pv (i:Nat){x:Str}{pos:Pos}(hN:X.N[i]? =some x:=by rfl)(hv:Vk X.env.scope x:=by first | show Or.inl rfl | show Or.inr (Or.inl rfl) | show Or.inr (Or.inr rfl))(hd:(x==("__debug__" :Str))=false:=by decide) (DN:(x==("__classdict__" :Str))=false:=by decide):PE X (.Name x pos) (KL i):=O6 hN hv hd DN
end
def ge (H H':Hp):Prop:= ∀b o,H b=some o ->H' b=some o
section
variable {κ:Type} [DecidableEq κ]
theorem Dk: ∀ {l:c_ κ} {k:κ},l.Nodup ->¬k∈l ->(l++ [k]).Nodup
 | [],k,_,_=>by simp
 | a::r,k,h,hk=>by let⟨h1,h2⟩:=List.nodup_cons.mp h;change(a::(r++ [k])).Nodup;exact List.nodup_cons.mpr #[λm=> ?_,Dk h2 λm=>hk (aP.mpr (Or.inr m))];obtain q | q:=bh.mp m;show h1 q;show hk (aP.mpr (Or.inl (bn.mp q).symm))
end
def cN {α:Type}{x y:Str}{c:α}{l:c_ (Str×α)}:((y,c)::l).lookup x=if x=y then some c else l.lookup x:=by by_cases h:x=y;subst h;simp[List.lookup_cons];rw[ak h,List.lookup_cons];have:(x==y)=false:= ⇑h;rw[this]
theorem jZ {env:Env}: ∀ (names:c_ (Str×NameKind)) (fR:c_ (Str×iW)),(∀y∈names,y.2= .free -> ∃c,env.cells.lookup y.1=some c) ->(∀x c,fR.lookup x=some c ->env.cells.lookup x=some c) ->∃cl,fi ((forIn names fR λx s=>if(x.snd==NameKind.free)=true then(do let c <- cellOf env x.fst;pure (ForInStep.yield ((x.fst,c)::s)):Sem _) else pure (ForInStep.yield s))=(pure cl:Sem (c_ (Str×iW)))) (∀x c,cl.lookup x=some c ->env.cells.lookup x=some c) (∀x,(fR.lookup x).isSome=true ->(cl.lookup x).isSome=true) (∀y∈names,y.2= .free ->(cl.lookup y.1).isSome=true)
 | [],fR,_,h2=>#[fR,rfl,h2,λ_ h=>h,λ_ h=>absurd h (by simp)]
 | (n, k)::r,fR,h1,h2=>by
  by_cases hk:k=NameKind.free;subst hk;let⟨c,hc⟩:=h1 (n, .free) List.mem_cons_self rfl;have N9: ∀x c',((n,c)::fR).lookup x=some c' ->env.cells.lookup x=some c':=λx c' e=>by rw[cN] at e;by_cases hx:x=n;rw[am hx] at e;cases e;rw[hx];show hc;rw[ak hx] at e;show h2 x c' e
  let⟨cl,e1,e2,e3,e4⟩:=jZ r ((n,c)::fR) (λy hy=>h1 y (dj _ hy)) N9;exact#[cl,?_,e2,λx hx=>e3 x ?_,λy hy hf=> ?_];rw[List.forIn_cons];have:cellOf env n=pure c:=by unfold cellOf;rw[hc]
  simp![beq_self_eq_true,cc,this,pure_bind];show e1;rw[cN];by_cases Uj:x=n;rw[am Uj];rfl;rw[ak Uj];show hx;obtain rfl | hy:=aP.mp hy;exact e3 n ?_;rw[cN,am rfl];rfl;show e4 y hy hf;let⟨cl,e1,e2,e3,e4⟩:=jZ r fR (λy hy=>h1 y (dj _ hy)) h2;exact#[cl,?_,e2,e3,λy hy hf=> ?_];rw[List.forIn_cons];have:(k==NameKind.free)=false:= ⇑hk;simp![this,aA,bD,pure_bind];show e1;obtain rfl | hy:=aP.mp hy;show absurd hf hk;show e4 y hy hf
def uT {scope:Scope}{env:Env}(h: ∀y∈scope.names,y.2= .free -> ∃c,env.cells.lookup y.1=some c): ∃cl,cS (closureFor scope env=pure cl) (∀x c,cl.lookup x=some c ->env.cells.lookup x=some c) (∀y∈scope.names,y.2= .free ->(cl.lookup y.1).isSome=true):=by let⟨cl,e1,e2,_,e4⟩:=jZ scope.names [] h (λ_ _ e=>by simp at e);exact#[cl,?_,e2,e4];simp![closureFor];rw[e1,pure_bind]
theorem iw {env:Env}: ∀ {names:c_ (Str×NameKind)} {x:Str} {k:NameKind},(names.map λ(n,k)=>if(k==NameKind.free && env.scope.kind== .function && env.kindOf n==some .cell) then(n,NameKind.cell) else(n,k)).lookup x=some k ->names.lookup x=some k \/ (k= .cell /\ names.lookup x=some .free)
 | [],_,_,h=>by simp at h
 | (n, j)::r,x,k,h=>by
  have ih:= @iw env r x k;rw[aH] at h;by_cases hc:(j==NameKind.free && env.scope.kind== .function && env.kindOf n==some .cell)=true;simp![hc,cc] at h;rw[cN] at h;rw[cN];by_cases hx:x=n;rw[am hx] at h ⊢;cases h;have hj:j=NameKind.free:=by rw[cB,cB] at hc;show eq_of_beq hc.1.1
  show .inr #[rfl,by rw[hj]];rw[ak hx] at h ⊢;show ih h;simp![hc,aA,bD] at h;rw[cN] at h;rw[cN];by_cases hx:x=n;rw[am hx] at h ⊢;show .inl h;rw[ak hx] at h ⊢;show ih h
theorem gX {env:Env}: ∀ {names:c_ (Str×NameKind)} {x:Str},names.lookup x=some .free ->(names.map λ(n,k)=>if(k==NameKind.free && env.scope.kind== .function && env.kindOf n==some .cell) then(n,NameKind.cell) else(n,k)).lookup x=some .cell \/(names.map λ(n,k)=>if(k==NameKind.free && env.scope.kind== .function && env.kindOf n==some .cell) then(n,NameKind.cell) else(n,k)).lookup x=some .free
 | [],_,h=>by simp at h
 | (n,j)::r,x,h=>by have ih:= @gX env r x;rw[aH];rw[cN] at h;by_cases hc:(j==NameKind.free && env.scope.kind== .function && env.kindOf n==some .cell)=true;simp![hc,cc];rw[cN];by_cases hx:x=n;rw[am hx];show .inl rfl;rw[ak hx] at h ⊢;show ih h;simp![hc,aA,bD];rw[cN];by_cases hx:x=n;rw[am hx] at h ⊢;cases h;show .inr rfl;rw[ak hx] at h ⊢;show ih h
abbrev bY (X:Cx)(N':c_ Str)(scope:Scope)(cl:c_ (Str×iW))(fp:c_ iW)(s3:gw)(H3:Hp):Cx:={X with N:=N',s₀:=s3,H₀:=H3,env:=compEnvC scope cl s3.heap.objs.size X.env,outer:=X.stack,stack:=X.stack,ex:=fp,fn:=λ_=>false,pn:= [],xe:=λ_ _=>False}
def kP (own:Nat)(fr:c_ Nat)(σ:St):St:=List.replicate own none++fr.map λj=>(σ[j]?).join
structure cW (X:Cx)(own:List Str)(fr:List Nat)(N':List Str)(scope:Scope):Prop where
 kind:scope.kind= .function
 names:N'=own++fr.filterMap (λj=>X.N[j]?)
 len:N'.length=own.length+fr.length
 nd:N'.Nodup
 ue: ∀y∈scope.names,y.2≠ .cell
 loc: ∀y∈scope.names,y.2= .local ->scope.names.lookup y.1=some .local
 Rz: ∀x∈fr.filterMap (λj=>X.N[j]?),scope.names.lookup x=some .free
 free: ∀y∈scope.names,y.2= .free ->X.env.kindOf y.1=some .cell \/ X.env.kindOf y.1=some .free
theorem oT {N:c_ Str}: ∀ {fr:c_ Nat} {k:Nat} {x:Str},(fr.filterMap (λj=>N[j]?)).length=fr.length ->(fr.filterMap (λj=>N[j]?))[k]? =some x -> ∃j,fr[k]? =some j /\ N[j]? =some x
 | [],_,_,_,e=>by simp at e
 | j ::r,k,x,hl,e=>by
  cases hj:N[j]? with
  | none=>rw[List.filterMap_cons,hj] at hl;have:=List.length_filterMap_le (λj=>N[j]?) r;simp![az] at hl;lia
  | some y=>
   rw[List.filterMap_cons,hj] at hl e;simp![az,Nat.add_right_cancel_iff] at hl;cases k with
   | zero=>simp at e;show#[j,by simp,by rw[hj,e]]
   | succ k=>show oT (k:=k) hl ⇑e
section
variable {X:Cx}{ah:c_ (iW×Obj)}{σ:St}{H:Hp}{s s3:gw}
def zS {own N':c_ Str}{fr:c_ Nat}{scope:Scope}{cl:c_ (Str×iW)}{fp:c_ iW}{h':ZX}{t:Nat}(S:cW X own fr N' scope)(I:Inv X ah σ H s) (kO: ∀x c,cl.lookup x=some c ->X.env.cells.lookup x=some c) (vD: ∀y∈scope.names,y.2= .free ->(cl.lookup y.1).isSome=true) (zZ: ∀b∈fp,kR X ah H b) (hft: ∀b∈fp,b<s.heap.objs.size) (oS:h'.Ns s.heap.objs.size (λ_=>none)) (hk: ∀b o,s.heap.get? b=some o ->h'.get? b=some o): Inv (bY X N' scope cl fp s H) [] (kP own.length fr σ) H {s with heap:=h',toks:=t}:=by
 have look: ∀x,(compEnvC scope cl s.heap.objs.size X.env).kindOf x=(relabel scope X.env).names.lookup x:=λ_=>rfl
 have UU:(fr.filterMap (λj=>X.N[j]?)).length=fr.length:=by have:=S.len;rw[S.names,aJ] at this;lia
 exact#[#[I.ok.mod,?_,I.ok.glob,I.ok.blt,aq _,λx y c e1 e2=>I.ok.inj x y c (kO _ _ e1) (kO _ _ e2),λx hx=> ?_,(λx c z _=>nomatch z),I.ok.hd,I.ok.frames, .inl rfl,λb hb=>#[?_,λx c e=>(zZ b hb).2.2.2.2.1 x c (kO x c e)],I.bs,ar I.ok.Jx I.sz,λb o e hb=> ?_,λb hb hz=> ?_,I.stack,I.sN],
  rfl,I.bare,Un.kept hk,#[_,oS,λi x v e1 e2 e3=> ?_],λx c e=> ?_,I.c6.fresh (aq _),λx c e=>I.gF x c (kO x c e),λp hp=>absurd (show p∈([]:c_ (iW×Obj)) from hp) (by simp),I.c6.kept hk,?_]
 change(relabel scope X.env).kind=_
 show S.kind
 have Uj:scope.names.lookup x=some .free:=by obtain hx | hx:=hx;obtain q | ⟨_,q⟩:=iw hx;show absurd rfl (S.ue _ (dE q));show q;obtain q | ⟨q,_⟩:=iw hx;show q;cases q
 show Option.isSome_iff_exists.mp (vD _ (dE Uj) rfl)
 show bA (hft b hb)
 obtain z | z:=(zZ b hb).2.2.2.1
 show I.ok.E5 b o e z
 show absurd (bF (aO e) (ar I.ok.Jx z)) (Nat.lt_irrefl _)
 obtain q | q:=aP.mp (I.xr b hz)
 show(zZ b hb).2.1 q
 show(zZ b hb).2.2.1 q
 -- a YF value
 have e1:(own++fr.filterMap (λj=>X.N[j]?))[i]? =some x:=by rw[<- S.names];show e1
 unfold kP at e2
 by_cases hi:i<own.length
 rw[bi ⇑hi,dk,am hi] at e2
 cases e2
 rw [a9 ⇑hi,List.length_replicate] at e2
 rw[a9 ⇑hi] at e1
 let⟨j,ej,ex⟩:=oT UU e1
 rw[aI,ej] at e2
 have e2:(σ[j]?).join=some v:= ⇑e2
 have e2':σ[j]? =some (some v):=by
  cases q:σ[j]? with
  | none=>rw[q] at e2;cases e2
  | some w=>rw[q] at e2;simp at e2;rw[e2]
 have hf:=S.Rz x (aT e1)
 have hm:=dE hf
 let⟨m,_,hl⟩:=I.loc
 have XY:Vk X.env.scope x:=by obtain q | q:=S.free _ hm rfl;show .inr (.inl q);show .inr (.inr q)
 let⟨u,r,l⟩:=hl j x v ex e2' XY
 exact#[u,r, .inr #[?_,?_]]
 show gX hf
 rcases l with⟨k,_⟩ | ⟨_,c,ec,z⟩
 obtain q | q:=S.free _ hm rfl
 rw[k] at q;cases q
 rw[k] at q;cases q
 let⟨c',ec'⟩:=Option.isSome_iff_exists.mp (vD _ hm rfl)
 have:=kO _ _ ec'
 rw[ec] at this
 cases this
 show#[c,ec',z.keeps hk]
 let⟨v,z⟩:=I.cell x c (kO x c e)
 show#[v,z.keeps hk]
 change(kP own.length fr σ).length=N'.length
 unfold kP
 rw[aJ,List.length_replicate,af,S.len]
end
def Om (X:Cx)(cs:c_ Expr)(t:TT):Prop:=∀ (ah:c_ (iW×Obj)) (s:gw) (σ:St) (H:Hp) (Q:Bool ->Hp ->Prop),Inv X ah σ H s ->t σ H Q ->wpAny (model X.prog X.w) X.A (forIn cs true λc r=>if r=true then do let ok <- isTrue c X.env (eval c X.env);pure (ForInStep.yield ok) else pure (ForInStep.yield r)) (TP X ah σ Q) X.xe s
def Sr:TT:=λ_ H Q=>Q true H
theorem dz {X:Cx}:Om X [] Sr:=λah s σ H Q I h=>wpAny_tests_nil #[H,I,h]
theorem sQ {X:Cx}{c:Expr}{t:TT}(h:PT X c t):Om X [c] t:=λah s σ H Q I q=>wpAny_tests_one (h ah s σ H Q I q)
section
variable {prog:Y1}{w:ZW}{A:Z0}{R:Result ->gw ->Prop}{s:gw}
theorem FA {iP pM iter:Expr}{iO:c_ Expr}{scope:Scope}{pos:Pos}{it fR:dC}{env:Env}(I:Nat ->gw ->Prop) (turn : ∀n s,I n s ->wpAny (model prog w) A (pyNext it) (λr s₁=>match r with
   | none=>R (.ok .next) s₁
   | some v=>wpAny (model prog w) A (letOwnedTupleGo pM it v) (λ_ s₀=>wpAny (model prog w) A (assign pM env v) (λ_ s₂=>
    wpAny (model prog w) A (forIn iO true λc r=>if r=true then do let ok <- isTrue c env (eval c env);pure (ForInStep.yield ok) else pure (ForInStep.yield r)) (λok s₃=>if ok=true then wpAny (model prog w) A (eval iP env) (λx s₄=>wpAny (model prog w) A (call (.builtin "list.append") [fR,x]) (λ_ s₅=> ∃m,m<n /\ I m s₅) (λ_ _=>False) s₄) (λ_ _=>False) s₃ else ∃m,m<n /\ I m s₃) (λ_ _=>False) s₂)
    (λ_ _=>False) s₀) (λ_ _=>False) s₁) (λ_ _=>False) s)
  (n:Nat) (h:I n s):codeAny (model prog w) A (.compLoop (.ListComp iP [#[pM,iter,iO,0]] scope pos) 0 it fR env) R s:=by
 exact codeAny_loop rfl I (λn s hI=> ?_) n h
 change wpAny _ A ((compTurn (.ListComp iP [#[pM,iter,iO,0]] scope pos) 0 it fR env).onRaise (λx=>do noteFrame x env;theTreesLotGoes x)) _ _ s
 exact wpAny_noted ?_
 rw[compTurn_list]
 exact ax (wpAny_standAt (ax (bG (turn n s hI) (λr s₁ h₁=> ?_) λ_ _ h'=>h'.elim)))
 cases r with
 | none=>show a7 h₁
 | some v=>
  exact ax (bG h₁ (λ_ s₀ Uh=> ?_) λ_ _ h'=>h'.elim);exact ax (bG Uh (λ_ s₂ h₂=> ?_) λ_ _ h'=>h'.elim);exact ax (bG h₂ (λTx s₃ h₃=> ?_) λ_ _ h'=>h'.elim);cases Tx with
  | false=>show a7 #[rfl,h₃]
  | true=>show ax (ax (bG h₃ (λx s₄ h₄=>ax (bG h₄ (λ_ s₅ h₅=>a7 (a7 #[rfl,h₅])) λ_ _ h'=>h'.elim)) λ_ _ h'=>h'.elim))
end
def Wk (σ0 σ2:St):Prop:=σ2.length=σ0.length /\ ∀ (i:Nat) v,σ0[i]? =some (some v) ->σ2[i]? =some (some v)
def MG (own:Nat)(g:TG):Prop:= ∀ (c:St) (v:V) (H:Hp) (Q:St ->Hp ->Prop),g v (List.replicate own none++c) H Q ->g v (List.replicate own none++c) H λσ2 H2=>Wk (List.replicate own none++c) σ2 /\ Q σ2 H2
def d7:MG 1 (lF 0):=by
 intro c v H Q h;exact#[#[by simp,λi u e=> ?_],h];cases i with
 | zero=>simp at e
 | succ i=>simpa using e
def f6 {K:Uc}:MG 2 (LX K 2 (wE (lF 0) (wE (lF 1) LY))):=by
 rintro c v H Q ⟨a,xs,e,hs,hl,x,r,rfl,y,r',rfl,rfl,h⟩;exact#[a,_,e,hs,hl,x,_,rfl,y,_,rfl,rfl,#[by simp,λi u e=> ?_],h];match i with
 | 0=>simp at e
 | 1=>simp at e
 | i+2=>simpa using e
def Oi (J:It)(own:Nat)(fr:c_ Nat)(g:TG)(tc:TT)(te:TE)(σ:St)(p:iW)(H1:Hp)(Q:VK):Prop:=∃ W :Nat ->Nat ->c_ V ->Hp ->Prop,(∃m,W 0 m [] (cM H1 p (.lst []))) /\ ∀i m ys H',W i m ys H' ->H' p=some (.lst ys) /\((J.stop i H' /\ Q (.ref p) H') \/ (J.go i H' /\ ys.length<sizeLine /\ ∀x H2,J.QX i H' x H2 ->g x (kP own fr σ) H2 λσ2 H3=>tc σ2 H3 λb H4=>if b=true then te σ2 H4 λy H5=> ∃zs,H5 p=some (.lst zs) /\ zs.length<sizeLine /\ ∃m',m'<m /\ W (i+1) m' (zs++ [y]) (cM H5 p (.lst (zs++ [y]))) else ∃zs m',m'<m /\ W (i+1) m' zs H4))
def Nk (wi:TI)(own:Nat)(fr:c_ Nat)(g:TG)(tc:TT)(te:TE):TE:=λσ H Q=>wi σ H λJ H1=> ∀p,H1 p=none ->Oi J own fr g tc te σ p H1 Q
section
variable {X:Cx}{ah:c_ (iW×Obj)}{σ:St}{H:Hp}{s s3:gw}
theorem wX {N':c_ Str}{scope:Scope}{cl:c_ (Str×iW)}{fp:c_ iW}{C_:c_ (iW×Obj)}{σ':St}{H':Hp}{s':gw}(I3:Inv X ah σ H s3)(zZ: ∀b∈fp,kR X ah H b) (Ic:Inv (bY X N' scope cl fp s3 H) C_ σ' H' s'):Inv X ah σ H' s':=I3.Jw (ch:=fp) Ic.os Ic.base Ic.c6 Ic.bare λb hb=>#[(zZ b hb).2.2.2.1,(zZ b hb).2.1,(zZ b hb).2.2.2.2.1,(zZ b hb).2.2.2.2.2]
def wW {C:iW}{σ':St}{H':Hp}{s':gw}{h':ZX}(I3:Inv X ah σ H s3)(hC:C=s3.heap.objs.size)(J:Inv X ah σ' H' s')(hn:H' C=none)(hs:Heap.SameBut C s'.heap h'):Inv X ah σ' H' {s' with heap:=h'}:=by subst hC;exact J.turned (t':=s'.toks) (it:=s3.heap.objs.size) (λb o hb e=>hs.extBut b o hb e) hn (Nat.ne_of_gt I3.lt) (.inr I3.sz) (λx c e z=> ?_) λp hp z=> ?_;let⟨v,q⟩:=I3.cell x c e;show absurd q.lt (by rw[z];show Nat.lt_irrefl _);show absurd (aO (I3.pin p hp).1) (by rw[z];show Nat.lt_irrefl _)
def B6 {tg iter iP:Expr}{iO:c_ Expr}{pos:Pos}{own N':c_ Str}{fr:c_ Nat}{scope:Scope}{cl:c_ (Str×iW)}{fp:c_ iW}{it:iW}{tn:Nat ->ZX ->Prop}{J:It}{g:TG}{tc:TT}{te:TE}{Q:VK} {E:dC ->gw ->Prop} {RR:dC ->iW ->Result ->gw ->Prop} (lE:X.calm=true) (S:cW X own fr N' scope) (hg: ∀s3 H3,PG (bY X N' scope cl fp s3 H3) tg g) (hw:MG own.length g) (hc: ∀s3 H3,Om (bY X N' scope cl fp s3 H3) iO tc) (he: ∀s3 H3,PE (bY X N' scope cl fp s3 H3) iP te) (kO: ∀x c,cl.lookup x=some c ->X.env.cells.lookup x=some c) (vD: ∀y∈scope.names,y.2= .free ->(cl.lookup y.1).isSome=true) (I:Inv X ah σ H s) (T:yu X.prog X.w X.K tg J fp it tn) (st:tn 0 s.heap) (zZ: ∀b∈fp,kR X ah H b) (h: ∀p,H p=none ->Oi J own.length fr g tc te σ p H Q) (fin: ∀ (s3:gw) (H3:Hp),Inv X ah σ H3 s3 ->(∀b∈fp,kR X ah H3 b) -> ∀ (D:iW) (σ':St) (H':Hp) (s':gw) (t:Nat),D<s3.heap.objs.size ->Inv (bY X N' scope cl fp s3 H3) [] σ' H' s' ->Q (.ref D) H' ->RR (.ref D) s3.heap.objs.size (.ok .next) s'): wpAny (model X.prog X.w) X.A (newList []) (λfR s₃=>wpAny (model X.prog X.w) X.A (newFunctionEnv scope X.env.globals cl [] X.env.qual none .none (some X.env)) (λJs s₄=>codeAny (model X.prog X.w) X.A (.compStart (.ListComp iP [#[tg,iter,iO,0]] scope pos) 0 (.ref it) fR {Js with scope:=relabel scope X.env}) (RR fR Js.locals) s₄) E s₃) E s:=by
 exact wpAny_newObj_type ?_;have hf:H s.heap.objs.size=none:=I.c6.fresh (aq _);let⟨W,⟨m0,w0⟩,turn⟩:=h _ hf;generalize e3:({s with heap:=s.heap.push {cls:= .type "list",dict:=none,data:= .seq ([]:c_ dC).toArray}}:gw)=s3;have OQ:s3.heap.objs.size=s.heap.objs.size+1:=by rw[<- e3];show Heap.size_push ..
 have X2: ∀b o,s.heap.get? b=some o ->s3.heap.get? b=some o:=λb o e=>by rw[<- e3];show av _ e
 have I3:Inv X ah σ (cM H s.heap.objs.size (.lst [])) s3:=by rw[<- e3];show I.laid (t':=s.toks) (λb u e=>av _ e) (aq _) #[dh _,[],0, .nil,aY _ rfl]
 have Qy: ∀b∈fp,b<s.heap.objs.size:=λb hb=>by let⟨o,e,_⟩:=T.obj 0 _ st b hb;show aO e
 have BR: ∀b∈fp,kR X ah (cM H s.heap.objs.size (.lst [])) b:=λb hb=>#[by rw[bR (bA (Qy b hb))];show(zZ b hb).1,(zZ b hb).2]
 exact wpAny_newFunctionEnv S.ue (by intro y hy;simp at hy) (λh₁ Qj Qf=> ?_) S.kind;have old: ∀b o,s3.heap.get? b=some o ->h₁.get? b=some o:=λb o e=>Qf.extBut b o (bA (aO e)) (av _ e);have Ic:=zS (t:=s3.toks+([]:c_ (Str×dC)).length) S I3 kO vD BR (λb hb=>by rw[OQ];show Nat.lt_succ_of_lt (Qy b hb)) Qj old;have EH:tn 0 h₁:=T.keep 0 _ _ st λb hb o e=>old b o (X2 b o e);have tK: ∀ {H':Hp},(∀b∈fp,H' b=none) -> ∀b∈fp,kR (bY X N' scope cl fp s3 (cM H s.heap.objs.size (.lst []))) [] H' b:=λhn b hb=>by exact#[hn b hb,?_,?_, .inl hb,λx c e=>(zZ b hb).2.2.2.2.1 x c (kO x c e),λp hp=>absurd (show p∈([]:c_ (iW×Obj)) from hp) (by simp)];change b≠s3.heap.objs.size;rw[OQ];show bA (Nat.lt_succ_of_lt (Qy b hb));show Ic.ok.BX b hb
 have loop:codeAny (model X.prog X.w) X.A (.compLoop (.ListComp iP [#[tg,iter,iO,0]] scope pos) 0 (.ref it) (.ref s.heap.objs.size) (compEnvC scope cl s3.heap.objs.size X.env)) (RR (.ref s.heap.objs.size) s3.heap.objs.size) {s3 with heap:=h₁,toks:=s3.toks+([]:c_ (Str×dC)).length}:=by
  exact FA (λn s'=>eE λi ys H'=>fi (Inv (bY X N' scope cl fp s3 (cM H s.heap.objs.size (.lst []))) [] (kP own.length fr σ) H' s') (tn i s'.heap) (∀b∈fp,H' b=none) (W i n ys H')) ?_ m0 #[0,[],_,Ic,EH,λb hb=>(BR b hb).1,w0];rintro n s4 ⟨i,ys,H4,I4,fP,UV,w4⟩;let⟨BS,alt⟩:=turn i n ys H4 w4;rcases alt with⟨stop,q⟩ | ⟨go,hsz,step⟩
  .exact cX (T.done (bY X N' scope cl fp s3 (cM H s.heap.objs.size (.lst []))) rfl rfl rfl lE i [] s4 _ H4 (λ_ _=>False) I4 (tK UV) fP stop) λr s5 ⟨hr,I5⟩=> ?_;subst hr;show fin s3 _ I3 BR _ _ H4 s5 s5.toks (by rw[OQ];show Nat.lt_succ_self _) I5 q
  exact cX (T.item (bY X N' scope cl fp s3 (cM H s.heap.objs.size (.lst []))) rfl rfl rfl lE i [] s4 _ H4 (λ_ _=>False) I4 (tK UV) fP go) λr s5 ⟨u,hr,h5⟩=> ?_;subst hr;exact cX h5 λ_ s6 ⟨x,H6,I6,r6,y6,OT,fr6⟩=> ?_;have I6':=I6.pinned (tK fr6) (T.obj _ _ OT);have V':=hw _ x H6 _ (step x H6 y6);exact cX (hg s3 _ _ s6 _ H6 x u _ I6' r6 V') λ_ s7 ⟨σ7,H7,I7,wk,q7⟩=> ?_;have again: ∀ {H9:Hp} {s9:gw} {Oq:c_ V},Inv (bY X N' scope cl fp s3 (cM H s.heap.objs.size (.lst []))) ([]++iz fp s6.heap) σ7 H9 s9 ->(∃m',m'<n /\ W (i+1) m' Oq H9) ->∃m,m<n /\ eE λi ys H'=>fi (Inv (bY X N' scope cl fp s3 (cM H s.heap.objs.size (.lst []))) [] (kP own.length fr σ) H' s9) (tn i s9.heap) (∀b∈fp,H' b=none) (W i m ys H'):=λ{H9 s9 Oq} I9 ⟨m',hm,w9⟩=>by exact#[m',hm,i+1,Oq,H9,(I9.jk).weak ?_ wk.2,T.keep _ _ _ OT λb hb o e=>(I9.pin (b,o) (aW _ (aW _ (fe hb e)))).1,λb hb=> ?_,w9];show wk.1.symm;let⟨o,e,d⟩:=T.obj _ _ OT b hb;show(I9.pin (b,o) (aW _ (aW _ (fe hb e)))).2.1
  exact cX (hc s3 _ _ s7 σ7 H7 _ I7 q7) λok s8 ⟨H8,I8,q8⟩=> ?_;cases ok with
  | false=>simp![aA,bD] at q8 ⊢;let⟨zs,q8⟩:=q8;show again I8 q8
  | true=>simp![cc] at q8 ⊢;exact cX (he s3 _ _ s8 σ7 H8 _ I8 q8) λy s9 ⟨yv,H9,I9,ry,zs,hp9,hz9,q9⟩=> ?_;exact cX (dW _ s9 σ7 H9 (.ref s.heap.objs.size) [yv] (.ref s.heap.objs.size) [y] (λv H'=>H'=cM H9 s.heap.objs.size (.lst (zs++ [yv]))) I9 rfl (.cons ry .nil) #[_,zs,yv,rfl,rfl,hp9,hz9,rfl]) λv KU ⟨_,RD,I10,_,e10⟩=> ?_;subst e10;show again I10 q9
 show codeAny_compStart_list loop (T.self _ 0 _ _ _ EH loop)
end
section
variable {X:Cx}
theorem Cx.Ok.cellsOf {own N':c_ Str}{fr:c_ Nat}{scope:Scope}(ok:X.Ok)(S:cW X own fr N' scope): ∀y∈scope.names,y.2= .free -> ∃c,X.env.cells.lookup y.1=some c:=λy hy hf=>ok.has y.1 (S.free y hy hf)
def dB {tg iter iP:Expr}{iO:c_ Expr}{pos:Pos}{own N':c_ Str}{fr:c_ Nat}{scope:Scope}{wi:TI}{g:TG}{tc:TT}{te:TE}(lE:X.calm=true)(S:cW X own fr N' scope)(hi:PI X tg iter wi) (hg: ∀cl fp s3 H3,PG (bY X N' scope cl fp s3 H3) tg g) (hw:MG own.length g) (hc: ∀cl fp s3 H3,Om (bY X N' scope cl fp s3 H3) iO tc) (he: ∀cl fp s3 H3,PE (bY X N' scope cl fp s3 H3) iP te) (hs: ∀x,foldedSetIterable iter X.env x=pure x:=by intro _;rfl):PE X (.ListComp iP [#[tg,iter,iO,0]] scope pos) (Nk wi own.length fr g tc te):=by intro ah s σ H Q I h;let⟨cl,IJ,kO,vD⟩:=uT (I.ok.cellsOf S);rw[eval_ListComp];exact wpAny_comprehension_free (use:=none) rfl hs IJ S.kind S.loc (cX (hi ah s σ H _ I h) λv s1 h1=>cX h1 λUa s2 h2=> ?_);let⟨it,fp,tn,J,H2,e,I2,T,n9,f2,h2⟩:=h2;subst e;exact B6 (RR:=λfR C=>compPost (model X.prog X.w) X.A X.xe none (EP X ah σ Q) fR C) lE S (hg cl fp) hw (hc cl fp) (he cl fp) kO vD I2 T n9 f2 h2 ?_;intro s3 H3 I3 f3 D σ' H' s' t hD Ic q;let⟨m,hn,_⟩:=Ic.loc;exact#[m,hn,λh' Us=>#[.ref D,H',?_,rfl,q]];show wW I3 rfl (wX I3 f3 Ic) Ic.free Us
end
set_option genInjectivity true in
inductive Dt where
 | d0 | bl (b:Bool) | int (i:Int) | str (x:Str) | tup (l:List Dt) | lst (l:List Dt)
mutual
def Rep (K:Uc)(H:Hp):Dt ->V ->Prop
 | .d0,v=>v= .d0
 | .bl b,v=>v= .bl b
 | .int i,v=>v= .int i
 | .str x,v=>v= .str x
 | .tup l,v=>cE λa vs=>cS (v= .ref a) (kW K H a vs) (gf K H l vs)
 | .lst l,v=>cE λa vs=>cS (v= .ref a) (iH K H a vs) (gf K H l vs)
def gf (K:Uc)(H:Hp):c_ Dt ->c_ V ->Prop
 | [],vs=>vs= []
 | d::r,vs=>cE λv t=>cS (vs=v::t) (Rep K H d v) (gf K H r t)
end
mutual
def vF:Dt ->Dt ->Bool
 | .d0, .d0=>true
 | .bl a, .bl b=>a==b
 | .bl a, .int b=>(if a then 1 else 0)==b
 | .int a, .bl b=>a==(if b then 1 else 0)
 | .int a, .int b=>a==b
 | .str a, .str b=>a==b
 | .tup a, .tup b=>yj a b
 | .lst a, .lst b=>yj a b
 | _,_=>false
def yj:c_ Dt ->c_ Dt ->Bool
 | [],[]=>true
 | x::xs,y::ys=>vF x y && yj xs ys
 | _,_=>false
end
mutual
def sC:Dt ->Nat
 | .tup l=>jY l+1
 | .lst l=>jY l+1
 | _=>0
def jY:c_ Dt ->Nat
 | []=>0
 | d::r=>max (sC d) (jY r)
end
theorem gf.length {K:Uc}{H:Hp}: ∀ {l:c_ Dt} {vs:c_ V},gf K H l vs ->l.length=vs.length
 | [],_,h=>by simp![gf] at h;subst h;rfl
 | d::r,vs,h=>by simp![gf] at h;let⟨v,t,rfl,_,h⟩:=h;simp[gf.length h]
theorem gf.at {K:Uc}{H:Hp}: ∀ {l:c_ Dt} {vs:c_ V} {j:Nat} {d:Dt},gf K H l vs ->l[j]? =some d -> ∃v,vs[j]? =some v /\ Rep K H d v
 | [],_,_,_,_,e=>by simp at e
 | d::r,vs,j,d',h,e=>by
  simp![gf] at h;let⟨v,t,rfl,h1,h⟩:=h;cases j with
  | zero=>simp at e;subst e;show#[v,rfl,h1]
  | succ j=>simpa using gf.at (j:=j) h ⇑e
theorem o9: ∀ {l:c_ Dt} {d:Dt},d∈l ->sC d<=jY l
 | [],_,h=>by simp at h
 | x::r,d,h=>by simp![jY];obtain rfl | h:=aP.mp h;show Nat.le_max_left _ _;show ar (o9 h) (Nat.le_max_right _ _)
theorem jX: ∀ (a b:c_ Dt),yj a b=((List.range (min a.length b.length)).all (λj=>vF (a.getD j .d0) (b.getD j .d0)) && a.length==b.length)
 | [],[]=>rfl
 | [],y::ys=>by simp[yj]
 | x::xs,[]=>by simp[yj]
 | x::xs,y::ys=>by
  have e:min (x::xs).length (y::ys).length=min xs.length ys.length+1:=by simp![az];lia
  rw[yj,jX xs ys,e,List.range_succ_eq_map,List.all_cons,List.all_map];have e2:((x::xs).length==(y::ys).length)=(xs.length==ys.length):=by simp
  rw[e2,Bool.and_assoc];rfl
mutual
theorem lR: ∀d:Dt,vF d d=true
 | .d0=>rfl
 | .bl b=>by simp[vF]
 | .int i=>by simp[vF]
 | .str x=>by simp[vF]
 | .tup l=>by simp![vF];show qt l
 | .lst l=>by simp![vF];show qt l
theorem qt: ∀l:c_ Dt,yj l l=true
 | []=>rfl
 | x::xs=>by simp![yj,lR x,qt xs,Bool.and_self]
end
def Un.sqT {K:Uc}{H H':Hp}(h: ∀b xs,Rd H b (.tup xs) ->Rd H' b (.tup xs)){a:iW}{xs:c_ V}(q:kW K H a xs):kW K H' a xs:=by obtain q | q:=q;show .inl (h _ _ q);show .inr q
section
variable {X:Cx}{ah:c_ (iW×Obj)}{σ:St}{H:Hp}{s:gw}
mutual
theorem Rep.inj (I:Inv X ah σ H s): ∀ (d e:Dt) (v:V),Rep X.K H d v ->Rep X.K H e v ->d=e
 | .d0,e,v,h1,h2=>by simp![Rep] at h1;subst h1;cases e<;>simp![Rep] at h2<;>first | rfl | (cases h2;done) | (let⟨_,_,q,_⟩:=h2;cases q)
 | .bl b,e,v,h1,h2=>by simp![Rep] at h1;subst h1;cases e<;>simp![Rep] at h2<;>first | (cases h2;rfl) | (cases h2;done) | (let⟨_,_,q,_⟩:=h2;cases q)
 | .int b,e,v,h1,h2=>by simp![Rep] at h1;subst h1;cases e<;>simp![Rep] at h2<;>first | (cases h2;rfl) | (cases h2;done) | (let⟨_,_,q,_⟩:=h2;cases q)
 | .str b,e,v,h1,h2=>by simp![Rep] at h1;subst h1;cases e<;>simp![Rep] at h2<;>first | (cases h2;rfl) | (cases h2;done) | (let⟨_,_,q,_⟩:=h2;cases q)
 | .tup l,e,v,h1,h2=>by
  simp![Rep] at h1;let⟨a,vs,rfl,hs,hr⟩:=h1;cases e<;>simp![Rep] at h2<;>first | (cases h2;done) | skip
  let⟨a',OE,q,gE,iA⟩:=h2;cases q;have:=I.vT hs gE;subst this;rw[gf.inj I l _ vs hr iA];let⟨a',OE,q,gE,iA⟩:=h2;cases q;let⟨bQ,_,ht,_⟩:=I.tuple hs;let⟨its',_,hl,_⟩:=I.list gE;show absurd rfl (SeqAt.ne_of_list_tuple (s:=s) hl.isList ht)
 | .lst l,e,v,h1,h2=>by
  simp![Rep] at h1;let⟨a,vs,rfl,hs,hr⟩:=h1;cases e<;>simp![Rep] at h2<;>first | (cases h2;done) | skip
  let⟨a',OE,q,gE,iA⟩:=h2;cases q;let⟨bQ,_,ht,_⟩:=I.tuple gE;let⟨its',_,hl,_⟩:=I.list hs;show absurd rfl (SeqAt.ne_of_list_tuple (s:=s) hl.isList ht);let⟨a',OE,q,gE,iA⟩:=h2;cases q;have:=I.list_inj hs gE;subst this;rw[gf.inj I l _ vs hr iA]
theorem gf.inj (I:Inv X ah σ H s): ∀ (l m:c_ Dt) (vs:c_ V),gf X.K H l vs ->gf X.K H m vs ->l=m
 | [],m,vs,h1,h2=>by
  simp![gf] at h1;subst h1;cases m with
  | nil=>rfl
  | cons _ _=>simp![gf] at h2;let⟨_,_,q,_⟩:=h2;cases q
 | d ::r,m,vs,h1,h2=>by
  simp![gf] at h1;let⟨v,t,rfl,h1,h3⟩:=h1;cases m with
  | nil=>simp![gf] at h2;cases h2
  | cons d' r'=>simp![gf] at h2;let⟨v',t',q,h4,h5⟩:=h2;cases q;rw[Rep.inj I d d' v h1 h4,gf.inj I r r' t h3 h5]
end
def gf.items {l:c_ Dt}{vs:c_ V}{bQ:c_ dC}(h:gf X.K H l vs)(r:cj vs bQ){j:Nat}(hj:j<bQ.length):Rep X.K H (l.getD j .d0) (vs.getD j .d0) /\ RelV (vs.getD j .d0) bQ[j] /\ l.getD j .d0∈l:=by
 have e1:=h.length;have e2:=r.length;have hl:j<l.length:= ∅;let⟨v,hv,hr⟩:=h.at (aF hl);let⟨u,hu,ru⟩:=r.get hv;have e3:l.getD j .d0=l[j]:=by simp[List.getD,hl]
 have e4:vs.getD j .d0=v:=by simp[List.getD,hv]
 rw[aF hj] at hu;cases hu;rw[e3,e4];show#[hr,ru,List.getElem_mem hl]
def Rep.vq (I:Inv X ah σ H s){l:c_ Dt}{x:V}{u:dC}(h:Rep X.K H (.tup l) x)(r:RelV x u):cE λa i=>u= .ref a /\ IsTup s.heap a i:=by simp![Rep] at h;let⟨a,vs,rfl,hs,hr⟩:=h;cases r;let⟨bQ,_,ht,_⟩:=I.tuple hs;show#[a,_,rfl,ht]
def Rep.vB (I:Inv X ah σ H s){l:c_ Dt}{x:V}{u:dC}(h:Rep X.K H (.lst l) x)(r:RelV x u):cE λa i=>u= .ref a /\ s.heap.IsList a i:=by simp![Rep] at h;let⟨a,vs,rfl,hs,hr⟩:=h;cases r;let⟨bQ,_,ht,_⟩:=I.list hs;show#[a,_,rfl,ht.isList]
def Jd (I:Inv X ah σ H s)(n:Nat): ∀ (A:Z0) (d e:Dt) (x y:V) (u v:dC),sC d<=n ->A.units+n<cLine ->Rep X.K H d x ->Rep X.K H e y ->RelV x u ->RelV y v ->SeqAt.EqAt A s u v (vF d e):=by
 induction n using Nat.strongRecOn with
 | _ n ih=>
 intro A d e x y u v hn hu h1 h2 r1 r2;cases d<;>cases e;case tup.tup l m=>
  have WY:=h1
  have N9:=h2
  simp![Rep] at h1 h2
  let⟨a,vs,rfl,hs,hr⟩:=h1
  let⟨b,ws,rfl,gE,iA⟩:=h2
  cases r1;cases r2
  by_cases DO:a=b
  subst DO
  rw[Rep.inj I _ _ _ WY N9,lR]
  show SeqAt.EqAt.same _
  let⟨bQ,rv,ht,_⟩:=I.tuple hs
  let⟨its',EM,zU,_⟩:=I.tuple gE
  exact SeqAt.EqAt.of_refs DO ?_
  simp![vF]
  simp![sC] at hn
  match n,hn,hu,ih with
  | n +1,hn,hu,ih=>
   have z:=SeqAt.RcAt.tuples (A:=A) (s:=s) (e:=λj=>vF (l.getD j .d0) (m.getD j .d0)) ht zU ∅ λj g1 g2=>by let⟨q1,q2,q3⟩:=hr.items rv (j:=j) ⇑g1;let⟨q4,q5,q6⟩:=iA.items EM (j:=j) ⇑g2;exact ih n (Nat.lt_succ_self n) A.in1 _ _ _ _ _ _ ?_ ?_ q1 q4 ⇑q2 ⇑q5;have:=o9 q3;lia;change A.units+1+n<cLine;lia
   rw[jX,hr.length,iA.length,rv.length,EM.length];simpa using z
 case lst.lst l m=>
  have WY:=h1
  have N9:=h2
  simp![Rep] at h1 h2
  let⟨a,vs,rfl,hs,hr⟩:=h1
  let⟨b,ws,rfl,gE,iA⟩:=h2
  cases r1;cases r2
  by_cases DO:a=b
  subst DO
  rw[Rep.inj I _ _ _ WY N9,lR]
  show SeqAt.EqAt.same _
  let⟨bQ,rv,ht,_⟩:=I.list hs
  let⟨its',EM,zU,_⟩:=I.list gE
  exact SeqAt.EqAt.of_refs DO ?_
  simp![vF]
  simp![sC] at hn
  by_cases hl:bQ.length=its'.length
  match n,hn,hu,ih with
  | n +1,hn,hu,ih=>
   have z:=SeqAt.RcAt.lists (A:=A) (s:=s) (e:=λj=>vF (l.getD j .d0) (m.getD j .d0)) ht.isList zU.isList ⇑hl ∅ λj g1 g2=>by let⟨q1,q2,q3⟩:=hr.items rv (j:=j) ⇑g1;let⟨q4,q5,q6⟩:=iA.items EM (j:=j) ⇑g2;exact ih n (Nat.lt_succ_self n) A.in1 _ _ _ _ _ _ ?_ ?_ q1 q4 ⇑q2 ⇑q5;have:=o9 q3;lia;change A.units+1+n<cLine;lia
   rw[jX,hr.length,iA.length,rv.length,EM.length,hl];simpa [hl] using z
  have z:=SeqAt.RcAt.lists_lengths (A:=A) (s:=s) ht.isList zU.isList ⇑hl ∅
  have hf:(bQ.length==its'.length)=false:= ⇑hl
  rw[jX,hr.length,iA.length,rv.length,EM.length,hf,Bool.and_false]
  show z
 case tup.lst=>let⟨a,i,rfl,h⟩:=Rep.vq I h1 r1;let⟨b,j,rfl,h'⟩:=Rep.vB I h2 r2;show SeqAt.EqAt.tuple_list h h' ∅
 case lst.tup=>let⟨a,i,rfl,h⟩:=Rep.vB I h1 r1;let⟨b,j,rfl,h'⟩:=Rep.vq I h2 r2;show SeqAt.EqAt.list_tuple h h' ∅
 case tup.d0=>let⟨a,i,rfl,h⟩:=Rep.vq I h1 r1;simp![Rep] at h2;subst h2;cases r2;show SeqAt.EqAt.tuple_none h ∅
 case lst.d0=>let⟨a,i,rfl,h⟩:=Rep.vB I h1 r1;simp![Rep] at h2;subst h2;cases r2;show SeqAt.EqAt.list_none h ∅
 case d0.tup=>let⟨a,i,rfl,h⟩:=Rep.vq I h2 r2;simp![Rep] at h1;subst h1;cases r1;show SeqAt.EqAt.none_tuple h ∅
 case d0.lst=>let⟨a,i,rfl,h⟩:=Rep.vB I h2 r2;simp![Rep] at h1;subst h1;cases r1;show SeqAt.EqAt.none_list h ∅
 case tup.bl=>let⟨a,i,rfl,h⟩:=Rep.vq I h1 r1;simp![Rep] at h2;subst h2;cases r2;show SeqAt.EqAt.tuple_bool _ h ∅
 case lst.bl=>let⟨a,i,rfl,h⟩:=Rep.vB I h1 r1;simp![Rep] at h2;subst h2;cases r2;show SeqAt.EqAt.list_bool _ h ∅
 case bl.tup=>let⟨a,i,rfl,h⟩:=Rep.vq I h2 r2;simp![Rep] at h1;subst h1;cases r1;show SeqAt.EqAt.bool_tuple _ h ∅
 case bl.lst=>let⟨a,i,rfl,h⟩:=Rep.vB I h2 r2;simp![Rep] at h1;subst h1;cases r1;show SeqAt.EqAt.bool_list _ h ∅
 case tup.int=>let⟨a,i,rfl,h⟩:=Rep.vq I h1 r1;simp![Rep] at h2;subst h2;let⟨t,rfl⟩:=r2;show SeqAt.EqAt.tuple_int _ _ h ∅
 case lst.int=>let⟨a,i,rfl,h⟩:=Rep.vB I h1 r1;simp![Rep] at h2;subst h2;let⟨t,rfl⟩:=r2;show SeqAt.EqAt.list_int _ _ h ∅
 case int.tup=>let⟨a,i,rfl,h⟩:=Rep.vq I h2 r2;simp![Rep] at h1;subst h1;let⟨t,rfl⟩:=r1;show SeqAt.EqAt.int_tuple _ _ h ∅
 case int.lst=>let⟨a,i,rfl,h⟩:=Rep.vB I h2 r2;simp![Rep] at h1;subst h1;let⟨t,rfl⟩:=r1;show SeqAt.EqAt.int_list _ _ h ∅
 case tup.str=>let⟨a,i,rfl,h⟩:=Rep.vq I h1 r1;simp![Rep] at h2;subst h2;let⟨t,rfl⟩:=r2;show SeqAt.EqAt.tuple_str _ _ h ∅
 case lst.str=>let⟨a,i,rfl,h⟩:=Rep.vB I h1 r1;simp![Rep] at h2;subst h2;let⟨t,rfl⟩:=r2;show SeqAt.EqAt.list_str _ _ h ∅
 case str.tup=>let⟨a,i,rfl,h⟩:=Rep.vq I h2 r2;simp![Rep] at h1;subst h1;let⟨t,rfl⟩:=r1;show SeqAt.EqAt.str_tuple _ _ h ∅
 case str.lst=>let⟨a,i,rfl,h⟩:=Rep.vB I h2 r2;simp![Rep] at h1;subst h1;let⟨t,rfl⟩:=r1;show SeqAt.EqAt.str_list _ _ h ∅
 all_goals (simp![Rep] at h1 h2;subst h1 h2;show Jc r1 r2 rfl rfl)
end
end L2
namespace L2
open PySem PySem.Spec PyProof.Rows
def afG:Dt ->Bool
 | .tup _=>true
 | .lst _=>true
 | _=>false
def sO:Dt ->Dt ->Bool
 | .tup _, .tup _=>true
 | .lst _, .lst _=>true
 | _,_=>false
section
variable {X:Cx}
def Yk {ah:c_ (iW×Obj)}{σ:St}{H:Hp}{s:gw}(I:Inv X ah σ H s){A:Z0}{d e:Dt}{x y:V}{u v:dC}(hs:sO d e=true)(hn:sC d<=50)(hu:A.units+60<cLine)(h1:Rep X.K H d x)(h2:Rep X.K H e y)(r1:RelV x u)(r2:RelV y v): SeqAt.RcAt A s u v (vF d e) /\ SeqAt.RcNeAt A s u v (!vF d e):=by
 cases d with
 | tup l=>
  cases e with
  | tup m=>
   simp![Rep] at h1 h2;let⟨a,vs,rfl,hs,hr⟩:=h1;let⟨b,ws,rfl,gE,iA⟩:=h2;cases r1;cases r2;let⟨bQ,rv,ht,_⟩:=I.tuple hs;let⟨its',EM,zU,_⟩:=I.tuple gE;simp![vF];simp![sC] at hn;have he: ∀j (g1:j<bQ.toArray.size) (g2:j<its'.toArray.size),SeqAt.EqAt A.in1 s bQ.toArray[j] its'.toArray[j] ((λj=>vF (l.getD j .d0) (m.getD j .d0)) j):=λj g1 g2=>by let⟨q1,q2,q3⟩:=hr.items rv (j:=j) ⇑g1;let⟨q4,q5,q6⟩:=iA.items EM (j:=j) ⇑g2;exact Jd I 50 A.in1 _ _ _ _ _ _ ?_ ?_ q1 q4 ⇑q2 ⇑q5;have:=o9 q3;lia;change A.units+1+50<cLine;lia
   have z:=SeqAt.RcAt.tuples (A:=A) (s:=s) ht zU ∅ he;have z':=SeqAt.RcNeAt.tuples (A:=A) (s:=s) ht zU ∅ he;rw[jX,hr.length,iA.length,rv.length,EM.length];show#[⇑z, ⇑z']
  | _=>cases hs
 | lst l =>
  cases e with
  | lst m=>
   simp![Rep] at h1 h2;let⟨a,vs,rfl,hs,hr⟩:=h1;let⟨b,ws,rfl,gE,iA⟩:=h2;cases r1;cases r2;let⟨bQ,rv,ht,_⟩:=I.list hs;let⟨its',EM,zU,_⟩:=I.list gE;simp![vF];simp![sC] at hn;by_cases hl:bQ.length=its'.length;have he: ∀j (g1:j<bQ.toArray.size) (g2:j<its'.toArray.size),SeqAt.EqAt A.in1 s bQ.toArray[j] its'.toArray[j] ((λj=>vF (l.getD j .d0) (m.getD j .d0)) j):=λj g1 g2=>by let⟨q1,q2,q3⟩:=hr.items rv (j:=j) ⇑g1;let⟨q4,q5,q6⟩:=iA.items EM (j:=j) ⇑g2;exact Jd I 50 A.in1 _ _ _ _ _ _ ?_ ?_ q1 q4 ⇑q2 ⇑q5;have:=o9 q3;lia;change A.units+1+50<cLine;lia
   have z:=SeqAt.RcAt.lists (A:=A) (s:=s) ht.isList zU.isList ⇑hl ∅ he;have z':=SeqAt.RcNeAt.lists (A:=A) (s:=s) ht.isList zU.isList ⇑hl ∅ he;rw[jX,hr.length,iA.length,rv.length,EM.length,hl];show#[by simpa [hl] using z,by simpa [hl] using z'];have z:=SeqAt.RcAt.lists_lengths (A:=A) (s:=s) ht.isList zU.isList ⇑hl ∅;have z':=SeqAt.RcNeAt.lists_lengths (A:=A) (s:=s) ht.isList zU.isList ⇑hl ∅;have hf:(bQ.length==its'.length)=false:= ⇑hl;rw[jX,hr.length,iA.length,rv.length,EM.length,hf,Bool.and_false];show#[z,z']
  | _=>cases hs
 | _=>cases hs
def xF (K:Uc):R2:=λx y H Q=>cE λd e=>gJ (sO d e=true) (sC d<=50) (Rep K H d x) (Rep K H e y) (Q (.bl (!vF d e)) H)
def nF (hu:X.A.units+60<cLine):iK X (compareOp .NotEq) (xF X.K):=by intro ah s σ H x y v u Q I r1 r2 h;let⟨d,e,h0,hn,h1,h2,q⟩:=h;show(Yk I h0 hn hu h1 h2 r1 r2).2 X.prog X.w X.xe _ #[.bl _,H,I,rfl,q]
def eG.OG {k:Nat}{A:Z0}(r:eG k A):A.units+60<cLine:=by have:=r.units;lia
theorem DI: ∀ {ks:c_ Int} {vs:c_ dC},vs.length=ks.length ->(∀ (j:Nat) (v:dC),vs[j]? =some v ->cE λ(k:Int) (t:Tok)=>ks[j]? =some k /\ v= .int k t) ->IntsAre vs ks
 | [],[],_,_=> .nil
 | [],_::_,h,_=>by simp at h
 | _::_,[],h,_=>by simp at h
 | k::ks,v::vs,h,hv=>by let⟨k',t,e1,e2⟩:=hv 0 v rfl;simp at e1;subst e1 e2;show .cons k t (DI ⇑h λj u e=> ⇑(hv (j+1) u ⇑e))
def zo:c_ V ->Hp ->VK ->Prop:=λxs H Q=>eE λ(d:iW) (kvs:c_ (cz×V)) (ks:c_ Int)=>gJ (xs= [.ref d]) (H d=some (.dK kvs)) (kvs.map (·.1)=ks.map Sum.inl) (ks.length<=sizeLine) (∀ (p:iW) (ns:c_ Int),H p=none ->ns.Perm ks ->ns.Pairwise (· <= ·) ->Q (.ref p) (cM H p (.lst (ns.map V.int))))
def px (hc:X.calm=true):fq X (.builtin "sorted") zo:=by
 intro ah s σ H xs us Q I r h;let⟨d,kvs,ks,rfl,hd,hk,LU,q⟩:=h;let⟨u,rfl,ru⟩:=vals1 r;cases ru;have hh:X.A.in1.handled=none:=I.ok.hd hc;let⟨hz,lo,vs,f_,dd⟩:=wO I.c6 hd;let⟨ep,ZL⟩:=dd.dictAt;have d4:vs.length=ks.length:=by have e1:=congrArg List.length hk;rw[af,af] at e1;rw[<- f_.length,e1]
 exact Calls.call_function_entry kind_sorted plain_sorted entry_sorted (args_sorted1 _) ?_;unfold Builtin.«sorted»;exact ax (m:=checkCount "sorted" 1 1 _) (a7 ?_);exact ax (W.kdu_collect (A:=X.A.in1) (W.kdl_dict (knd:=cR X.prog X.w) (kvs:=vs) (ep:=ep) lo) hh ZL (by rw[<- f_.length];show hz) λh' tk fR Zx BS=> ?_);have hl:fR.toList.length=ks.length:=by rw[dH,BS.1,d4]
 have hI:IntsAre fR.toList ks:=DI hl λj v e=>by
  let⟨k,x,hx,UF⟩:=BS.2 j v (by rw[<- Array.getElem?_toList];show e);have Iy:(kvs.map (·.1))[j]? =some k:=by
   have:(vs.map (·.1))[j]? =some k:=by rw[aI,hx];rfl
   rw[<- f_.keys] at this;show this
  rw[hk,aI] at Iy;cases e2:ks[j]? with
  | none=>rw[e2] at Iy;cases Iy
  | some n=>
   rw[e2] at Iy;cases Iy;have Qn:oO (Sum.inl n) v=true:=UF;rcases dg Qn with⟨i,t,e3,e4⟩ | ⟨x,t,e3,e4⟩
   cases e3;show#[n,t,rfl,e4];cases e3
 exact ax (wpAny_newList ?_ (by rw[hl];show LU));have ho:(h'.push (seqObj "list" fR.toList.toArray 0)).get? h'.objs.size=some (seqObj "list" fR.toList.toArray 0):=aY _ rfl;exact ax (wpAny_holding (wpAny_call_entry slot_list_sort #[_,ho,rfl] entry_list_sort (TS.EJ (s:= {s with heap:=h'.push (seqObj "list" fR.toList.toArray 0),toks:=tk}) ho hI (by rw[hl];show LU) λout A1 a1 a2 a3=>#[_,rfl,?_]) (args_list_sort _)));let⟨ee,Qv⟩:=sortedHeap_at (out:=out) ho;have I':Inv X ah σ H {s with heap:=h',toks:=tk}:=I.kept (t':=tk) Zx;exact a7 #[_,rfl, .ref h'.objs.size,_,I'.laid (t':=tk) (o:= .lst (A1.map V.int)) (λb o hb=> ?_) (aq _) ?_,rfl,q _ A1 (I'.c6.fresh (aq _)) a2 a3];have mK:b<h'.objs.size:=aO hb;rw[sortedHeap_old (bA mK) (by rw[Heap.size_push];show Nat.lt_succ_of_lt mK)];show av _ hb;exact#[?_,out.toList,ee,pJ a1, ⇑Qv];rw[af,a2.length_eq];show LU
end
def cW.of {X:Cx}{sc scope:Scope}{N own N':c_ Str}{fr:c_ Nat}(Zb:X.env.scope=sc:=by show rfl)(hN:X.N=N:=by show rfl)(kind:scope.kind= .function:=by show rfl)(names:N'=own++fr.filterMap (λj=>N[j]?):=by decide+kernel)(len:N'.length=own.length+fr.length:=by show rfl)(nd:N'.Nodup:=by decide+kernel) (ue: ∀y∈scope.names,y.2≠ .cell:=by decide+kernel) (loc: ∀y∈scope.names,y.2= .local ->scope.names.lookup y.1=some .local:=by decide+kernel) (Rz: ∀x∈fr.filterMap (λj=>N[j]?),scope.names.lookup x=some .free:=by decide+kernel) (free: ∀y∈scope.names,y.2= .free ->sc.names.lookup y.1=some .cell \/ sc.names.lookup y.1=some .free:=by decide+kernel):cW X own fr N' scope:=by subst hN Zb;show#[kind,names,len,nd,ue,loc,Rz,free]
structure gL (K:PySem.W.Frag)(mg:Str ->Option Value)(x:Str)(ps:List Str)(st:Stmt)(f:Addr)(fd:FuncData):Prop where
 at_:mg x=some (.ref f)
 fn:AI K x x st f fd
 bd:Binds K fd ps []
section
variable {X:Cx}{k:Nat}{f:iW}{fd:ZZ}{ps:c_ Str}{sp:Sp}{x:Str}{st:Stmt}{p pos:Pos}{e:Expr}{es:c_ Expr}{t:TA}
theorem au {j:Nat}(C:gL X.K X.mg x ps st f fd)(F:bE X.prog X.w X.K X.mg X.base e9 k f fd ps sp)(hr:eG j X.A) (ha:PA X (e::es) t) (hk:k<=j:=by decide) (hg:Gl X x:=by rfl) (wA:(x==("__debug__" :Str))=false:=by decide) (he:starEach (e::es) X.env=(false,eval e X.env)::starEach es X.env:=by rfl) (pG:(backTo pos (starEach es X.env)).any (·.1)=false:=by rfl): PE X (.Call (.Name x p) (e::es) [] pos) (vW sp [] E0 t):=De F (hr.mono hk) hg C.at_ C.fn.kp C.bd .nil Df ha wA he pG
end
theorem cf {H:Hp}{p:iW}{o:HO}(h:H p=none):ge H (cM H p o):=λb u e=>by rw[bR (fc e h)];show e
def a5 (H H':Hp):Prop:= ∀b xs,Rd H b (.tup xs) ->Rd H' b (.tup xs)
theorem a5.refl (H:Hp):a5 H H:=λ_ _ h=>h
theorem a5.trans {H H1 H2:Hp}(a:a5 H H1)(b:a5 H1 H2):a5 H H2:=λc o h=>b c o (a c o h)
theorem ge.ts {H H':Hp}(a:ge H H'):a5 H H':=λb xs h=>by obtain h | ⟨o,h⟩:=h;show .inl (a _ _ h);show .inr #[o,a _ _ h]
inductive Vl (K:PySem.W.Frag)(H:Hp):V ->Value ->Prop where
 | of {x:V} {t:Value} (h:qA K H x t):Vl K H x t
 | tup {a:Addr} {xs:List V} (h:kW K H a xs):Vl K H (.ref a) (.type "tuple")
 | lst {a:Addr} {xs:List V} (h:iH K H a xs):Vl K H (.ref a) (.type "list")
section
variable {X:Cx}
def O2 (K:Uc):c_ V ->Hp ->VK ->Prop:=λxs H Q=>gm λx T t b=>fi (xs= [x, .ty T]) (Vl K H x t) (W.kitOne K t (.type T)=some b) (Q (.bl b) H)
def Ju:fq X (.builtin "isinstance") (O2 X.K):=by
 intro ah s σ H xs us Q I r h;let⟨x,T,t,b,rfl,ty,e,q⟩:=h;let⟨u,w',rfl,ru,xA⟩:=vals2 r;cases xA;cases ty with
 | of ty=>show Ff I ru ty e λtk=>#[.bl b,H,I.tok tk,rfl,q]
 | tup hs=>cases ru;let⟨bQ,rv,⟨o,h1,h2,_⟩,_⟩:=I.tuple hs;show cA W.kitx_tuple I.m7 #[o,h1,h2] e (λz=>nomatch z) λtk=>#[.bl b,H,I.tok tk,rfl,q]
 | lst hs=>cases ru;let⟨bQ,rv,ht,_⟩:=I.list hs;let⟨o,h1,h2,_⟩:=ht.isList;show cA W.kitx_list I.m7 #[o,h1,h2] e (λz=>nomatch z) λtk=>#[.bl b,H,I.tok tk,rfl,q]
end
end L2
namespace L2
open PySem PyProof.Rows PyProof.V PySem.Calls PySem.Spec
def iJ (P:Y1)(w:ZW):AV:=λouter H s E e s'=>sD λ(ea:iW) (cls a0:dC) (B:ZX) (H':Hp)=>AB (e= .ref ea) (s'.os=s.os) (AllBare s'.gens) (Heap.FlyingW B outer ea cls a0 s'.heap) (mH P w H' B) (H' ea=none) (Un (kU outer) [] H H' s.heap s'.heap) (cS (∀b o,s.heap.get? b=some o ->H b=none ->b∉kU outer ->B.get? b=some o) (∀b o,s.heap.get? b=some o ->b∉kU outer -> ∃o',B.get? b=some o') (E cls none H'))
def d3.ex {P:Y1}{w:ZW}{H:Hp}{h:ZX}{a:iW}{o:HO}(x:d3 P w H h a o): ∃u,h.get? a=some u:=by
 cases o with
 | lst xs=>let⟨_,_,_,_,e⟩:=x;show#[_,e]
 | tup xs=>let⟨_,_,_,p,e,_⟩:=x;show#[_,e]
 | dK kvs=>let⟨_,_,_,_,o,_,_,e,_⟩:=x;show#[_,e]
 | dT kvs=>let⟨_,_,_,_,o,_,_,e,_⟩:=x;show#[_,e]
 | set S n=>let⟨o,_,_,_,e,_⟩:=x;show#[_,e]
 | ins C dx fs=>let⟨_,_,_,e,_⟩:=x;show#[_,e]
 | own y=>show x
 | xd fs=>let⟨_,⟨_,_,_,e,_⟩,_⟩:=x;show#[_,e]
 | Wc lo hi=>let⟨_,_,_,e⟩:=x;show#[_,e]
 | kT ob u=>let⟨e,_⟩:=x;show#[_,e]
 | KI ps=>show#[_,(show h.get? a=some _ from x)]
 | met f y=>show#[_,(show h.get? a=some _ from x)]
 | ext φ=>let⟨_,e,_⟩:=x;show e
section
variable {X:Cx}{ah:c_ (iW×Obj)}{σ:St}{H H':Hp}{s s':gw}
theorem Inv.Lq (I:Inv X ah σ H s){b:iW}{o:Obj}(e:X.s₀.heap.get? b=some o)(n:b∉X.fs):b∉kU X.stack:=λz=>by obtain q | q:=aP.mp (I.xr b z);have h1:=aO e;have h2:=I.ok.above;rw[q] at h1;show absurd h1 (Nat.not_lt.mpr h2);show n q
theorem tE {outer:c_ Env}{H₀:Hp}{h0 h h' B:ZX}{base:ZX}(ff:h.FunFrames base outer)(hF: ∀b∈kU outer,H₀ b=none)(u:Un (kU outer) [] H₀ H' h0 h)(st:B.StaysIn h')(up:h.UpToSlots h') (kb: ∀b o,h0.get? b=some o ->H₀ b=none ->b∉kU outer ->B.get? b=some o) (kt: ∀b o,h0.get? b=some o ->b∉kU outer -> ∃o',B.get? b=some o'):Un (kU outer) [] H₀ H' h0 h' where
 keep b o e n hb _:=st b o (kb b o e n hb)
 slot b o e n hb hx:=by let⟨sl,e1⟩:=u.slot b o e n hb hx;let⟨_,o2,e2,Ux⟩:=ff.mem hb;rw[e1] at e2;cases e2;let⟨No,e3⟩:=up b _ e1 Ux;show#[No,e3]
 free:=u.free
 there b o e hx:=by by_cases hb:b∈kU outer;let⟨sl,e1⟩:=u.slot b o e (hF b hb) hb hx;let⟨_,o2,e2,Ux⟩:=ff.mem hb;rw[e1] at e2;cases e2;let⟨No,e3⟩:=up b _ e1 Ux;show#[_,e3];let⟨o',e'⟩:=kt b o e hb;show#[o',st _ _ e']
 nX:=u.nX
 mL:=u.mL
 pL:=u.pL
def Bt {P:Y1}{w:ZW}{K:Uc}{mg:Str ->gC dC}{base:ZX}{N:c_ Str}{qual:Str}{scope:Scope}{f:iW}{cd:dC}{A:Z0}{outer:c_ Env}{s:gw}{H:Hp}{E:XK}: gT (iJ P w) (eL (iJ P w) P w K mg base N qual scope f cd A outer s H E) E:=by
 intro ah σ H1 s1 e s' I hf;let⟨ea,cls,a0,B,H',rfl,os,bare,fl,c6,DL,un,kb,kt,hE⟩:=hf;have I':=I.Jw (ch:= []) os un (c6.kept fl.1) bare (λb z=>absurd z (by simp));change wpAny _ _ (leaving _ (.ref ea)) _ _ s';exact wpAny_leaves_onW I.ok.frames rfl fl λh' fl' up=> ?_;have hex:(eL (iJ P w) P w K mg base N qual scope f cd A outer s H E).ex= []:=rfl;have kb': ∀b o,s.heap.get? b=some o ->H b=none ->b∉kU outer ->B.get? b=some o:=λb o e n hb=>kb b o (I.base.keep b o e n hb (λz=>absurd z (by simp[hex]))) (I.base.free b o e n (λz=>absurd z (by simp[hex]))) (I.Lq e hb);have kt': ∀b o,s.heap.get? b=some o ->b∉kU outer -> ∃o',B.get? b=some o':=λb o e hb=>by let⟨o1,e1⟩:=I.base.there b o e (λz=>absurd z (by simp[hex]));show kt b o1 e1 (I.Lq e hb)
 show#[ea,cls,a0,B,H',rfl,os.trans I.os,bare,fl',c6,DL,tE I'.nN I.ok.Kn I'.base fl'.1 up kb' kt',kb',kt',hE]
def IL {P:Y1}{w:ZW}{M:Model}{E':dC ->gw ->Prop}{E:XK}{h':ZX}{e:iW}{cls:dC}{vs:c_ dC}(hP:X.prog=P)(hw:X.w=w)(I:Inv X ah σ H s)(qp:X.stack=X.env::X.outer)(Fn:X.env.frame=some X.env.locals)(hex:X.ex= []) (mk:Heap.MadeExcOf s.heap h' e cls vs) (hE:E cls none H): wpAny M X.A (leaving X.env (.ref e)) (λ_ s2=>iJ P w X.outer X.H₀ X.s₀ E (.ref e) s2) E' {s with heap:=h'}:=by
 subst hP hw;have NJ: ∀b:iW,b∉X.ex:=λb z=>by rw[hex] at z;show absurd z (by simp)
 have OS:=I.stack;have zY: ∀env∈X.stack, ∀b,env.frame=some b ->b∈kU X.stack:=λenv he b hb=>List.mem_filterMap.mpr #[env,he,hb];have hB:mH X.prog X.w H (W.hideAll s.heap (kU X.stack)):=λa o ea=>(I.c6 a o ea).tJ (λb u hb q=>W.hideAll_get _ q λhm=>by have:=I.sN b hm;obtain rfl | hb:=hb;rw[ea] at this;cases this;rw[hb] at this;cases this) (λ_ q=>q) λ_ _ q=>q;have DL:H e=none:=by
  cases q:H e with
  | none=>rfl
  | some o=>let⟨u,hu⟩:=(I.c6 e o q).ex;rw[mk.new] at hu;cases hu
 have kb: ∀b o,X.s₀.heap.get? b=some o ->X.H₀ b=none ->b∉kU X.outer ->(W.hideAll s.heap (kU X.stack)).get? b=some o:=λb o e n hb=>W.hideAll_get _ (I.base.keep b o e n hb (NJ b)) (I.Lq e hb);have kt: ∀b o,X.s₀.heap.get? b=some o ->b∉kU X.outer -> ∃o',(W.hideAll s.heap (kU X.stack)).get? b=some o':=λb o e hb=>by let⟨o1,e1⟩:=I.base.there b o e (NJ b);show#[o1,W.hideAll_get _ e1 (I.Lq e hb)]
 have Kh:s.heap.FunFrames (W.hideAll s.heap (kU X.stack)) (X.env::X.outer):=by have:=W.funFrames_hide OS zY;rw[qp] at this ⊢;show this
 exact wpAny_leaves_madeW (by rw[I.ok.frames,qp]) Fn (λb o q=>W.of_hideAll _ q) Kh mk λh2 t fl tu _ up=> ?_;have up':s.heap.UpToSlots h2:=(Heap.UpToSlots.of_keeps mk.keeps).trans up;have u0:Un (kU X.outer) [] X.H₀ H X.s₀.heap s.heap:=by have:=I.base;rw[hex] at this;show this
 show#[e,cls, .ref t,_,H,rfl,I.os,I.bare,fl,hB,DL,tE I.nN I.ok.Kn u0 fl.1 up' kb kt,kb,kt,hE]
def Ew (X:Cx)(E:XK):Prop:= ∀ (ah:c_ (iW×Obj)) (σ:St) (H:Hp) (s:gw) (h':ZX) (e:iW) (cls:dC) (vs:c_ dC),Inv X ah σ H s ->Heap.MadeExcOf s.heap h' e cls vs ->E cls none H ->X.xe (.ref e) {s with heap:=h'}
theorem IN {P:Y1}{w:ZW}{K:Uc}{mg:Str ->gC dC}{base:ZX}{N:c_ Str}{qual:Str}{scope:Scope}{f:iW}{cd:dC}{A:Z0}{outer:c_ Env}{s:gw}{H:Hp}{E:XK}: Ew (eL (iJ P w) P w K mg base N qual scope f cd A outer s H E) E:=λah σ H1 s1 h' e cls vs I mk hE=>IL (P:=P) (w:=w) rfl rfl I rfl rfl rfl mk hE
nonrec abbrev U9:c_ dC:= [.type "ValueError", .type "Exception", .type "BaseException", .type "object"]
def Bg (C:iW)(E:XK)(t:TA):TS:=λ_ σ H=>t σ H λvs H1=>vs.length<=sizeLine /\ E (.ref C) none H1
def Hl {E:XK}{x:Str}{C:iW}{np dn pos:Pos}{e₀:Expr}{c7:c_ Expr}{t:TA}(hF:Ew X E)(hc:X.calm=true)(hg:Gl X x)(O:PyProof.Rows.OwnCls x C U9 "ValueError.__new__" X.mg X.base)(ha:PA X (e₀::c7) t) (wA:(x==("__debug__" :Str))=false:=by decide) (he:starEach (e₀::c7) X.env=(false,eval e₀ X.env)::starEach c7 X.env:=by rfl) (pG:(backTo dn (starEach c7 X.env)).any (·.1)=false:=by rfl): PS X (.Raise (some (.Call (.Name x np) (e₀::c7) [] dn)) none pos) (Bg C E t):=by intro ah s σ H D I h;let⟨tl,N,nm,q,bs,hdct,sn,sub,ab,col,dd,k0,k1,k2,k3,k5,mN,hC,hN,Fk,T⟩:=O.obj;exact wpAny_Raise_call_subU (C:=C) (nm:=nm) (q:=q) (N:=N) (bs:=bs) (bm:=tl) (hdct:=hdct) (sn:=sn) (sub:=sub) (ab:=ab) (col:=col) (dd:=dd) (k0:=k0) (k1:=k1) (k2:=k2) (k3:=k3) (k5:=k5) PySem.F.excBase_ValueError (bmB:=U9) (by decide+kernel) PySem.F.excBase_ValueError (mN:=mN) (T.hasType PySem.F.excBase_ValueError.hasBase) (I.ok.hd hc) (by rw[he];change(false || (backTo dn (starEach c7 X.env)).any (·.1))=false;rw[pG];rfl) Fk (oJ I hg O.bound #[rfl,?_] wA);have h2:=ha dn ah s σ H _ I h;rw[he] at h2 ⊢;show Calls.evalArgs_plain (cX h2 λus s2 ⟨vs,H1,I1,r,z,hE⟩=>#[rfl,by rw[<- r.length];show z,I1.bk _ _ hC,hN.keeps I1.bk,T.keeps I1.bk,λh' e mk=>hF ah σ H1 s2 h' e (.ref C) us I1 mk hE])
end
def gZ (a C:iW)(h:ZX):Prop:= ∃o,h.get? a=some o /\ o.cls= .ref C
abbrev Cx.qX (X:Cx)(e:dC):Cx:= {X with A:=X.A.mark (some e),calm:=false,xe:=λ_ _=>False}
section
variable {X:Cx}{ah:c_ (iW×Obj)}{σ:St}{H H':Hp}{s s':gw}
theorem Cx.Ok.qX (ok:X.Ok)(e:dC):(X.qX e).Ok:=#[ok.mod,ok.kind,ok.glob,ok.blt,ok.above,ok.inj,ok.has,ok.RA,(λz=>nomatch z),ok.frames,ok.OS,ok.exf,ok.bs,ok.Jx,ok.E5,ok.BX,ok.nN,ok.Kn]
theorem Inv.qX (I:Inv X ah σ H s)(e:dC):Inv (X.qX e) ah σ H s:=#[I.ok.qX e,I.os,I.bare,I.base,I.loc,I.cell,I.free,I.gF,I.pin,I.c6,I.len]
theorem Inv.xO {e:dC}(ok:X.Ok)(I:Inv (X.qX e) ah σ H s):Inv X ah σ H s:=#[ok,I.os,I.bare,I.base,I.loc,I.cell,I.free,I.gF,I.pin,I.c6,I.len]
def ur {H1:Hp}{s1:gw}{B h5:ZX}{ea C:iW}{a0:dC}(I:Inv X ah σ H1 s1)(os:s'.os=s1.os)(bare:AllBare s'.gens)(fl:Heap.FlyingW B X.stack ea (.ref C) a0 s'.heap)(c6:mH X.prog X.w H' B)(DL:H' ea=none) (un:Un (kU X.stack) [] H1 H' s1.heap s'.heap) (kb: ∀b o,s1.heap.get? b=some o ->H1 b=none ->b∉kU X.stack ->B.get? b=some o) (kt: ∀b o,s1.heap.get? b=some o ->b∉kU X.stack -> ∃o',B.get? b=some o') (fl5:Heap.FlyingW B X.stack ea (.ref C) a0 h5) (up:s'.heap.UpToSlots h5) {tk:Nat}:Inv X ah σ (cM H' ea (.ext (gZ ea C))) {s' with heap:=h5,toks:=tk} /\ a5 H1 (cM H' ea (.ext (gZ ea C))):=by
 have new: ∀b o,s1.heap.get? b=some o ->b≠ea:=λb o e z=>by subst z;by_cases hb:b∈kU X.stack;let⟨_,o2,e2,Ux⟩:=fl.2.2.1.mem hb;let⟨oe,vs,e3,_,hd,_⟩:=fl.first;rw[e2] at e3;cases e3;show Ux vs hd;let⟨o',e'⟩:=kt b o e hb;rw[fl.2.1] at e';cases e'
 have u5:=tE fl.2.2.1 I.sN un fl5.1 up kb kt;have zQ: ∀b o,H' b=some o ->cM H' ea (.ext (gZ ea C)) b=some o:=λb o e=>by rw[bR (fc e DL)];show e
 have u6:Un (kU X.stack) [] H1 (cM H' ea (.ext (gZ ea C))) s1.heap h5:=#[u5.keep,u5.slot,λb o e n hx=>by rw[bR (new b o e)];show u5.free b o e n hx,u5.there,λb xs e=>zQ _ _ (u5.nX b xs e),λb o u e=>zQ _ _ (u5.mL b o u e),λb ps e=>let ⟨m,z⟩:=u5.pL b ps e;#[m,zQ _ _ z]]
 have Zl:mH X.prog X.w (cM H' ea (.ext (gZ ea C))) h5:=λb o e=>by by_cases hb:b=ea;subst hb;rw[bZ] at e;cases e;let⟨oe,vs,e3,hc,_⟩:=fl5.first;show#[#[oe,e3,hc],#[oe,e3],λh1 h2 ⟨o,e,c⟩ k=>#[o,k o e,c]];rw[bR hb] at e;show(c6 b o e).tJ (λc u _ q=>fl5.1 c u q) (λc q=>zQ _ _ q) λc xs q=>zQ _ _ q
 exact#[I.Jw (s':= {s' with heap:=h5,toks:=tk}) (ch:= []) os u6 Zl bare (λb z=>absurd z (by simp)),λb xs r=> ?_];obtain r | ⟨w,r⟩:=r;show .inl (u6.nX _ _ r);show .inr #[w,u6.mL _ _ _ r]
theorem Lu {M:Model}{A:Z0}{E:dC ->gw ->Prop}{x:Str}{u:dC}{pos:Pos}{Q:dC ->gw ->Prop}(I:Inv X ah σ H s)(hg:Gl X x)(hm:X.mg x=some u)(h:Q u s) (hd:(x==("__debug__" :Str))=false:=by decide):wpAny M A (eval (.Name x pos) X.env) Q E s:=Calls.Name_function_global I.ok.kind hg (Calls.loadGlobal_global (by rw[I.ok.glob];show I.mod.glob.keeps I.bk) hm h) hd
end
end L2
namespace L2
open PySem PyProof.Rows PyProof.V PySem.Calls PySem.Spec PySem.W PySem.Builtin PySem.Builtin.ObjectAttr PySem.Builtin.Getset_descriptor
section
variable {prog:Y1}{w:ZW}{A:Z0}{E:dC ->gw ->Prop}{K:Uc}{hh:ZX}{g:Ub GenState}{d:Drawn}{t:Nat}{os:OsState}{a C:iW}{o:Obj}
theorem QB {M:Model}(hx:hh.get? a=some o)(hc:o.cls= .ref C):Looks M hh (typeOf (.ref a)) (.ref C):=hc▸ (Looks.ld hx).andThen .now
end
end L2
namespace L2
open PySem PyProof.Rows PyProof.V PySem.Calls PySem.Spec PySem.W
structure Vu (K:PySem.W.Frag)(C:Addr):Prop where
 cls:(clsIn K C).isSome=true
 ga:findIn K (.ref C) "__getattribute__" =some (some (.builtin "BaseException.__getattribute__"))
 gn:findIn K (.ref C) "__getattr__" =some none
 cl:findIn K (.ref C) "__class__" =some (some (.builtin "object.__class__"))
 mo:mroIn K C (.type "object")=some true
 mb:mroIn K C (.type "BaseException")=some true
end L2
namespace WL
open PySem L2
set_option genInjectivity true in
inductive W where
 | v (x:V) | tup (l:List W)
set_option genInjectivity true in
inductive MO where
 | lst (l:List W) | dK (kvs:List (cz×W)) | ins (C dx:Addr) (fs:List (Str×W)) | exc (C:Addr) | fz (o:Obj) (ks:List (cz×V)) (kvs:List (cz×W))
abbrev Mp:=iW ->gC MO
abbrev dm:=c_ (gC W)
abbrev WK:=W ->Mp ->Prop
abbrev WE:=dm ->Mp ->WK ->Prop
abbrev WT:=dm ->Mp ->(Bool ->Mp ->Prop) ->Prop
abbrev WA:=dm ->Mp ->(c_ W ->Mp ->Prop) ->Prop
abbrev WG:=W ->dm ->Mp ->(dm ->Mp ->Prop) ->Prop
abbrev Mo:=c_ W ->dm ->Mp ->(dm ->Mp ->Prop) ->Prop
abbrev qz:=W ->W ->Mp ->WK ->Prop
abbrev A6:=c_ W ->Mp ->WK ->Prop
abbrev WI:=dm ->Mp ->(c_ W ->(Mp ->Prop) ->Mp ->Prop) ->Prop
structure f8 where
 nx:dm ->Mp ->Prop
 rt:WK
 bk:dm ->Mp ->Prop:=λ_ _=>False
 ct:dm ->Mp ->Prop:=λ_ _=>False
abbrev WS:=f8 ->dm ->Mp ->Prop
@[reducible] def wi (i:Int):W:= .v (.int i)
@[reducible] def wb (b:Bool):W:= .v (.bl b)
@[reducible] def wr (a:iW):W:= .v (.ref a)
@[reducible] def ws (x:Str):W:= .v (.str x)
@[reducible] def wn:W:= .v .d0
def um (M:Mp)(a:iW)(o:MO):Mp:=λb=>if b=a then some o else M b
def ao {M:Mp}{a:iW}{o:MO}:um M a o a=some o:=by unfold um;rw[am rfl]
def aQ {M:Mp}{a b:iW}{o:MO}(h:b≠a):um M a o b=M b:=by unfold um;rw[ak h]
def j_ {M:Mp}{a:iW}{o u:MO}:um (um M a o) a u=um M a u:=by funext b;unfold um;split<;>rfl
def cg {M:Mp}{a b:iW}{o:MO}(h:M a=some o)(h':M b=none):a≠b:=by intro e;subst e;rw[h] at h';cases h'
def Sm (M M':Mp):Prop:= ∀b o,M b=some o ->M' b=some o
theorem Sm.refl (M:Mp):Sm M M:=λ_ _ h=>h
theorem Sm.trans {M M1 M2:Mp}(a:Sm M M1)(b:Sm M1 M2):Sm M M2:=λc o h=>b c o (a c o h)
def Sm.free {M M':Mp}{p:iW}(a:Sm M M')(h:M' p=none):M p=none:=by
 cases e:M p with
 | none=>rfl
 | some o=>rw[a p o e] at h;cases h
theorem bj {M:Mp}{p:iW}{o:MO}(h:M p=none):Sm M (um M p o):=λb u e=>by rw[aQ (cg e h)];show e
theorem Sm.um {M M':Mp}{p:iW}{o:MO}(a:Sm M M')(h:M p=none):Sm M (um M' p o):=λb u e=>by rw[aQ (cg e h)];show a b u e
mutual
def WR (K:Uc)(H:Hp):W ->V ->Prop
 | .v x,v=>v=x
 | .tup l,v=>cE λa vs=>cS (v= .ref a) (kW K H a vs) (cU K H l vs)
def cU (K:Uc)(H:Hp):c_ W ->c_ V ->Prop
 | [],vs=>vs= []
 | x::r,vs=>cE λv t=>cS (vs=v::t) (WR K H x v) (cU K H r t)
end
mutual
theorem WR.ts {K:Uc}{H H':Hp}(a:a5 H H'): ∀ (x:W) (v:V),WR K H x v ->WR K H' x v
 | .v x,v,h=>by simp![WR] at h ⊢;show h
 | .tup l,v,h=>by simp![WR] at h ⊢;let⟨p,vs,e,hs,hr⟩:=h;show#[p,vs,e,Un.sqT a hs,cU.ts a l vs hr]
theorem cU.ts {K:Uc}{H H':Hp}(a:a5 H H'): ∀ (l:c_ W) (vs:c_ V),cU K H l vs ->cU K H' l vs
 | [],vs,h=>by simp![cU] at h ⊢;show h
 | x::r,vs,h=>by simp![cU] at h ⊢;let⟨v,t,e,h1,h2⟩:=h;show#[v,t,e,WR.ts a x v h1,cU.ts a r t h2]
end
theorem cU.length {K:Uc}{H:Hp}: ∀ {l:c_ W} {vs:c_ V},cU K H l vs ->vs.length=l.length
 | [],_,h=>by simp![cU] at h;subst h;rfl
 | d::r,vs,h=>by simp![cU] at h;let⟨v,t,rfl,_,h⟩:=h;simp[cU.length h]
theorem cU.at {K:Uc}{H:Hp}: ∀ {l:c_ W} {vs:c_ V} {j:Nat} {d:W},cU K H l vs ->l[j]? =some d -> ∃v,vs[j]? =some v /\ WR K H d v
 | [],_,_,_,_,e=>by simp at e
 | d::r,vs,j,d',h,e=>by
  simp![cU] at h;let⟨v,t,rfl,h1,h⟩:=h;cases j with
  | zero=>simp at e;subst e;show#[v,rfl,h1]
  | succ j=>simpa using cU.at (j:=j) h ⇑e
theorem cU.mk {K:Uc}{H:Hp}: ∀ {l:c_ W} {vs:c_ V},vs.length=l.length ->(∀ (j:Nat) d v,l[j]? =some d ->vs[j]? =some v ->WR K H d v) ->cU K H l vs
 | [],vs,h,_=>by simp![cU];show List.length_eq_zero_iff.mp h
 | d::r,[],h,_=>by simp at h
 | d::r,v::vs,h,k=>by simp![cU];show#[v,vs,rfl,k 0 d v rfl rfl,cU.mk ⇑h λj x u e1 e2=>k (j+1) x u ⇑e1 ⇑e2]
def cU.back {K:Uc}{H:Hp}{l:c_ W}{vs:c_ V}{j:Nat}{v:V}(h:cU K H l vs)(e:vs[j]? =some v): ∃d,l[j]? =some d /\ WR K H d v:=by
 have hl:=h.length;have hj:j<l.length:=by have:=(bv.mp e).1;lia
 let⟨u,hu,r⟩:=h.at (j:=j) (d:=l[j]) (aF hj);rw[e] at hu;cases hu;show#[_,aF hj,r]
def cU.snoc {K:Uc}{H:Hp}{l:c_ W}{vs:c_ V}{d:W}{v:V}(h:cU K H l vs)(hr:WR K H d v):cU K H (l++ [d]) (vs++ [v]):=by
 have hl:=h.length;exact cU.mk (by simp[hl]) λj x u e1 e2=> ?_;by_cases hj:j<l.length;rw[bi hj] at e1;rw[bi ∅] at e2;let⟨w,hw,r⟩:=h.at e1;rw[e2] at hw;cases hw;show r;rw[a9 ∅] at e1;rw[a9 ∅,hl] at e2;cases hk:j - l.length with
 | zero=>rw[hk] at e1 e2;simp at e1 e2;subst e1 e2;show hr
 | succ k=>rw[hk] at e1;simp at e1
def cU.append {K:Uc}{H:Hp}{l m:c_ W}{vs us:c_ V}(h:cU K H l vs)(h':cU K H m us):cU K H (l++m) (vs++us):=by have hl:=h.length;have qY:=h'.length;exact cU.mk (by simp[hl,qY]) λj x u e1 e2=> ?_;by_cases hj:j<l.length;rw[bi hj] at e1;rw[bi ∅] at e2;let⟨w,hw,r⟩:=h.at e1;rw[e2] at hw;cases hw;show r;rw[a9 ∅] at e1;rw[a9 ∅,hl] at e2;let⟨w,hw,r⟩:=h'.at e1;rw[e2] at hw;cases hw;show r
def cU.drop {K:Uc}{H:Hp}{l:c_ W}{vs:c_ V}(n:Nat)(h:cU K H l vs):cU K H (l.drop n) (vs.drop n):=by exact cU.mk (by simp[h.length]) λj x u e1 e2=> ?_;rw[List.getElem?_drop] at e1 e2;let⟨w,hw,r⟩:=h.at e1;rw[e2] at hw;cases hw;show r
def cU.take {K:Uc}{H:Hp}{l:c_ W}{vs:c_ V}(n:Nat)(h:cU K H l vs):cU K H (l.take n) (vs.take n):=by exact cU.mk (by simp[h.length]) λj x u e1 e2=> ?_;rw[List.getElem?_take] at e1 e2;split at e1;rename_i hj;rw[am hj] at e2;let⟨w,hw,r⟩:=h.at e1;rw[e2] at hw;cases hw;show r;cases e1
def cU.set {K:Uc}{H:Hp}{l:c_ W}{vs:c_ V}(n:Nat){d:W}{v:V}(h:cU K H l vs)(hr:WR K H d v):cU K H (l.set n d) (vs.set n v):=by have hl:=h.length;exact cU.mk (by simp[h.length]) λj x u e1 e2=> ?_;rw[List.getElem?_set] at e1 e2;split at e1;rename_i hj;rw[am hj] at e2;split at e1;split at e2;cases e1;cases e2;show hr;cases e2;cases e1;rename_i hj;rw[ak hj] at e2;let⟨w,hw,r⟩:=h.at e1;rw[e2] at hw;cases hw;show r
def cU.nil {K:Uc}{H:Hp}:cU K H [] []:=by simp![cU]
def cU.cons {K:Uc}{H:Hp}{x:W}{v:V}{l:c_ W}{vs:c_ V}(h:WR K H x v)(r:cU K H l vs):cU K H (x::l) (v::vs):=by simp![cU];show#[v,vs,rfl,h,r]
def WR.v {K:Uc}{H:Hp}{x:V}:WR K H (.v x) x:=by simp![WR]
def WR.eq {K:Uc}{H:Hp}{x v:V}(h:WR K H (.v x) v):v=x:=by simpa only[WR] using h
def WR.tup {K:Uc}{H:Hp}{l:c_ W}{v:V}(h:WR K H (.tup l) v):cE λa vs=>cS (v= .ref a) (kW K H a vs) (cU K H l vs):=by simpa only[WR] using h
def WR.PK {K:Uc}{H:Hp}{l:c_ W}{a:iW}{vs:c_ V}(h:kW K H a vs)(r:cU K H l vs):WR K H (.tup l) (.ref a):=by simp![WR];show#[a,vs,rfl,h,r]
def KR (K:Uc)(H:Hp){κ:Type}:c_ (κ×W) ->c_ (κ×V) ->Prop:=Paired λp q=>p.1=q.1 /\ WR K H p.2 q.2
theorem KR.ts {K:Uc}{H H':Hp}{κ:Type}(a:a5 H H'): ∀ {l:c_ (κ×W)} {vs:c_ (κ×V)},KR K H l vs ->KR K H' l vs
 | _,_, .nil=> .nil
 | _,_, .cons ⟨e,r⟩ t=> .cons #[e,r.ts a] (KR.ts a t)
def MR (K:Uc)(H:Hp)(a:iW):MO ->Prop
 | .lst l=> ∃vs,H a=some (.lst vs) /\ cU K H l vs
 | .dK kvs=> ∃ks,H a=some (.dK ks) /\ KR K H kvs ks
 | .ins C dx fs=> ∃ks,H a=some (.ins C dx ks) /\ KR K H fs ks
 | .exc C=>H a=some (.ext (gZ a C))
 | .fz o ks kvs=>H a=some (.kT o (.dK ks)) /\ KR K H kvs ks
def MR.some {K:Uc}{H:Hp}{a:iW}{o:MO}(h:MR K H a o): ∃u,H a=some u:=by
 cases o with
 | lst l=>let⟨_,e,_⟩:=h;show#[_,e]
 | dK l=>let⟨_,e,_⟩:=h;show#[_,e]
 | ins C d l=>let⟨_,e,_⟩:=h;show#[_,e]
 | exc C=>show#[_,h]
 | fz o l l2=>show#[_,h.1]
def MR.mv {K:Uc}{H H':Hp}{a:iW}{o:MO}(t:a5 H H')(e:H' a=H a)(h:MR K H a o):MR K H' a o:=by
 cases o with
 | lst l=>let⟨vs,e1,r⟩:=h;show#[vs,e.trans e1,r.ts t]
 | dK l=>let⟨vs,e1,r⟩:=h;show#[vs,e.trans e1,r.ts t]
 | ins C d l=>let⟨vs,e1,r⟩:=h;show#[vs,e.trans e1,r.ts t]
 | exc C=>show e.trans h
 | fz o l l2=>show#[e.trans h.1,h.2.ts t]
def gg (K:Uc)(M:Mp)(H:Hp):Prop:= ∀a o,M a=some o ->MR K H a o
def gg.fresh {K:Uc}{M:Mp}{H:Hp}(h:gg K M H){p:iW}(hp:H p=none):M p=none:=by
 cases e:M p with
 | none=>rfl
 | some o=>let⟨u,hu⟩:=(h p o e).some;rw[hp] at hu;cases hu
theorem gg.new {K:Uc}{M:Mp}{H:Hp}(h:gg K M H){p:iW}{u:HO}(hp:H p=none):gg K M (cM H p u):=λa o e=>by have:=h a o e;let⟨w,hw⟩:=this.some;show this.mv (L2.ge.ts (cf hp)) (bR (fc hw hp))
theorem CC {H:Hp}{a:iW}{o u:HO}(h:H a=some o)(hn: ∀xs,o≠ .tup xs)(hf: ∀b xs,o≠ .kT b (.tup xs)):a5 H (cM H a u):=λb xs r=>by
 have nb:b≠a:=λe=>by subst e;obtain r | ⟨w,r⟩:=r;rw[h] at r;cases r;show hn _ rfl;rw[h] at r;cases r;show hf _ _ rfl
 unfold Rd;rw[bR nb];show r
theorem gg.put {K:Uc}{M:Mp}{H:Hp}(h:gg K M H){a:iW}{o:MO}{u:HO}(t:a5 H (cM H a u))(new:MR K (cM H a u) a o):gg K (um M a o) (cM H a u):=λb x e=>by by_cases hb:b=a;subst hb;rw[ao] at e;cases e;show new;rw[aQ hb] at e;show(h b x e).mv t (bR hb)
theorem gg.zE {K:Uc}{M:Mp}{H:Hp}(h:gg K M H){p:iW}{l:c_ W}{vs:c_ V}(hp:H p=none)(r:cU K H l vs):gg K (um M p (.lst l)) (cM H p (.lst vs)):=h.put (L2.ge.ts (cf hp)) #[vs,bZ,r.ts (L2.ge.ts (cf hp))]
theorem jL {H:Hp}{a:iW}{xs:c_ V}{u:HO}(h:H a=some (.lst xs)):a5 H (cM H a u):=CC h (λ_ z=>nomatch z) λ_ _ z=>nomatch z
theorem kZ {H:Hp}{a:iW}{xs:c_ (cz×V)}{u:HO}(h:H a=some (.dK xs)):a5 H (cM H a u):=CC h (λ_ z=>nomatch z) λ_ _ z=>nomatch z
theorem OK {H:Hp}{a C d:iW}{xs:c_ (Str×V)}{u:HO}(h:H a=some (.ins C d xs)):a5 H (cM H a u):=CC h (λ_ z=>nomatch z) λ_ _ z=>nomatch z
theorem gg.putL {K:Uc}{M:Mp}{H:Hp}(h:gg K M H){a:iW}{xs:c_ V}{l:c_ W}{vs:c_ V}(e:H a=some (.lst xs))(r:cU K H l vs):gg K (um M a (.lst l)) (cM H a (.lst vs)):=h.put (jL e) #[vs,bZ,r.ts (jL e)]
theorem gg.putD {K:Uc}{M:Mp}{H:Hp}(h:gg K M H){a:iW}{xs:c_ (cz×V)}{l:c_ (cz×W)}{vs:c_ (cz×V)}(e:H a=some (.dK xs))(r:KR K H l vs):gg K (um M a (.dK l)) (cM H a (.dK vs)):=h.put (kZ e) #[vs,bZ,KR.ts (kZ e) r]
def Kt (K:Uc)(H:Hp)(ρ:dm)(σ:St):Prop:=ρ.length=σ.length /\ ∀ (i:Nat) x,ρ[i]? =some (some x) -> ∃v,σ[i]? =some (some v) /\ WR K H x v
theorem Kt.ts {K:Uc}{H H':Hp}{ρ:dm}{σ:St}(t:a5 H H')(h:Kt K H ρ σ):Kt K H' ρ σ:=#[h.1,λi x e=>let ⟨v,a,r⟩:=h.2 i x e;#[v,a,r.ts t]]
structure Ok (K:PySem.W.Frag)(ρ:dm)(M:Mp)(σ:St)(H:Hp):Prop where
 env:Kt K H ρ σ
 hp:gg K M H
theorem Ok.mv {K:Uc}{ρ:dm}{M M':Mp}{σ:St}{H H':Hp}(o:Ok K ρ M σ H)(t:a5 H H')(m:gg K M' H'):Ok K ρ M' σ H':=#[o.env.ts t,m]
def Kt.set {K:Uc}{H:Hp}{ρ:dm}{σ:St}(h:Kt K H ρ σ)(i:Nat){x:W}{v:V}(r:WR K H x v):Kt K H (ρ.set i (some x)) (σ.set i (some v)):=by exact#[by simp[h.1],λj y e=> ?_];rw[List.getElem?_set] at e ⊢;split at e;rename_i hj;rw[am hj];split at e;rename_i mK;rw[am (by rw[<- h.1];show mK)];cases e;show#[v,rfl,r];cases e;rename_i hj;rw[ak hj];show h.2 j y e
section
variable (K:Uc)
class IE (t:TE) (w:outParam WE):Prop where
 imp: ∀ (ρ:dm) (M:Mp) (σ:St) (H:Hp) (q:WK) (Q:VK),Ok K ρ M σ H ->w ρ M q ->(∀x M' v H',q x M' ->a5 H H' ->gg K M' H' ->WR K H' x v ->Q v H') ->t σ H Q
class IT (t:TT) (w:outParam WT):Prop where
 imp: ∀ (ρ:dm) (M:Mp) (σ:St) (H:Hp) (q:Bool ->Mp ->Prop) (Q:Bool ->Hp ->Prop),Ok K ρ M σ H ->w ρ M q ->(∀b M' H',q b M' ->a5 H H' ->gg K M' H' ->Q b H') ->t σ H Q
class IA (t:TA) (w:outParam WA):Prop where
 imp: ∀ (ρ:dm) (M:Mp) (σ:St) (H:Hp) (q:List W ->Mp ->Prop) (Q:List V ->Hp ->Prop),Ok K ρ M σ H ->w ρ M q ->(∀x M' v H',q x M' ->a5 H H' ->gg K M' H' ->cU K H' x v ->Q v H') ->t σ H Q
class IG (t:TG) (w:outParam WG):Prop where
 imp: ∀ (x:W) (v:V) (ρ:dm) (M:Mp) (σ:St) (H:Hp) (q:dm ->Mp ->Prop) (Q:St ->Hp ->Prop),Ok K ρ M σ H ->WR K H x v ->w x ρ M q ->(∀ρ' M' σ' H',q ρ' M' ->a5 H H' ->Ok K ρ' M' σ' H' ->Q σ' H') ->t v σ H Q
class Xb (t:Ku) (w:outParam Mo):Prop where
 imp: ∀ (x:List W) (v:List V) (ρ:dm) (M:Mp) (σ:St) (H:Hp) (q:dm ->Mp ->Prop) (Q:St ->Hp ->Prop),Ok K ρ M σ H ->cU K H x v ->w x ρ M q ->(∀ρ' M' σ' H',q ρ' M' ->a5 H H' ->Ok K ρ' M' σ' H' ->Q σ' H') ->t v σ H Q
structure mj (H:Hp)(D':f8)(D:vi):Prop where
 nx: ∀ρ' M' σ' H',D'.nx ρ' M' ->a5 H H' ->Ok K ρ' M' σ' H' ->D.nx σ' H'
 rt: ∀x M' v H',D'.rt x M' ->a5 H H' ->gg K M' H' ->WR K H' x v ->D.rt v H'
 bk: ∀ρ' M' σ' H',D'.bk ρ' M' ->a5 H H' ->Ok K ρ' M' σ' H' ->D.bk σ' H'
 ct: ∀ρ' M' σ' H',D'.ct ρ' M' ->a5 H H' ->Ok K ρ' M' σ' H' ->D.ct σ' H'
class IS (t:TS) (w:outParam WS):Prop where
 imp: ∀ (ρ:dm) (M:Mp) (σ:St) (H:Hp) (D':f8) (D:vi),Ok K ρ M σ H ->w D' ρ M ->mj K H D' D ->t D σ H
class IR (r:R2) (w:outParam qz):Prop where
 imp: ∀ (x y:W) (v u:V) (M:Mp) (H:Hp) (q:WK) (Q:VK),gg K M H ->WR K H x v ->WR K H y u ->w x y M q ->(∀x M' v H',q x M' ->a5 H H' ->gg K M' H' ->WR K H' x v ->Q v H') ->r v u H Q
class IU (r:V ->Hp ->VK ->Prop) (w:outParam (W ->Mp ->WK ->Prop)):Prop where
 imp: ∀ (x:W) (v:V) (M:Mp) (H:Hp) (q:WK) (Q:VK),gg K M H ->WR K H x v ->w x M q ->(∀x M' v H',q x M' ->a5 H H' ->gg K M' H' ->WR K H' x v ->Q v H') ->r v H Q
class IC (r:List V ->Hp ->VK ->Prop) (w:outParam A6):Prop where
 imp: ∀ (x:List W) (v:List V) (M:Mp) (H:Hp) (q:WK) (Q:VK),gg K M H ->cU K H x v ->w x M q ->(∀x M' v H',q x M' ->a5 H H' ->gg K M' H' ->WR K H' x v ->Q v H') ->r v H Q
end
theorem mj.mv {K:Uc}{H H':Hp}{D':f8}{D:vi}(e:mj K H D' D)(t:a5 H H'):mj K H' D' D:=#[λa b c d h s=>e.nx a b c d h (t.trans s),λa b c d h s=>e.rt a b c d h (t.trans s),λa b c d h s=>e.bk a b c d h (t.trans s),λa b c d h s=>e.ct a b c d h (t.trans s)]
end WL
namespace WL
open PySem L2
section
variable {K:Uc}
def ft (i:Nat):WE:=λρ M q=>match ρ[i]? with
 | some (some x)=>q x M
 | _=>False
def Gq {i:Nat}{ρ:dm}{M:Mp}{q:WK}(h:ft i ρ M q): ∃x,ρ[i]? =some (some x) /\ q x M:=by unfold ft at h;split at h;rename_i x e;show#[x,e,h];show h.elim
instance {i:Nat}:IE K (KL i) (ft i) where
 imp:=λρ M σ H q Q o h k=>let ⟨x,e,h⟩:=Gq h;let ⟨v,e',r⟩:=o.env.2 i x e;#[v,e',k x M v H h (a5.refl H) o.hp r]
def wC (x:W):WE:=λ_ M q=>q x M
instance {v:V}:IE K (tC v) (wC (.v v)) where
 imp:=λρ M σ H q Q o h k=>k (.v v) M v H h (a5.refl H) o.hp WR.v
def Ky (r:qz)(a b:WE):WE:=λρ M q=>a ρ M λx M1=>b ρ M1 λy M2=>r x y M2 q
instance {r:R2}{w:qz}{ta tb:TE}{a b:WE} [ir:IR K r w] [ia:IE K ta a] [ib:IE K tb b]:IE K (Sx r ta tb) (Ky w a b) where
 imp:=λρ M σ H q Q o h k=>ia.imp ρ M σ H _ _ o h λx M1 v H1 h1 t1 m1 r1=>ib.imp ρ M1 σ H1 _ _ (o.mv t1 m1) h1 λy M2 u H2 h2 t2 m2 r2=>ir.imp x y v u M2 H2 _ _ m2 (r1.ts t2) r2 h2 λz M3 v3 H3 h3 t3 m3 r3=>k z M3 v3 H3 h3 ((t1.trans t2).trans t3) m3 r3
def wUn (r:W ->Mp ->WK ->Prop)(a:WE):WE:=λρ M q=>a ρ M λx M1=>r x M1 q
instance {r:V ->Hp ->VK ->Prop}{w:W ->Mp ->WK ->Prop}{ta:TE}{a:WE} [ir:IU K r w] [ia:IE K ta a]:IE K (tUn r ta) (wUn w a) where
 imp:=λρ M σ H q Q o h k=>ia.imp ρ M σ H _ _ o h λx M1 v H1 h1 t1 m1 r1=>ir.imp x v M1 H1 _ _ m1 r1 h1 λz M3 v3 H3 h3 t3 m3 r3=>k z M3 v3 H3 h3 (t1.trans t3) m3 r3
def wI (C:Int ->Int ->Prop)(g:Int ->Int ->V):qz:=λx y M q=> ∃i j,x=wi i /\ y=wi j /\ C i j /\ q (.v (g i j)) M
def XH (g:Int ->Int ->V):qz:=λx y M q=>cE λi j=>cS (x=wi i) (y=wi j) (q (.v (g i j)) M)
def wU (g:Int ->V):W ->Mp ->WK ->Prop:=λx M q=> ∃i,x=wi i /\ q (.v (g i)) M
instance {C:Int ->Int ->Prop}{g:Int ->Int ->V}:IR K (rI C g) (wI C g) where
 imp:=by rintro x y v u M H q Q m r1 r2 ⟨i,j,rfl,rfl,c,h⟩ k;show#[i,j,r1.eq,r2.eq,c,k _ M _ H h (a5.refl H) m WR.v]
instance {g:Int ->Int ->V}:IR K (K0 g) (XH g) where
 imp:=by rintro x y v u M H q Q m r1 r2 ⟨i,j,rfl,rfl,h⟩ k;show#[i,j,r1.eq,r2.eq,k _ M _ H h (a5.refl H) m WR.v]
instance {g:Int ->V}:IU K (rU g) (wU g) where
 imp:=by rintro x v M H q Q m r1 ⟨i,rfl,h⟩ k;show#[i,r1.eq,k _ M _ H h (a5.refl H) m WR.v]
def Q3:qz:=λx y M q=>cE λa b=>fi (x= .v a) (y= .v b) (KS a b=true) (q (wb (decide (a=b))) M)
def Xw:qz:=λx y M q=>cE λa b=>fi (x= .v a) (y= .v b) (KS a b=true) (q (wb (!decide (a=b))) M)
instance:IR K rEq Q3 where
 imp:=by rintro x y v u M H q Q m r1 r2 ⟨i,j,rfl,rfl,c,h⟩ k;cases r1.eq;cases r2.eq;show#[c,k _ M _ H h (a5.refl H) m WR.v]
instance:IR K rNe Xw where
 imp:=by rintro x y v u M H q Q m r1 r2 ⟨i,j,rfl,rfl,c,h⟩ k;cases r1.eq;cases r2.eq;show#[c,k _ M _ H h (a5.refl H) m WR.v]
def yQ (a:WE):WT:=λρ M q=>a ρ M λx M1=> ∃k,x=wb k /\ q k M1
instance {t:TE}{a:WE} [ia:IE K t a]:IT K (GO t) (yQ a) where
 imp:=λρ M σ H q Q o h k=>ia.imp ρ M σ H _ _ o h λx M1 v H1 ⟨b,e,h1⟩ t1 m1 r1=>by subst e;show#[b,r1.eq,k b M1 H1 h1 t1 m1]
instance {t:TE}{a:WE} [ia:IE K t a]:IT K (tB t) (yQ a) where
 imp:=λρ M σ H q Q o h k=>ia.imp ρ M σ H _ _ o h λx M1 v H1 ⟨b,e,h1⟩ t1 m1 r1=>by subst e;show#[b,r1.eq,k b M1 H1 h1 t1 m1]
def Sd (a b:WT):WT:=λρ M q=>a ρ M λc M1=>if c=true then b ρ M1 q else q false M1
def wOr (a b:WT):WT:=λρ M q=>a ρ M λc M1=>if c=true then q true M1 else b ρ M1 q
def RQ (a:WT):WT:=λρ M q=>a ρ M λc M1=>q (!c) M1
instance {t u:TT}{a b:WT} [ia:IT K t a] [ib:IT K u b]:IT K (SJ t u) (Sd a b) where
 imp:=λρ M σ H q Q o h k=>ia.imp ρ M σ H _ _ o h λc M1 H1 h1 t1 m1=>by
  cases c with
  | true=>simp![cc] at h1 ⊢;show ib.imp ρ M1 σ H1 _ _ (o.mv t1 m1) h1 λb M2 H2 h2 t2 m2=>k b M2 H2 h2 (t1.trans t2) m2
  | false=>simp![aA,bD] at h1 ⊢;show k _ M1 H1 h1 t1 m1
instance {t u:TT}{a b:WT} [ia:IT K t a] [ib:IT K u b]:IT K (tOr t u) (wOr a b) where
 imp:=λρ M σ H q Q o h k=>ia.imp ρ M σ H _ _ o h λc M1 H1 h1 t1 m1=>by
  cases c with
  | false=>simp![aA,bD] at h1 ⊢;show ib.imp ρ M1 σ H1 _ _ (o.mv t1 m1) h1 λb M2 H2 h2 t2 m2=>k b M2 H2 h2 (t1.trans t2) m2
  | true=>simp![cc] at h1 ⊢;show k _ M1 H1 h1 t1 m1
instance {t:TT}{a:WT} [ia:IT K t a]:IT K (Sy t) (RQ a) where
 imp:=λρ M σ H q Q o h k=>ia.imp ρ M σ H _ _ o h λc M1 H1 h1 t1 m1=>k _ M1 H1 h1 t1 m1
def MY (a b:WE):WE:=λρ M q=>a ρ M λx M1=> ∃c,x=wb c /\ if c=true then b ρ M1 q else q (wb false) M1
def RP (a b:WE):WE:=λρ M q=>a ρ M λx M1=> ∃c,x=wb c /\ if c=true then q (wb true) M1 else b ρ M1 q
def MP (a:WE):WE:=λρ M q=>a ρ M λx M1=> ∃c,x=wb c /\ q (wb (!c)) M1
instance {t u:TE}{a b:WE} [ia:IE K t a] [ib:IE K u b]:IE K (Nl t u) (MY a b) where
 imp:=λρ M σ H q Q o h k=>ia.imp ρ M σ H _ _ o h λx M1 v H1 ⟨c,e,h1⟩ t1 m1 r1=>by
  subst e;exact#[c,r1.eq,?_];cases c with
  | true=>simp![cc] at h1 ⊢;show ib.imp ρ M1 σ H1 _ _ (o.mv t1 m1) h1 λb M2 v H2 h2 t2 m2 r2=>k b M2 v H2 h2 (t1.trans t2) m2 r2
  | false=>simp![aA,bD] at h1 ⊢;show k _ M1 _ H1 h1 t1 m1 WR.v
instance {t u:TE}{a b:WE} [ia:IE K t a] [ib:IE K u b]:IE K (Sw t u) (RP a b) where
 imp:=λρ M σ H q Q o h k=>ia.imp ρ M σ H _ _ o h λx M1 v H1 ⟨c,e,h1⟩ t1 m1 r1=>by
  subst e;exact#[c,r1.eq,?_];cases c with
  | false=>simp![aA,bD] at h1 ⊢;show ib.imp ρ M1 σ H1 _ _ (o.mv t1 m1) h1 λb M2 v H2 h2 t2 m2 r2=>k b M2 v H2 h2 (t1.trans t2) m2 r2
  | true=>simp![cc] at h1 ⊢;show k _ M1 _ H1 h1 t1 m1 WR.v
instance {t:TE}{a:WE} [ia:IE K t a]:IE K (Nh t) (MP a) where
 imp:=λρ M σ H q Q o h k=>ia.imp ρ M σ H _ _ o h λx M1 v H1 ⟨c,e,h1⟩ t1 m1 r1=>by subst e;show#[c,r1.eq,k _ M1 _ H1 h1 t1 m1 WR.v]
def GD (r r':qz)(a b c:WE):WE:=λρ M q=>a ρ M λx M1=>b ρ M1 λy M2=>r x y M2 λz M3=> ∃k,z=wb k /\ if k=true then c ρ M3 λy' M4=>r' y y' M4 λz' M5=>q z' M5 else q (wb false) M3
def RS:WA:=λ_ M q=>q [] M
def MU (a:WE)(r:WA):WA:=λρ M q=>a ρ M λx M1=>r ρ M1 λxs M2=>q (x::xs) M2
instance:IA K EE RS where
 imp:=λρ M σ H q Q o h k=>k [] M [] H h (a5.refl H) o.hp cU.nil
instance {t:TE}{u:TA}{a:WE}{b:WA} [ia:IE K t a] [ib:IA K u b]:IA K (GX t u) (MU a b) where
 imp:=λρ M σ H q Q o h k=>ia.imp ρ M σ H _ _ o h λx M1 v H1 h1 t1 m1 r1=>ib.imp ρ M1 σ H1 _ _ (o.mv t1 m1) h1 λy M2 u H2 h2 t2 m2 r2=>k _ M2 _ H2 h2 (t1.trans t2) m2 (cU.cons (r1.ts t2) r2)
def RK (a:WA):WE:=λρ M q=>a ρ M λxs M1=>xs.length<=sizeLine /\ q (.tup xs) M1
def RU (a:WA):WE:=λρ M q=>a ρ M λxs M1=>xs.length<=sizeLine /\ ∀p,M1 p=none ->q (wr p) (um M1 p (.lst xs))
instance {t:TA}{a:WA} [ia:IA K t a]:IE K (Ss t) (RK a) where
 imp:=λρ M σ H q Q o h k=>ia.imp ρ M σ H _ _ o h λx M1 v H1 ⟨hl,h1⟩ t1 m1 r1=>#[by rw[r1.length];show hl,λp hp=>k _ M1 _ _ h1 (t1.trans (L2.ge.ts (cf hp))) (m1.new hp) (WR.PK (kW.of bZ) (r1.ts (L2.ge.ts (cf hp))))]
instance {t:TA}{a:WA} [ia:IA K t a]:IE K (Sz t) (RU a) where
 imp:=λρ M σ H q Q o h k=>ia.imp ρ M σ H _ _ o h λx M1 v H1 ⟨hl,h1⟩ t1 m1 r1=>#[by rw[r1.length];show hl,λp hp=>k _ _ _ _ (h1 p (m1.fresh hp)) (t1.trans (L2.ge.ts (cf hp))) (m1.zE hp r1) WR.v]
def RW:qz:=λx y M q=>gm λa l i u=>gJ (x=wr a) (y=wi i) (M a=some (.lst l)) (iF l i=some u) (q u M)
def Gx:qz:=λx y M q=>eE λl i u=>fi (x= .tup l) (y=wi i) (iF l i=some u) (q u M)
def cU.iF {H:Hp}{l:c_ W}{vs:c_ V}{i:Int}{u:W}(r:cU K H l vs)(e:iF l i=some u): ∃v,L2.iF vs i=some v /\ WR K H u v:=by
 unfold L2.iF at e ⊢;rw[r.length];cases h:A2 l.length i with
 | none=>rw[h] at e;cases e
 | some j=>rw[h] at e;show r.at e
instance:IR K (i_ K) RW where
 imp:=by rintro x y v u M H q Q m r1 r2 ⟨a,l,i,z,rfl,rfl,hl,e,h⟩ k;let⟨vs,hv,r⟩:=m a _ hl;let⟨v',e',r'⟩:=r.iF e;show#[a,vs,i,v',r1.eq,r2.eq,iH.of hv,e',k _ M _ H h (a5.refl H) m r']
instance:IR K (bt K) Gx where
 imp:=by rintro x y v u M H q Q m r1 r2 ⟨l,i,z,rfl,rfl,e,h⟩ k;let⟨a,vs,rfl,hv,r⟩:=r1.tup;let⟨v',e',r'⟩:=r.iF e;show#[a,vs,i,v',rfl,r2.eq,hv,e',k _ M _ H h (a5.refl H) m r']
end
abbrev WO:=dm ->Mp ->(gC Int ->Mp ->Prop) ->Prop
class IO (K:PySem.W.Frag) (t:TO) (w:outParam WO):Prop where
 imp: ∀ (ρ:dm) (M:Mp) (σ:St) (H:Hp) (q:Option Int ->Mp ->Prop) (Q:Option Int ->Hp ->Prop),Ok K ρ M σ H ->w ρ M q ->(∀b M' H',q b M' ->a5 H H' ->gg K M' H' ->Q b H') ->t σ H Q
abbrev Vj:=W ->gC Int ->gC Int ->Mp ->WK ->Prop
class ISl (K:PySem.W.Frag) (r:V ->Option Int ->Option Int ->Hp ->VK ->Prop) (w:outParam Vj):Prop where
 imp: ∀ (x:W) (v:V) (lo hi:Option Int) (M:Mp) (H:Hp) (q:WK) (Q:VK),gg K M H ->WR K H x v ->w x lo hi M q ->(∀x M' v H',q x M' ->a5 H H' ->gg K M' H' ->WR K H' x v ->Q v H') ->r v lo hi H Q
section
variable {K:Uc}
def Cy:WO:=λ_ M q=>q none M
def MN (a:WE):WO:=λρ M q=>a ρ M λx M1=> ∃i,x=wi i /\ q (some i) M1
instance:IO K CH Cy where
 imp:=λρ M σ H q Q o h k=>k _ M H h (a5.refl H) o.hp
instance {t:TE}{a:WE} [ia:IE K t a]:IO K (Nf t) (MN a) where
 imp:=λρ M σ H q Q o h k=>ia.imp ρ M σ H _ _ o h λx M1 v H1 ⟨i,e,h1⟩ t1 m1 r1=>by subst e;show#[i,r1.eq,k _ M1 H1 h1 t1 m1]
def wSl (r:Vj)(a:WE)(lo hi:WO):WE:=λρ M q=>a ρ M λx M1=>lo ρ M1 λl M2=>hi ρ M2 λu M3=>r x l u M3 q
instance {r:V ->gC Int ->gC Int ->Hp ->VK ->Prop}{w:Vj}{t:TE}{tl th:TO}{a:WE}{lo hi:WO} [ir:ISl K r w] [ia:IE K t a] [il:IO K tl lo] [ih:IO K th hi]:IE K (tSl r t tl th) (wSl w a lo hi) where
 imp:=λρ M σ H q Q o h k=>ia.imp ρ M σ H _ _ o h λx M1 v H1 h1 t1 m1 r1=>il.imp ρ M1 σ H1 _ _ (o.mv t1 m1) h1 λl M2 H2 h2 t2 m2=>ih.imp ρ M2 σ H2 _ _ (o.mv (t1.trans t2) m2) h2 λu M3 H3 h3 t3 m3=>ir.imp x v l u M3 H3 _ _ m3 (r1.ts (t2.trans t3)) h3 λy M4 v4 H4 h4 t4 m4 r4=>k y M4 v4 H4 h4 (((t1.trans t2).trans t3).trans t4) m4 r4
def wCB (r:A6)(a:WA):WE:=λρ M q=>a ρ M λxs M1=>r xs M1 q
instance {r:c_ V ->Hp ->VK ->Prop}{w:A6}{t:TA}{a:WA} [ir:IC K r w] [ia:IA K t a]:IE K (X6 r t) (wCB w a) where
 imp:=λρ M σ H q Q o h k=>ia.imp ρ M σ H _ _ o h λx M1 v H1 h1 t1 m1 r1=>ir.imp x v M1 H1 _ _ m1 r1 h1 λy M4 v4 H4 h4 t4 m4 r4=>k y M4 v4 H4 h4 (t1.trans t4) m4 r4
abbrev fG:=c_ W ->Mp ->WK ->Prop
def fD (K:Uc)(p:fG):Sp:=λvs H Q _=>eE λ(xs:c_ W) (M:Mp) (q:WK)=>fi (cU K H xs vs) (gg K M H) (p xs M q) (∀x M' v H',q x M' ->a5 H H' ->gg K M' H' ->WR K H' x v ->Q v H')
def MX (p:fG)(a:WA):WE:=λρ M q=>a ρ M λxs M1=>p xs M1 q
instance {p:fG}{E:XK}{t:TA}{a:WA} [ia:IA K t a]:IE K (vW (fD K p) [] E t) (MX p a) where
 imp:=λρ M σ H q Q o h k=>ia.imp ρ M σ H _ _ o h λx M1 v H1 h1 t1 m1 r1=>#[x,M1,q,by rw[c8];show r1,m1,h1,λy M4 v4 H4 h4 t4 m4 r4=>k y M4 v4 H4 h4 (t1.trans t4) m4 r4]
def okW {P:Y1}{w:ZW}{mg:Str ->gC dC}{base:ZX}{x qual:Str}{st:Stmt}{f:iW}{fd:ZZ}{N ps:c_ Str}{k:Nat}{p:fG}(F:AI K x qual st f fd)(S:cH N ps (aV st))(len: ∀vs M q,p vs M q ->vs.length=ps.length) (jC: ∀ (cdv:dC) (A:Z0) (outer:c_ Env) (s:gw) (H:Hp) (E:XK),eG k (A.deeper (PyProof.Rows.envOfC qual (aV st) s.heap.objs.size f cdv)) ->cE λt w'=>cS (yI (eL e9 P w K mg base N qual (aV st) f cdv A outer s H E).J7 (dM st) t) (IS K t w') (∀vs M q,p vs M q ->w' {nx:=λ_ M'=>q wn M',rt:=q} (vs.map some++List.replicate (N.length - vs.length) none) M)): bE P w K mg base e9 (k+1) f fd ps (fD K p):=by
 exact AI.ok F S (λvs H Q E ⟨xs,M,q,r,m,h,_⟩=>by rw[r.length];show len xs M q h) λcdv A outer s H vs Q E hr h=> ?_;let⟨t,w',h1,h2,h3⟩:=jC cdv A outer s H E hr;let⟨xs,M,q,r,m,h,k'⟩:=h;exact#[t,h1,h2.imp _ M _ H _ _ #[#[?_,λi x e=> ?_],m] (h3 xs M q h) #[λρ' M' σ' H' h ts o=>k' _ M' _ H' h ts o.hp WR.v,λx M' v H' h ts m' r'=>k' x M' v H' h ts m' r',λ_ _ _ _ h=>h.elim,λ_ _ _ _ h=>h.elim]];have:=r.length;simp[L2.start,this];have hl:=r.length;unfold L2.start;by_cases hi:i<xs.length;rw[bi ⇑hi,aI] at e;cases ex:xs[i]? with
 | none=>rw[ex] at e;cases e
 | some y=>rw[ex] at e;cases e;let⟨v,hv,rv⟩:=r.at ex;exact#[v,?_,rv];rw[bi (by simp;lia),aI,hv];rfl
 rw[a9 ⇑hi,dk] at e;split at e<;>cases e
def O1 (K:Uc):c_ V ->Hp ->VK ->Prop:=λxs H Q=>cE λp ys=>cS (xs= [.ref p]) (iH K H p ys \/ kW K H p ys) (Q (.int ys.length) H)
theorem FD {X:Cx}:fq X (.builtin "len") (O1 X.K):=yo
def Ox:A6:=λxs M q=>(cE λa l=>cS (xs= [wr a]) (M a=some (.lst l)) (q (wi l.length) M)) \/ ∃l,xs= [.tup l] /\ q (wi l.length) M
def cU.one {H:Hp}{x:W}{vs:c_ V}(h:cU K H [x] vs): ∃v,vs= [v] /\ WR K H x v:=by simp![cU] at h;let⟨v,t,rfl,h1,rfl⟩:=h;show#[v,rfl,h1]
def cU.two {H:Hp}{x y:W}{vs:c_ V}(h:cU K H [x,y] vs):cE λv u=>cS (vs= [v,u]) (WR K H x v) (WR K H y u):=by simp![cU] at h;let⟨v,t,rfl,h1,u,t',rfl,h2,rfl⟩:=h;show#[v,u,rfl,h1,h2]
instance:IC K (O1 K) Ox where
 imp :=by
  rintro xs v M H q Q m r1 h k;rcases h with⟨a,l,rfl,hl,h⟩ | ⟨l,rfl,h⟩
  let⟨v,rfl,r⟩:=r1.one;cases r.eq;let⟨vs,hv,rr⟩:=m a _ hl;exact#[a,vs,rfl, .inl (iH.of hv),k _ M _ H h (a5.refl H) m ?_];rw[rr.length];show WR.v;let⟨v,rfl,r⟩:=r1.one;let⟨a,vs,rfl,hv,rr⟩:=r.tup;exact#[a,vs,rfl, .inr hv,k _ M _ H h (a5.refl H) m ?_];rw[rr.length];show WR.v
def Te:c_ V ->Hp ->VK ->Prop:=λxs H Q=> ∃i,xs= [.int i] /\ Q (.int (if i<0 then -i else i)) H
theorem fM {X:Cx}:fq X (.builtin "abs") Te:=Jv
def Se:A6:=λxs M q=> ∃i,xs= [wi i] /\ q (wi (if i<0 then -i else i)) M
instance:IC K Te Se where
 imp:=by rintro xs v M H q Q m r1 ⟨i,rfl,h⟩ k;let⟨v,rfl,r⟩:=r1.one;cases r.eq;show#[i,rfl,k _ M _ H h (a5.refl H) m WR.v]
def C3 (K:Uc):c_ V ->Hp ->VK ->Prop:=λxs H Q=>cE λp ys=>cS (xs= [.ref p]) (iH K H p ys \/ kW K H p ys) (∀l,H l=none ->Q (.ref l) (cM H l (.lst ys)))
theorem eM {X:Cx}:fq X (.type "list") (C3 X.K):=ym
def xn:A6:=λxs M q=> ∃l,((∃a,xs= [wr a] /\ M a=some (.lst l)) \/ xs= [.tup l]) /\ ∀p,M p=none ->q (wr p) (um M p (.lst l))
instance:IC K (C3 K) xn where
 imp :=by
  rintro xs v M H q Q m r1 ⟨l,hx,h⟩ k;rcases hx with⟨a,rfl,hl⟩ | rfl
  let⟨v,rfl,r⟩:=r1.one;cases r.eq;let⟨vs,hv,rr⟩:=m a _ hl;show#[a,vs,rfl, .inl (iH.of hv),λp hp=>k _ _ _ _ (h p (m.fresh hp)) (L2.ge.ts (cf hp)) (m.zE hp rr) WR.v];let⟨v,rfl,r⟩:=r1.one;let⟨a,vs,rfl,hv,rr⟩:=r.tup;show#[a,vs,rfl, .inr hv,λp hp=>k _ _ _ _ (h p (m.fresh hp)) (L2.ge.ts (cf hp)) (m.zE hp rr) WR.v]
def zm (K:Uc):c_ V ->Hp ->VK ->Prop:=λxs H Q=>cE λp ys=>xs= [.ref p] /\ ((iH K H p ys /\ ∀l,H l=none ->Q (.ref l) (cM H l (.tup ys))) \/ (kW K H p ys /\ Q (.ref p) H))
theorem gG {X:Cx}:fq X (.type "tuple") (zm X.K):=vH
def yP:A6:=λxs M q=> ∃l,((∃a,xs= [wr a] /\ M a=some (.lst l)) \/ xs= [.tup l]) /\ q (.tup l) M
instance:IC K (zm K) yP where
 imp :=by
  rintro xs v M H q Q m r1 ⟨l,hx,h⟩ k;rcases hx with⟨a,rfl,hl⟩ | rfl
  let⟨v,rfl,r⟩:=r1.one;cases r.eq;let⟨vs,hv,rr⟩:=m a _ hl;show#[a,vs,rfl, .inl #[iH.of hv,λp hp=>k _ M _ _ h (L2.ge.ts (cf hp)) (m.new hp) (WR.PK (kW.of bZ) (rr.ts (L2.ge.ts (cf hp))))]];let⟨v,rfl,r⟩:=r1.one;let⟨a,vs,rfl,hv,rr⟩:=r.tup;show#[a,vs,rfl, .inr #[hv,k _ M _ H h (a5.refl H) m (WR.PK hv rr)]]
theorem cU.ofInts {H:Hp}: ∀ (ns:c_ Int),cU K H (ns.map wi) (ns.map V.int)
 | []=>cU.nil
 | n::r=>cU.cons WR.v (cU.ofInts r)
def V4 (M:Mp):W ->gC dC
 | .v (.int _)=>some (.type "int")
 | .v (.bl _)=>some (.type "bool")
 | .v (.str _)=>some (.type "str")
 | .v .d0=>some (.type "NoneType")
 | .tup _=>some (.type "tuple")
 | .v (.ref a)=>match M a with
  | some (.lst _)=>some (.type "list")
  | _=>none
 | _=>none
def RX (K:Uc):A6:=λxs M q=>gm λx T t b=>fi (xs= [x, .v (.ty T)]) (V4 M x=some t) (W.kitOne K t (.type T)=some b) (q (wb b) M)
def OH {H:Hp}{M:Mp}{x:W}{v:V}{t:dC}(m:gg K M H)(r:WR K H x v)(e:V4 M x=some t):Vl K H v t:=by
 cases x with
 | tup l=>let⟨a,vs,rfl,hv,rr⟩:=r.tup;cases e;show .tup hv
 | v y =>
  cases r.eq;cases v with
  | int i=>cases e;show .of (.int i)
  | bl i=>cases e;show .of (.bl i)
  | str i=>cases e;show .of (.str i)
  | d0=>cases e;show .of .d0
  | ref a=>
   simp![V4] at e;cases ha:M a with
   | none=>rw[ha] at e;cases e
   | some o=>
    rw[ha] at e;cases o with
    | lst l=>cases e;let⟨vs,hv,_⟩:=m a _ ha;show .lst (iH.of hv)
    | dK l=>cases e
    | ins C d l=>cases e
    | exc C=>cases e
    | fz o l l2=>cases e
  | FE _=>cases e
  | LZ _=>cases e
  | ty _=>cases e
instance:IC K (O2 K) (RX K) where
 imp:=by rintro xs v M H q Q m r1 ⟨x,T,t,b,rfl,ht,e,h⟩ k;let⟨v,u,rfl,r,r'⟩:=r1.two;cases r'.eq;show#[v,T,t,b,rfl,OH m r ht,e,k _ M _ H h (a5.refl H) m WR.v]
end
section
variable {K:Uc}
abbrev WM:=W ->c_ W ->Mp ->WK ->Prop
class IM (K:PySem.W.Frag) (r:V ->List V ->Hp ->VK ->Prop) (w:outParam WM):Prop where
 imp: ∀ (x:W) (v:V) (ys:List W) (us:List V) (M:Mp) (H:Hp) (q:WK) (Q:VK),gg K M H ->WR K H x v ->cU K H ys us ->w x ys M q ->(∀x M' v H',q x M' ->a5 H H' ->gg K M' H' ->WR K H' x v ->Q v H') ->r v us H Q
def IsL (M:Mp)(x:W):Prop:=cE λa l=>x=wr a /\ M a=some (.lst l)
def IsL.ty {M:Mp}{H:Hp}{x:W}{v:V}(m:gg K M H)(r:WR K H x v)(h:IsL M x):V5 K "list" v H:=by let⟨a,l,rfl,hl⟩:=h;cases r.eq;let⟨vs,hv,_⟩:=m a _ hl;show .inl #[rfl,vs,iH.of hv]
def XS (r:WM)(a:WE)(b:WA):WE:=λρ M q=>a ρ M λx M1=>IsL M1 x /\ b ρ M1 λxs M2=>r x xs M2 q
def OD (r:WM)(a:WE):WE:=λρ M q=>a ρ M λx M1=>IsL M1 x /\ r x [] M1 q
instance {r:V ->c_ V ->Hp ->VK ->Prop}{w:WM}{t:TE}{u:TA}{a:WE}{b:WA} [ir:IM K r w] [ia:IE K t a] [ib:IA K u b]:IE K (V8 K "list" r t u) (XS w a b) where
 imp:=λρ M σ H q Q o h k=>ia.imp ρ M σ H _ _ o h λx M1 v H1 ⟨hl,h1⟩ t1 m1 r1=>#[hl.ty m1 r1,ib.imp ρ M1 σ H1 _ _ (o.mv t1 m1) h1 λy M2 u H2 h2 t2 m2 r2=>ir.imp x v y u M2 H2 _ _ m2 (r1.ts t2) r2 h2 λz M3 v3 H3 h3 t3 m3 r3=>k z M3 v3 H3 h3 ((t1.trans t2).trans t3) m3 r3]
instance {r:V ->c_ V ->Hp ->VK ->Prop}{w:WM}{t:TE}{a:WE} [ir:IM K r w] [ia:IE K t a]:IE K (SH K "list" r t) (OD w a) where
 imp:=λρ M σ H q Q o h k=>ia.imp ρ M σ H _ _ o h λx M1 v H1 ⟨hl,h1⟩ t1 m1 r1=>#[hl.ty m1 r1,ir.imp x v [] [] M1 H1 _ _ m1 r1 cU.nil h1 λz M3 v3 H3 h3 t3 m3 r3=>k z M3 v3 H3 h3 (t1.trans t3) m3 r3]
def CA:WM:=λx ys M q=>eE λa l y=>gJ (x=wr a) (ys= [y]) (M a=some (.lst l)) (l.length<sizeLine) (q wn (um M a (.lst (l++ [y]))))
instance:IM K C6 CA where
 imp:=by rintro x v ys us M H q Q m r1 r2 ⟨a,l,y,rfl,rfl,hl,hn,h⟩ k;cases r1.eq;let⟨u,rfl,r⟩:=r2.one;let⟨vs,hv,rr⟩:=m a _ hl;show#[a,vs,u,rfl,rfl,hv,by rw[rr.length];show hn,k _ _ _ _ h (jL hv) (m.putL hv (rr.snoc r)) WR.v]
def Cz:WM:=λx ys M q=>gm λa b l l'=>kQ (x=wr a) (ys= [wr b]) (M a=some (.lst l)) (M b=some (.lst l')) (l.length+l'.length<=sizeLine) (q wn (um M a (.lst (l++l'))))
instance:IM K C5 Cz where
 imp:=by rintro x v ys us M H q Q m r1 r2 ⟨a,b,l,l',rfl,rfl,hl,qY,hn,h⟩ k;cases r1.eq;let⟨u,rfl,r⟩:=r2.one;cases r.eq;let⟨vs,hv,rr⟩:=m a _ hl;let⟨OE,LM,Nu⟩:=m b _ qY;show#[a,b,vs,OE,rfl,rfl,hv,LM,by rw[rr.length,Nu.length];show hn,k _ _ _ _ h (jL hv) (m.putL hv (rr.append Nu)) WR.v]
def Sb:qz:=λx y M q=>gm λa b l l'=>kQ (x=wr a) (y=wr b) (M a=some (.lst l)) (M b=some (.lst l')) (l.length+l'.length<=sizeLine) (∀p,M p=none ->q (wr p) (um M p (.lst (l++l'))))
instance:IR K Tb Sb where
 imp:=by rintro x y v u M H q Q m r1 r2 ⟨a,b,l,l',rfl,rfl,hl,qY,hn,h⟩ k;cases r1.eq;cases r2.eq;let⟨vs,hv,rr⟩:=m a _ hl;let⟨OE,LM,Nu⟩:=m b _ qY;show#[a,b,vs,OE,rfl,rfl,hv,LM,by rw[rr.length,Nu.length];show hn,λp hp=>k _ _ _ _ (h p (m.fresh hp)) (L2.ge.ts (cf hp)) (m.zE hp (rr.append Nu)) WR.v]
def iN:cz ->W
 | .inl k=>wi k
 | .inr x=>ws x
def fu (kvs:c_ (cz×W))(k:cz):gC W:=(kvs.find? λkv=>decide (kv.1=k)).map (·.2)
def xH (kvs:c_ (cz×W))(k:cz)(v:W):c_ (cz×W):=if(kvs.any λkv=>decide (kv.1=k))=true then kvs.map (λkv=>if kv.1=k then(kv.1,v) else kv) else kvs++ [(k,v)]
def jG (kvs:c_ (cz×W))(k:cz):c_ (cz×W):=kvs.filter λkv=>decide (kv.1≠k)
theorem KR.keys {H:Hp}: ∀ {l:c_ (cz×W)} {vs:c_ (cz×V)},KR K H l vs ->vs.map (·.1)=l.map (·.1)
 | _,_, .nil=>rfl
 | _,_, .cons ⟨e,r⟩ t=>by rw[aH,aH,KR.keys t,e]
theorem KR.length {H:Hp}{κ:Type}: ∀ {l:c_ (κ×W)} {vs:c_ (κ×V)},KR K H l vs ->vs.length=l.length
 | _,_, .nil=>rfl
 | _,_, .cons _ t=>by rw[az,az,KR.length t]
theorem KR.val {H:Hp}(k:cz): ∀ {l:c_ (cz×W)} {vs:c_ (cz×V)},KR K H l vs ->(fu l k=none /\ iL vs k=none) \/ cE λx v=>cS (fu l k=some x) (iL vs k=some v) (WR K H x v)
 | _,_, .nil=> .inl #[rfl,rfl]
 | (k1,x)::l,(k2,v)::vs, .cons ⟨e,r⟩ t=>by have e:k1=k2:=e;subst e;unfold fu iL;rw[cL,cL];by_cases hk:k1=k;simp![hk,cD];show .inr #[x,v,rfl,rfl,r];simp![hk,decide_false];show KR.val k t
theorem KR.map {H:Hp}{k:cz}{x:W}{v:V}(rx:WR K H x v): ∀ {l:c_ (cz×W)} {vs:c_ (cz×V)},KR K H l vs ->KR K H (l.map (λkv=>if kv.1=k then(kv.1,x) else kv)) (vs.map (λkv=>if kv.1=k then(kv.1,v) else kv))
 | _,_, .nil=> .nil
 | (k1,y)::l,(k2,u)::vs, .cons ⟨e,r⟩ t=>by have e:k1=k2:=e;subst e;rw[aH,aH];exact .cons ?_ (KR.map rx t);by_cases hk:k1=k;rw[am hk,am hk];show#[rfl,rx];rw[ak hk,ak hk];show#[rfl,r]
theorem KR.append {H:Hp}{k:cz}{x:W}{v:V}(rx:WR K H x v): ∀ {l:c_ (cz×W)} {vs:c_ (cz×V)},KR K H l vs ->KR K H (l++ [(k,x)]) (vs++ [(k,v)])
 | _,_, .nil=> .cons #[rfl,rx] .nil
 | _,_, .cons r t=> .cons r (KR.append rx t)
def KR.put {H:Hp}{k:cz}{x:W}{v:V}(rx:WR K H x v){l:c_ (cz×W)}{vs:c_ (cz×V)}(r:KR K H l vs):KR K H (xH l k x) (mI vs k v):=by
 have ek:(l.any λkv=>decide (kv.1=k))=vs.any λkv=>decide (kv.1=k):=by
  have:=r.keys;have e1:(l.any λkv=>decide (kv.1=k))=(l.map (·.1)).any λy=>decide (y=k):=by rw[List.any_map];rfl
  have e2:(vs.any λkv=>decide (kv.1=k))=(vs.map (·.1)).any λy=>decide (y=k):=by rw[List.any_map];rfl
  rw[e1,e2,this]
 unfold xH mI;rw[ek];split;show KR.map rx r;show KR.append rx r
theorem KR.drop {H:Hp}{k:cz}: ∀ {l:c_ (cz×W)} {vs:c_ (cz×V)},KR K H l vs ->KR K H (jG l k) (lS vs k)
 | _,_, .nil=> .nil
 | (k1,y)::l,(k2,u)::vs, .cons ⟨e,r⟩ t=>by have e:k1=k2:=e;subst e;unfold jG lS;rw[List.filter_cons,List.filter_cons];by_cases hk:k1=k;simp![hk,ne_eq,not_true,decide_false,aA,bD];show KR.drop t;simp![ne_eq,hk,not_false_eq_true,cD,cc];show .cons #[rfl,r] (KR.drop t)
def iX {H:Hp}{k:cz}{v:V}(r:WR K H (iN k) v):v=kV k:=by cases k<;>show r.eq
def MT:WE:=λ_ M q=> ∀p,M p=none ->q (wr p) (um M p (.dK []))
instance:IE K GS MT where
 imp:=λρ M σ H q Q o h k=>λp hp=>k _ _ _ _ (h p (o.hp.fresh hp)) (L2.ge.ts (cf hp)) (o.hp.put (L2.ge.ts (cf hp)) #[[],bZ, .nil]) WR.v
def GA (a b:WE):WE:=λρ M q=>a ρ M λx M1=>b ρ M1 λy M2=>gm λp kvs k z=>gJ (x=wr p) (M2 p=some (.dK kvs)) (y=iN k) (fu kvs k=some z) (q z M2)
instance {t u:TE}{a b:WE} [ia:IE K t a] [ib:IE K u b]:IE K (GW t u) (GA a b) where
 imp :=λρ M σ H q Q o h k=>ia.imp ρ M σ H _ _ o h λx M1 v H1 h1 t1 m1 r1=>ib.imp ρ M1 σ H1 _ _ (o.mv t1 m1) h1 λy M2 u H2 ⟨p,kvs,ky,z,e1,e2,e3,e4,h2⟩ t2 m2 r2=>by
  subst e1 e3;let⟨ks,hk,rr⟩:=m2 p _ e2;rcases rr.val ky with⟨n1,_⟩ | ⟨x',v',n1,n2,rx⟩
  rw[n1] at e4;cases e4;rw[n1] at e4;cases e4;exact#[p,v',r1.eq,?_,k _ M2 _ H2 h2 (t1.trans t2) m2 rx];rw[iX r2, <- n2];show mP.k hk
def OB (a b:WE):WE:=λρ M q=>a ρ M λy M1=>b ρ M1 λx M2=>eE λp kvs k=>fi (x=wr p) (M2 p=some (.dK kvs)) (y=iN k) (q (wb (fu kvs k).isSome) M2)
def xo (a b:WE):WE:=λρ M q=>a ρ M λy M1=>b ρ M1 λx M2=>eE λp kvs k=>fi (x=wr p) (M2 p=some (.dK kvs)) (y=iN k) (q (wb (!(fu kvs k).isSome)) M2)
def KR.some {H:Hp}(k:cz){l:c_ (cz×W)}{vs:c_ (cz×V)}(r:KR K H l vs):(iL vs k).isSome=(fu l k).isSome:=by rcases r.val k with⟨a,b⟩ | ⟨x,v,a,b,_⟩ <;>rw[a,b] <;>rfl
instance {t u:TE}{a b:WE} [ia:IE K t a] [ib:IE K u b]:IE K (SG t u) (OB a b) where
 imp:=λρ M σ H q Q o h k=>ia.imp ρ M σ H _ _ o h λy M1 v H1 h1 t1 m1 r1=>ib.imp ρ M1 σ H1 _ _ (o.mv t1 m1) h1 λx M2 u H2 ⟨p,kvs,ky,e1,e2,e3,h2⟩ t2 m2 r2=>by subst e1 e3;let⟨ks,hk,rr⟩:=m2 p _ e2;exact#[p,iL ks ky,r2.eq,by rw[iX r1];show mP.k hk,k _ M2 _ H2 h2 (t1.trans t2) m2 ?_];rw[rr.some];show WR.v
instance {t u:TE}{a b:WE} [ia:IE K t a] [ib:IE K u b]:IE K (CI t u) (xo a b) where
 imp:=λρ M σ H q Q o h k=>ia.imp ρ M σ H _ _ o h λy M1 v H1 h1 t1 m1 r1=>ib.imp ρ M1 σ H1 _ _ (o.mv t1 m1) h1 λx M2 u H2 ⟨p,kvs,ky,e1,e2,e3,h2⟩ t2 m2 r2=>by subst e1 e3;let⟨ks,hk,rr⟩:=m2 p _ e2;exact#[p,iL ks ky,r2.eq,by rw[iX r1];show mP.k hk,k _ M2 _ H2 h2 (t1.trans t2) m2 ?_];rw[rr.some];show WR.v
def Bb (a b c:WE):WE:=λρ M q=>a ρ M λx M1=> ∃p,cS (x=wr p) (∃kvs,M1 p=some (.dK kvs)) (b ρ M1 λy M2=>c ρ M2 λz M3=>cE λkvs k=>cS (M3 p=some (.dK kvs)) (y=iN k) (q ((fu kvs k).getD z) M3))
instance {t u s:TE}{a b c:WE} [ia:IE K t a] [ib:IE K u b] [ic:IE K s c]:IE K (GV t u s) (Bb a b c) where
 imp:=λρ M σ H q Q o h k=>ia.imp ρ M σ H _ _ o h λx M1 v H1 ⟨p,e,⟨kvs,hp⟩,h1⟩ t1 m1 r1=>by
  subst e;let⟨ks,hk,rr⟩:=m1 p _ hp;exact#[p,r1.eq, .inl #[ks, .inl hk],ib.imp ρ M1 σ H1 _ _ (o.mv t1 m1) h1 λy M2 u H2 h2 t2 m2 r2=>ic.imp ρ M2 σ H2 _ _ (o.mv (t1.trans t2) m2) h2 λz M3 u3 H3 ⟨kvs,ky,e2,e3,h3⟩ t3 m3 r3=> ?_];subst e3;let⟨ks,hk,rr⟩:=m3 p _ e2;exact#[iL ks ky,by rw[iX (r2.ts t3)];show mP.k hk,k _ M3 _ H3 h3 ((t1.trans t2).trans t3) m3 ?_];rcases rr.val ky with⟨n1,n2⟩ | ⟨x',v',n1,n2,rx⟩
  rw[n1,n2];show r3;rw[n1,n2];show rx
end
section
variable {K:Uc}
def Na (i:Nat):WG:=λx ρ M q=>q (ρ.set i (some x)) M
instance {i:Nat}:IG K (lF i) (Na i) where
 imp:=λx v ρ M σ H q Q o r h k=>k _ M _ H h (a5.refl H) #[o.env.set i r,o.hp]
def OF:Mo:=λxs ρ M q=>xs= [] /\ q ρ M
def Nb (a:WG)(b:Mo):Mo:=λxs ρ M q=>cE λx r=>xs=x::r /\ a x ρ M λρ' M'=>b r ρ' M' q
instance:Xb K LY OF where
 imp:=λx v ρ M σ H q Q o r h k=>by let⟨rfl,h⟩:=h;show#[by simpa only[cU] using r,k _ M _ H h (a5.refl H) o]
instance {t:TG}{u:Ku}{a:WG}{b:Mo} [ia:IG K t a] [ib:Xb K u b]:Xb K (wE t u) (Nb a b) where
 imp:=λx v ρ M σ H q Q o r h k=>by let⟨y,c7,rfl,h⟩:=h;simp![cU] at r;let⟨v1,t1,rfl,r1,r2⟩:=r;show#[v1,t1,rfl,ia.imp y v1 ρ M σ H _ _ o r1 h λρ' M' σ' H' h' ts o'=>ib.imp c7 t1 ρ' M' σ' H' _ _ o' (r2.ts ts) h' λρ2 M2 σ2 H2 h2 Sk o2=>k ρ2 M2 σ2 H2 h2 (ts.trans Sk) o2]
def Sf (n:Nat)(a:Mo):WG:=λx ρ M q=> ∃l,cS (x= .tup l) (l.length=n) (a l ρ M q)
instance {n:Nat}{t:Ku}{a:Mo} [ia:Xb K t a]:IG K (LX K n t) (Sf n a) where
 imp:=λx v ρ M σ H q Q o r h k=>by let⟨l,rfl,hl,h⟩:=h;let⟨a',vs,rfl,hv,rr⟩:=r.tup;show#[a',vs,rfl,hv,by rw[rr.length];show hl,ia.imp l vs ρ M σ H _ _ o rr h k]
abbrev JE:=W ->W ->W ->Mp ->(Mp ->Prop) ->Prop
class Vr (K:PySem.W.Frag) (t:JF) (w:outParam JE):Prop where
 imp: ∀ (x y z:W) (v u r:V) (M:Mp) (H:Hp) (q:Mp ->Prop) (Q:Hp ->Prop),gg K M H ->WR K H x v ->WR K H y u ->WR K H z r ->w x y z M q ->(∀M' H',q M' ->a5 H H' ->gg K M' H' ->Q H') ->t v u r H Q
def MM:JE:=λx y z M q=>gm λa l k j=>gJ (x=wr a) (y=wi k) (M a=some (.lst l)) (A2 l.length k=some j) (q (um M a (.lst (l.set j z))))
instance:Vr K Ny MM where
 imp:=by rintro x y z v u r M H q Q m r1 r2 r3 ⟨a,l,i,j,rfl,rfl,hl,e,h⟩ k;let⟨vs,hv,rr⟩:=m a _ hl;show#[a,vs,i,j,r1.eq,r2.eq,hv,by rw[rr.length];show e,k _ _ h (jL hv) (m.putL hv (rr.set j r3))]
def Sh (a b:WE)(s:JE):WG:=λx ρ M q=>a ρ M λo M1=>b ρ M1 λi M2=>s o i x M2 λM3=>q ρ M3
instance {t u:TE}{s:JF}{a b:WE}{w:JE} [ia:IE K t a] [ib:IE K u b] [is:Vr K s w]:IG K (UT t u s) (Sh a b w) where
 imp:=λx v ρ M σ H q Q o r h k=>ia.imp ρ M σ H _ _ o h λy M1 v1 H1 h1 t1 m1 r1=>ib.imp ρ M1 σ H1 _ _ (o.mv t1 m1) h1 λz M2 v2 H2 h2 t2 m2 r2=>is.imp y z x v1 v2 v M2 H2 _ _ m2 (r1.ts t2) r2 (r.ts (t1.trans t2)) h2 λM3 H3 h3 t3 m3=>k ρ M3 σ H3 h3 ((t1.trans t2).trans t3) (o.mv ((t1.trans t2).trans t3) m3)
def CW:WS:=λD ρ M=>D.nx ρ M
instance:IS K Ni CW where
 imp:=λρ M σ H D' D o h e=>e.nx ρ M σ H h (a5.refl H) o
def EL (a b:WS):WS:=λD ρ M=>a {D with nx:=b D} ρ M
instance {t u:TS}{a b:WS} [ia:IS K t a] [ib:IS K u b]:IS K (OO t u) (EL a b) where
 imp:=λρ M σ H D' D o h e=>ia.imp ρ M σ H _ _ o h #[λρ' M' σ' H' h' ts o'=>ib.imp ρ' M' σ' H' D' D o' h' (e.mv ts),e.rt,e.bk,e.ct]
def Nq (a:WE):WS:=λD ρ M=>a ρ M λ_ M1=>D.nx ρ M1
instance {t:TE}{a:WE} [ia:IE K t a]:IS K (Nj t) (Nq a) where
 imp:=λρ M σ H D' D o h e=>ia.imp ρ M σ H _ _ o h λx M1 v H1 h1 t1 m1 r1=>e.nx ρ M1 σ H1 h1 t1 (o.mv t1 m1)
def SU (a:WE):WS:=λD ρ M=>a ρ M D.rt
instance {t:TE}{a:WE} [ia:IE K t a]:IS K (Sv t) (SU a) where
 imp:=λρ M σ H D' D o h e=>ia.imp ρ M σ H _ _ o h λx M1 v H1 h1 t1 m1 r1=>e.rt x M1 v H1 h1 t1 m1 r1
def Q9 (c:WT)(a b:WS):WS:=λD ρ M=>c ρ M λk M1=>if k=true then a D ρ M1 else b D ρ M1
instance {tc:TT}{t u:TS}{c:WT}{a b:WS} [ic:IT K tc c] [ia:IS K t a] [ib:IS K u b]:IS K (SA tc t u) (Q9 c a b) where
 imp:=λρ M σ H D' D o h e=>ic.imp ρ M σ H _ _ o h λk M1 H1 h1 t1 m1=>by
  cases k with
  | true=>simp![cc] at h1 ⊢;show ia.imp ρ M1 σ H1 D' D (o.mv t1 m1) h1 (e.mv t1)
  | false=>simp![aA,bD] at h1 ⊢;show ib.imp ρ M1 σ H1 D' D (o.mv t1 m1) h1 (e.mv t1)
def S1 (a:WE)(g:WG):WS:=λD ρ M=>a ρ M λx M1=>g x ρ M1 D.nx
instance {t:TE}{g:TG}{a:WE}{w:WG} [ia:IE K t a] [ig:IG K g w]:IS K (GZ t g) (S1 a w) where
 imp:=λρ M σ H D' D o h e=>ia.imp ρ M σ H _ _ o h λx M1 v H1 h1 t1 m1 r1=>ig.imp x v ρ M1 σ H1 _ _ (o.mv t1 m1) r1 h1 λρ2 M2 σ2 H2 h2 t2 o2=>e.nx ρ2 M2 σ2 H2 h2 (t1.trans t2) o2
class IIp (K:PySem.W.Frag) (t:RC) (w:outParam qz):Prop where
 imp: ∀ (x y:W) (v u:V) (M:Mp) (H:Hp) (q:WK) (Q:VK),gg K M H ->WR K H x v ->WR K H y u ->w x y M q ->(∀x M' v H',q x M' ->a5 H H' ->gg K M' H' ->WR K H' x v ->Q v H') ->t v u H Q
instance {f:Int ->Int ->Int}:IIp K (ipI f) (XH λi j=> .int (f i j)) where
 imp:=by rintro x y v u M H q Q m r1 r2 ⟨i,j,rfl,rfl,h⟩ k;show#[i,j,r1.eq,r2.eq,k _ M _ H h (a5.refl H) m WR.v]
def S0 (i:Nat)(a:WE)(r:qz):WS:=λD ρ M=>ft i ρ M λx M=>a ρ M λy M1=>r x y M1 λz M2=>D.nx (ρ.set i (some z)) M2
instance {i:Nat}{t:TE}{ti:RC}{a:WE}{w:qz} [ia:IE K t a] [ir:IIp K ti w]:IS K (SI i t ti) (S0 i a w) where
 imp:=λρ M σ H D' D o h e=>by let⟨x,ex,h⟩:=Gq h;let⟨v,ev,rv⟩:=o.env.2 i x ex;show#[v,ev,ia.imp ρ M σ H _ _ o h λy M1 u H1 h1 t1 m1 r1=>ir.imp x y v u M1 H1 _ _ m1 (rv.ts t1) r1 h1 λz M2 w2 H2 h2 t2 m2 r2=>e.nx _ M2 _ H2 h2 (t1.trans t2) #[(o.env.ts (t1.trans t2)).set i r2,m2]]
def Bm (a b c:WE):WS:=λD ρ M=>c ρ M λz M1=>a ρ M1 λx M2=>b ρ M2 λy M3=>eE λp kvs k=>gJ (x=wr p) (M3 p=some (.dK kvs)) (y=iN k) (kvs.length<sizeLine) (D.nx ρ (um M3 p (.dK (xH kvs k z))))
instance {t u s:TE}{a b c:WE} [ia:IE K t a] [ib:IE K u b] [ic:IE K s c]:IS K (Nr t u s) (Bm a b c) where
 imp :=λρ M σ H D' D o h e=>ic.imp ρ M σ H _ _ o h λz M1 v1 H1 h1 t1 m1 r1=>ia.imp ρ M1 σ H1 _ _ (o.mv t1 m1) h1 λx M2 v2 H2 h2 t2 m2 r2=>ib.imp ρ M2 σ H2 _ _ (o.mv (t1.trans t2) m2) h2 λy M3 v3 H3 ⟨p,kvs,k,e1,e2,e3,hl,h3⟩ t3 m3 r3=>by subst e1 e3;let⟨ks,hk,rr⟩:=m3 p _ e2;have ts:=kZ (u:= .dK (mI ks k v1)) hk;exact#[p,_,r2.eq,?_,e.nx ρ _ σ (cM H3 p (.dK (mI ks k v1))) h3 (((t1.trans t2).trans t3).trans ts) (o.mv (((t1.trans t2).trans t3).trans ts) (m3.putD hk (KR.put (r1.ts (t2.trans t3)) rr)))];rw[iX r3];show J1.k hk (by rw[rr.length];show hl)
def Bn (a b:WE):WS:=λD ρ M=>a ρ M λx M1=>b ρ M1 λy M2=>eE λp kvs k=>gJ (x=wr p) (M2 p=some (.dK kvs)) (y=iN k) ((fu kvs k).isSome=true) (D.nx ρ (um M2 p (.dK (jG kvs k))))
instance {t u:TE}{a b:WE} [ia:IE K t a] [ib:IE K u b]:IS K (Nt t u) (Bn a b) where
 imp :=λρ M σ H D' D o h e=>ia.imp ρ M σ H _ _ o h λx M2 v2 H2 h2 t2 m2 r2=>ib.imp ρ M2 σ H2 _ _ (o.mv t2 m2) h2 λy M3 v3 H3 ⟨p,kvs,k,e1,e2,e3,hl,h3⟩ t3 m3 r3=>by subst e1 e3;let⟨ks,hk,rr⟩:=m3 p _ e2;have ts:=kZ (u:= .dK (lS ks k)) hk;show#[p,ks,k,r2.eq,hk,iX r3,by rw[rr.some];show hl,e.nx ρ _ σ _ h3 ((t2.trans t3).trans ts) (o.mv ((t2.trans t3).trans ts) (m3.putD hk rr.drop))]
def Cg (K:Uc)(H1:Hp)(J:It)(xs:c_ W)(keep:Mp ->Prop):Prop:=∀i M H,a5 H1 H ->gg K M H ->keep M ->(xs.length=i ->J.stop i H) /\ (i<xs.length ->J.go i H) /\ ∀v H',i<xs.length ->J.QX i H v H' ->a5 H H' /\ gg K M H' /\ ∃x,xs[i]? =some x /\ WR K H' x v
class II (K:PySem.W.Frag) (t:TI) (w:outParam WI):Prop where
 imp: ∀ (ρ:dm) (M:Mp) (σ:St) (H:Hp) (q:List W ->(Mp ->Prop) ->Mp ->Prop) (R:It ->Hp ->Prop),Ok K ρ M σ H ->w ρ M q ->(∀xs keep J M' H',q xs keep M' ->a5 H H' ->gg K M' H' ->Cg K H' J xs keep ->R J H') ->t σ H R
def Ih (a:WE):WI:=λρ M q=>a ρ M λx M1=>cE λp l=>cS (x=wr p) (M1 p=some (.lst l)) (q l (λM'=>M' p=some (.lst l)) M1)
def T9 (a:WE):WI:=λρ M q=>a ρ M λx M1=> ∃l,x= .tup l /\ q l (λ_=>True) M1
def i9 (lo:Int)(n:Nat):c_ W:=(List.range n).map λ(k:Nat)=>wi (lo+(k:Int))
def Ig (a:WA):WI:=λρ M q=>a ρ M λxs M1=> ∃j:Int,fi (xs= [wi j]) (-(2 ^ 62) <=j) (j<2 ^ 62) (q (i9 0 j.toNat) (λ_=>True) M1)
def wx {H1:Hp}{p:iW}{l:c_ W}:Cg K H1 (W_ K p) l (λM'=>M' p=some (.lst l)):=by intro i M H ts m hk;let⟨vs,hv,rr⟩:=m p _ hk;have hl:=rr.length;exact#[λh=>#[vs,iH.of hv, ∅],λh=>#[vs,vs[i]'∅,iH.of hv,by simp],λv H' hi y=> ?_];let⟨rfl,y⟩:=y;have:=y vs (iH.of hv);let⟨d,hd,r⟩:=rr.back this;show#[a5.refl _,m,d,hd,r]
def zR {H1:Hp}{p:iW}{l:c_ W}{vs:c_ V}(hv:kW K H1 p vs)(rr:cU K H1 l vs):Cg K H1 (W9 K p) l (λ_=>True):=by intro i M H ts m _;have LM:=Un.sqT ts hv;have Nu:=rr.ts ts;have hl:=Nu.length;exact#[λh=>#[vs,LM, ∅],λh=>#[vs,vs[i]'∅,LM,by simp],λv H' hi y=> ?_];let⟨rfl,y⟩:=y;have:=y vs LM;let⟨d,hd,r⟩:=Nu.back this;show#[a5.refl _,m,d,hd,r]
def Im {H1:Hp}{lo:Int}{n:Nat}:Cg K H1 (W' lo n) (i9 lo n) (λ_=>True):=by
 intro i M H ts m _;have hl:(i9 lo n).length=n:=by simp[i9]
 rw[hl];exact#[λh=>Nat.le_of_eq h,λh=>h,λv H' hi y=> ?_];let⟨rfl,y⟩:=y;exact#[a5.refl _,m,wi (lo+i),?_,by rw[y];show WR.v];simp[i9,hi]
instance {t:TE}{a:WE} [ia:IE K t a]:II K (Ip K t) (Ih a) where
 imp:=λρ M σ H q R o h k=>ia.imp ρ M σ H _ _ o h λx M1 v H1 ⟨p,l,e,hp,h1⟩ t1 m1 r1=>by subst e;let⟨vs,hv,rr⟩:=m1 p _ hp;show#[p,r1.eq,#[vs,iH.of hv],k l _ _ M1 H1 h1 t1 m1 wx]
instance {t:TE}{a:WE} [ia:IE K t a]:II K (P_ K t) (T9 a) where
 imp:=λρ M σ H q R o h k=>ia.imp ρ M σ H _ _ o h λx M1 v H1 ⟨l,e,h1⟩ t1 m1 r1=>by subst e;let⟨p,vs,rfl,hv,rr⟩:=r1.tup;show#[p,rfl,#[vs,hv],k l _ _ M1 H1 h1 t1 m1 (zR hv rr)]
instance {t:TA}{a:WA} [ia:IA K t a]:II K (NY t) (Ig a) where
 imp:=λρ M σ H q R o h k=>ia.imp ρ M σ H _ _ o h λxs M1 v H1 ⟨j,e,h0,h1,h2⟩ t1 m1 r1=>by subst e;let⟨v,rfl,r⟩:=r1.one;cases r.eq;show#[j,rfl,h0,h1,k _ _ _ M1 H1 h2 t1 m1 Im]
def SV (it:WI)(g:WG)(b:WS):WS:=λD ρ M=>it ρ M λxs keep M1=> ∃I:Nat ->dm ->Mp ->Prop,fi (I 0 ρ M1) (∀i ρ M,i<=xs.length ->I i ρ M ->keep M) (∀i x ρ M,xs[i]? =some x ->I i ρ M ->g x ρ M λρ2 M2=>b {D with nx:=I (i+1),ct:=I (i+1),bk:=D.nx} ρ2 M2) (∀ρ M,I xs.length ρ M ->D.nx ρ M)
instance {ti:TI}{g:TG}{t:TS}{it:WI}{w:WG}{b:WS} [ii:II K ti it] [ig:IG K g w] [ib:IS K t b]:IS K (SF ti g t) (SV it w b) where
 imp :=λρ M σ H D' D o h e=>ii.imp ρ M σ H _ _ o h λxs keep J M1 H1 h1 t1 m1 ok=>by let⟨I,h0,hk,hs,hd⟩:=h1;exact#[λi m σ' H'=>m=xs.length - i /\ i<=xs.length /\ cE λρ' M'=>cS (I i ρ' M') (a5 H1 H') (Ok K ρ' M' σ' H'),#[_,rfl,dh _,ρ,M1,h0,a5.refl _,o.mv t1 m1],?_];rintro i m σ' H' ⟨rfl,hi,ρ',M',hI,ts,o'⟩;let⟨k1,k2,k3⟩:=ok i M' H' ts o'.hp (hk i ρ' M' hi hI);by_cases mK:i<xs.length;exact .inr #[k2 mK,λσ2 H2=>cE λρ2 M2=>cS (I (i+1) ρ2 M2) (a5 H1 H2) (Ok K ρ2 M2 σ2 H2),λσ2 H2 ⟨ρ2,M2,a,b,c⟩=>#[xs.length - (i+1), ∅,rfl,mK,ρ2,M2,a,b,c],λv H2 y=> ?_];let⟨ty,my,x,hx,r⟩:=k3 v H2 mK y;replace ts:=ts.trans ty;exact ig.imp x v ρ' M' σ' H2 _ _ (o'.mv ty my) r (hs i x ρ' M' hx hI) λρ3 M3 σ3 H3 h3 t3 o3=>ib.imp ρ3 M3 σ3 H3 _ _ o3 h3 #[λa b c d h t o=>#[a,b,h,(ts.trans t3).trans t,o],λa b c d h t=>e.rt a b c d h (t1.trans ((ts.trans t3).trans t)),λa b c d h t=>e.nx a b c d h (t1.trans ((ts.trans t3).trans t)),λa b c d h t o=>#[a,b,h,(ts.trans t3).trans t,o]];have e':i=xs.length:= ∅;subst e';show .inl #[k1 rfl,e.nx ρ' M' σ' H' (hd ρ' M' hI) (t1.trans ts) o']
def nQ (own:Nat)(fr:c_ Nat)(ρ:dm):dm:=List.replicate own none++fr.map λj=>(ρ[j]?).join
def Kt.Rz {H:Hp}{ρ:dm}{σ:St}(own:Nat)(fr:c_ Nat)(h:Kt K H ρ σ):Kt K H (nQ own fr ρ) (kP own fr σ):=by
 unfold nQ kP;exact#[by simp,λi x e=> ?_];by_cases hi:i<own;rw[bi ⇑hi,dk,am hi] at e;cases e;rw [a9 ⇑hi,List.length_replicate,aI] at e;rw[a9 ⇑hi,List.length_replicate,aI];cases ej:fr[i - own]? with
 | none=>rw[ej] at e;cases e
 | some j=>
  rw[ej] at e;simp![bC,Option.some.injEq] at e ⊢;cases er:ρ[j]? with
  | none=>rw[er] at e;cases e
  | some z=>rw[er] at e;simp![Option.join_some] at e;subst e;let⟨v,ev,r⟩:=h.2 j x er;show#[v,by rw[ev];rfl,r]
def MV (it:WI)(own:Nat)(fr:c_ Nat)(g:WG)(c:WT)(el:WE):WE:=λρ M q=>it ρ M λxs keep M1=>xs.length<=sizeLine /\ ∀p,M1 p=none -> ∃I:Nat ->c_ W ->Mp ->Prop,fi (I 0 [] (um M1 p (.lst []))) (∀i ys M,i<=xs.length ->I i ys M ->keep M /\ M p=some (.lst ys) /\ ys.length<=i) (∀i x ys M,xs[i]? =some x ->I i ys M ->g x (nQ own fr ρ) M λρ2 M2=>c ρ2 M2 λb M3=>if b=true then el ρ2 M3 λy M4=>M4 p=some (.lst ys) /\ I (i+1) (ys++ [y]) (um M4 p (.lst (ys++ [y]))) else I (i+1) ys M3) (∀ys M,I xs.length ys M ->q (wr p) M)
instance {ti:TI}{own:Nat}{fr:c_ Nat}{g:TG}{tc:TT}{te:TE}{it:WI}{w:WG}{c:WT}{el:WE} [ii:II K ti it] [ig:IG K g w] [ic:IT K tc c] [ie:IE K te el]:IE K (Nk ti own fr g tc te) (MV it own fr w c el) where
 imp :=λρ M σ H q Q o h k=>ii.imp ρ M σ H _ _ o h λxs keep J M1 H1 h1 t1 m1 ok=>by
  intro p hp;let⟨hz,h1⟩:=h1;let⟨I,h0,hk,hs,hd⟩:=h1 p (m1.fresh hp);have tp:=L2.ge.ts (cf (o:= .lst []) hp);exact#[λi m vs H'=>m=xs.length - i /\ i<=xs.length /\ cE λys M'=>gJ (I i ys M') (a5 H1 H') (gg K M' H') (cU K H' ys vs) (H' p=some (.lst vs)),#[_,rfl,dh _,[],_,h0,tp,m1.zE hp cU.nil,cU.nil,bZ],?_];rintro i m vs H' ⟨rfl,hi,ys,M',hI,ts,m',rv,hv⟩;exact#[hv,?_];let⟨kp,hMp,hyl⟩:=hk i ys M' hi hI;let⟨k1,k2,k3⟩:=ok i M' H' ts m' kp;by_cases mK:i<xs.length;exact .inr #[k2 mK,by rw[rv.length];lia,λv H2 y=> ?_];let⟨ty,my,x,hx,r⟩:=k3 v H2 mK y;replace ts:=ts.trans ty;have oc:Ok K (nQ own fr ρ) M' (kP own fr σ) H2:=#[(o.env.ts (t1.trans ts)).Rz own fr,my]
  exact ig.imp x v _ M' _ H2 _ _ oc r (hs i x ys M' hx hI) λρ3 M3 σ3 H3 h3 t3 o3=>ic.imp ρ3 M3 σ3 H3 _ _ o3 h3 λb M4 H4 h4 t4 m4=> ?_;cases b with
  | true=>simp![cc] at h4 ⊢;exact ie.imp ρ3 M4 σ3 H4 _ _ (o3.mv t4 m4) h4 λz M5 u H5 ⟨h5,h6⟩ t5 m5 r5=> ?_;let⟨M_,LL,KY⟩:=m5 p _ h5;have X7:=(t3.trans t4).trans t5;have t6:=jL (u:= .lst (M_++ [u])) LL;show#[M_,LL,by rw[KY.length];lia,_, ∅,rfl,mK,_,_,h6,(ts.trans X7).trans t6,m5.putL LL (KY.snoc r5),(KY.snoc r5).ts t6,bZ]
  | false=>simp![aA,bD] at h4 ⊢;let⟨M_,LL,KY⟩:=m4 p _ (hk (i+1) ys M4 mK h4).2.1;show#[M_,_, ∅,rfl,mK,_,_,h4,ts.trans (t3.trans t4),m4,KY,LL]
  have e':i=xs.length:= ∅;subst e';show .inl #[k1 rfl,k _ M' _ H' (hd ys M' hI) (t1.trans ts) m' WR.v]
def RJ:WT:=λ_ M q=>q true M
instance:IT K Sr RJ where
 imp:=λρ M σ H q Q o h k=>k _ M H h (a5.refl H) o.hp
end
section
variable {K:Uc}
theorem gg.sub {M M':Mp}{H:Hp}(s:Sm M M')(m:gg K M' H):gg K M H:=λa o e=>m a o (s a o e)
def Yt {P:Y1}{w:ZW}{mg:Str ->gC dC}{base:ZX}{x qual:Str}{st:Stmt}{f:iW}{fd:ZZ}{N ps:c_ Str}{k:Nat}{p:fG}(F:AI K x qual st f fd)(S:cH N ps (aV st))(len: ∀vs M q,p vs M q ->vs.length=ps.length) (jC: ∀ (cdv:dC) (A:Z0) (outer:c_ Env) (s:gw) (H:Hp) (E:XK),eG k (A.deeper (PyProof.Rows.envOfC qual (aV st) s.heap.objs.size f cdv)) ->∃t,yI (eL e9 P w K mg base N qual (aV st) f cdv A outer s H E).J7 (dM st) t /\ ∃w',IS K t w' /\ ∀vs M q,p vs M q ->w' {nx:=λ_ M'=> ∃M0,Sm M0 M' /\ q wn M0,rt:=λx M'=> ∃M0,Sm M0 M' /\ q x M0} (vs.map some++List.replicate (N.length - vs.length) none) M): bE P w K mg base e9 (k+1) f fd ps (fD K p):=by
 have h:=okW (K:=K) (P:=P) (w:=w) (mg:=mg) (base:=base) (k:=k) (p:=λvs M q=> ∃q',p vs M q' /\ q=λx M'=> ∃M0,Sm M0 M' /\ q' x M0) F S (λvs M q ⟨q',h,_⟩=>len vs M q' h) λcdv A outer s H E hr=>by let⟨t,h1,w',h2,h3⟩:=jC cdv A outer s H E hr;exact#[t,w',h1,h2,?_];rintro vs M q ⟨q',h,rfl⟩;show h3 vs M q' h
 exact h.imp λvs H Q E ⟨xs,M,q,r,m,hp,hk⟩=>#[xs,M,_,r,m,#[q,hp,rfl],?_]
 rintro x M' v H' ⟨M0,s,hq⟩ ts m' r';show hk x M0 v H' hq ts (m'.sub s) r'
def Fz {xs:c_ W}{keep:Mp ->Prop}{M1:Mp}{own:Nat}{fr:c_ Nat}{ρ:dm}{g:WG}{c:WT}{el:WE}{q:WK}(f:W ->gC W)(hz:xs.length<=sizeLine)(lD: ∀M,Sm M1 M ->keep M) (hs: ∀ (i:Nat) x,xs[i]? =some x -> ∀ (M:Mp) (N:gC W ->Mp ->Prop),Sm M1 M ->N (f x) M ->g x (nQ own fr ρ) M λρ2 M2=>c ρ2 M2 λb M3=>if b=true then el ρ2 M3 λy M4=>N (some y) M4 else N none M3) (hq: ∀p,M1 p=none ->q (wr p) (um M1 p (.lst (xs.filterMap f)))): xs.length<=sizeLine /\ ∀p,M1 p=none -> ∃I:Nat ->c_ W ->Mp ->Prop,fi (I 0 [] (um M1 p (.lst []))) (∀i ys M,i<=xs.length ->I i ys M ->keep M /\ M p=some (.lst ys) /\ ys.length<=i) (∀i x ys M,xs[i]? =some x ->I i ys M ->g x (nQ own fr ρ) M λρ2 M2=>c ρ2 M2 λb M3=>if b=true then el ρ2 M3 λy M4=>M4 p=some (.lst ys) /\ I (i+1) (ys++ [y]) (um M4 p (.lst (ys++ [y]))) else I (i+1) ys M3) (∀ys M,I xs.length ys M ->q (wr p) M):=by
 exact#[hz,λp hp=>#[λi ys M=>M=um M1 p (.lst ys) /\ ys=(xs.take i).filterMap f,#[rfl,by simp],?_,?_,?_]];rintro i ys M hi ⟨rfl,rfl⟩;exact#[lD _ (bj hp),ao,ar (List.length_filterMap_le _ _) ?_];rw[bU];lia;rintro i x ys M hx ⟨rfl,rfl⟩;exact hs i x hx _ (λo M4=>match o with
 | some y=>M4 p=some (.lst ((xs.take i).filterMap f)) /\ (um M4 p (.lst ((xs.take i).filterMap f++ [y]))=um M1 p (.lst ((xs.take i).filterMap f++ [y])) /\ (xs.take i).filterMap f++ [y]=(xs.take (i+1)).filterMap f)
 | none=>M4=um M1 p (.lst ((xs.take i).filterMap f)) /\ (xs.take i).filterMap f=(xs.take (i+1)).filterMap f) (bj hp) ?_
 have e:xs.take (i+1)=xs.take i++ [x]:=by rw[cG,hx];rfl
 cases hf:f x with
 | none=>show#[rfl,by rw[e,List.filterMap_append];simp[hf]]
 | some y=>show#[ao,j_,by rw[e,List.filterMap_append];simp[hf]]
 rintro ys M ⟨rfl,rfl⟩;rw[cQ];show hq p hp
mutual
def Fx:W ->gC Dt
 | .v .d0=>some .d0
 | .v (.bl b)=>some (.bl b)
 | .v (.int i)=>some (.int i)
 | .v (.str x)=>some (.str x)
 | .v _=>none
 | .tup l=>(mM l).map .tup
def mM:c_ W ->gC (c_ Dt)
 | []=>some []
 | x::r=>match Fx x,mM r with
  | some d,some l=>some (d::l)
  | _,_=>none
end
mutual
theorem Hd {H:Hp}: ∀ (x:W) (d:Dt) (v:V),Fx x=some d ->WR K H x v ->Rep K H d v
 | .v y,d,v,e,r=>by cases r.eq;cases y<;>simp![Fx,Option.some.injEq,reduceCtorEq] at e<;>subst e<;>simp![Rep]
 | .tup l,d,v,e,r=>by
  let⟨a,vs,rfl,hv,rr⟩:=r.tup;simp![Fx] at e;cases hd:mM l with
  | none=>rw[hd] at e;cases e
  | some ds=>rw[hd] at e;cases e;simp![Rep];show#[a,vs,rfl,hv,xE l ds vs hd rr]
theorem xE {H:Hp}: ∀ (l:c_ W) (ds:c_ Dt) (vs:c_ V),mM l=some ds ->cU K H l vs ->gf K H ds vs
 | [],ds,vs,e,r=>by simp![mM] at e;cases e;simp![cU] at r;simp![gf];show r
 | x ::l,ds,vs,e,r=>by
  simp![mM] at e;cases hx:Fx x with
  | none=>rw[hx] at e;cases e
  | some d=>
   cases hl:mM l with
   | none=>rw[hx,hl] at e;cases e
   | some QE=>rw[hx,hl] at e;cases e;simp![cU] at r;let⟨v,t,rfl,r1,r2⟩:=r;simp![gf];show#[v,t,rfl,Hd x d v hx r1,xE l QE t hl r2]
end
def DR (M:Mp)(x:W)(d:Dt):Prop:=Fx x=some d \/ eE λa l ds=>fi (x=wr a) (M a=some (.lst l)) (mM l=some ds) (d= .lst ds)
def DR.rep {M:Mp}{H:Hp}{x:W}{d:Dt}{v:V}(m:gg K M H)(r:WR K H x v)(h:DR M x d):Rep K H d v:=by obtain h | ⟨a,l,ds,rfl,hl,e,rfl⟩:=h;show Hd x d v h r;cases r.eq;let⟨vs,hv,rr⟩:=m a _ hl;simp![Rep];show#[a,vs,rfl,iH.of hv,xE l ds vs e rr]
def Ow:qz:=λx y M q=>cE λd e=>gJ (DR M x d) (DR M y e) (sO d e=true) (sC d<=50) (q (wb (!vF d e)) M)
instance:IR K (xF K) Ow where
 imp:=by rintro x y v u M H q Q m r1 r2 ⟨d,e,h1,h2,h3,h4,h⟩ k;show#[d,e,h3,h4,h1.rep m r1,h2.rep m r2,k _ M _ H h (a5.refl H) m WR.v]
instance {r r':R2}{t u s:TE}{a b c:WE}{w w':qz} [ir:IR K r w] [ir':IR K r' w'] [ia:IE K t a] [ib:IE K u b] [ic:IE K s c]:IE K (Bh r r' t u s) (GD w w' a b c) where
 imp :=λρ M σ H q Q o h k=>ia.imp ρ M σ H _ _ o h λx M1 v H1 h1 t1 m1 r1=>ib.imp ρ M1 σ H1 _ _ (o.mv t1 m1) h1 λy M2 u H2 h2 t2 m2 r2=>ir.imp x y v u M2 H2 _ _ m2 (r1.ts t2) r2 h2 λz M3 v3 H3 ⟨kk,e,h3⟩ t3 m3 r3=>by
  subst e;exact#[kk,r3.eq,?_];cases kk with
  | true=>simp![cc] at h3 ⊢;show ic.imp ρ M3 σ H3 _ _ (o.mv ((t1.trans t2).trans t3) m3) h3 λy4 M4 v4 H4 h4 t4 m4 r4=>ir'.imp y y4 u v4 M4 H4 _ _ m4 (r2.ts (t3.trans t4)) r4 h4 λz5 M5 v5 H5 h5 t5 m5 r5=>k z5 M5 v5 H5 h5 ((((t1.trans t2).trans t3).trans t4).trans t5) m5 r5
  | false=>simp![aA,bD] at h3 ⊢;show k _ M3 _ H3 h3 ((t1.trans t2).trans t3) m3 WR.v
def VT (Ra:Bool):qz:=λx y M q=>cE λ(z:V) (l:c_ V)=>gJ (x= .v z) (y= .tup (l.map .v) \/ ∃a,y=wr a /\ M a=some (.lst (l.map .v))) (lG z=true) (l.all lG=true) (q (wb (if Ra then !NW z l else NW z l)) M)
theorem cU.vals {H:Hp}: ∀ {l us:c_ V},cU K H (l.map .v) us ->us=l
 | [],us,h=>by simpa only[List.map_nil,cU] using h
 | n::r,vs,h=>by simp![aH,cU] at h;let⟨v,t,rfl,h1,h2⟩:=h;rw[cU.vals h2,h1.eq]
instance {Ra:Bool}:IR K (S_ K Ra) (VT Ra) where
 imp :=by rintro x y v u M H q Q m r1 r2 ⟨z,l,rfl,hy,h1,h2,h⟩ k;cases r1.eq;obtain rfl | ⟨a,rfl,ha⟩:=hy;let⟨a,vs,rfl,hv,rr⟩:=r2.tup;cases rr.vals;show#[a,l,rfl, .inr hv,h1,h2,k _ M _ H h (a5.refl H) m WR.v];cases r2.eq;let⟨vs,hv,rr⟩:=m a _ ha;cases rr.vals;show#[a,l,rfl, .inl (iH.of hv),h1,h2,k _ M _ H h (a5.refl H) m WR.v]
def Gs:A6:=λxs M q=>eE λ(d:iW) (kvs:c_ (cz×W)) (ks:c_ Int)=>gJ (xs= [wr d]) (M d=some (.dK kvs)) (kvs.map (·.1)=ks.map Sum.inl) (ks.length<=sizeLine) (∀ (p:iW) (ns:c_ Int),M p=none ->ns.Perm ks ->ns.Pairwise (· <= ·) ->q (wr p) (um M p (.lst (ns.map wi))))
instance:IC K zo Gs where
 imp:=by rintro xs v M H q Q m r1 ⟨d,kvs,ks,rfl,hd,hk,hl,h⟩ k;let⟨v,rfl,r⟩:=r1.one;cases r.eq;let⟨vs,hv,rr⟩:=m d _ hd;show#[d,vs,ks,rfl,hv,by rw[rr.keys];show hk,hl,λp ns hp h1 h2=>k _ _ _ _ (h p ns (m.fresh hp) h1 h2) (L2.ge.ts (cf hp)) (m.zE hp (cU.ofInts ns)) WR.v]
end
end WL
namespace WL
open PySem L2
theorem Vf {α:Type}{a:α}{l:c_ α}:iF (a::l) 0=some a:=fF (j:=0) (by rfl)
theorem afM {α:Type}{a b:α}{l:c_ α}:iF (a::b::l) 1=some b:=fF (j:=1) (by rfl)
theorem afL {α:Type}{a b c:α}{l:c_ α}:iF (a::b::c::l) 2=some c:=fF (j:=2) (by rfl)
theorem afK {α:Type}{a b c d:α}{l:c_ α}:iF (a::b::c::d::l) 3=some d:=fF (j:=3) (by rfl)
def afF {n:Nat}:A2 (n+1+1) 1=some 1:=by unfold A2;rw[am ∅,am ∅];rfl
def afE {n:Nat}:A2 (n+1+1+1) 2=some 2:=by unfold A2;rw[am ∅,am ∅];rfl
def afD {n:Nat}:A2 (n+1+1+1+1) 3=some 3:=by unfold A2;rw[am ∅,am ∅];rfl
def f7 {α:Type}{l:c_ α}{i:Int}{a:α}(h0:0<=i)(h:l[i.toNat]? =some a):iF l i=some a:=by have e:((i.toNat:Nat):Int)=i:= ∅;rw[<- e];show fF h
theorem eP {M:Mp}{P:Mp ->Prop}(h:P M): ∃M0,Sm M0 M /\ P M0:=#[M,Sm.refl M,h]
def NB (d:iW)(M M':Mp):Prop:= ∀b,b≠d ->M' b=M b
theorem NB.refl (d:iW)(M:Mp):NB d M M:=λ_ _=>rfl
theorem NB.trans {d:iW}{M M1 M2:Mp}(a:NB d M M1)(b:NB d M1 M2):NB d M M2:=λc n=>(b c n).trans (a c n)
theorem NB.put {d:iW}{M:Mp}{o:MO}:NB d M (um M d o):=λb n=>aQ n
def Dr (M:Mp)(d l:iW):Prop:=gm λ(ns:c_ Int) (i c s:Int)=>fi (M d=some (.lst [wr l,wi i,wi c,wi s])) (M l=some (.lst (ns.map wi))) (0<=i) (d≠l)
def Dr.put {M:Mp}{d l p:iW}{o:MO}(h:Dr M d l)(hp:M p=none):Dr (um M p o) d l:=by let⟨ns,i,c,s,h1,h2,h3,h4⟩:=h;show#[ns,i,c,s,by rw[aQ (cg h1 hp)];show h1,by rw[aQ (cg h2 hp)];show h2,h3,h4]
def Dr.O3 {M:Mp}{d l p:iW}{o:MO}(h:Dr M d l)(hd:p≠d)(hl:p≠l):Dr (um M p o) d l:=by let⟨ns,i,c,s,h1,h2,h3,h4⟩:=h;show#[ns,i,c,s,by rw[aQ hd.symm];show h1,by rw[aQ hl.symm];show h2,h3,h4]
def Dr.ne {M:Mp}{d l p:iW}(h:Dr M d l)(hp:M p=none):p≠d /\ p≠l:=by let⟨ns,i,c,s,h1,h2,h3,h4⟩:=h;show#[(cg h1 hp).symm,(cg h2 hp).symm]
def ca (q:Int×Int):W:= .tup [wi q.1,wi q.2]
def gb (l:c_ (Int×Int)):W:= .tup (l.map ca)
def pairs_at {l:c_ (Int×Int)}{i:Nat}{x:W}(h:(l.map ca)[i]? =some x): ∃q,l[i]? =some q /\ x=ca q:=by
 rw[aI] at h;cases e:l[i]? with
 | none=>rw[e] at h;cases h
 | some q=>rw[e] at h;cases h;show#[q,rfl,rfl]
def zT {l:c_ Int}{i:Nat}{x:W}(h:(l.map wi)[i]? =some x): ∃n,l[i]? =some n /\ x=wi n:=by
 rw[aI] at h;cases e:l[i]? with
 | none=>rw[e] at h;cases h
 | some q=>rw[e] at h;cases h;show#[q,rfl,rfl]
def ju {lo:Int}{n i:Nat}{x:W}(h:(i9 lo n)[i]? =some x):i<n /\ x=wi (lo+i):=by unfold i9 at h;rw[aI] at h;by_cases hi:i<n;rw[List.getElem?_range hi] at h;cases h;show#[hi,rfl];rw[List.getElem?_eq_none ⇑hi] at h;cases h
def hG {lo:Int}{n:Nat}:(i9 lo n).length=n:=by simp[i9]
def lstK (o:gC MO)(k:c_ W ->Prop):Prop:= ∃l,o=some (.lst l) /\ k l
def iQ (o:gC MO)(k:c_ (cz×W) ->Prop):Prop:= ∃l,o=some (.dK l) /\ k l
def mJ {α:Type}(o:gC α)(k:α ->Prop):Prop:= ∃a,o=some a /\ k a
def eo (C Q:Prop):Prop:=C /\ Q
def ja (b:Bool)(A B:Prop):Prop:=if b=true then A else B
def HJ (M:Mp)(k:iW ->Prop):Prop:= ∀p,M p=none ->k p
def uU (p:fG)(xs:c_ W)(M:Mp)(q:WK):Prop:=p xs M q
def Rl (x:W)(M:Mp)(q:Bool ->Mp ->Prop):Prop:= ∃k,x=wb k /\ q k M
def fb (x:W)(k:iW ->Prop):Prop:= ∃a,x=wr a /\ k a
def tupK (x:W)(k:c_ W ->Prop):Prop:= ∃l,x= .tup l /\ k l
def kN (x:W)(k:cz ->Prop):Prop:= ∃y,x=iN y /\ k y
def UY (xs:c_ W)(keep:Mp ->Prop)(g:WG)(b:WS)(D:f8)(ρ:dm)(M1:Mp):Prop:= ∃I:Nat ->dm ->Mp ->Prop,fi (I 0 ρ M1) (∀i ρ M,i<=xs.length ->I i ρ M ->keep M) (∀i x ρ M,xs[i]? =some x ->I i ρ M ->g x ρ M λρ2 M2=>b {D with nx:=I (i+1),ct:=I (i+1),bk:=D.nx} ρ2 M2) (∀ρ M,I xs.length ρ M ->D.nx ρ M)
def wY (xs:c_ W)(keep:Mp ->Prop)(own:Nat)(fr:c_ Nat)(g:WG)(c:WT)(el:WE)(ρ:dm)(M1:Mp)(q:WK):Prop:=xs.length<=sizeLine /\ ∀p,M1 p=none -> ∃I:Nat ->c_ W ->Mp ->Prop,fi (I 0 [] (um M1 p (.lst []))) (∀i ys M,i<=xs.length ->I i ys M ->keep M /\ M p=some (.lst ys) /\ ys.length<=i) (∀i x ys M,xs[i]? =some x ->I i ys M ->g x (nQ own fr ρ) M λρ2 M2=>c ρ2 M2 λb M3=>if b=true then el ρ2 M3 λy M4=>M4 p=some (.lst ys) /\ I (i+1) (ys++ [y]) (um M4 p (.lst (ys++ [y]))) else I (i+1) ys M3) (∀ys M,I xs.length ys M ->q (wr p) M)
section
variable {M:Mp}{ρ:dm}{q:WK}{a b c:WE}{D:f8}
def YK {l:c_ W}{k:c_ W ->Prop}:lstK (some (.lst l)) k=k l:=by apply propext;symm;(· rintro⟨_,h,k⟩;cases h;show k);(· intro h;show#[_,rfl,h])
def ae' {l:c_ (cz×W)}{k:c_ (cz×W) ->Prop}:iQ (some (.dK l)) k=k l:=by apply propext;symm;(· rintro⟨_,h,k⟩;cases h;show k);(· intro h;show#[_,rfl,h])
def Yr {α:Type}{x:α}{k:α ->Prop}:mJ (some x) k=k x:=by apply propext;symm;(· rintro⟨_,h,k⟩;cases h;show k);(· intro h;show#[_,rfl,h])
def afi {Q:Prop}:eo True Q=Q:=by simp[eo]
def YW {A B:Prop}:ja true A B=A:=by simp[ja]
def YX {A B:Prop}:ja false A B=B:=by simp[ja]
def afH {k:Bool}{q:Bool ->Mp ->Prop}:Rl (.v (.bl k)) M q=q k M:=by apply propext;symm;(· rintro⟨_,h,k⟩;cases h;show k);(· intro h;show#[_,rfl,h])
def Yj {x:iW}{k:iW ->Prop}:fb (.v (.ref x)) k=k x:=by apply propext;symm;(· rintro⟨_,h,k⟩;cases h;show k);(· intro h;show#[_,rfl,h])
def X4 {x:c_ W}{k:c_ W ->Prop}:tupK (.tup x) k=k x:=by apply propext;symm;(· rintro⟨_,h,k⟩;cases h;show k);(· intro h;show#[_,rfl,h])
def YQ {i:Int}{k:cz ->Prop}:kN (.v (.int i)) k=k (.inl i):=by apply propext;symm;(· rintro⟨y,h,z⟩;cases y<;>cases h;show z);(· intro h;show#[.inl i,rfl,h])
def YO {i:Str}{k:cz ->Prop}:kN (.v (.str i)) k=k (.inr i):=by apply propext;symm;(· rintro⟨y,h,z⟩;cases y<;>cases h;show z);(· intro h;show#[.inr i,rfl,h])
theorem Xq {x:W}{r:dm}:ft 0 (some x::r) M q=q x M:=rfl
theorem Xp {x0:gC W}{x:W}{r:dm}:ft 1 (x0::some x::r) M q=q x M:=rfl
theorem Xo {x0 x1:gC W}{x:W}{r:dm}:ft 2 (x0::x1::some x::r) M q=q x M:=rfl
theorem Xn {x0 x1 x2:gC W}{x:W}{r:dm}:ft 3 (x0::x1::x2::some x::r) M q=q x M:=rfl
theorem Xm {x0 x1 x2 x3:gC W}{x:W}{r:dm}:ft 4 (x0::x1::x2::x3::some x::r) M q=q x M:=rfl
theorem Xl {x0 x1 x2 x3 x4:gC W}{x:W}{r:dm}:ft 5 (x0::x1::x2::x3::x4::some x::r) M q=q x M:=rfl
theorem Xk {x0 x1 x2 x3 x4 x5:gC W}{x:W}{r:dm}:ft 6 (x0::x1::x2::x3::x4::x5::some x::r) M q=q x M:=rfl
theorem Xj {x0 x1 x2 x3 x4 x5 x6:gC W}{x:W}{r:dm}:ft 7 (x0::x1::x2::x3::x4::x5::x6::some x::r) M q=q x M:=rfl
theorem Xi {x0 x1 x2 x3 x4 x5 x6 x7:gC W}{x:W}{r:dm}:ft 8 (x0::x1::x2::x3::x4::x5::x6::x7::some x::r) M q=q x M:=rfl
theorem Xh {x0 x1 x2 x3 x4 x5 x6 x7 x8:gC W}{x:W}{r:dm}:ft 9 (x0::x1::x2::x3::x4::x5::x6::x7::x8::some x::r) M q=q x M:=rfl
theorem VJ {x0 x1 x2 x3 x4 x5 x6 x7 x8 x9:gC W}{x:W}{r:dm}:ft 10 (x0::x1::x2::x3::x4::x5::x6::x7::x8::x9::some x::r) M q=q x M:=rfl
theorem VI {x0 x1 x2 x3 x4 x5 x6 x7 x8 x9 rP:gC W}{x:W}{r:dm}:ft 11 (x0::x1::x2::x3::x4::x5::x6::x7::x8::x9::rP::some x::r) M q=q x M:=rfl
theorem VH {x0 x1 x2 x3 x4 x5 x6 x7 x8 x9 rP tt:gC W}{x:W}{r:dm}:ft 12 (x0::x1::x2::x3::x4::x5::x6::x7::x8::x9::rP::tt::some x::r) M q=q x M:=rfl
theorem VG {x0 x1 x2 x3 x4 x5 x6 x7 x8 x9 rP tt vp:gC W}{x:W}{r:dm}:ft 13 (x0::x1::x2::x3::x4::x5::x6::x7::x8::x9::rP::tt::vp::some x::r) M q=q x M:=rfl
theorem VF {x0 x1 x2 x3 x4 x5 x6 x7 x8 x9 rP tt vp xm:gC W}{x:W}{r:dm}:ft 14 (x0::x1::x2::x3::x4::x5::x6::x7::x8::x9::rP::tt::vp::xm::some x::r) M q=q x M:=rfl
theorem VE {x0 x1 x2 x3 x4 x5 x6 x7 x8 x9 rP tt vp xm yN:gC W}{x:W}{r:dm}:ft 15 (x0::x1::x2::x3::x4::x5::x6::x7::x8::x9::rP::tt::vp::xm::yN::some x::r) M q=q x M:=rfl
theorem VD {x0 x1 x2 x3 x4 x5 x6 x7 x8 x9 rP tt vp xm yN A8:gC W}{x:W}{r:dm}:ft 16 (x0::x1::x2::x3::x4::x5::x6::x7::x8::x9::rP::tt::vp::xm::yN::A8::some x::r) M q=q x M:=rfl
theorem VC {x0 x1 x2 x3 x4 x5 x6 x7 x8 x9 rP tt vp xm yN A8 Ez:gC W}{x:W}{r:dm}:ft 17 (x0::x1::x2::x3::x4::x5::x6::x7::x8::x9::rP::tt::vp::xm::yN::A8::Ez::some x::r) M q=q x M:=rfl
theorem VB {x0 x1 x2 x3 x4 x5 x6 x7 x8 x9 rP tt vp xm yN A8 Ez Gn:gC W}{x:W}{r:dm}:ft 18 (x0::x1::x2::x3::x4::x5::x6::x7::x8::x9::rP::tt::vp::xm::yN::A8::Ez::Gn::some x::r) M q=q x M:=rfl
theorem VA {x0 x1 x2 x3 x4 x5 x6 x7 x8 x9 rP tt vp xm yN A8 Ez Gn Kv:gC W}{x:W}{r:dm}:ft 19 (x0::x1::x2::x3::x4::x5::x6::x7::x8::x9::rP::tt::vp::xm::yN::A8::Ez::Gn::Kv::some x::r) M q=q x M:=rfl
theorem Vz {x0 x1 x2 x3 x4 x5 x6 x7 x8 x9 rP tt vp xm yN A8 Ez Gn Kv Ou:gC W}{x:W}{r:dm}:ft 20 (x0::x1::x2::x3::x4::x5::x6::x7::x8::x9::rP::tt::vp::xm::yN::A8::Ez::Gn::Kv::Ou::some x::r) M q=q x M:=rfl
theorem Vy {x0 x1 x2 x3 x4 x5 x6 x7 x8 x9 rP tt vp xm yN A8 Ez Gn Kv Ou RG:gC W}{x:W}{r:dm}:ft 21 (x0::x1::x2::x3::x4::x5::x6::x7::x8::x9::rP::tt::vp::xm::yN::A8::Ez::Gn::Kv::Ou::RG::some x::r) M q=q x M:=rfl
theorem Vx {x0 x1 x2 x3 x4 x5 x6 x7 x8 x9 rP tt vp xm yN A8 Ez Gn Kv Ou RG Xe:gC W}{x:W}{r:dm}:ft 22 (x0::x1::x2::x3::x4::x5::x6::x7::x8::x9::rP::tt::vp::xm::yN::A8::Ez::Gn::Kv::Ou::RG::Xe::some x::r) M q=q x M:=rfl
theorem Vw {x0 x1 x2 x3 x4 x5 x6 x7 x8 x9 rP tt vp xm yN A8 Ez Gn Kv Ou RG Xe x22:gC W}{x:W}{r:dm}:ft 23 (x0::x1::x2::x3::x4::x5::x6::x7::x8::x9::rP::tt::vp::xm::yN::A8::Ez::Gn::Kv::Ou::RG::Xe::x22::some x::r) M q=q x M:=rfl
theorem afQ {x:W}:wC x ρ M q=q x M:=rfl
theorem afq {r:qz}:Ky r a b ρ M q=a ρ M λx M1=>b ρ M1 λy M2=>r x y M2 q:=rfl
theorem afn {r:W ->Mp ->WK ->Prop}:wUn r a ρ M q=a ρ M λx M1=>r x M1 q:=rfl
def afP {C:Int ->Int ->Prop}{g:Int ->Int ->V}{i j:Int}:wI C g (.v (.int i)) (.v (.int j)) M q=eo (C i j) (q (.v (g i j)) M):=by apply propext;symm;(· rintro⟨_,_,h1,h2,k⟩;cases h1;cases h2;show k);(· intro h;show#[_,_,rfl,rfl,h])
def afv {g:Int ->Int ->V}{i j:Int}:XH g (.v (.int i)) (.v (.int j)) M q=q (.v (g i j)) M:=by apply propext;symm;(· rintro⟨_,_,h1,h2,k⟩;cases h1;cases h2;show k);(· intro h;show#[_,_,rfl,rfl,h])
def afO {g:Int ->V}{i:Int}:wU g (.v (.int i)) M q=q (.v (g i)) M:=by apply propext;symm;(· rintro⟨_,h,k⟩;cases h;show k);(· intro h;show#[_,rfl,h])
def afy {i j:Int}:Q3 (.v (.int i)) (.v (.int j)) M q=q (wb (decide (i=j))) M:=by apply propext;symm;(· rintro⟨_,_,h1,h2,_,k⟩;cases h1;cases h2;simpa using k);(· intro h;show#[_,_,rfl,rfl,rfl, ⇑h])
def afs {i j:Int}:Xw (.v (.int i)) (.v (.int j)) M q=q (wb (!decide (i=j))) M:=by apply propext;symm;(· rintro⟨_,_,h1,h2,_,k⟩;cases h1;cases h2;simpa using k);(· intro h;show#[_,_,rfl,rfl,rfl, ⇑h])
def afx {i j:Str}:Q3 (.v (.str i)) (.v (.str j)) M q=q (wb (decide (i=j))) M:=by apply propext;symm;(· rintro⟨_,_,h1,h2,_,k⟩;cases h1;cases h2;simpa using k);(· intro h;show#[_,_,rfl,rfl,rfl, ⇑h])
def afr {i j:Str}:Xw (.v (.str i)) (.v (.str j)) M q=q (wb (!decide (i=j))) M:=by apply propext;symm;(· rintro⟨_,_,h1,h2,_,k⟩;cases h1;cases h2;simpa using k);(· intro h;show#[_,_,rfl,rfl,rfl, ⇑h])
theorem VM {q:Bool ->Mp ->Prop}:yQ a ρ M q=a ρ M λx M1=>Rl x M1 q:=rfl
theorem XU {a b:WT}{q:Bool ->Mp ->Prop}:Sd a b ρ M q=a ρ M λc M1=>ja c (b ρ M1 q) (q false M1):=rfl
theorem afp {a b:WT}{q:Bool ->Mp ->Prop}:wOr a b ρ M q=a ρ M λc M1=>ja c (q true M1) (b ρ M1 q):=rfl
theorem Xu {a:WT}{q:Bool ->Mp ->Prop}:RQ a ρ M q=a ρ M λc M1=>q (!c) M1:=rfl
theorem V0:MY a b ρ M q=a ρ M λx M1=>Rl x M1 λc M1=>ja c (b ρ M1 q) (q (wb false) M1):=rfl
theorem Xt:RP a b ρ M q=a ρ M λx M1=>Rl x M1 λc M1=>ja c (q (wb true) M1) (b ρ M1 q):=rfl
theorem VQ:MP a ρ M q=a ρ M λx M1=>Rl x M1 λc M1=>q (wb (!c)) M1:=rfl
theorem Sa {r r':qz}:GD r r' a b c ρ M q=a ρ M λx M1=>b ρ M1 λy M2=>r x y M2 λz M3=>Rl z M3 λk M3=>ja k (c ρ M3 λy' M4=>r' y y' M4 q) (q (wb false) M3):=rfl
theorem Xv {q:c_ W ->Mp ->Prop}:RS ρ M q=q [] M:=rfl
theorem VW {r:WA}{q:c_ W ->Mp ->Prop}:MU a r ρ M q=a ρ M λx M1=>r ρ M1 λxs M2=>q (x::xs) M2:=rfl
theorem Xr {a:WA}:RK a ρ M q=a ρ M λxs M1=>eo (xs.length<=sizeLine) (q (.tup xs) M1):=rfl
theorem Xx {a:WA}:RU a ρ M q=a ρ M λxs M1=>eo (xs.length<=sizeLine) (HJ M1 λp=>q (wr p) (um M1 p (.lst xs))):=rfl
def XD {x:iW}{i:Int}:RW (.v (.ref x)) (.v (.int i)) M q=lstK (M x) λl=>mJ (iF l i) λu=>q u M:=by apply propext;symm;(· rintro⟨_,l,_,u,h1,h2,h3,h4,k⟩;cases h1;cases h2;show#[l,h3,u,h4,k]);(· rintro⟨l,h3,u,h4,k⟩;show#[_,l,_,u,rfl,rfl,h3,h4,k])
def XB {l:c_ W}{i:Int}:Gx (.tup l) (.v (.int i)) M q=mJ (iF l i) λu=>q u M:=by apply propext;symm;(· rintro⟨_,_,u,h1,h2,h4,k⟩;cases h1;cases h2;show#[u,h4,k]);(· rintro⟨u,h4,k⟩;show#[_,_,u,rfl,rfl,h4,k])
theorem QZ {q:gC Int ->Mp ->Prop}:Cy ρ M q=q none M:=rfl
def Fh (x:W)(k:Int ->Prop):Prop:= ∃i,x=wi i /\ k i
def YZ {i:Int}{k:Int ->Prop}:Fh (.v (.int i)) k=k i:=by apply propext;symm;(· rintro⟨_,h,k⟩;cases h;show k);(· intro h;show#[_,rfl,h])
theorem VP {q:gC Int ->Mp ->Prop}:MN a ρ M q=a ρ M λx M1=>Fh x λi=>q (some i) M1:=rfl
theorem afo {r:Vj}{lo hi:WO}:wSl r a lo hi ρ M q=a ρ M λx M1=>lo ρ M1 λl M2=>hi ρ M2 λu M3=>r x l u M3 q:=rfl
theorem afz {r:A6}{a:WA}:wCB r a ρ M q=a ρ M λxs M1=>r xs M1 q:=rfl
theorem VZ {p:fG}{a:WA}:MX p a ρ M q=a ρ M λxs M1=>uU p xs M1 q:=rfl
def Xz {x:iW}:Ox [.v (.ref x)] M q=lstK (M x) λl=>q (wi l.length) M:=by apply propext;symm;(· rintro(⟨_,l,h1,h2,k⟩ | ⟨_,h1,_⟩);(· cases h1;show#[l,h2,k]);cases h1);(· rintro⟨l,h3,k⟩;show .inl #[_,l,rfl,h3,k])
def Xy {l:c_ W}:Ox [.tup l] M q=q (wi l.length) M:=by apply propext;symm;(· rintro(⟨_,l,h1,h2,k⟩ | ⟨_,h1,k⟩);(· cases h1);cases h1;show k);(· intro k;show .inr #[l,rfl,k])
def XX {i:Int}:Se [.v (.int i)] M q=q (wi (if i<0 then -i else i)) M:=by apply propext;symm;(· rintro⟨_,h,k⟩;cases h;show k);(· intro h;show#[_,rfl,h])
def Q1 {x:iW}:xn [.v (.ref x)] M q=lstK (M x) λl=>HJ M λp=>q (wr p) (um M p (.lst l)):=by apply propext;symm;(· rintro⟨l,⟨_,h1,h2⟩ | h1,k⟩;(· cases h1;show#[l,h2,k]);cases h1);(· rintro⟨l,h3,k⟩;show#[l, .inl #[_,rfl,h3],k])
def Q0 {l:c_ W}:xn [.tup l] M q=HJ M λp=>q (wr p) (um M p (.lst l)):=by apply propext;symm;(· rintro⟨l,⟨_,h1,h2⟩ | h1,k⟩;(· cases h1);cases h1;show k);(· intro k;show#[l, .inr rfl,k])
def Ov {x:iW}:yP [.v (.ref x)] M q=lstK (M x) λl=>q (.tup l) M:=by apply propext;symm;(· rintro⟨l,⟨_,h1,h2⟩ | h1,k⟩;(· cases h1;show#[l,h2,k]);cases h1);(· rintro⟨l,h3,k⟩;show#[l, .inl #[_,rfl,h3],k])
def XE {K:Uc}{x:W}{T:String}:RX K [x, .v (.ty T)] M q=mJ (V4 M x) λt=>mJ (W.kitOne K t (.type T)) λb=>q (wb b) M:=by apply propext;symm;(· rintro⟨_,_,t,b,h1,h2,h3,k⟩;cases h1;show#[t,h2,b,h3,k]);(· rintro⟨t,h2,b,h3,k⟩;show#[_,_,t,b,rfl,h2,h3,k])
theorem NU {K:Uc}:W.kitOne K (.type "int") (.type "int")=some true:=rfl
theorem LG {K:Uc}:W.kitOne K (.type "int") (.type "bool")=some false:=rfl
theorem NT {K:Uc}:W.kitOne K (.type "int") (.type "str")=some false:=rfl
theorem Kc {K:Uc}:W.kitOne K (.type "int") (.type "tuple")=some false:=rfl
theorem LF {K:Uc}:W.kitOne K (.type "int") (.type "list")=some false:=rfl
theorem LI {K:Uc}:W.kitOne K (.type "bool") (.type "int")=some true:=rfl
theorem Ke {K:Uc}:W.kitOne K (.type "bool") (.type "bool")=some true:=rfl
theorem LH {K:Uc}:W.kitOne K (.type "bool") (.type "str")=some false:=rfl
theorem Ia {K:Uc}:W.kitOne K (.type "bool") (.type "tuple")=some false:=rfl
theorem Kd {K:Uc}:W.kitOne K (.type "bool") (.type "list")=some false:=rfl
theorem NS {K:Uc}:W.kitOne K (.type "str") (.type "int")=some false:=rfl
theorem LB {K:Uc}:W.kitOne K (.type "str") (.type "bool")=some false:=rfl
theorem NR {K:Uc}:W.kitOne K (.type "str") (.type "str")=some true:=rfl
theorem J_ {K:Uc}:W.kitOne K (.type "str") (.type "tuple")=some false:=rfl
theorem LA {K:Uc}:W.kitOne K (.type "str") (.type "list")=some false:=rfl
theorem Fa {K:Uc}:W.kitOne K (.type "NoneType") (.type "int")=some false:=rfl
theorem DF {K:Uc}:W.kitOne K (.type "NoneType") (.type "bool")=some false:=rfl
theorem E_ {K:Uc}:W.kitOne K (.type "NoneType") (.type "str")=some false:=rfl
theorem BM {K:Uc}:W.kitOne K (.type "NoneType") (.type "tuple")=some false:=rfl
theorem DE {K:Uc}:W.kitOne K (.type "NoneType") (.type "list")=some false:=rfl
theorem J9 {K:Uc}:W.kitOne K (.type "tuple") (.type "int")=some false:=rfl
theorem HZ {K:Uc}:W.kitOne K (.type "tuple") (.type "bool")=some false:=rfl
theorem J8 {K:Uc}:W.kitOne K (.type "tuple") (.type "str")=some false:=rfl
theorem Gf {K:Uc}:W.kitOne K (.type "tuple") (.type "tuple")=some true:=rfl
theorem HY {K:Uc}:W.kitOne K (.type "tuple") (.type "list")=some false:=rfl
theorem LD {K:Uc}:W.kitOne K (.type "list") (.type "int")=some false:=rfl
theorem Kb {K:Uc}:W.kitOne K (.type "list") (.type "bool")=some false:=rfl
theorem LC {K:Uc}:W.kitOne K (.type "list") (.type "str")=some false:=rfl
theorem H_ {K:Uc}:W.kitOne K (.type "list") (.type "tuple")=some false:=rfl
theorem Ka {K:Uc}:W.kitOne K (.type "list") (.type "list")=some true:=rfl
def afA {r:WM}{b:WA}:XS r a b ρ M q=a ρ M λx M1=>fb x λp=>lstK (M1 p) λ_=>b ρ M1 λxs M2=>r x xs M2 q:=by unfold XS IsL fb lstK;congr 1;funext x M1;apply propext;symm;(· rintro⟨⟨p,l,h1,h2⟩,k⟩;show#[p,h1,l,h2,k]);(· rintro⟨p,h1,l,h2,k⟩;show#[#[p,l,h1,h2],k])
def XR {r:WM}:OD r a ρ M q=a ρ M λx M1=>fb x λp=>lstK (M1 p) λ_=>r x [] M1 q:=by unfold OD IsL fb lstK;congr 1;funext x M1;apply propext;symm;(· rintro⟨⟨p,l,h1,h2⟩,k⟩;show#[p,h1,l,h2,k]);(· rintro⟨p,h1,l,h2,k⟩;show#[#[p,l,h1,h2],k])
def Q5 {x:iW}{y:W}:CA (.v (.ref x)) [y] M q=lstK (M x) λl=>eo (l.length<sizeLine) (q wn (um M x (.lst (l++ [y])))):=by apply propext;symm;(· rintro⟨_,l,_,h1,h2,h3,h4,k⟩;cases h1;cases h2;show#[l,h3,h4,k]);(· rintro⟨l,h3,h4,k⟩;show#[_,l,_,rfl,rfl,h3,h4,k])
def Q2 {x y:iW}:Cz (.v (.ref x)) [.v (.ref y)] M q=lstK (M x) λl=>lstK (M y) λl'=>eo (l.length+l'.length<=sizeLine) (q wn (um M x (.lst (l++l')))):=by apply propext;symm;(· rintro⟨_,_,l,l',h1,h2,h3,h4,h5,k⟩;cases h1;cases h2;show#[l,h3,l',h4,h5,k]);(· rintro⟨l,h3,l',h4,h5,k⟩;show#[_,_,l,l',rfl,rfl,h3,h4,h5,k])
def XO {x y:iW}:Sb (.v (.ref x)) (.v (.ref y)) M q=lstK (M x) λl=>lstK (M y) λl'=>eo (l.length+l'.length<=sizeLine) (HJ M λp=>q (wr p) (um M p (.lst (l++l')))):=by apply propext;symm;(· rintro⟨_,_,l,l',h1,h2,h3,h4,h5,k⟩;cases h1;cases h2;show#[l,h3,l',h4,h5,k]);(· rintro⟨l,h3,l',h4,h5,k⟩;show#[_,_,l,l',rfl,rfl,h3,h4,h5,k])
theorem VU:MT ρ M q=HJ M λp=>q (wr p) (um M p (.dK [])):=rfl
def VV:GA a b ρ M q=a ρ M λx M1=>b ρ M1 λy M2=>fb x λp=>kN y λk=>iQ (M2 p) λkvs=>mJ (fu kvs k) λz=>q z M2:=by unfold GA fb kN iQ mJ;congr 1;funext x M1;congr 1;funext y M2;apply propext;symm;(· rintro⟨p,kvs,k,z,h1,h2,h3,h4,h⟩;show#[p,h1,k,h3,kvs,h2,z,h4,h]);(· rintro⟨p,h1,k,h3,kvs,h2,z,h4,h⟩;show#[p,kvs,k,z,h1,h2,h3,h4,h])
def XN:OB a b ρ M q=a ρ M λy M1=>b ρ M1 λx M2=>fb x λp=>kN y λk=>iQ (M2 p) λkvs=>q (wb (fu kvs k).isSome) M2:=by unfold OB fb kN iQ;congr 1;funext x M1;congr 1;funext y M2;apply propext;symm;(· rintro⟨p,kvs,k,h1,h2,h3,h⟩;show#[p,h1,k,h3,kvs,h2,h]);(· rintro⟨p,h1,k,h3,kvs,h2,h⟩;show#[p,kvs,k,h1,h2,h3,h])
def Q4:xo a b ρ M q=a ρ M λy M1=>b ρ M1 λx M2=>fb x λp=>kN y λk=>iQ (M2 p) λkvs=>q (wb (!(fu kvs k).isSome)) M2:=by unfold xo fb kN iQ;congr 1;funext x M1;congr 1;funext y M2;apply propext;symm;(· rintro⟨p,kvs,k,h1,h2,h3,h⟩;show#[p,h1,k,h3,kvs,h2,h]);(· rintro⟨p,h1,k,h3,kvs,h2,h⟩;show#[p,kvs,k,h1,h2,h3,h])
def R8:Bb a b c ρ M q=a ρ M λx M1=>fb x λp=>iQ (M1 p) λ_=>b ρ M1 λy M2=>c ρ M2 λz M3=>kN y λk=>iQ (M3 p) λkvs=>q ((fu kvs k).getD z) M3:=by
 unfold Bb fb kN iQ;congr 1;funext x M1;apply propext;symm;rintro⟨p,h1,⟨kvs,h2⟩,h⟩;exact#[p,h1,kvs,h2,?_];have e:(λy M2=>c ρ M2 λz M3=>cE λkvs k=>cS (M3 p=some (.dK kvs)) (y=iN k) (q ((fu kvs k).getD z) M3))=(λy M2=>c ρ M2 λz M3=> ∃k,y=iN k /\ ∃kvs,M3 p=some (.dK kvs) /\ q ((fu kvs k).getD z) M3):=by funext y M2;congr 1;funext z M3;apply propext;symm;rintro⟨a,b,c,d,e⟩;show#[b,d,a,c,e];rintro⟨b,d,a,c,e⟩;show#[a,b,c,d,e]
 rw[<- e];show h;rintro⟨p,h1,kvs,h2,h⟩;exact#[p,h1,#[kvs,h2],?_];have e:(λy M2=>c ρ M2 λz M3=>cE λkvs k=>cS (M3 p=some (.dK kvs)) (y=iN k) (q ((fu kvs k).getD z) M3))=(λy M2=>c ρ M2 λz M3=> ∃k,y=iN k /\ ∃kvs,M3 p=some (.dK kvs) /\ q ((fu kvs k).getD z) M3):=by funext y M2;congr 1;funext z M3;apply propext;symm;rintro⟨a,b,c,d,e⟩;show#[b,d,a,c,e];rintro⟨b,d,a,c,e⟩;show#[a,b,c,d,e]
 rw[e];show h
theorem bz {a b:WS}:EL a b D ρ M=a {nx:=b D,rt:=D.rt,bk:=D.bk,ct:=D.ct} ρ M:=rfl
theorem V_:CW D ρ M=D.nx ρ M:=rfl
theorem Wb:Nq a D ρ M=a ρ M λ_ M1=>D.nx ρ M1:=rfl
theorem Yd:SU a D ρ M=a ρ M D.rt:=rfl
theorem afB {c:WT}{a b:WS}:Q9 c a b D ρ M=c ρ M λk M1=>ja k (a D ρ M1) (b D ρ M1):=rfl
theorem Yg {g:WG}:S1 a g D ρ M=a ρ M λx M1=>g x ρ M1 D.nx:=rfl
theorem Yf {i:Nat}{r:qz}:S0 i a r D ρ M=ft i ρ M λx M=>a ρ M λy M1=>r x y M1 λz M2=>D.nx (ρ.set i (some z)) M2:=rfl
def SX:Bm a b c D ρ M=c ρ M λz M1=>a ρ M1 λx M2=>b ρ M2 λy M3=>fb x λp=>kN y λk=>iQ (M3 p) λkvs=>eo (kvs.length<sizeLine) (D.nx ρ (um M3 p (.dK (xH kvs k z)))):=by unfold Bm fb kN iQ eo;congr 1;funext z M1;congr 1;funext x M2;congr 1;funext y M3;apply propext;symm;(· rintro⟨p,kvs,k,h1,h2,h3,h4,h⟩;show#[p,h1,k,h3,kvs,h2,h4,h]);(· rintro⟨p,h1,k,h3,kvs,h2,h4,h⟩;show#[p,kvs,k,h1,h2,h3,h4,h])
theorem Ye {it:WI}{g:WG}{b:WS}:SV it g b D ρ M=it ρ M λxs keep M1=>UY xs keep g b D ρ M1:=rfl
theorem V2 {i:Nat}{x:W}{q:dm ->Mp ->Prop}:Na i x ρ M q=q (ρ.set i (some x)) M:=rfl
def X1 {q:dm ->Mp ->Prop}:OF [] ρ M q=q ρ M:=by simp[OF]
def V3 {a:WG}{b:Mo}{x:W}{r:c_ W}{q:dm ->Mp ->Prop}:Nb a b (x::r) ρ M q=a x ρ M λρ' M'=>b r ρ' M' q:=by apply propext;symm;(· rintro⟨_,_,h,k⟩;cases h;show k);(· intro h;show#[_,_,rfl,h])
def XZ {n:Nat}{a:Mo}{l:c_ W}{q:dm ->Mp ->Prop}:Sf n a (.tup l) ρ M q=eo (l.length=n) (a l ρ M q):=by apply propext;symm;(· rintro⟨_,h,k,l⟩;cases h;show#[k,l]);(· rintro⟨h,l⟩;show#[_,rfl,h,l])
theorem X0 {s:JE}{x:W}{q:dm ->Mp ->Prop}:Sh a b s x ρ M q=a ρ M λo M1=>b ρ M1 λi M2=>s o i x M2 λM3=>q ρ M3:=rfl
def VO {x:iW}{i:Int}{z:W}{q:Mp ->Prop}:MM (.v (.ref x)) (.v (.int i)) z M q=lstK (M x) λl=>mJ (A2 l.length i) λj=>q (um M x (.lst (l.set j z))):=by apply propext;symm;(· rintro⟨_,l,_,j,h1,h2,h3,h4,k⟩;cases h1;cases h2;show#[l,h3,j,h4,k]);(· rintro⟨l,h3,j,h4,k⟩;show#[_,l,_,j,rfl,rfl,h3,h4,k])
def Ww {q:c_ W ->(Mp ->Prop) ->Mp ->Prop}:Ih a ρ M q=a ρ M λx M1=>fb x λp=>lstK (M1 p) λl=>q l (λM'=>M' p=some (.lst l)) M1:=by unfold Ih fb lstK;congr 1;funext x M1;apply propext;symm;(· rintro⟨p,l,h1,h2,h⟩;show#[p,h1,l,h2,h]);(· rintro⟨p,h1,l,h2,h⟩;show#[p,l,h1,h2,h])
theorem YT {q:c_ W ->(Mp ->Prop) ->Mp ->Prop}:T9 a ρ M q=a ρ M λx M1=>tupK x λl=>q l (λ_=>True) M1:=rfl
def Pu (xs:c_ W)(k:W ->Prop):Prop:= ∃x,xs= [x] /\ k x
def Ys {x:W}{k:W ->Prop}:Pu [x] k=k x:=by apply propext;symm;(· rintro⟨_,h,k⟩;cases h;show k);(· intro h;show#[_,rfl,h])
def Wv {a:WA}{q:c_ W ->(Mp ->Prop) ->Mp ->Prop}:Ig a ρ M q=a ρ M λxs M1=>Pu xs λx=>Fh x λj=>eo (-(2 ^ 62) <=j /\ j<2 ^ 62) (q (i9 0 j.toNat) (λ_=>True) M1):=by unfold Ig Pu Fh eo;congr 1;funext x M1;apply propext;symm;(· rintro⟨j,h1,h2,h3,h⟩;show#[_,h1,j,rfl,#[h2,h3],h]);(· rintro⟨_,h1,j,rfl,⟨h2,h3⟩,h⟩;show#[j,h1,h2,h3,h])
theorem VX {it:WI}{own:Nat}{fr:c_ Nat}{g:WG}{c:WT}{el:WE}:MV it own fr g c el ρ M q=it ρ M λxs keep M1=>wY xs keep own fr g c el ρ M1 q:=rfl
theorem Xg {q:Bool ->Mp ->Prop}:RJ ρ M q=q true M:=rfl
end
def sl1:(1<=sizeLine)=True:=by rw[c9];decide
def No:(2<=sizeLine)=True:=by rw[c9];decide
def sl3:(3<=sizeLine)=True:=by rw[c9];decide
def sl4:(4<=sizeLine)=True:=by rw[c9];decide
def sl5:(5<=sizeLine)=True:=by rw[c9];decide
def sl0:(0<=sizeLine)=True:=by simp
def dQ {c A B:Prop} [Decidable c](h1:c ->A)(h2:¬c ->B):ja (decide c) A B:=by unfold ja;by_cases h:c;rw[am (bL h)];show h1 h;rw[ak ⇑h];show h2 h
def P9 {c A B:Prop} [Decidable c](h1:¬c ->A)(h2:c ->B):ja (!decide c) A B:=by unfold ja;by_cases h:c;rw[ak ⇑h];show h2 h;rw[am ⇑h];show h1 h
theorem iD {xs:c_ W}{keep:Mp ->Prop}{M1:Mp}{own:Nat}{fr:c_ Nat}{ρ:dm}{g:WG}{c:WT}{el:WE}{q:WK}(f:W ->gC W)(hz:xs.length<=sizeLine)(lD: ∀M,Sm M1 M ->keep M) (hs: ∀ (i:Nat) x,xs[i]? =some x -> ∀ (M:Mp) (N:gC W ->Mp ->Prop),Sm M1 M ->N (f x) M ->g x (nQ own fr ρ) M λρ2 M2=>c ρ2 M2 λb M3=>ja b (el ρ2 M3 λy M4=>N (some y) M4) (N none M3)) (hq: ∀p,M1 p=none ->q (wr p) (um M1 p (.lst (xs.filterMap f)))):wY xs keep own fr g c el ρ M1 q:=Fz f hz lD hs hq
end WL
namespace WL
def hold (f:dm ->Mp ->Prop)(ρ:dm)(M:Mp):Prop:=f ρ M
theorem fg {f:dm ->Mp ->Prop}{ρ:dm}{M:Mp}(h:f ρ M):hold f ρ M:=h
theorem cI {a b:WS}{D:f8}{ρ:dm}{M:Mp}:EL a b D ρ M=a {nx:=hold (b D),rt:=D.rt,bk:=D.bk,ct:=D.ct} ρ M:=rfl
theorem uu {c:WT}{a b R:WS}{D:f8}{ρ:dm}{M:Mp}(Mid:dm ->Mp ->Prop)(c7: ∀ρ M,Mid ρ M ->R D ρ M)(h: ∀N:dm ->Mp ->Prop,(∀ρ M,Mid ρ M ->N ρ M) ->Q9 c a b {nx:=N,rt:=D.rt,bk:=D.bk,ct:=D.ct} ρ M):EL (Q9 c a b) R D ρ M:=h _ c7
theorem jE {xs:c_ W}{keep:Mp ->Prop}{g:WG}{b:WS}{D:f8}{ρ:dm}{M1:Mp}(I:Nat ->dm ->Mp ->Prop)(h0:I 0 ρ M1)(hk: ∀i ρ M,i<=xs.length ->I i ρ M ->keep M) (hs: ∀i x ρ M,xs[i]? =some x ->I i ρ M -> ∀N:dm ->Mp ->Prop,(∀ρ' M',I (i+1) ρ' M' ->N ρ' M') ->g x ρ M λρ2 M2=>b {nx:=N,rt:=D.rt,bk:=D.nx,ct:=N} ρ2 M2) (hd: ∀ρ M,I xs.length ρ M ->D.nx ρ M):UY xs keep g b D ρ M1:=#[I,h0,hk,λi x ρ M hx hI=>hs i x ρ M hx hI _ λ_ _ h=>h,hd]
end WL
namespace WL
open L2
def OX:WS:=λ_ _ _=>False
instance {K:Uc}:IS K GP OX where
 imp:=λ_ _ _ _ _ _ _ h _=>h.elim
end WL
namespace WP
open PySem L2 WL
abbrev Pt:=c_ (Int×Int)
def look:Pt ->Int ->Int
 | [],_=>0
 | q::r,x=>if q.1=x then q.2 else look r x
def dR (p:Int)(l:Pt):Prop:=(∀q∈l,0<q.2 /\ q.2<p) /\ l.Pairwise (λa b=>a.1<b.1)
def fw:Pt ->Int ->Int
 | [],_=>0
 | q::r,x=>(if q.1=x then q.2 else 0)+fw r x
def gi (a b:Pt)(x:Int):fw (a++b) x=fw a x+fw b x:=by
 induction a with
 | nil=>simp[fw]
 | cons q r ih=>rw[List.cons_append,fw,fw,ih];lia
def tG (a:Pt)(q:Int×Int)(x:Int):fw (a++ [q]) x=fw a x+if q.1=x then q.2 else 0:=by rw[gi];simp[fw]
def gD {l:Pt}{x:Int}(h: ∀q∈l,q.1≠x):look l x=0:=by
 induction l with
 | nil=>rfl
 | cons q r ih=>rw[look,ak (h q (by simp)),ih λz hz=>h z (by simp[hz])]
def nY {l:Pt}(h:l.Pairwise (λa b=>a.1<b.1))(x:Int):fw l x=look l x:=by
 induction l with
 | nil=>rfl
 | cons q r ih=>rw[cb] at h;rw[fw,look,ih h.2];by_cases e:q.1=x;rw[am e,am e,gD];lia;intro z hz;have:=h.1 z hz;lia;rw[ak e,ak e];lia
def BI {p:Int}{l:Pt}(hp:0<p)(h:dR p l)(x:Int):0<=look l x /\ look l x<p:=by
 induction l with
 | nil=>rw[look];lia
 | cons q r ih=>rw[look];split;have:=h.1 q (by simp);lia;show ih #[λz hz=>h.1 z (by simp[hz]),(cb.mp h.2).2]
theorem dR.tail {p:Int}{q:Int×Int}{r:Pt}(h:dR p (q::r)):dR p r:=#[λz hz=>h.1 z (by simp[hz]),(cb.mp h.2).2]
theorem dR.nil {p:Int}:dR p []:=#[λ_ h=>absurd h (by simp),List.Pairwise.nil]
theorem sS {p p':Int}: ∀ {a b:Pt},dR p a ->dR p' b ->(∀x,look a x=look b x) ->a=b
 | [],[],_,_,_=>rfl
 | [],q::r,_,hb,h=>by have:=h q.1;rw[look,look,am rfl] at this;have:=hb.1 q (by simp);lia
 | q::r,[],ha,_,h=>by have:=h q.1;rw[look,look,am rfl] at this;have:=ha.1 q (by simp);lia
 | q ::r,q'::r',ha,hb,h=>by
  have pa:=ha.1 q (by simp);have pb:=hb.1 q' (by simp);have sa:=(cb.mp ha.2).1;have sb:=(cb.mp hb.2).1;have e1:q.1=q'.1:=by obtain l | l | l:=Int.lt_trichotomy q.1 q'.1;have e:=h q.1;rw[look,am rfl,look,ak ∅,gD (λz hz=>by have:=sb z hz;lia)] at e;lia;show l;have e:=h q'.1;rw[look,ak ∅,gD (λz hz=>by have:=sa z hz;lia),look,am rfl] at e;lia
  have e2:q.2=q'.2:=by have e:=h q.1;rw[look,am rfl,look,am e1.symm] at e;show e
  have e:r=r':=sS ha.tail hb.tail λx=>by by_cases hx:q.1=x;rw[gD (λz hz=>by have:=sa z hz;lia),gD (λz hz=>by have:=sb z hz;lia)];have e:=h x;rwa [look,ak hx,look,ak ∅] at e
  rw[e,Prod.ext e1 e2]
def iG (p:Int):Pt ->Int ->Int ->Pt
 | [],x,s=>if s % p=0 then [] else [(x,s % p)]
 | q::r,x,s=>if x<q.1 then(if s % p=0 then q::r else(x,s % p)::q::r) else if x=q.1 then(if(q.2+s) % p=0 then r else(x,(q.2+s) % p)::r) else q::iG p r x s
def pZ (p:Int)(ps:Pt):Pt:=ps.foldl (λa q=>iG p a q.1 q.2) []
def FL {p:Int}{l:Pt}{x s:Int}{z:Int×Int}(h:z∈iG p l x s):z.1=x \/ z∈l:=by
 induction l with
 | nil=>rw[iG] at h;split at h;cases h;left;rw[bn.mp h]
 | cons q r ih=>rw[iG] at h;split at h;split at h;show .inr h;obtain h | h:=aP.mp h;left;rw[h];show .inr h;split at h;split at h;show .inr (by simp[h]);obtain h | h:=aP.mp h;left;rw[h];show .inr (by simp[h]);obtain h | h:=aP.mp h;show .inr (by simp[h]);obtain h | h:=ih h;show .inl h;show .inr (by simp[h])
def BD {p s:Int}(hp:0<p)(h:¬s % p=0):0<s % p /\ s % p<p:=by have:=Int.emod_nonneg s (show p≠0 by lia);have:=Int.emod_lt_of_pos s hp;lia
def FK {p:Int}(hp:0<p){l:Pt}{x s:Int}(h:dR p l):dR p (iG p l x s):=by
 induction l with
 | nil=>rw[iG];split;show dR.nil;rename_i hs;show#[λq hq=>by rw[bn.mp hq];show BD hp hs,by simp]
 | cons q r ih=>have sa:=(cb.mp h.2).1;rw[iG];split;rename_i hx;split;show h;rename_i hs;exact#[λz hz=> ?_,cb.mpr #[λz hz=> ?_,h.2]];obtain rfl | hz:=aP.mp hz;show BD hp hs;show h.1 z hz;obtain rfl | hz:=aP.mp hz;show hx;have:=sa z hz;change x<z.1;lia;split;rename_i hx;split;show h.tail;rename_i hs;exact#[λz hz=> ?_,cb.mpr #[λz hz=> ?_,h.tail.2]];obtain rfl | hz:=aP.mp hz;show BD hp hs;show h.1 z (by simp[hz]);have:=sa z hz;change x<z.1;lia;rename_i h1 h2;have ih':=ih h.tail;exact#[λz hz=> ?_,cb.mpr #[λz hz=> ?_,ih'.2]];obtain rfl | hz:=aP.mp hz;show h.1 z (by simp);show ih'.1 z hz;obtain e | hz:=FL hz;lia;show sa z hz
def BJ {p:Int}(hp:0<p){l:Pt}{x s:Int}(h:dR p l)(y:Int):look (iG p l x s) y=if y=x then(look l x+s) % p else look l y:=by
 induction l with
 | nil=>rw[iG];by_cases hs:s % p=0;rw[am hs];simp[look,hs];rw[ak hs];by_cases e:y=x;subst e;simp[look];rw[ak e];simp[look,dy e]
 | cons q r ih=>
  have sa:=(cb.mp h.2).1;have qr:=h.1 q (by simp);rw[iG];split;rename_i hx;have hn:look (q::r) x=0:=gD (λz hz=>by obtain rfl | hz:=aP.mp hz;lia;have:=sa z hz;lia);rw[hn,Int.zero_add];split;rename_i hs;by_cases e:y=x;rw[am e,e,hn,hs];rw[ak e];by_cases e:y=x;rw[am e,look,am e.symm];rw[ak e,look,ak (dy e)];split;rename_i hx;have hq:look (q::r) x=q.2:=by rw[look,am hx.symm]
  rw[hq];split;rename_i hs;by_cases e:y=x;rw[am e,hs,gD (λz hz=>by have:=sa z hz;lia)];rw[ak e,look,ak ∅];by_cases e:y=x;rw[am e,look,am e.symm];rw[ak e,look,ak (dy e),look,ak ∅];rename_i h1 h2;rw[look,ih h.tail];by_cases e:y=x;rw[am e,am e,ak ∅];conv=>rhs;rw[look,ak ∅]
  rw[ak e,ak e,look]
def ud (p:Int)(ps:Pt)(q:Int×Int):pZ p (ps++ [q])=iG p (pZ p ps) q.1 q.2:=by unfold pZ;rw[List.foldl_append];rfl
def mE {α:Type}{P:c_ α ->Prop}(h0:P [])(h1: ∀l a,P l ->P (l++ [a]))(l:c_ α):P l:=by
 have key: ∀n:Nat, ∀l:c_ α,l.length=n ->P l:=by
  intro n;induction n with
  | zero=>intro l hl;rw[List.length_eq_zero_iff.mp hl];show h0
  | succ n ih=>
   intro l hl;have nK:l≠ []:=by intro e;rw[e] at hl;cases hl
   rw[<- List.dropLast_concat_getLast nK];show h1 _ _ (ih _ (by rw[List.length_dropLast];lia))
 show key _ l rfl
def fY {p:Int}(hp:0<p)(ps:Pt):dR p (pZ p ps):=by
 induction ps using mE with
 | h0=>show dR.nil
 | h1 l a ih=>rw[ud];show FK hp ih
def uh {p:Int}(hp:0<p)(ps:Pt)(x:Int):look (pZ p ps) x=fw ps x % p:=by
 induction ps using mE with
 | h0=>simp[pZ,look,fw]
 | h1 l a ih=>rw[ud,BJ hp (fY hp l),tG];by_cases e:x=a.1;subst e;rw[am rfl,am rfl,ih,Int.emod_add_emod];rw[ak e,ak (dy e),ih,Int.add_zero]
def FM {p:Int}{l:Pt}{x s:Int}:(iG p l x s).length<=l.length+1:=by
 induction l with
 | nil=>rw[iG];split<;>simp
 | cons q r ih=>rw[iG];split;split<;>simp;split;split<;>simp<;>lia;simp;show ih
def iV (p:Int)(ps:Pt):(pZ p ps).length<=ps.length:=by
 induction ps using mE with
 | h0=>simp[pZ]
 | h1 l a ih=>rw[ud,aJ];show ar FM (by simp;show ih)
def vn (m:Pt):c_ (cz×W):=m.map λq=>((Sum.inl q.1:cz),wi q.2)
def vv (m:Pt)(x v:Int):Pt:=if(m.any λq=>decide (q.1=x))=true then m.map (λq=>if q.1=x then(q.1,v) else q) else m++ [(x,v)]
def tq {m:Pt}{x:Int}:(m.any λq=>decide (q.1=x))=true↔x∈m.map (·.1):=by rw[List.any_eq_true,b8];symm;rintro⟨q,hq,e⟩;show#[q,hq, ⇑e];rintro⟨q,hq,e⟩;show#[q,hq, ⇑e]
def DJ (a b:Int):decide ((Sum.inl a:cz)=Sum.inl b)=decide (a=b):=by simp
def C7 (m:Pt)(x v:Int):xH (vn m) (.inl x) (wi v)=vn (vv m x v):=by
 unfold xH vv;have e:((vn m).any λkv=>decide (kv.1=(Sum.inl x:cz)))=m.any λq=>decide (q.1=x):=by unfold vn;rw[List.any_map];congr 1;funext q;show DJ _ _
 rw[e];split;unfold vn;rw[aU,aU];apply dF;intro q _;change(if(Sum.inl q.1:cz)=Sum.inl x then((Sum.inl q.1:cz),wi v) else(Sum.inl q.1,wi q.2))=((Sum.inl (if q.1=x then(q.1,v) else q).1:cz),wi (if q.1=x then(q.1,v) else q).2)
 by_cases hq:q.1=x;rw[am (by rw[hq]),am hq];rw[ak (λz=>hq (Sum.inl.inj z)),ak hq];unfold vn;rw[a6];rfl
def CB (m:Pt)(x:Int):fu (vn m) (.inl x)=(m.find? λq=>decide (q.1=x)).map λq=>wi q.2:=by
 unfold fu vn;rw[List.find?_map,Option.map_map];have e:((λkv:cz×W=>decide (kv.1=(Sum.inl x:cz))) ∘ λq:Int×Int=>((Sum.inl q.1:cz),wi q.2))=λq=>decide (q.1=x):=by funext q;show DJ _ _
 rw[e];rfl
def wG {m:Pt}{x:Int}:(m.find? λq=>decide (q.1=x))=none /\ look m x=0 /\ x∉m.map (·.1) \/ ∃q,(m.find? λq=>decide (q.1=x))=some q /\ look m x=q.2:=by
 induction m with
 | nil=>show .inl #[rfl,rfl,by simp]
 | cons q r ih=>
  rw[cL,look];by_cases e:q.1=x;simp![e,cD];show .inr #[q,rfl,by simp];simp![e,decide_false,bD];rcases ih with⟨h1,h2,h3⟩ | h
  show .inl #[h1,h2,by rw[aH,aP,not_or];show#[dy e,h3]];show .inr h
def DP (m:Pt)(x:Int):(fu (vn m) (.inl x)).getD (wi 0)=wi (look m x):=by rw[CB];rcases wG (m:=m) (x:=x) with⟨h1,h2,_⟩ | ⟨q,h1,h2⟩ <;>rw[h1,h2] <;>rfl
def GG {m:Pt}{x:Int}(h:x∈m.map (·.1)):fu (vn m) (.inl x)=some (wi (look m x)):=by
 rw[CB];rcases wG (m:=m) (x:=x) with⟨_,_,h3⟩ | ⟨q,h1,h2⟩
 show absurd h h3;rw[h1,h2];rfl
def zN (m:Pt):(vn m).map (·.1)=(m.map (·.1)).map Sum.inl:=by unfold vn;rw[aU,aU];rfl
def ww {m:Pt}{x v:Int}:(vv m x v).map (·.1)=if x∈m.map (·.1) then m.map (·.1) else m.map (·.1)++ [x]:=by unfold vv;by_cases h:x∈m.map (·.1);rw[am (tq.mpr h),am h,aU];apply dF;intro q _;change(if q.1=x then(q.1,v) else q).1=q.1;split<;>rfl;rw[ak (λe=>h (tq.mp e)),ak h,a6];rfl
def Dl {m:Pt}{x v:Int}(h:(m.map (·.1)).Nodup):((vv m x v).map (·.1)).Nodup:=by rw[ww];by_cases e:x∈m.map (·.1);rw[am e];show h;rw[ak e];show Dk h e
def zL {m:Pt}{x v:Int}:(vv m x v).length<=m.length+1:=by unfold vv;split;rw[af];lia;simp
def wt {m:Pt}{x v y:Int}:look (vv m x v) y=if y=x then v else look m y:=by
 unfold vv;by_cases h:x∈m.map (·.1);rw [am (tq.mpr h)];have key: ∀m:Pt,look (m.map (λq=>if q.1=x then(q.1,v) else q)) y=if y=x /\ x∈m.map (·.1) then v else look m y:=by
  intro m;induction m with
  | nil=>simp[look]
  | cons q r ih=>
   rw[aH,look,look,ih];by_cases hq:q.1=x;by_cases hy:y=x;subst hy;simp[hq];simp[hq,hy,dy hy];by_cases hy:y=x;subst hy;have:(y∈(q::r).map (·.1))=(y∈r.map (·.1)):=by rw[aH,aP];simp[dy hq]
   simp![this,hq,bD];simp[hq,hy]
 rw[key];simp[h];rw [ak (λe=>h (tq.mp e))];have key: ∀m:Pt,x∉m.map (·.1) ->look (m++ [(x,v)]) y=if y=x then v else look m y:=by
  intro m;induction m with
  | nil=>intro _;by_cases e:y=x;simp[look,e];simp[look,e,dy e]
  | cons q r ih=>intro hn;rw[aH,aP,not_or] at hn;rw[List.cons_append,look,look,ih hn.2];by_cases e:y=x;subst e;simp[dy hn.1];simp[e]
 show key m h
def Q8 (m:Pt)(ns:c_ Int):Pt:=ns.filterMap λx=>if look m x=0 then none else some (x,look m x)
theorem zK {m:Pt}{x:Int}: ∀ {ns:c_ Int},ns.Nodup ->look (Q8 m ns) x=if x∈ns then look m x else 0
 | [],_=>rfl
 | n ::r,h=>by rw[List.nodup_cons] at h;have ih:=zK (m:=m) (x:=x) h.2;unfold Q8 at ih ⊢;rw[List.filterMap_cons];by_cases e:look m n=0;rw[am e];change look (r.filterMap _) x=_;rw[ih];by_cases hx:x=n;subst hx;rw[ak h.1,am (by simp),e];simp[hx];rw[ak e];change look ((n,look m n)::r.filterMap _) x=_;rw[look,ih];by_cases hx:x=n;subst hx;rw[am rfl,am (by simp)];rw[ak (dy hx)];simp[hx]
def EG {ns:c_ Int}(h1:ns.Pairwise (· <= ·))(h2:ns.Nodup):ns.Pairwise (· < ·):=by exact(List.Pairwise.and h1 h2).imp ?_;rintro a b ⟨h,n⟩;lia
def CN {p:Int}(hp:0<p){ps m:Pt}{ns:c_ Int}(hn:(m.map (·.1)).Nodup)(ht: ∀x,look m x=fw ps x % p)(jB:ns.Perm (m.map (·.1)))(hs:ns.Pairwise (· <= ·)):Q8 m ns=pZ p ps:=by have nd:=jB.nodup_iff.mpr hn;have st:=EG hs nd;exact sS (p:=p) #[?_,?_] (fY hp ps) λx=> ?_;intro q hq;let⟨x,hx,e⟩:=List.mem_filterMap.mp hq;split at e;cases e;rename_i h0;cases e;have:=ht x;have:=Int.emod_nonneg (fw ps x) (show p≠0 by lia);have:=Int.emod_lt_of_pos (fw ps x) hp;change 0<look m x /\ look m x<p;lia;unfold Q8;exact List.Pairwise.filterMap _ ?_ st;intro a b DO c hc d hd;split at hc<;>cases hc;split at hd<;>cases hd;show DO;rw[zK nd,uh hp];split;show ht x;rename_i hx;rw[<- ht x,gD];intro q hq e;show hx (jB.mem_iff.mpr (by rw[<- e];show List.mem_map_of_mem hq))
def Gk (_:Pt):Prop:=True
theorem BW {ps:Pt}:Gk ps:=trivial
def zJ {m:Pt}{x v k:Int}(h:k∈(vv m x v).map (·.1)):k=x \/ k∈m.map (·.1):=by rw[ww] at h;split at h;show .inr h;obtain h | h:=bh.mp h;show .inr h;show .inl (bn.mp h)
end WP
namespace WQ
open PySem L2 WL WP
def Ti:fG:=λxs M q=>eE λ(d l:iW) (n:Int)=>gJ (xs= [wr d,wi n]) (Dr M d l) (0<n) (n<1073741824) (∀ (r:Int) (M':Mp),0<=r ->r<n ->Dr M' d l ->NB d M M' ->q (wi r) M')
def pP:fG:=λxs M q=>cE λ(d l:iW)=>cS (xs= [wr d]) (Dr M d l) (∀ (p:Int) (M':Mp),(p=2 \/ p=3 \/ p=5 \/ p=7) ->Dr M' d l ->NB d M M' ->q (wi p) M')
def NE:fG:=λxs M q=>eE λ(a:iW) (p:Int) (ps:Pt)=>kQ (xs= [wi p,wr a]) (M a=some (.lst (ps.map ca))) (0<p) (Gk ps) (ps.length<=16000000) (q (gb (pZ p ps)) M)
def mv (by_:Int)(l:Pt):Pt:=l.map λz=>(z.1+by_,z.2)
def Pf:fG:=λxs M q=>cE λ(vw:Pt) (b:Int)=>cS (xs= [gb vw,wi b]) (vw.length<=16000000) (q (gb (mv b vw)) M)
def Yo:fG:=λxs M q=> ∃i:Int,xs= [wi i] /\ q (wb true) M
def Ph:fG:=λxs M q=>cE λ(p:Int) (vw:Pt)=>fi (xs= [wi p,gb vw]) (dR p vw) (vw.length<=16000000) (q (wb true) M)
def Po:fG:=λxs M q=>eE λ(p:Int) (a b:Pt)=>kQ (xs= [wi p,gb a,gb b]) (0<p) (Gk (a++b)) (a.length<=8000000) (b.length<=8000000) (q (gb (pZ p (a++b))) M)
def tm (n:Int)(l:Pt):Pt:=l.map λz=>(z.1,z.2*n)
def Pc:fG:=λxs M q=>eE λ(p:Int) (a:Pt) (n:Int)=>kQ (xs= [wi p,gb a,wi n]) (0<p) (Gk (tm n a)) (a.length<=40000) (∀z∈a,0<=z.2 /\ z.2<1000) (q (gb (pZ p (tm n a))) M)
def Dm (b n:Int)(l:Pt):Pt:=l.map λz=>(z.1+b,z.2*n)
def Yn:fG:=λxs M q=>sD λ(p:Int) (a b:Pt) (y n:Int)=>Ks (xs= [wi p,gb a,gb b,wi y,wi n]) (0<p) (Gk (a++Dm y n b)) (a.length<=8000000) (b.length<=8000000) (∀z∈b,0<=z.2 /\ z.2<1000) (q (gb (pZ p (a++Dm y n b))) M)
theorem big {n:Nat}(h:n<=16000000):n<=sizeLine:=ar h (by rw[c9];decide)
theorem mO {n:Nat}(h:n<=16000000):n<sizeLine:=Nat.lt_of_le_of_lt h (by rw[c9];decide)
theorem p7 {b:Int}{l:Pt}:(mv b l).length=l.length:=af _
def Lv {l:Pt}:mv 0 l=l:=by
 unfold mv;have:(λz:Int×Int=>(z.1+0,z.2))=id:=by funext z;rw[Int.add_zero];rfl
 rw[this,List.map_id]
def Wt {b:Int}{l:Pt}{x:Int}:look (mv b l) x=look l (x - b):=by
 induction l with
 | nil=>rfl
 | cons q r ih=>change look ((q.1+b,q.2)::mv b r) x=_;rw[look,look,ih];by_cases e:q.1+b=x;rw[am e,am ∅];rw[ak e,ak ∅]
def Bd {n:Int}{l:Pt}{x:Int}:fw (tm n l) x=fw l x*n:=by
 induction l with
 | nil=>simp[tm,fw]
 | cons q r ih=>change fw ((q.1,q.2*n)::tm n r) x=_;rw[fw,fw,ih,Int.add_mul];split<;>simp
def BC {b n:Int}{l:Pt}:Dm b n l=tm n (mv b l):=by unfold Dm tm mv;rw[aU];rfl
def ON {l:Pt}:tm 1 l=l:=by
 unfold tm;have:(λz:Int×Int=>(z.1,z.2*1))=id:=by funext z;rw[Int.mul_one];rfl
 rw[this,List.map_id]
theorem HG {p:Int}(hp:0<p){a:Pt}(h:dR p a):pZ p a=a:=sS (fY hp a) h λx=>by rw[uh hp,nY h.2];have:=BI hp h x;show Int.emod_eq_of_lt this.1 this.2
def mn {p:Int}(hp:0<p)(a:Pt)(x:Int):fw (pZ p a) x=fw a x % p:=by rw[nY (fY hp a).2,uh hp]
def Be {b:Int}{l:Pt}{x:Int}:fw (mv b l) x=fw l (x - b):=by
 induction l with
 | nil=>rfl
 | cons q r ih=>change fw ((q.1+b,q.2)::mv b r) x=_;rw[fw,fw,ih];by_cases e:q.1+b=x;rw[am e,am ∅];rw[ak e,ak ∅]
theorem IP {n:Int}{a:Pt}(h:Gk a):Gk (tm n a):=trivial
def Jn (q:Int×Int):Fx (ca q)=some (.tup [.int q.1, .int q.2]):=by simp[ca,Fx,mM]
theorem uR: ∀l:Pt,mM (l.map ca)=some (l.map λq=> .tup [.int q.1, .int q.2])
 | []=>rfl
 | q::r=>by rw[aH,mM,Jn,uR r];rfl
def Hs (l:Pt):Dt:= .tup (l.map λq=> .tup [.int q.1, .int q.2])
def Mb (l:Pt):Fx (gb l)=some (Hs l):=by rw[gb,Fx,uR];rfl
theorem uM: ∀l:Pt,jY (l.map λq=> .tup [.int q.1, .int q.2]) <=1
 | []=>by simp[jY]
 | q::r=>by rw[aH,jY];have:=uM r;simp![sC,jY];lia
def CL (K:Uc):Sp:=λvs H Q _=>cE λ(a:iW) (ns:c_ Int)=>cS (vs= [.ref a]) (iH K H a (ns.map V.int)) (∀ (d l:iW) (ms:c_ Int) (H':Hp),d≠l ->H' d=some (.lst [.ref l, .int 0, .int 0, .int 11]) ->H' l=some (.lst (ms.map V.int)) ->Q (.ref d) H')
def y8 (K:Uc):Sp:=λvs H Q _=>cE λ(a:iW) (ns:c_ Int)=>cS (vs= [.ref a]) (iH K H a (ns.map V.int)) (∀H',Q (.bl true) H')
def Tz {P:Y1}{w:ZW}{K:Uc}{mg:Str ->gC dC}{base:ZX}{x qual z:Str}{st:Stmt}{f:iW}{fd:ZZ}{N:c_ Str}{k:Nat}(F:AI K x qual st f fd)(S:cH N [z] (aV st))(hN:2<=N.length) (jC: ∀ (cdv:dC) (A:Z0) (outer:c_ Env) (s:gw) (H:Hp) (E:XK),eG k (A.deeper (PyProof.Rows.envOfC qual (aV st) s.heap.objs.size f cdv)) ->∃ R,yI (eL e9 P w K mg base N qual (aV st) f cdv A outer s H E).J7 (dM st) (OO (GZ (vW (CL K) [] E0 (GX (KL 0) EE)) (lF 1)) R) /\∃w',IS K R w' /\ ∀d l M,Dr M d l ->w' {nx:=λ_ _=>False,rt:=λx _=>x=wb true} (none::some (wr d)::List.replicate (N.length - 2) none) M): bE P w K mg base e9 (k+1) f fd [z] (y8 K):=by
 exact AI.ok F S (λvs H Q E ⟨a,ns,h,_,_⟩=>by rw[h];rfl) λcdv A outer s H vs Q E hr h=> ?_;let⟨R,h1,w',h2,h3⟩:=jC cdv A outer s H E hr;let⟨a,ns,rfl,hs,hq⟩:=h;exact#[_,h1,?_];let⟨n,hn⟩: ∃n,N.length=n+2:=#[N.length - 2, ∅]
 have e0:L2.start N [V.ref a]=some (V.ref a)::none::List.replicate n none:=by unfold L2.start;rw[hn];rfl
 rw[e0];exact#[_,rfl,a,ns,rfl,hs,λd l ms H' nK hd hl=> ?_];change R _ _ H';exact h2.imp (none::some (wr d)::List.replicate (N.length - 2) none) (um (um (λ_=>none) l (.lst (ms.map wi))) d (.lst [wr l,wi 0,wi 0,wi 11])) _ H' _ _ #[#[?_,λi y e=> ?_],λb o e=> ?_] (h3 d l _ #[ms,0,0,11,ao,by rw[aQ (dy nK),ao],⋯,nK]) #[λ_ _ _ _ h=>h.elim,λy M' v H2 e _ _ r=> ?_,λ_ _ _ _ h=>h.elim,λ_ _ _ _ h=>h.elim];simp[hn];match i with
 | 0=>simp at e
 | 1=>simp at e;subst e;show#[.ref d,rfl,WR.v]
 | i+2=>simp[dk] at e
 by_cases hb:b=d;subst hb;rw[ao] at e;cases e;show#[_,hd,cU.cons WR.v (cU.cons WR.v (cU.cons WR.v (cU.cons WR.v cU.nil)))];rw[aQ hb] at e;by_cases hb':b=l;subst hb';rw[ao] at e;cases e;show#[_,hl,cU.ofInts ms];rw[aQ hb'] at e;cases e;subst e;rw[r.eq];show hq H2
abbrev Rd:=Int×Pt
def gq (r:Rd):W:= .tup [wi r.1,gb r.2]
def jn (p:Int)(a b:Rd):Rd:=(a.1+b.1,pZ p (a.2++mv a.1 b.2))
def bk (p:Int)(a:Rd):Rd:=(-a.1,pZ p (tm (-1) (mv (-a.1) a.2)))
def La:fG:=λxs M q=>eE λ(p:Int) (a b:Rd)=>kQ (xs= [wi p,gq a,gq b]) (0<p) (Gk (a.2++mv a.1 b.2)) (a.2.length<=40000) (b.2.length<=40000) (q (gq (jn p a b)) M)
def Tl:fG:=λxs M q=>eE λ(p:Int) (a b:Rd)=>Ks (xs= [wi p,gq a,gq b]) (0<p) (Gk (a.2++mv a.1 b.2)) (a.2.length<=40000) (b.2.length<=40000) (∀z∈b.2,0<=z.2 /\ z.2<1000) (q (gq (jn p a b)) M)
def NI:fG:=λxs M q=>cE λ(p:Int) (a:Rd)=>kQ (xs= [wi p,gq a]) (0<p) (Gk (mv (-a.1) a.2)) (a.2.length<=40000) (∀z∈a.2,0<=z.2 /\ z.2<1000) (q (gq (bk p a)) M)
def Hz:fG:=λxs M q=>cE λ(p:Int) (a:Rd)=>fi (xs= [wi p,gq a]) (dR p a.2) (a.2.length<=100000) (q (wb true) M)
def Jm (r:Rd):Fx (gq r)=some (.tup [.int r.1,Hs r.2]):=by rw[gq,Fx,mM,mM,Mb,mM];rfl
def QF (r:Rd):sC (.tup [.int r.1,Hs r.2]) <=50:=by
 simp![sC,jY];have:sC (Hs r.2) <=2:=by unfold Hs;rw[sC];have:=uM r.2;lia
 lia
def TM {M:Mp}{q:WK}{a b:Rd}(e:a=b)(h:q (wb false) M):Ow (gq a) (gq b) M q:=by subst e;show#[_,_, .inl (Jm a), .inl (Jm a),rfl,QF a,by rw[lR];show h]
theorem PY {p:Int}(hp:0<p)(a b:Rd):dR p (jn p a b).2:=fY hp _
theorem Cb {p:Int}(hp:0<p)(a:Rd):dR p (bk p a).2:=fY hp _
def Ib (p:Int)(a b:Rd):(jn p a b).2.length<=a.2.length+b.2.length:=by exact ar (iV _ _) ?_;rw[aJ,p7];lia
def Cc (p:Int)(a:Rd):(bk p a).2.length<=a.2.length:=by exact ar (iV _ _) ?_;rw[tm,af,p7];lia
theorem O0 {a b:Rd}(h1:a.1=b.1)(h2:a.2=b.2):a=b:=Prod.ext h1 h2
def OM {p:Int}(hp:0<p)(a:Rd)(x:Int):fw (bk p a).2 x=(-fw a.2 (x+a.1)) % p:=by rw[bk,mn hp,Bd,Be];congr 1;rw[Int.mul_neg_one,Int.sub_neg]
theorem Bs {p:Int}(hp:0<p){a b:Pt}(ha:dR p a)(hb:dR p b)(h: ∀x,fw a x=fw b x):a=b:=sS ha hb λx=>by rw[<- nY ha.2, <- nY hb.2];show h x
theorem k9 {p:Int}{a:Pt}(h:dR p a)(hp:p<1000): ∀z∈a,0<=z.2 /\ z.2<1000:=λz hz=>by have:=h.1 z hz;lia
inductive afm where
 | go (k:Int) | turn (k:Int)
def afJ (s:Int×Pt):afm ->Int×Pt
 | .go k=>(s.1+k,s.2)
 | .turn k=>(s.1,s.2++ [(s.1,k)])
end WQ
namespace WL
open PySem PySem.Spec PyProof.Rows L2
def Vq (ns:c_ Int)(m:Int):Prop:=m∈ns /\ ∀x∈ns,x<=m
def Vp (ns:c_ Int)(m:Int):Prop:=m∈ns /\ ∀x∈ns,m<=x
end WL
namespace WQ
open PySem L2 WL WP
def prc (p s:Int):Int:=if p - s<s then p - s else s
def Nn (a:Rd):c_ Int:=0::a.1::a.2.map (·.1)
def Vi (i:Int):Int:=if i<0 then -i else i
def fwv (p:Int)(a:Rd)(lo hi:Int):Int:=2*(hi - lo) - Vi a.1+(a.2.map λz=>prc p z.2).sum
def IB (e n x:Int):Bool:=decide (x.fmod e=0) && (decide (0<=x.fdiv e) && decide (x.fdiv e<n))
def k8 (e n x:Int):Pt ->Int
 | []=>0
 | z::r=>(if IB e n (x - z.1) then z.2 else 0)+k8 e n x r
def sX {e n x:Int}(he:e≠0):IB e n x=true↔ ∃k,0<=k /\ k<n /\ x=k*e:=by have hd:=Int.mul_fdiv_add_fmod x e;unfold IB;simp![cB,du];symm;rintro⟨h1,h2,h3⟩;show#[x.fdiv e,h2,h3,by rw[Int.mul_comm, <- hd,h1];simp[Int.mul_fdiv_cancel_left _ he]];rintro⟨k,h1,h2,rfl⟩;have:(k*e).fdiv e=k:=Int.mul_fdiv_cancel _ he;rw[this];show#[Int.mul_fmod_left _ _,h1,h2]
def Iz {e x:Int}(he:e≠0):IB e 0 x=false:=by
 cases h:IB e 0 x with
 | false=>rfl
 | true=>let⟨k,h1,h2,_⟩:=(sX he).mp h;lia
def zX {e n x:Int}(he:e≠0)(hn:0<=n):(IB e (n+1) x=true)↔(IB e n x=true \/ x=n*e):=by rw[sX he,sX he];symm;rintro⟨k,h1,h2,h3⟩;obtain h | h:=Int.lt_or_le k n;show .inl #[k,h1,h,h3];have:k=n:= ∅;subst this;show .inr h3;rintro(⟨k,h1,h2,h3⟩ | h);show#[k,h1, ∅,h3];show#[n,hn, ∅,h]
def LQ {e n:Int}(he:e≠0):IB e n (n*e)=false:=by
 cases h:IB e n (n*e) with
 | false=>rfl
 | true=>let⟨k,h1,h2,h3⟩:=(sX he).mp h;have:k=n:=Int.eq_of_mul_eq_mul_right he h3.symm;lia
def y3 {e n x:Int}(he:e≠0)(hn:0<=n)(l:Pt):k8 e (n+1) x l=k8 e n x l+fw l (x - n*e):=by
 induction l with
 | nil=>rfl
 | cons z r ih=>
  rw[k8,k8,fw,ih];by_cases h:z.1=x - n*e;have e1:x - z.1=n*e:= ∅;rw[am h,e1,am ((zX he hn).mpr (.inr rfl)),LQ he];simp;lia;rw [ak h];have:IB e (n+1) (x - z.1)=IB e n (x - z.1):=by apply Bool.eq_iff_iff.mpr;rw[zX he hn];symm;rintro(h' | h');show h';show absurd h' ∅;show .inl
  rw[this];lia
def yZ {e x:Int}(he:e≠0)(l:Pt):k8 e 0 x l=0:=by
 induction l with
 | nil=>rfl
 | cons z r ih=>rw[k8,ih,Iz he];simp
def ox (b:Rd):Nat ->Pt
 | 0=> []
 | n+1=>ox b n++mv ((n:Int)*b.1) b.2
theorem GK {b:Rd}(he:b.1≠0)(x:Int): ∀n:Nat,fw (ox b n) x=k8 b.1 n x b.2
 | 0=>by rw[ox,Int.ofNat_zero,yZ he];rfl
 | n+1=>by rw[ox,gi,GK he x n,Be];have:=y3 (n:=(n:Int)) (x:=x) he ∅ b.2;rw[Int.natCast_add,Int.ofNat_one,this]
theorem ou (b:Rd): ∀n:Nat,(ox b n).length=n*b.2.length
 | 0=>by simp[ox]
 | n+1=>by rw[ox,aJ,ou b n,p7,Nat.succ_mul]
end WQ
namespace WL
open PySem PySem.Spec PyProof.Rows L2
section
variable {X:Cx}
def Td (K:Uc):c_ V ->Hp ->VK ->Prop:=λxs H Q=>cE λ(l:iW) (bs:c_ Bool)=>cS (xs= [.ref l]) (iH K H l (bs.map V.bl)) (Q (.bl (bs.all id)) H)
def Tc (K:Uc):c_ V ->Hp ->VK ->Prop:=λxs H Q=>cE λ(l:iW) (bs:c_ Bool)=>cS (xs= [.ref l]) (iH K H l (bs.map V.bl)) (Q (.bl (bs.any id)) H)
def Ik {bQ:c_ dC}{bs:c_ Bool}(rv:cj (bs.map V.bl) bQ){i:Nat}{v:dC}(e:bQ.toArray[i]? =some v):v= .bool (bs.getD i false) /\ i<bs.length:=by
 have e':bQ[i]? =some v:= ⇑e;have d4:=rv.length;have hi:i<bs.length:=by have:=(bv.mp e').1;rw[af] at d4;lia
 let⟨w',hw,xA⟩:=rv.get (i:=i) (x:= .bl bs[i]) (by rw[aI,aF hi];rfl);rw[e'] at hw;cases hw;cases xA;show#[by simp[List.getD,hi],hi]
def EO (bs:c_ Bool):(List.range bs.length).all (λi=>bs.getD i false)=bs.all id:=by apply Bool.eq_iff_iff.mpr;rw[List.all_eq_true,List.all_eq_true];symm;intro h x hx;let⟨i,hi,rfl⟩:=List.mem_iff_getElem.mp hx;have:=h i (List.mem_range.mpr hi);simpa [List.getD,hi] using this;intro h i hi;rw[List.mem_range] at hi;have:=h bs[i] (List.getElem_mem hi);simpa [List.getD,hi] using this
def EN (bs:c_ Bool):(List.range bs.length).any (λi=>bs.getD i false)=bs.any id:=by apply Bool.eq_iff_iff.mpr;rw[List.any_eq_true,List.any_eq_true];symm;rintro⟨i,hi,h⟩;rw[List.mem_range] at hi;show#[bs[i],List.getElem_mem hi,by simpa [List.getD,hi] using h];rintro⟨x,hx,h⟩;let⟨i,hi,rfl⟩:=List.mem_iff_getElem.mp hx;show#[i,List.mem_range.mpr hi,by simpa [List.getD,hi] using h]
def hZ (hc:X.calm=true):fq X (.builtin "all") (Td X.K):=by
 intro ah s σ H xs us Q I r h;let⟨l,bs,rfl,hs,q⟩:=h;let⟨u,rfl,ru⟩:=vals1 r;cases ru;let⟨bQ,rv,ht,hz⟩:=I.list hs;have hh:X.A.in1.handled=none:=I.ok.hd hc;have d4:bQ.toArray.size=bs.length:=by have:=rv.length;rw[af] at this;simpa using this.symm
 have mK:l<s.heap.objs.size:=by let⟨_,e,_⟩:=ht.isList;show aO e
 exact PySem.call_all_walkS (wpAny_pyIter_list ht.isList ?_);exact#[s.heap.objs.size,_,_,_,bQ.toArray.size,_,_,λi=>bs.getD i false,rfl,(Walks.list hh s.heap.objs.size l (bA mK) bQ.toArray).toS,#[#[_,aY _ rfl,rfl,rfl],ht.isList.push _],λi v s' Q' E' e hq=> ?_,λs' hm=> ?_];let⟨rfl,_⟩:=Ik rv e;show cJ hq;have hk: ∀b o,s.heap.get? b=some o ->s'.heap.get? b=some o:=λb o e=>hm.heap b o (λhI=>absurd (aO e) (by rw[bn.mp hI];show Nat.lt_irrefl _)) (av _ e);rw[Moved.eq_with hm,d4,EO];show#[.bl _,H,I.kept (t':=s'.toks) hk,rfl,q]
def wZ (hc:X.calm=true):fq X (.builtin "any") (Tc X.K):=by
 intro ah s σ H xs us Q I r h;let⟨l,bs,rfl,hs,q⟩:=h;let⟨u,rfl,ru⟩:=vals1 r;cases ru;let⟨bQ,rv,ht,hz⟩:=I.list hs;have hh:X.A.in1.handled=none:=I.ok.hd hc;have d4:bQ.toArray.size=bs.length:=by have:=rv.length;rw[af] at this;simpa using this.symm
 have mK:l<s.heap.objs.size:=by let⟨_,e,_⟩:=ht.isList;show aO e
 exact PySem.call_any_walkS (wpAny_pyIter_list ht.isList ?_);exact#[s.heap.objs.size,_,_,_,bQ.toArray.size,_,_,λi=>bs.getD i false,rfl,(Walks.list hh s.heap.objs.size l (bA mK) bQ.toArray).toS,#[#[_,aY _ rfl,rfl,rfl],ht.isList.push _],λi v s' Q' E' e hq=> ?_,λs' hm=> ?_];let⟨rfl,_⟩:=Ik rv e;show cJ hq;have hk: ∀b o,s.heap.get? b=some o ->s'.heap.get? b=some o:=λb o e=>hm.heap b o (λhI=>absurd (aO e) (by rw[bn.mp hI];show Nat.lt_irrefl _)) (av _ e);rw[Moved.eq_with hm,d4,EN];show#[.bl _,H,I.kept (t':=s'.toks) hk,rfl,q]
variable {K:Uc}
theorem cU.bools {H:Hp}: ∀ {bs:c_ Bool} {vs:c_ V},cU K H (bs.map wb) vs ->vs=bs.map V.bl
 | [],vs,h=>by simpa only[List.map_nil,cU] using h
 | n::r,vs,h=>by simp![aH,cU] at h;let⟨v,t,rfl,h1,h2⟩:=h;rw[cU.bools h2,h1.eq];rfl
def XW:A6:=λxs M q=>cE λ(a:iW) (bs:c_ Bool)=>cS (xs= [wr a]) (M a=some (.lst (bs.map wb))) (q (wb (bs.all id)) M)
def XT:A6:=λxs M q=>cE λ(a:iW) (bs:c_ Bool)=>cS (xs= [wr a]) (M a=some (.lst (bs.map wb))) (q (wb (bs.any id)) M)
instance:IC K (Td K) XW where
 imp:=by rintro xs v M H q Q m r1 ⟨a,ns,rfl,hl,h⟩ k;let⟨v,rfl,r⟩:=r1.one;cases r.eq;let⟨vs,hv,rr⟩:=m a _ hl;cases rr.bools;show#[a,ns,rfl,iH.of hv,k _ M _ H h (a5.refl H) m WR.v]
instance:IC K (Tc K) XT where
 imp:=by rintro xs v M H q Q m r1 ⟨a,ns,rfl,hl,h⟩ k;let⟨v,rfl,r⟩:=r1.one;cases r.eq;let⟨vs,hv,rr⟩:=m a _ hl;cases rr.bools;show#[a,ns,rfl,iH.of hv,k _ M _ H h (a5.refl H) m WR.v]
end
end WL
namespace WL
open PySem L2
def QI {xs:c_ W}{keep:Mp ->Prop}{M1:Mp}{own:Nat}{fr:c_ Nat}{ρ:dm}{g:WG}{c:WT}{el:WE}{q:WK}(hz:xs.length<=sizeLine) (h: ∀p,M1 p=none -> ∃I:Nat ->c_ W ->Mp ->Prop,fi (I 0 [] (um M1 p (.lst []))) (∀i ys M,i<=xs.length ->I i ys M ->keep M /\ M p=some (.lst ys) /\ ys.length<=i) (∀i x ys M,xs[i]? =some x ->I i ys M -> ∀N:c_ W ->Mp ->Prop,(∀ys M,I (i+1) ys M ->N ys M) ->g x (nQ own fr ρ) M λρ2 M2=>c ρ2 M2 λb M3=>ja b (el ρ2 M3 λy M4=>M4 p=some (.lst ys) /\ N (ys++ [y]) (um M4 p (.lst (ys++ [y])))) (N ys M3)) (∀ys M,I xs.length ys M ->q (wr p) M)):wY xs keep own fr g c el ρ M1 q:=by exact#[hz,λp hp=> ?_];let⟨I,h0,h1,h2,h3⟩:=h p hp;show#[I,h0,h1,λi x ys M hx hI=>h2 i x ys M hx hI _ λ_ _ z=>z,h3]
end WL
namespace WQ
open PySem L2 WL WP
def Op (p:Int)(l:c_ Int):Prop:=(∀x∈l,0<=x /\ x<p) /\ ∀x,l.getLast? =some x ->x≠0
def QM (row:c_ Int)(k:Nat)(x:Int):c_ Int:=row.set k (row.getD k 0+x)
def mI (row:c_ Int)(o:Nat)(l:c_ Int)(n:Nat):c_ Int:=(List.range n).foldl (λr i=>QM r (o+i) (l.getD i 0)) row
def pw (p s:Int):Nat ->Int
 | 0=>1
 | n+1=>pw p s n*s % p
end WQ
namespace L2
open PySem PySem.Spec PyProof.Rows
def AI.okE {P:Y1}{w:ZW}{K:Uc}{mg:Str ->gC dC}{base:ZX}{CX:AV}{x qual:Str}{st:Stmt}{f:iW}{fd:ZZ}{N ps:c_ Str}{k:Nat}{sp:Sp}(F:AI K x qual st f fd)(S:cH N ps (aV st))(len: ∀vs H Q E,sp vs H Q E ->vs.length=ps.length) (jC: ∀ (cdv:dC) (A:Z0) (outer:c_ Env) (s:gw) (H:Hp) (vs:c_ V) (Q:VK) (E:XK),eG k (A.deeper (envOfC qual (aV st) s.heap.objs.size f cdv)) ->sp vs H Q E ->∃t,yI (eL CX P w K mg base N qual (aV st) f cdv A outer s H E) (dM st) t /\ t {nx:=λ_ H'=>Q .d0 H',rt:=Q} (start N vs) H):bE P w K mg base CX (k+1) f fd ps sp:=by let⟨oc,od,kV,jf,pm,an,cdv,ct,Bv,rfl,lk,DN⟩:=F.ex;show Ob lk DN S len λA outer s H vs Q E hr A3=>jC cdv A outer s H vs Q E hr A3
end L2
namespace WL
open PySem L2 PySem.Spec PyProof.Rows
abbrev WX:=iW ->Mp ->Prop
abbrev gS:=c_ W ->Mp ->WK ->WX ->Prop
section
variable {K:Uc}
def up (e:WX):WX:=λC M'=> ∃M0,Sm M0 M' /\ e C M0
def Ex (K:Uc)(e:WX):XK:=λcls _ H'=> ∃C M',cls= .ref C /\ e C M' /\ gg K M' H'
def rS (K:Uc)(p:gS):Sp:=λvs H Q E=> ∃ (xs:c_ W) (M:Mp) (q:WK) (e:WX),cU K H xs vs /\ gg K M H /\ p xs M q e /\ (∀x M' v H',q x M' ->a5 H H' ->gg K M' H' ->WR K H' x v ->Q v H') /\ ∀C M' H',e C M' ->gg K M' H' ->E (.ref C) none H'
def GF (p:gS)(e:WX)(a:WA):WE:=λρ M q=>a ρ M λxs M1=>p xs M1 q (up e)
instance {p:gS}{e:WX}{t:TA}{a:WA} [ia:IA K t a]:IE K (vW (rS K p) [] (Ex K e) t) (GF p e a) where
 imp:=λρ M σ H q Q o h k=>ia.imp ρ M σ H _ _ o h λx M1 v H1 h1 t1 m1 r1=>#[x,M1,q,_,by rw[c8];show r1,m1,h1,λy M4 v4 H4 h4 t4 m4 r4=>k y M4 v4 H4 h4 (t1.trans t4) m4 r4,λC M' H' ⟨M0,s,h⟩ m=>#[C,M0,rfl,h,m.sub s]]
def Gu (C:iW)(e:WX)(a:WA):WS:=λ_ ρ M=>a ρ M λxs M'=>xs.length<=sizeLine /\ up e C M'
instance {C:iW}{e:WX}{t:TA}{a:WA} [ia:IA K t a]:IS K (Bg C (Ex K e) t) (Gu C e a) where
 imp:=λρ M σ H D' D o h QD=>ia.imp ρ M σ H _ _ o h λx M1 v H1 ⟨hl,M0,s,h1⟩ t1 m1 r1=>#[by rw[r1.length];show hl,C,M0,rfl,h1,m1.sub s]
def AY {P:Y1}{w:ZW}{mg:Str ->gC dC}{base:ZX}{x qual:Str}{st:Stmt}{f:iW}{fd:ZZ}{N ps:c_ Str}{k:Nat}{p:gS}(F:AI K x qual st f fd)(S:cH N ps (aV st))(len: ∀vs M q e,p vs M q e ->vs.length=ps.length) (jC: ∀ (cdv:dC) (A:Z0) (outer:c_ Env) (s:gw) (H:Hp) (E:XK) (e:WX),eG k (A.deeper (envOfC qual (aV st) s.heap.objs.size f cdv)) ->Ew (eL (iJ P w) P w K mg base N qual (aV st) f cdv A outer s H E) (Ex K e) ->gT (iJ P w) (eL (iJ P w) P w K mg base N qual (aV st) f cdv A outer s H E) (Ex K e) ->∃ t,yI (eL (iJ P w) P w K mg base N qual (aV st) f cdv A outer s H E) (dM st) t /\ ∃w',IS K t w' /\∀vs M q,p vs M q e ->w' {nx:=λ_ M'=> ∃M0,Sm M0 M' /\ q wn M0,rt:=λx M'=> ∃M0,Sm M0 M' /\ q x M0} (vs.map some++List.replicate (N.length - vs.length) none) M): bE P w K mg base (iJ P w) (k+1) f fd ps (rS K p):=by
 exact AI.okE F S (λvs H Q E ⟨xs,M,q,e,r,m,h,_⟩=>by rw[r.length];show len xs M q e h) λcdv A outer s H vs Q E hr h=> ?_;let⟨xs,M,q,e,r,m,h,k',kE⟩:=h;have hE: ∀c d H',Ex K e c d H' ->E c none H':=λc d H' ⟨C,M',ec,he,m'⟩=>by rw[ec];show kE C M' H' he m'
 let⟨t,h1,w',h2,h3⟩:=jC cdv A outer s H E e hr (λah σ H1 s1 h' ea cls us I mk z=>IN ah σ H1 s1 h' ea cls us I mk (hE _ _ _ z)) (λah σ H1 s1 ev s2 I z=>Bt ah σ H1 s1 ev s2 I (by let⟨ea,cls,a0,B,H',r1,r2,r3,r4,r5,r6,r7,r8,r9,r⟩:=z;show#[ea,cls,a0,B,H',r1,r2,r3,r4,r5,r6,r7,r8,r9,hE _ _ _ r]));exact#[t,h1,h2.imp _ M _ H _ _ #[#[?_,λi x e=> ?_],m] (h3 xs M q h) #[?_,?_,λ_ _ _ _ h=>h.elim,λ_ _ _ _ h=>h.elim]];have:=r.length;simp[L2.start,this];have hl:=r.length;unfold L2.start;by_cases hi:i<xs.length;rw[bi ⇑hi,aI] at e;cases ex:xs[i]? with
 | none=>rw[ex] at e;cases e
 | some y=>rw[ex] at e;cases e;let⟨v,hv,rv⟩:=r.at ex;exact#[v,?_,rv];rw[bi (by simp;lia),aI,hv];rfl
 rw[a9 ⇑hi,dk] at e;split at e<;>cases e;rintro ρ' M' σ' H' ⟨M0,s,hq⟩ ts o;show k' _ M0 _ H' hq ts (o.hp.sub s) WR.v;rintro x M' v H' ⟨M0,s,hq⟩ ts m' r';show k' x M0 v H' hq ts (m'.sub s) r'
end
end WL
namespace L2
open PySem PySem.Spec PyProof.Rows PySem.Calls
section
variable {X:Cx}
theorem Lf {P:Y1}{w:ZW}{K:Uc}{mg:Str ->gC dC}{base:ZX}{N:c_ Str}{qual:Str}{scope:Scope}{f:iW}{cd:dC}{A:Z0}{outer:c_ Env}{s:gw}{H:Hp}{E:XK}: PassesOwn (model P w) (eL (iJ P w) P w K mg base N qual scope f cd A outer s H E).A (eL (iJ P w) P w K mg base N qual scope f cd A outer s H E).env (eL (iJ P w) P w K mg base N qual scope f cd A outer s H E).xe:=PassesOwn.leaving (Q₁:=λe s2=>iJ P w outer H s E e s2)
def SD (te:TE):TE:=λσ H Q=>te σ H λv H1=> ∃y,cS (v= .str y) (y.length<=sizeLine) (Q (.str y) H1)
def gP {e:Expr}{te:TE}{pos:Pos}(he:PE X e te):PE X (.FormattedValue e (-1) none pos) (SD te):=by
 intro ah s σ H Q I h;exact FormattedValue_plain (cX (he ah s σ H _ I h) ?_);rintro v s1 ⟨x,H1,I1,r,y,rfl,hy,q⟩;let⟨t,rfl⟩:=(show ∃t,v=Value.str y t from r)
 show formatField_str (λt' tk=>#[.str y,H1,I1.tok tk,#[t',rfl],q]) hy
def SE (te:TE):TE:=λσ H Q=>te σ H λv H1=> ∃i:Int,cS (v= .int i) (i.natAbs.log2<1920) (Q (.str (toString i)) H1)
def nD {e:Expr}{te:TE}{pos:Pos}(he:PE X e te):PE X (.FormattedValue e (-1) none pos) (SE te):=by
 intro ah s σ H Q I h;exact FormattedValue_plain (cX (he ah s σ H _ I h) ?_);rintro v s1 ⟨x,H1,I1,r,i,rfl,hi,q⟩;let⟨t,rfl⟩:=(show ∃t,v=Value.int i t from r)
 show formatField_int_small hi #[.str _,H1,I1.tok _,#[_,rfl],q]
def tJ0 (out:Str):TE:=λ_ H Q=>out.length<=sizeLine /\ Q (.str out) H
def tJ1 (te:TE)(k:Str ->TE)(out:Str):TE:=λσ H Q=>te σ H λv H1=> ∃y,cS (v= .str y) ((out++y).length<=sizeLine) (k (out++y) σ H1 Q)
def PJ (X:Cx)(es:c_ Expr)(k:Str ->TE):Prop:= ∀ (out:Str) (ah:c_ (iW×Obj)) (s:gw) (σ:St) (H:Hp) (Q:VK),Inv X ah σ H s ->k out σ H Q ->wpAny (model X.prog X.w) X.A (joinParts out (evalEach es X.env)) (EP X ah σ Q) X.xe s
theorem fH:PJ X [] tJ0:=λout ah s σ H Q I ⟨hz,q⟩=>joinParts_nil #[.str out,H,I.tok _,#[_,rfl],q] hz
def bO {e:Expr}{es:c_ Expr}{te:TE}{k:Str ->TE}(he:PE X e te)(hk:PJ X es k)(hs:evalEach (e::es) X.env=eval e X.env::evalEach es X.env:=by rfl):PJ X (e::es) (tJ1 te k):=by
 intro out ah s σ H Q I h;rw[hs];exact joinParts_cons (cX (he ah s σ H _ I h) ?_);rintro v s1 ⟨x,H1,I1,r,y,rfl,hz,q⟩;let⟨t,rfl⟩:=(show ∃t,v=Value.str y t from r)
 show#[hz,hk _ ah s1 σ H1 Q I1 q]
theorem eJ {e e':Expr}{es:c_ Expr}{k:Str ->TE}{pos:Pos}(h:PJ X (e::e'::es) k):PE X (.JoinedStr (e::e'::es) pos) (k Str.empty):=λah s σ H Q I hq=>JoinedStr_many (h Str.empty ah s σ H Q I hq)
end
end L2
namespace WL
open PySem L2 PySem.Spec PyProof.Rows
section
variable {K:Uc}
def Oy (a:WE):WE:=λρ M q=>a ρ M λx M1=> ∃y,cS (x=ws y) (y.length<=sizeLine) (q (ws y) M1)
instance {t:TE}{a:WE} [ia:IE K t a]:IE K (SD t) (Oy a) where
 imp:=λρ M σ H q Q o h k=>ia.imp ρ M σ H _ _ o h λx M1 v H1 ⟨y,e,hz,h1⟩ t1 m1 r1=>by subst e;show#[y,r1.eq,hz,k _ M1 _ H1 h1 t1 m1 WR.v]
def Oz (a:WE):WE:=λρ M q=>a ρ M λx M1=> ∃i:Int,cS (x=wi i) (i.natAbs.log2<1920) (q (ws (toString i)) M1)
instance {t:TE}{a:WE} [ia:IE K t a]:IE K (SE t) (Oz a) where
 imp:=λρ M σ H q Q o h k=>ia.imp ρ M σ H _ _ o h λx M1 v H1 ⟨y,e,hz,h1⟩ t1 m1 r1=>by subst e;show#[y,r1.eq,hz,k _ M1 _ H1 h1 t1 m1 WR.v]
def wJ0 (out:Str):WE:=λ_ M q=>out.length<=sizeLine /\ q (ws out) M
instance {out:Str}:IE K (tJ0 out) (wJ0 out) where
 imp:=λρ M σ H q Q o ⟨hz,h⟩ k=>#[hz,k _ M _ H h (a5.refl H) o.hp WR.v]
def XA (a:WE)(f:Str ->WE)(out:Str):WE:=λρ M q=>a ρ M λx M1=> ∃y,cS (x=ws y) ((out++y).length<=sizeLine) (f (out++y) ρ M1 q)
instance {t:TE}{a:WE}{f:Str ->TE}{g:Str ->WE}{out:Str} [ia:IE K t a] [ig: ∀o,IE K (f o) (g o)]:IE K (tJ1 t f out) (XA a g out) where
 imp:=λρ M σ H q Q o h k=>ia.imp ρ M σ H _ _ o h λx M1 v H1 ⟨y,e,hz,h1⟩ t1 m1 r1=>by subst e;show#[y,r1.eq,hz,(ig _).imp ρ M1 σ H1 q Q (o.mv t1 m1) h1 λx2 M2 v2 H2 q2 t2 m2 r2=>k x2 M2 v2 H2 q2 (t1.trans t2) m2 r2]
end
end WL
namespace L2
open PySem PySem.Spec PyProof.Rows PySem.Calls PySem.W
def Dg {K:Uc}{mg:Str ->gC dC}{h₀:ZX}{x:Str}{C:iW}{bmB:c_ dC}{NL:String}(m:Mod K mg h₀)(e:nsIn K mainGlobals x=some (some (.ref C)))(q:excIn K C bmB NL=true):OwnCls x C bmB NL mg h₀:=by
 have X:=m.NV;exact#[mg_of X m.glob e,?_];unfold excIn at q;split at q;rename_i dd cd sl ho;split at q;rename_i C' bm k0 k1 k2 k3 n k5 hm hs;simp![cB,beq_iff_eq,Bool.not_eq_true'] at q;let⟨⟨⟨⟨⟨rfl,rfl⟩,UJ⟩,ht⟩,c6⟩,Fk⟩:=q;let⟨nm,bs,mro,ns,qn,hd,sn,sub,ab,col,del⟩:=cd;dsimp only at hm UJ c6 Fk;subst hm UJ;have Za:sl= (List.toArray [k0,k1,k2,k3,some (.builtin n),k5]):=by let⟨l⟩:=sl;simp only at hs;rw[hs]
 subst Za;show#[bm,ns,nm,qn,bs,hd,sn,sub,ab,col,dd,k0,k1,k2,k3,k5,_,X _ _ ho, .of_isNs (isNs_of_in X c6),nsMap_none_of_in X c6 Fk,tail_of_in X ht];cases q;cases q
structure pB (K:PySem.W.Frag)(x:Str)(C:Addr):Prop where
 ns:nsIn K mainGlobals x=some (some (.ref C))
 exc:excIn K C U9 "ValueError.__new__" =true
 k:Vu K C
section
variable {X:Cx}
theorem d5 {E:XK}{x:Str}{C:iW}{np dn pos:Pos}{e₀:Expr}{c7:c_ Expr}{t:TA}(hF:Ew X E)(hc:X.calm=true)(hg:Gl X x)(O:pB X.K x C)(ha:PA X (e₀::c7) t) (wA:(x==("__debug__" :Str))=false:=by decide) (he:starEach (e₀::c7) X.env=(false,eval e₀ X.env)::starEach c7 X.env:=by rfl) (pG:(backTo dn (starEach c7 X.env)).any (·.1)=false:=by rfl): PS X (.Raise (some (.Call (.Name x np) (e₀::c7) [] dn)) none pos) (Bg C E t):=λah s σ H D I h=>Hl hF hc hg (Dg I.ok.mod O.ns O.exc) ha wA he pG ah s σ H D I h
end
end L2
namespace WQ
open PySem L2 WL WP
def fQ (d:Str×Int):W:= .tup [ws d.1,wi d.2]
def sstep (s:Int×Pt)(d:Str×Int):Int×Pt:=if d.1= "go" then(s.1+d.2,s.2) else(s.1,s.2++ [(s.1,d.2)])
def eX (ds:c_ (Str×Int)):Int×Pt:=ds.foldl sstep (0,[])
def jm (ds:c_ (Str×Int))(d:Str×Int):eX (ds++ [d])=sstep (eX ds) d:=by unfold eX;rw[List.foldl_append];rfl
def jo (ds:c_ (Str×Int)):(eX ds).2.length<=ds.length:=by
 induction ds using mE with
 | h0=>simp[eX]
 | h1 l a ih=>rw[jm,aJ];unfold sstep;split<;>simp<;>lia
def Of {l:c_ (Str×Int)}{i:Nat}{x:W}(h:(l.map fQ)[i]? =some x): ∃q,l[i]? =some q /\ x=fQ q:=by
 rw[aI] at h;cases e:l[i]? with
 | none=>rw[e] at h;cases h
 | some q=>rw[e] at h;cases h;show#[q,rfl,rfl]
def Good (d:Str×Int):Prop:=d.1= "go" \/ d.1= "turn"
def Pj (C:iW):gS:=λxs M q e=>eE λ(a:iW) (p:Int) (ds:c_ (Str×Int))=>AB (xs= [wi p,wr a]) (M a=some (.lst (ds.map fQ))) (0<p) (Gk (eX ds).2) (ds.length<=50000) (∀d∈ds,d.1.length<=100) ((∀d∈ds,Good d) ->q (gq ((eX ds).1,pZ p (eX ds).2)) M) ((∃d∈ds,¬Good d) ->e C M)
def Pa:fG:=λxs M q=>eE λ(a:iW) (p:Int) (ds:c_ (Str×Int))=>kQ (xs= [wi p,wr a]) (M a=some (.lst (ds.map fQ))) (0<p) (Gk (eX ds).2) (ds.length<=50000) (q (gq ((eX ds).1,pZ p (eX ds).2)) M)
end WQ
namespace WL
open PySem L2
def S8:R2:=λx y H Q=>y= .d0 /\ Q (.bl (decide (x=V.d0))) H
def TK:W ->Bool
 | .v x=>decide (x=V.d0)
 | .tup _=>false
def XF:qz:=λx y M q=>y=wn /\ q (wb (TK x)) M
instance {K:Uc}:IR K S8 XF where
 imp:=by
  rintro x y v u M H q Q m r1 r2 ⟨rfl,h⟩ k;exact#[r2.eq,k _ M _ H h (a5.refl H) m ?_];cases x with
  | v x=>rw[r1.eq];show WR.v
  | tup l=>let⟨a,vs,rfl,_⟩:=r1.tup;show WR.v
theorem Li {X:Cx}:iK X (compareOp .Is) S8:=Pq
theorem ly {M:Mp}{q:WK}{x y:W}{d:Dt}(hx:DR M x d)(hy:DR M y d)(hd:sC d<=50)(hs:sO d d=true)(h:q (wb false) M):Ow x y M q:=#[d,d,hx,hy,hs,hd,by rw[lR];show h]
def Mc {α:Type}(f:α ->W)(g:α ->Dt):Prop:= ∀a,Fx (f a)=some (g a)
theorem Aq {α:Type}{f:α ->W}{g:α ->Dt}(h:Mc f g): ∀l:c_ α,mM (l.map f)=some (l.map g)
 | []=>rfl
 | a::l=>by rw[aH,mM,h a,Aq h l];rfl
theorem Af {α:Type}{g:α ->Dt}{n:Nat}(h: ∀a,sC (g a) <=n): ∀l:c_ α,jY (l.map g) <=n
 | []=>by simp[jY]
 | a::l=>by rw[aH,jY];have:=h a;have:=Af h l;lia
theorem DR.list {α:Type}{M:Mp}{a:iW}{f:α ->W}{g:α ->Dt}{l:c_ α}(h:Mc f g)(ha:M a=some (.lst (l.map f))):DR M (wr a) (.lst (l.map g)):= .inr #[a,_,_,rfl,ha,Aq h l,rfl]
end WL
namespace WQ
open PySem L2 WL WP
theorem Jo:Mc fQ (λd=> .tup [.str d.1, .int d.2]):=λd=>rfl
def QG (l:c_ (Str×Int)):sC (.lst (l.map λd=> .tup [.str d.1, .int d.2])) <=50:=by rw[sC];have:=Af (n:=1) (g:=λd:Str×Int=>Dt.tup [.str d.1, .int d.2]) (λa=>by simp[sC,jY]) l;lia
end WQ
namespace WL
open PySem L2
theorem Ve {α:Type}{a b c d e:α}{l:c_ α}:iF (a::b::c::d::e::l) 4=some e:=fF (j:=4) (by rfl)
theorem Vd {α:Type}{a b c d e f:α}{l:c_ α}:iF (a::b::c::d::e::f::l) 5=some f:=fF (j:=5) (by rfl)
theorem Vc {α:Type}{a b c d e f g:α}{l:c_ α}:iF (a::b::c::d::e::f::g::l) 6=some g:=fF (j:=6) (by rfl)
theorem Vb {α:Type}{a b c d e f g h:α}{l:c_ α}:iF (a::b::c::d::e::f::g::h::l) 7=some h:=fF (j:=7) (by rfl)
theorem Va {α:Type}{a b c d e f g h i:α}{l:c_ α}:iF (a::b::c::d::e::f::g::h::i::l) 8=some i:=fF (j:=8) (by rfl)
theorem U_ {α:Type}:(∀ (a b c d e:α) (l:c_ α),iF (a::b::c::d::e::l) 4=some e) /\ (∀ (a b c d e f:α) (l:c_ α),iF (a::b::c::d::e::f::l) 5=some f) /\ (∀ (a b c d e f g:α) (l:c_ α),iF (a::b::c::d::e::f::g::l) 6=some g) /\ (∀ (a b c d e f g h:α) (l:c_ α),iF (a::b::c::d::e::f::g::h::l) 7=some h) /\ (∀ (a b c d e f g h i:α) (l:c_ α),iF (a::b::c::d::e::f::g::h::i::l) 8=some i):=#[λ_ _ _ _ _ _=>Ve,λ_ _ _ _ _ _ _=>Vd,λ_ _ _ _ _ _ _ _=>Vc,λ_ _ _ _ _ _ _ _ _=>Vb,λ_ _ _ _ _ _ _ _ _ _=>Va]
end WL
namespace L2
open PySem PySem.Spec PyProof.Rows
def Keeps (S:Nat ->Prop)(g:TG):Prop:= ∀ (σ:St) (v:V) (H:Hp) (Q:St ->Hp ->Prop),g v σ H Q ->g v σ H λσ2 H2=>(σ2.length=σ.length /\ ∀i,¬S i ->σ2[i]? =σ[i]?) /\ Q σ2 H2
def zP {S:Nat ->Prop}{n:Nat}(h:S n):Keeps S (lF n):=by intro σ v H Q q;exact#[#[by simp,λi hi=> ?_],q];rw[List.getElem?_set_ne];intro e;subst e;show hi h
def DD {K:Uc}{S:Nat ->Prop}{n m:Nat}(h:S n)(h':S m):Keeps S (LX K 2 (wE (lF n) (wE (lF m) LY))):=by rintro σ v H Q ⟨a,xs,e,hs,hl,x,r,rfl,y,r',rfl,rfl,q⟩;exact#[a,_,e,hs,hl,x,_,rfl,y,_,rfl,rfl,#[by simp,λi hi=> ?_],q];rw[List.getElem?_set_ne,List.getElem?_set_ne];intro e;subst e;show hi h;intro e;subst e;show hi h'
def Er {own:Nat}{fr:c_ Nat}{σ:St}{i:Nat}{v:V}(h:(kP own fr σ)[i]? =some (some v)):own<=i:=by unfold kP at h;obtain c | c:=Nat.lt_or_ge i own;rw[bi ⇑c,dk,am c] at h;cases h;show c
def inW (Gp:TI)(g2:TG)(CG:TT)(te:TE)(σ2:St)(p:iW)(H4:Hp)(N:c_ V ->Hp ->Prop):Prop:=Gp σ2 H4 λJ2 H5=> ∃Z:Nat ->Nat ->c_ V ->Hp ->Prop,(∃m zs,Z 0 m zs H5) /\ ∀j k zs H6,Z j k zs H6 ->H6 p=some (.lst zs) /\((J2.stop j H6 /\ N zs H6) \/ (J2.go j H6 /\ zs.length<sizeLine /\ ∀y H7,J2.QX j H6 y H7 ->g2 y σ2 H7 λσ3 H8=>CG σ3 H8 λc H9=>if c=true then te σ3 H9 λz RD=> ∃ws,RD p=some (.lst ws) /\ ws.length<sizeLine /\ ∃k',k'<k /\ Z (j+1) k' (ws++ [z]) (cM RD p (.lst (ws++ [z]))) else ∃ws k',k'<k /\ Z (j+1) k' ws H9))
def Jq (J:It)(own:Nat)(fr:c_ Nat)(g:TG)(tc:TT)(Gp:TI)(g2:TG)(CG:TT)(te:TE)(σ:St)(p:iW)(H1:Hp)(Q:VK):Prop:=∃ W :Nat ->Nat ->c_ V ->Hp ->Prop,(∃m,W 0 m [] (cM H1 p (.lst []))) /\ ∀i m ys H',W i m ys H' ->H' p=some (.lst ys) /\((J.stop i H' /\ Q (.ref p) H') \/ (J.go i H' /\ ∀x H2,J.QX i H' x H2 ->g x (kP own fr σ) H2 λσ2 H3=>tc σ2 H3 λb H4=>if b=true then inW Gp g2 CG te σ2 p H4 λzs H5=> ∃m',m'<m /\ W (i+1) m' zs H5 else ∃zs m',m'<m /\ W (i+1) m' zs H4))
def GY (wi:TI)(own:Nat)(fr:c_ Nat)(g:TG)(tc:TT)(Gp:TI)(g2:TG)(CG:TT)(te:TE):TE:=λσ H Q=>wi σ H λJ H1=> ∀p,H1 p=none ->Jq J own fr g tc Gp g2 CG te σ p H1 Q
section
variable {prog:Y1}{w:ZW}{A:Z0}{R:Result ->gw ->Prop}{s:gw}
abbrev wu (iP tg iter:Expr)(iO:c_ Expr)(ka cZ:Expr)(fm:c_ Expr)(scope:Scope)(pos:Pos):Expr:= .ListComp iP [#[tg,iter,iO,0],#[ka,cZ,fm,0]] scope pos
def KH (iP tg iter:Expr)(iO:c_ Expr)(ka cZ:Expr)(fm:c_ Expr)(scope:Scope)(pos:Pos)(it fR:dC)(env:Env): compTurn (wu iP tg iter iO ka cZ fm scope pos) 0 it fR env=(do
 standAt iter.pos
 let r <- pyNext it
 match r with
 | none=>pure (.done .next)
 | some v=>do
  letOwnedTupleGo tg it v
  assign tg env v
  let ok <- forIn iO true λc r=>if r=true then do let ok <- isTrue c env (eval c env);pure (ForInStep.yield ok) else pure (ForInStep.yield r)
  if ok=true then do
   let x <- eval cZ env
   standAt cZ.pos
   let x <- foldedSetIterable cZ env x
   let i2 <- holding [x] (pyIter x)
   let _ <- runOwn (.compStart (wu iP tg iter iO ka cZ fm scope pos) 1 i2 fR env) env
   again (.compLoop (wu iP tg iter iO ka cZ fm scope pos) 0 it fR env)
  else again (.compLoop (wu iP tg iter iO ka cZ fm scope pos) 0 it fR env)):=by rfl
def KG (iP tg iter:Expr)(iO:c_ Expr)(ka cZ:Expr)(fm:c_ Expr)(scope:Scope)(pos:Pos)(it fR:dC)(env:Env): compTurn (wu iP tg iter iO ka cZ fm scope pos) 1 it fR env=(do
 standAt cZ.pos
 let r <- pyNext it
 match r with
 | none=>pure (.done .next)
 | some v=>do
  letOwnedTupleGo ka it v
  assign ka env v
  let ok <- forIn fm true λc r=>if r=true then do let ok <- isTrue c env (eval c env);pure (ForInStep.yield ok) else pure (ForInStep.yield r)
  if ok=true then do
   ((do let _ <- call (.builtin "list.append") [fR, <- eval iP env]):Sem Unit)
   again (.compLoop (wu iP tg iter iO ka cZ fm scope pos) 1 it fR env)
  else again (.compLoop (wu iP tg iter iO ka cZ fm scope pos) 1 it fR env)):=by rfl
def G2 {iP tg iter:Expr}{iO:c_ Expr}{ka cZ:Expr}{fm:c_ Expr}{scope:Scope}{pos:Pos}{it fR:dC}{env:Env} (h0:codeAny (model prog w) A (.compLoop (wu iP tg iter iO ka cZ fm scope pos) 1 it fR env) R s) (h:wpAny (model prog w) A (pyIter it) (λYY s'=>codeAny (model prog w) A (.compLoop (wu iP tg iter iO ka cZ fm scope pos) 1 YY fR env) R s') (notedBy (model prog w) A env λx s'=>R (.error x) s') s): codeAny (model prog w) A (.compStart (wu iP tg iter iO ka cZ fm scope pos) 1 it fR env) R s:=by
 exact codeAny_of_tree ?_;change wpAny _ _ ((compStart (wu iP tg iter iO ka cZ fm scope pos) 1 it fR env).onRaise (λx=>do noteFrame x env;standAt theWindowsPlace)) _ _ s;exact wpAny_notedAt ?_;unfold compStart;change wpAny _ _ (ask >>=_) _ _ s;exact ax (wpAny_askSetting (wpAny_ite ?_));split;first
 | show ax (a7 (a7 (And.intro rfl h0)))
 | show a7 (And.intro rfl h0)
 first
 | show ax (wpAny_rule (ax (wpAny_standAt (ax (bG h (λYY s' h'=>a7 (And.intro rfl h')) λ_ _ x=>x)))))
 | (exact ax (wpAny_rule ?_);change wpAny _ _ (standAt cZ.pos >>=_) _ _ s;show ax (wpAny_standAt (ax (bG h (λYY s' h'=>a7 (And.intro rfl h')) λ_ _ x=>x))))
theorem Ly {iP tg iter:Expr}{iO:c_ Expr}{ka cZ:Expr}{fm:c_ Expr}{scope:Scope}{pos:Pos}{it fR:dC}{env:Env}(I:Nat ->gw ->Prop) (turn : ∀n s,I n s ->wpAny (model prog w) A (pyNext it) (λr s₁=>match r with
   | none=>R (.ok .next) s₁
   | some v=>wpAny (model prog w) A (letOwnedTupleGo ka it v) (λ_ s₀=>wpAny (model prog w) A (assign ka env v) (λ_ s₂=>
    wpAny (model prog w) A (forIn fm true λc r=>if r=true then do let ok <- isTrue c env (eval c env);pure (ForInStep.yield ok) else pure (ForInStep.yield r)) (λok s₃=>if ok=true then wpAny (model prog w) A (eval iP env) (λx s₄=>wpAny (model prog w) A (call (.builtin "list.append") [fR,x]) (λ_ s₅=> ∃m,m<n /\ I m s₅) (λ_ _=>False) s₄) (λ_ _=>False) s₃ else ∃m,m<n /\ I m s₃) (λ_ _=>False) s₂)
    (λ_ _=>False) s₀) (λ_ _=>False) s₁) (λ_ _=>False) s)
  (n:Nat) (h:I n s):codeAny (model prog w) A (.compLoop (wu iP tg iter iO ka cZ fm scope pos) 1 it fR env) R s:=by
 exact codeAny_loop rfl I (λn s hI=> ?_) n h
 change wpAny _ A ((compTurn (wu iP tg iter iO ka cZ fm scope pos) 1 it fR env).onRaise (λx=>do noteFrame x env;theTreesLotGoes x)) _ _ s
 exact wpAny_noted ?_
 rw[KG]
 exact ax (wpAny_standAt (ax (bG (turn n s hI) (λr s₁ h₁=> ?_) λ_ _ h'=>h'.elim)))
 cases r with
 | none=>show a7 h₁
 | some v=>
  exact ax (bG h₁ (λ_ s₀ Uh=> ?_) λ_ _ h'=>h'.elim);exact ax (bG Uh (λ_ s₂ h₂=> ?_) λ_ _ h'=>h'.elim);exact ax (bG h₂ (λTx s₃ h₃=> ?_) λ_ _ h'=>h'.elim);cases Tx with
  | false=>show a7 #[rfl,h₃]
  | true=>show ax (ax (bG h₃ (λx s₄ h₄=>ax (bG h₄ (λ_ s₅ h₅=>a7 (a7 #[rfl,h₅])) λ_ _ h'=>h'.elim)) λ_ _ h'=>h'.elim))
theorem Lz {iP tg iter:Expr}{iO:c_ Expr}{ka cZ:Expr}{fm:c_ Expr}{scope:Scope}{pos:Pos}{it fR:dC}{env:Env}(I:Nat ->gw ->Prop)(hs: ∀x,foldedSetIterable cZ env x=pure x) (turn : ∀n s,I n s ->wpAny (model prog w) A (pyNext it) (λr s₁=>match r with
   | none=>R (.ok .next) s₁
   | some v=>wpAny (model prog w) A (letOwnedTupleGo tg it v) (λ_ s₀=>wpAny (model prog w) A (assign tg env v) (λ_ s₂=>
    wpAny (model prog w) A (forIn iO true λc r=>if r=true then do let ok <- isTrue c env (eval c env);pure (ForInStep.yield ok) else pure (ForInStep.yield r)) (λok s₃=>if ok=true then wpAny (model prog w) A (eval cZ env) (λx s₄=>wpAny (model prog w) A (pyIter x) (λi2 s₅=>codeAny (model prog w) (A.mark none) (.compStart (wu iP tg iter iO ka cZ fm scope pos) 1 i2 fR env) (λr s₆=>match r with | .ok _=> ∃m,m<n /\ I m s₆ | .error _=>False) s₅) (λ_ _=>False) s₄) (λ_ _=>False) s₃ else ∃m,m<n /\ I m s₃) (λ_ _=>False) s₂)
    (λ_ _=>False) s₀) (λ_ _=>False) s₁) (λ_ _=>False) s)
  (n:Nat) (h:I n s):codeAny (model prog w) A (.compLoop (wu iP tg iter iO ka cZ fm scope pos) 0 it fR env) R s:=by
 exact codeAny_loop rfl I (λn s hI=> ?_) n h
 change wpAny _ A ((compTurn (wu iP tg iter iO ka cZ fm scope pos) 0 it fR env).onRaise (λx=>do noteFrame x env;theTreesLotGoes x)) _ _ s
 exact wpAny_noted ?_
 rw[KH]
 exact ax (wpAny_standAt (ax (bG (turn n s hI) (λr s₁ h₁=> ?_) λ_ _ h'=>h'.elim)))
 cases r with
 | none=>show a7 h₁
 | some v=>
  exact ax (bG h₁ (λ_ s₀ Uh=> ?_) λ_ _ h'=>h'.elim);exact ax (bG Uh (λ_ s₂ h₂=> ?_) λ_ _ h'=>h'.elim);exact ax (bG h₂ (λTx s₃ h₃=> ?_) λ_ _ h'=>h'.elim);cases Tx with
  | false=>show a7 #[rfl,h₃]
  | true=>
   exact ax (bG h₃ (λx s₄ h₄=> ?_) λ_ _ h'=>h'.elim);exact ax (wpAny_standAt ?_);rw[hs];exact ax (a7 (ax (wpAny_holding (bG h₄ (λi2 s₅ h₅=> ?_) λ_ _ h'=>h'.elim))));exact ax (wpAny_runOwn ?_);exact codeAny_mono h₅ λr s' z=> ?_;cases r with
   | ok f=>show a7 #[rfl,z]
   | error e=>show z.elim
end
section
variable {X:Cx}{ah:c_ (iW×Obj)}{σ:St}{H:Hp}{s s3:gw}
def At {tg iter iP:Expr}{iO:c_ Expr}{ka cZ:Expr}{fm:c_ Expr}{pos:Pos}{own N':c_ Str}{fr:c_ Nat}{n1:Nat}{scope:Scope}{cl:c_ (Str×iW)}{fp:c_ iW}{it:iW}{tn:Nat ->ZX ->Prop}{J:It}{g:TG}{tc:TT}{Gp:TI}{g2:TG}{CG:TT}{te:TE}{Q:VK} {E:dC ->gw ->Prop} {RR:dC ->iW ->Result ->gw ->Prop} (lE:X.calm=true) (S:cW X own fr N' scope) (hg: ∀s3 H3,PG (bY X N' scope cl fp s3 H3) tg g) (N4:n1<=own.length) (hw:Keeps (λi=>i<n1) g) (hc: ∀s3 H3,Om (bY X N' scope cl fp s3 H3) iO tc) (ZA: ∀s3 H3,PI (bY X N' scope cl fp s3 H3) ka cZ Gp) (A5: ∀s3 H3,PG (bY X N' scope cl fp s3 H3) ka g2) (Qd:Keeps (λi=>n1<=i /\ i<own.length) g2) (Fo: ∀s3 H3,Om (bY X N' scope cl fp s3 H3) fm CG) (he: ∀s3 H3,PE (bY X N' scope cl fp s3 H3) iP te) (DK: ∀s3 H3 x,foldedSetIterable cZ (bY X N' scope cl fp s3 H3).env x=pure x) (kO: ∀x c,cl.lookup x=some c ->X.env.cells.lookup x=some c) (vD: ∀y∈scope.names,y.2= .free ->(cl.lookup y.1).isSome=true) (I:Inv X ah σ H s) (T:yu X.prog X.w X.K tg J fp it tn) (st:tn 0 s.heap) (zZ: ∀b∈fp,kR X ah H b) (h: ∀p,H p=none ->Jq J own.length fr g tc Gp g2 CG te σ p H Q) (fin: ∀ (s3:gw) (H3:Hp),Inv X ah σ H3 s3 ->(∀b∈fp,kR X ah H3 b) -> ∀ (D:iW) (σ':St) (H':Hp) (s':gw) (t:Nat),D<s3.heap.objs.size ->Inv (bY X N' scope cl fp s3 H3) [] σ' H' s' ->Q (.ref D) H' ->RR (.ref D) s3.heap.objs.size (.ok .next) s'): wpAny (model X.prog X.w) X.A (newList []) (λfR s₃=>wpAny (model X.prog X.w) X.A (newFunctionEnv scope X.env.globals cl [] X.env.qual none .none (some X.env)) (λJs s₄=>codeAny (model X.prog X.w) X.A (.compStart (wu iP tg iter iO ka cZ fm scope pos) 0 (.ref it) fR {Js with scope:=relabel scope X.env}) (RR fR Js.locals) s₄) E s₃) E s:=by
 exact wpAny_newObj_type ?_;have hf:H s.heap.objs.size=none:=I.c6.fresh (aq _);let⟨W,⟨m0,w0⟩,turn⟩:=h _ hf;generalize e3:({s with heap:=s.heap.push {cls:= .type "list",dict:=none,data:= .seq ([]:c_ dC).toArray}}:gw)=s3;have OQ:s3.heap.objs.size=s.heap.objs.size+1:=by rw[<- e3];show Heap.size_push ..
 have X2: ∀b o,s.heap.get? b=some o ->s3.heap.get? b=some o:=λb o e=>by rw[<- e3];show av _ e
 have I3:Inv X ah σ (cM H s.heap.objs.size (.lst [])) s3:=by rw[<- e3];show I.laid (t':=s.toks) (λb u e=>av _ e) (aq _) #[dh _,[],0, .nil,aY _ rfl]
 have Qy: ∀b∈fp,b<s.heap.objs.size:=λb hb=>by let⟨o,e,_⟩:=T.obj 0 _ st b hb;show aO e
 have BR: ∀b∈fp,kR X ah (cM H s.heap.objs.size (.lst [])) b:=λb hb=>#[by rw[bR (bA (Qy b hb))];show(zZ b hb).1,(zZ b hb).2]
 exact wpAny_newFunctionEnv S.ue (by intro y hy;simp at hy) (λh₁ Qj Qf=> ?_) S.kind;have old: ∀b o,s3.heap.get? b=some o ->h₁.get? b=some o:=λb o e=>Qf.extBut b o (bA (aO e)) (av _ e);have Ic:=zS (t:=s3.toks+([]:c_ (Str×dC)).length) S I3 kO vD BR (λb hb=>by rw[OQ];show Nat.lt_succ_of_lt (Qy b hb)) Qj old;have EH:tn 0 h₁:=T.keep 0 _ _ st λb hb o e=>old b o (X2 b o e);have tK: ∀ {H':Hp},(∀b∈fp,H' b=none) -> ∀b∈fp,kR (bY X N' scope cl fp s3 (cM H s.heap.objs.size (.lst []))) [] H' b:=λhn b hb=>by exact#[hn b hb,?_,?_, .inl hb,λx c e=>(zZ b hb).2.2.2.2.1 x c (kO x c e),λp hp=>absurd (show p∈([]:c_ (iW×Obj)) from hp) (by simp)];change b≠s3.heap.objs.size;rw[OQ];show bA (Nat.lt_succ_of_lt (Qy b hb));show Ic.ok.BX b hb
 have loop : codeAny (model X.prog X.w) X.A (.compLoop (wu iP tg iter iO ka cZ fm scope pos) 0 (.ref it) (.ref s.heap.objs.size) (compEnvC scope cl s3.heap.objs.size X.env)) (RR (.ref s.heap.objs.size) s3.heap.objs.size) {s3 with heap:=h₁,toks:=s3.toks+([]:c_ (Str×dC)).length}:=by
  exact Lz (λn s'=>eE λi ys H'=>fi (Inv (bY X N' scope cl fp s3 (cM H s.heap.objs.size (.lst []))) [] (kP own.length fr σ) H' s') (tn i s'.heap) (∀b∈fp,H' b=none) (W i n ys H')) (DK s3 H) ?_ m0 #[0,[],_,Ic,EH,λb hb=>(BR b hb).1,w0];rintro n s4 ⟨i,ys,H4,I4,fP,UV,w4⟩;let⟨BS,alt⟩:=turn i n ys H4 w4;rcases alt with⟨stop,q⟩ | ⟨go,step⟩
  .exact cX (T.done (bY X N' scope cl fp s3 (cM H s.heap.objs.size (.lst []))) rfl rfl rfl lE i [] s4 _ H4 (λ_ _=>False) I4 (tK UV) fP stop) λr s5 ⟨hr,I5⟩=> ?_;subst hr;show fin s3 _ I3 BR _ _ H4 s5 s5.toks (by rw[OQ];show Nat.lt_succ_self _) I5 q
  exact cX (T.item (bY X N' scope cl fp s3 (cM H s.heap.objs.size (.lst []))) rfl rfl rfl lE i [] s4 _ H4 (λ_ _=>False) I4 (tK UV) fP go) λr s5 ⟨u,hr,h5⟩=> ?_;subst hr;exact cX h5 λ_ s6 ⟨x,H6,I6,r6,y6,OT,fr6⟩=> ?_;have I6':=I6.pinned (tK fr6) (T.obj _ _ OT);have V':=hw _ x H6 _ (step x H6 y6);exact cX (hg s3 _ _ s6 _ H6 x u _ I6' r6 V') λ_ s7 ⟨σ7,H7,I7,wk,q7⟩=> ?_;have wk1: ∀ (j:Nat) v,(kP own.length fr σ)[j]? =some (some v) ->σ7[j]? =some (some v):=λj v e=>by rw[wk.2 j (by have:=Er e;lia)];show e
  have wk2: ∀j,n1<=j ->j<own.length -> ∀v,σ7[j]? ≠some (some v):=λj h1 h2 v e=>by rw[wk.2 j ∅] at e;have:=Er e;lia
  have again: ∀ {σ9:St} {H9:Hp} {s9:gw} {Oq:c_ V},σ9.length=σ7.length ->(∀ (j:Nat) v,σ7[j]? =some (some v) ->σ9[j]? =some (some v)) ->Inv (bY X N' scope cl fp s3 (cM H s.heap.objs.size (.lst []))) ([]++iz fp s6.heap) σ9 H9 s9 ->(∃m',m'<n /\ W (i+1) m' Oq H9) ->∃m,m<n /\ eE λi ys H'=>fi (Inv (bY X N' scope cl fp s3 (cM H s.heap.objs.size (.lst []))) [] (kP own.length fr σ) H' s9) (tn i s9.heap) (∀b∈fp,H' b=none) (W i m ys H'):=λ{σ9 H9 s9 Oq} hl9 hv9 I9 ⟨m',hm,w9⟩=>by exact#[m',hm,i+1,Oq,H9,(I9.jk).weak ?_ λj v e=>hv9 j v (wk1 j v e),T.keep _ _ _ OT λb hb o e=>(I9.pin (b,o) (aW _ (aW _ (fe hb e)))).1,λb hb=> ?_,w9];rw[hl9,wk.1];let⟨o,e,d⟩:=T.obj _ _ OT b hb;show(I9.pin (b,o) (aW _ (aW _ (fe hb e)))).2.1
  exact cX (hc s3 _ _ s7 σ7 H7 _ I7 q7) λok s8 ⟨H8,I8,q8⟩=> ?_;cases ok with
  | false=>simp![aA,bD] at q8 ⊢;let⟨zs,q8⟩:=q8;show again rfl (λ_ _ e=>e) I8 q8
  | true =>
   simp![cc] at q8 ⊢;exact cX (ZA s3 _ _ s8 σ7 H8 _ I8 q8) λv2 s9 h9=>cX h9 λUa KU ZV=> ?_;let⟨DH,UX,tn2,J2,RD,e10,I10,T2,SO,f10,Z,⟨mz,z0,LJ⟩,Si⟩:=ZV;subst e10;have G1: ∀ {H':Hp},(∀b∈UX,H' b=none) -> ∀b∈UX,kR (bY X N' scope cl fp s3 (cM H s.heap.objs.size (.lst []))) ([]++iz fp s6.heap) H' b:=λhn b hb=>#[hn b hb,(f10 b hb).2]
   have NN:codeAny (model X.prog X.w) X.A (.compLoop (wu iP tg iter iO ka cZ fm scope pos) 1 (.ref DH) (.ref s.heap.objs.size) (compEnvC scope cl s3.heap.objs.size X.env)) (λr s₆=>match r with
   | .ok _=> ∃m,m<n /\ eE λi ys H'=>fi (Inv (bY X N' scope cl fp s3 (cM H s.heap.objs.size (.lst []))) [] (kP own.length fr σ) H' s₆) (tn i s₆.heap) (∀b∈fp,H' b=none) (W i m ys H')
   | .error _=>False) KU:=by
    exact Ly (λk s'=>eE λj zs H'=>fi (Inv (bY X N' scope cl fp s3 (cM H s.heap.objs.size (.lst []))) ([]++iz fp s6.heap) σ7 H' s') (tn2 j s'.heap) (∀b∈UX,H' b=none) (Z j k zs H')) ?_ mz #[0,z0,RD,I10,SO,λb hb=>(f10 b hb).1,LJ]
    rintro k s11 ⟨j,zs,H11,I11,SN,UW,z11⟩
    let⟨afU,afj⟩:=Si j k zs H11 z11
    rcases afj with⟨SK,qN⟩ | ⟨go2,hsz2,SM⟩
    exact cX (T2.done (bY X N' scope cl fp s3 (cM H s.heap.objs.size (.lst []))) rfl rfl rfl lE j _ s11 _ H11 (λ_ _=>False) I11 (G1 UW) SN SK) λr s12 ⟨hr,I12⟩=> ?_
    subst hr
    show again rfl (λ_ _ e=>e) I12 qN
    exact cX (T2.item (bY X N' scope cl fp s3 (cM H s.heap.objs.size (.lst []))) rfl rfl rfl lE j _ s11 _ H11 (λ_ _=>False) I11 (G1 UW) SN go2) λr s12 ⟨u2,hr,h12⟩=> ?_
    subst hr
    exact cX h12 λ_ s13 ⟨x2,H13,I13,r13,y13,OU,ae8⟩=> ?_
    have afl:=I13.pinned (G1 ae8) (T2.obj _ _ OU)
    have X':=Qd _ x2 H13 _ (SM x2 H13 y13)
    exact cX (A5 s3 _ _ s13 _ H13 x2 u2 _ afl r13 X') λ_ s14 ⟨σ14,H14,I14,RH,q14⟩=> ?_
    have Oj: ∀ {H9:Hp} {s9:gw} {ws:c_ V},Inv (bY X N' scope cl fp s3 (cM H s.heap.objs.size (.lst []))) (([]++iz fp s6.heap)++iz UX s13.heap) σ14 H9 s9 ->(∃k',k'<k /\ Z (j+1) k' ws H9) ->∃m,m<k /\ eE λj zs H'=>fi (Inv (bY X N' scope cl fp s3 (cM H s.heap.objs.size (.lst []))) ([]++iz fp s6.heap) σ7 H' s9) (tn2 j s9.heap) (∀b∈UX,H' b=none) (Z j m zs H'):=λ{H9 s9 ws} I9 ⟨k',A4,z9⟩=>by exact#[k',A4,j+1,ws,H9,(I9.jk).weak RH.1.symm λa v e=> ?_,T2.keep _ _ _ OU λb hb o e=>(I9.pin (b,o) (aW _ (aW _ (fe hb e)))).1,λb hb=> ?_,z9];rw[RH.2 a λhS=>wk2 a hS.1 hS.2 v e];show e;let⟨o,e,d⟩:=T2.obj _ _ OU b hb;show(I9.pin (b,o) (aW _ (aW _ (fe hb e)))).2.1
    exact cX (Fo s3 _ _ s14 σ14 H14 _ I14 q14) λYu s15 ⟨H15,I15,Q_⟩=> ?_
    cases Yu with
    | false=>simp![aA,bD] at Q_ ⊢;let⟨ws,Q_⟩:=Q_;show Oj I15 Q_
    | true=>simp![cc] at Q_ ⊢;exact cX (he s3 _ _ s15 σ14 H15 _ I15 Q_) λy s16 ⟨yv,H16,I16,ry,ws,Zk,Y2,q16⟩=> ?_;exact cX (dW _ s16 σ14 H16 (.ref s.heap.objs.size) [yv] (.ref s.heap.objs.size) [y] (λv H'=>H'=cM H16 s.heap.objs.size (.lst (ws++ [yv]))) I16 rfl (.cons ry .nil) #[_,ws,yv,rfl,rfl,Zk,Y2,rfl]) λv s17 ⟨_,H17,I17,_,e17⟩=> ?_;subst e17;show Oj I17 q16
   change codeAny _ X.A _ _ KU;show G2 NN (T2.self _ 0 _ _ _ SO NN)
 show codeAny_compStart_list loop (T.self _ 0 _ _ _ EH loop)
end
section
variable {X:Cx}
def qP {i:Nat}{x:Str}{tg iter iP:Expr}{iO:c_ Expr}{ka cZ:Expr}{fm:c_ Expr}{pos SQ lq:Pos}{own N':c_ Str}{fr:c_ Nat}{n1:Nat}{scope:Scope}{wi:TI}{g:TG}{tc:TT}{Gp:TI}{g2:TG}{CG:TT}{te:TE}(lE:X.calm=true)(hN:X.N.Nodup)(hx:X.N[i]? =some x)(hl:Loc X.env.scope x)(S:cW X own fr N' scope)(hi:PI X tg iter wi) (hg: ∀cl fp s3 H3,PG (bY X N' scope cl fp s3 H3) tg g) (N4:n1<=own.length) (hw:Keeps (λi=>i<n1) g) (hc: ∀cl fp s3 H3,Om (bY X N' scope cl fp s3 H3) iO tc) (ZA: ∀cl fp s3 H3,PI (bY X N' scope cl fp s3 H3) ka cZ Gp) (A5: ∀cl fp s3 H3,PG (bY X N' scope cl fp s3 H3) ka g2) (Qd:Keeps (λi=>n1<=i /\ i<own.length) g2) (Fo: ∀cl fp s3 H3,Om (bY X N' scope cl fp s3 H3) fm CG) (he: ∀cl fp s3 H3,PE (bY X N' scope cl fp s3 H3) iP te) (Y':swapsWith (.ListComp iP [#[tg,iter,iO,0],#[ka,cZ,fm,0]] scope pos) (some (.Name x lq)) SQ.line X.env=pure true) (hs: ∀x,foldedSetIterable iter X.env x=pure x:=by intro _;rfl) (DK: ∀cl fp s3 H3 x,foldedSetIterable cZ (bY X N' scope cl fp s3 H3).env x=pure x:=by intro _ _ _ _ _;rfl) (hf:X.fn x=true \/ X.env.scope.names.lookup x=some .local:=by first | show .inl rfl | show .inr rfl | assumption): PS X (.Assign [.Name x lq] (.ListComp iP [#[tg,iter,iO,0],#[ka,cZ,fm,0]] scope pos) SQ) (GZ (GY wi own.length fr g tc Gp g2 CG te) (lF i)):=by
 intro ah s σ H D I h;let⟨cl,IJ,kO,vD⟩:=uT (I.ok.cellsOf S);rw[exec_Assign_Name_used _ _ _ _ Y'];exact ax (wpAny_standAt (ax ?_));change wpAny _ X.A (do let _ <- comprehension (wu iP tg iter iO ka cZ fm scope pos) scope X.env _ (newList []) false (eval iter X.env) (some (assign (.Name x lq) X.env))) _ _ s;exact ax (cX (wpAny_comprehension_free (use:=some (assign (.Name x lq) X.env)) (Q:=λ_ s'=>SP X ah D .next s') rfl hs IJ S.kind S.loc (cX (hi ah s σ H _ I h) λv s1 h1=>cX h1 λUa s2 h2=> ?_)) λ_ s' hq=>a7 (a7 hq));let⟨it,fp,tn,J,H2,e,I2,T,n9,f2,h2⟩:=h2;subst e;exact At (RR:=λfR C=>compPost (model X.prog X.w) X.A X.xe (some (assign (.Name x lq) X.env)) (λ_ s'=>SP X ah D .next s') fR C) lE S (hg cl fp) N4 hw (hc cl fp) (ZA cl fp) (A5 cl fp) Qd (Fo cl fp) (he cl fp) (DK cl fp) kO vD I2 T n9 f2 h2 ?_;intro s3 H3 I3 f3 Da σ' H' s' t hD Ic q;let⟨m,hn,_⟩:=Ic.loc;have I5:=wX I3 f3 Ic;change wpAny _ X.A (assign (.Name x lq) X.env (.ref Da)) _ _ s';exact wpAny_assign_Name (vY I5 hN hx hl (show RelV (.ref Da) (.ref Da) from rfl) (λs6 I6 Us=> ?_) hf);let⟨a,sb,ha⟩:=Us;have nK:s3.heap.objs.size≠a:=by obtain rfl | ha:=ha;show Nat.ne_of_gt I3.lt;let⟨v,z⟩:=I3.cell x a ha;show Nat.ne_of_gt z.lt
 exact#[m,hn.sameBut sb nK,λh' Zc=>#[_,H',wW I3 rfl I6 Ic.free Zc,q]]
end
end L2
namespace WL
open PySem L2
section
variable {K:Uc}
def Ue (Cs:c_ W)(kz:Mp ->Prop)(g2:WG)(c2:WT)(el:WE)(ρ2:dm)(p:iW)(ys:c_ W)(M4:Mp)(N:c_ W ->Mp ->Prop):Prop:=∃I2:Nat ->c_ W ->Mp ->Prop,fi (I2 0 ys M4) (∀j zs M,j<=Cs.length ->I2 j zs M ->kz M /\ M p=some (.lst zs) /\ zs.length<sizeLine) (∀j y zs M,Cs[j]? =some y ->I2 j zs M ->g2 y ρ2 M λρ3 M5=>c2 ρ3 M5 λb M6=>if b=true then el ρ3 M6 λz M7=>M7 p=some (.lst zs) /\ I2 (j+1) (zs++ [z]) (um M7 p (.lst (zs++ [z]))) else I2 (j+1) zs M6) (∀zs M,I2 Cs.length zs M ->N zs M)
def B7 (xs:c_ W)(keep:Mp ->Prop)(own:Nat)(fr:c_ Nat)(g:WG)(c:WT)(DH:WI)(g2:WG)(c2:WT)(el:WE)(ρ:dm)(M1:Mp)(q:WK):Prop:= ∀p,M1 p=none -> ∃I:Nat ->c_ W ->Mp ->Prop,fi (I 0 [] (um M1 p (.lst []))) (∀i ys M,i<=xs.length ->I i ys M ->keep M /\ M p=some (.lst ys)) (∀i x ys M,xs[i]? =some x ->I i ys M ->g x (nQ own fr ρ) M λρ2 M2=>c ρ2 M2 λb M3=>if b=true then DH ρ2 M3 λCs kz M4=>Ue Cs kz g2 c2 el ρ2 p ys M4 (I (i+1)) else I (i+1) ys M3) (∀ys M,I xs.length ys M ->q (wr p) M)
def GB (it:WI)(own:Nat)(fr:c_ Nat)(g:WG)(c:WT)(DH:WI)(g2:WG)(c2:WT)(el:WE):WE:=λρ M q=>it ρ M λxs keep M1=>B7 xs keep own fr g c DH g2 c2 el ρ M1 q
theorem R9 {it:WI}{own:Nat}{fr:c_ Nat}{g:WG}{c:WT}{DH:WI}{g2:WG}{c2:WT}{el:WE}{ρ:dm}{M:Mp}{q:WK}:GB it own fr g c DH g2 c2 el ρ M q=it ρ M λxs keep M1=>B7 xs keep own fr g c DH g2 c2 el ρ M1 q:=rfl
instance {ti:TI}{own:Nat}{fr:c_ Nat}{g:TG}{tc:TT}{ti2:TI}{g2:TG}{CG:TT}{te:TE}{it:WI}{w:WG}{c:WT}{DH:WI}{w2:WG}{c2:WT}{el:WE} [ii:II K ti it] [ig:IG K g w] [ic:IT K tc c] [ii2:II K ti2 DH] [ig2:IG K g2 w2] [ic2:IT K CG c2] [ie:IE K te el]: IE K (GY ti own fr g tc ti2 g2 CG te) (GB it own fr w c DH w2 c2 el) where
 imp := λρ M σ H q Q o h k=>ii.imp ρ M σ H _ _ o h λxs keep J M1 H1 h1 t1 m1 ok=>by
  intro p hp;let⟨I,h0,hk,hs,hd⟩:=h1 p (m1.fresh hp);have tp:=L2.ge.ts (cf (o:= .lst []) hp);exact#[λi m vs H'=>m=xs.length - i /\ i<=xs.length /\ cE λys M'=>gJ (I i ys M') (a5 H1 H') (gg K M' H') (cU K H' ys vs) (H' p=some (.lst vs)),#[_,rfl,dh _,[],_,h0,tp,m1.zE hp cU.nil,cU.nil,bZ],?_];rintro i m vs H' ⟨rfl,hi,ys,M',hI,ts,m',rv,hv⟩;exact#[hv,?_];let⟨kp,hMp⟩:=hk i ys M' hi hI;let⟨k1,k2,k3⟩:=ok i M' H' ts m' kp;by_cases mK:i<xs.length;exact .inr #[k2 mK,λv H2 y=> ?_];let⟨ty,my,x,hx,r⟩:=k3 v H2 mK y;replace ts:=ts.trans ty;have oc:Ok K (nQ own fr ρ) M' (kP own fr σ) H2:=#[(o.env.ts (t1.trans ts)).Rz own fr,my]
  exact ig.imp x v _ M' _ H2 _ _ oc r (hs i x ys M' hx hI) λρ3 M3 σ3 H3 h3 t3 o3=>ic.imp ρ3 M3 σ3 H3 _ _ o3 h3 λb M4 H4 h4 t4 m4=> ?_;cases b with
  | true=>
   simp![cc] at h4 ⊢;exact ii2.imp ρ3 M4 σ3 H4 _ _ (o3.mv t4 m4) h4 λCs kz J2 M5 H5 h5 t5 m5 Yu=> ?_;let⟨I2,h20,UG,DK,hd2⟩:=h5;have tt5:=ts.trans ((t3.trans t4).trans t5);have at5: ∀ {M6:Mp} {H6:Hp} {zs:c_ W},M6 p=some (.lst zs) ->gg K M6 H6 -> ∃vs,H6 p=some (.lst vs) /\ cU K H6 zs vs:=λh m=>by let⟨vs,hv,rr⟩:=m p _ h;show#[vs,hv,rr]
   let⟨M_,LL,KY⟩:=at5 (UG 0 ys M5 (dh _) h20).2.1 m5;exact#[λj m vs H'=>m=Cs.length - j /\ j<=Cs.length /\ cE λzs M'=>gJ (I2 j zs M') (a5 H5 H') (gg K M' H') (cU K H' zs vs) (H' p=some (.lst vs)),#[_,M_,rfl,dh _,ys,M5,h20,a5.refl _,m5,KY,LL],?_];rintro j m2 vs6 H6 ⟨rfl,hj,zs,M6,ZR,Sj,m6,rv6,hv6⟩;exact#[hv6,?_];let⟨kp2,afW,Wy⟩:=UG j zs M6 hj ZR;let⟨a1,a2,a3⟩:=Yu j M6 H6 Sj m6 kp2;by_cases Ix:j<Cs.length;exact .inr #[a2 Ix,by rw[rv6.length];show Wy,λu7 H7 y7=> ?_];let⟨X3,my7,x7,hx7,r7⟩:=a3 u7 H7 Ix y7;have o7:Ok K ρ3 M6 σ3 H7:=#[o3.env.ts ((t4.trans t5).trans (Sj.trans X3)),my7]
   exact ig2.imp x7 u7 ρ3 M6 σ3 H7 _ _ o7 r7 (DK j x7 zs M6 hx7 ZR) λρ8 M8 σ8 H8 h8 t8 o8=>ic2.imp ρ8 M8 σ8 H8 _ _ o8 h8 λb9 M9 H9 h9 t9 m9=> ?_;cases b9 with
   | true=>simp![cc] at h9 ⊢;exact ie.imp ρ8 M9 σ8 H9 _ _ (o8.mv t9 m9) h9 λz M10 u RD ⟨ZV,h11⟩ t10 m10 r10=> ?_;let⟨KA,Ir,G_⟩:=m10 p _ ZV;have t11:=jL (u:= .lst (KA++ [u])) Ir;exact#[KA,Ir,by rw[G_.length];show Wy,_,?_,rfl,Ix,_,_,h11,((((Sj.trans X3).trans t8).trans t9).trans t10).trans t11,m10.putL Ir (G_.snoc r10),(G_.snoc r10).ts t11,bZ];lia
   | false=>simp![aA,bD] at h9 ⊢;let⟨KA,Ir,G_⟩:=at5 (UG (j+1) zs M9 Ix h9).2.1 m9;exact#[KA,_,?_,rfl,Ix,_,_,h9,((Sj.trans X3).trans t8).trans t9,m9,G_,Ir];lia
   have e':j=Cs.length:= ∅;subst e';exact .inl #[a1 rfl,_,?_,rfl,mK,zs,M6,hd2 zs M6 ZR,tt5.trans Sj,m6,rv6,hv6];lia
  | false=>simp![aA,bD] at h4 ⊢;let⟨M_,LL,KY⟩:=m4 p _ (hk (i+1) ys M4 mK h4).2;exact#[M_,_,?_,rfl,mK,_,_,h4,ts.trans (t3.trans t4),m4,KY,LL];lia
  have e':i=xs.length:= ∅;subst e';show .inl #[k1 rfl,k _ M' _ H' (hd ys M' hI) (t1.trans ts) m' WR.v]
def p8 {α:Type}{f:α ->W}{l:c_ α}{i:Nat}{x:W}(h:(l.map f)[i]? =some x): ∃a,l[i]? =some a /\ x=f a:=by
 rw[aI] at h;cases e:l[i]? with
 | none=>rw[e] at h;cases h
 | some a=>rw[e] at h;cases h;show#[a,rfl,rfl]
def FC {α β:Type}{l:c_ α}{fW:α ->W}(cO:α ->c_ β)(gW:β ->W)(eW:α ->β ->W){keep:Mp ->Prop}{M1:Mp}{own:Nat}{fr:c_ Nat}{ρ:dm}{g:WG}{c:WT}{DH:WI}{g2:WG}{c2:WT}{el:WE}{q:WK} (hz:(l.map λa=>(cO a).length).sum<sizeLine) (lD: ∀M,Sm M1 M ->keep M) (hs: ∀a∈l, ∀M,Sm M1 M -> ∀ (B:dm ->c_ W ->(Mp ->Prop) ->Mp ->Prop) (N0:Mp ->Prop),(∀ρ2 kz,(∀M',Sm M1 M' ->kz M') ->(∀b∈cO a, ∀M',Sm M1 M' -> ∀N:gC W ->Mp ->Prop,N (some (eW a b)) M' ->g2 (gW b) ρ2 M' λρ3 M5=>c2 ρ3 M5 λb M6=>ja b (el ρ3 M6 λz M7=>N (some z) M7) (N none M6)) ->B ρ2 ((cO a).map gW) kz M) ->g (fW a) (nQ own fr ρ) M λρ2 M2=>c ρ2 M2 λb M3=>ja b (DH ρ2 M3 λCs kz M4=>B ρ2 Cs kz M4) (N0 M3)) (hq: ∀p,M1 p=none ->q (wr p) (um M1 p (.lst (l.map λa=>(cO a).map (eW a)).flatten))): B7 (l.map fW) keep own fr g c DH g2 c2 el ρ M1 q:=by
 intro p hp;have d4: ∀k:c_ α,(k.map λa=>(cO a).map (eW a)).flatten.length=(k.map λa=>(cO a).length).sum:=λk=>by rw[List.length_flatten,aU];congr 1;apply dF;intro a _;simp
 have Uo: ∀i:Nat,((l.take i).map λa=>(cO a).length).sum<=(l.map λa=>(cO a).length).sum:=λi=>by
  have e:(l.map λa=>(cO a).length)=((l.take i).map λa=>(cO a).length)++((l.drop i).map λa=>(cO a).length):=by rw[<- a6,bH]
  rw[e,List.sum_append];lia
 exact#[λi ys M=>M=um M1 p (.lst ys) /\ ys=((l.take i).map λa=>(cO a).map (eW a)).flatten,#[rfl,by simp],?_,?_,?_];rintro i ys M hi ⟨rfl,rfl⟩;show#[lD _ (bj hp),ao];rintro i x ys M hx ⟨rfl,rfl⟩;let⟨a,ha,rfl⟩:=p8 hx;have e:l.take (i+1)=l.take i++ [a]:=by rw[cG,ha];rfl
 have eF:((l.take (i+1)).map λa=>(cO a).map (eW a)).flatten=((l.take i).map λa=>(cO a).map (eW a)).flatten++(cO a).map (eW a):=by rw[e,a6,List.flatten_append];simp
 have eS:((l.take (i+1)).map λa=>(cO a).length).sum=((l.take i).map λa=>(cO a).length).sum+(cO a).length:=by rw[e,a6,List.sum_append];simp
 exact hs a (aT ha) _ (bj hp) (λρ2 Cs kz M4=>Ue Cs kz g2 c2 el ρ2 p ((l.take i).map λa=>(cO a).map (eW a)).flatten M4 λys M=>M=um M1 p (.lst ys) /\ ys=((l.take (i+1)).map λa=>(cO a).map (eW a)).flatten) (λM=>M=um M1 p (.lst ((l.take i).map λa=>(cO a).map (eW a)).flatten) /\ ((l.take i).map λa=>(cO a).map (eW a)).flatten=((l.take (i+1)).map λa=>(cO a).map (eW a)).flatten) ?_;intro ρ2 kz UG DK;exact#[λj zs M=>M=um M1 p (.lst zs) /\ zs=((l.take i).map λa=>(cO a).map (eW a)).flatten++((cO a).take j).map (eW a),#[rfl,by simp],?_,?_,?_];rintro j zs M hj ⟨rfl,rfl⟩;exact#[UG _ (bj hp),ao,?_];rw[aJ,d4,af,bU];have b3:=Uo (i+1);rw[eS] at b3;lia;rintro j y zs M hy ⟨rfl,rfl⟩;let⟨b,hb,rfl⟩:=p8 hy;have e2:(cO a).take (j+1)=(cO a).take j++ [b]:=by rw[cG,hb];rfl
 exact DK b (aT hb) _ (bj hp) (λo M4=>match o with
 | some z=>M4 p=some (.lst (((l.take i).map λa=>(cO a).map (eW a)).flatten++((cO a).take j).map (eW a))) /\ (um M4 p (.lst (((l.take i).map λa=>(cO a).map (eW a)).flatten++((cO a).take j).map (eW a)++ [z]))=um M1 p (.lst (((l.take i).map λa=>(cO a).map (eW a)).flatten++((cO a).take j).map (eW a)++ [z])) /\ ((l.take i).map λa=>(cO a).map (eW a)).flatten++((cO a).take j).map (eW a)++ [z]=((l.take i).map λa=>(cO a).map (eW a)).flatten++((cO a).take (j+1)).map (eW a))
 | none=>M4=um M1 p (.lst (((l.take i).map λa=>(cO a).map (eW a)).flatten++((cO a).take j).map (eW a))) /\ ((l.take i).map λa=>(cO a).map (eW a)).flatten++((cO a).take j).map (eW a)=((l.take i).map λa=>(cO a).map (eW a)).flatten++((cO a).take (j+1)).map (eW a)) ?_
 show#[ao,j_,by rw[e2,a6];simp];rintro zs M ⟨rfl,rfl⟩;show#[rfl,by rw[eF,af,cQ]];rintro ys M ⟨rfl,rfl⟩;rw[af,cQ];show hq p hp
def uS {α:Type}{l:c_ α}{fW:α ->W}(pr:α ->Bool)(eW:α ->W){keep:Mp ->Prop}{M1:Mp}{own:Nat}{fr:c_ Nat}{ρ:dm}{g:WG}{c:WT}{el:WE}{q:WK}(hz:l.length<=sizeLine)(lD: ∀M,Sm M1 M ->keep M) (hs: ∀a∈l, ∀ (M:Mp) (N:gC W ->Mp ->Prop),Sm M1 M ->N (if pr a=true then some (eW a) else none) M ->g (fW a) (nQ own fr ρ) M λρ2 M2=>c ρ2 M2 λb M3=>ja b (el ρ2 M3 λy M4=>N (some y) M4) (N none M3)) (hq: ∀p,M1 p=none ->q (wr p) (um M1 p (.lst ((l.filter pr).map eW)))):wY (l.map fW) keep own fr g c el ρ M1 q:=by
 exact#[by rw[af];show hz,λp hp=>#[λi ys M=>M=um M1 p (.lst ys) /\ ys=((l.take i).filter pr).map eW,#[rfl,by simp],?_,?_,?_]];rintro i ys M hi ⟨rfl,rfl⟩;exact#[lD _ (bj hp),ao,?_];rw[af];exact ar (List.length_filter_le _ _) ?_;rw[bU];lia;rintro i x ys M hx ⟨rfl,rfl⟩;let⟨a,ha,rfl⟩:=p8 hx;have e:l.take (i+1)=l.take i++ [a]:=by rw[cG,ha];rfl
 exact hs a (aT ha) _ (λo M4=>match o with
 | some y=>M4 p=some (.lst (((l.take i).filter pr).map eW)) /\ (um M4 p (.lst (((l.take i).filter pr).map eW++ [y]))=um M1 p (.lst (((l.take i).filter pr).map eW++ [y])) /\ ((l.take i).filter pr).map eW++ [y]=((l.take (i+1)).filter pr).map eW)
 | none=>M4=um M1 p (.lst (((l.take i).filter pr).map eW)) /\ ((l.take i).filter pr).map eW=((l.take (i+1)).filter pr).map eW) (bj hp) ?_
 cases hf:pr a with
 | false=>rw[ak (by simp)];show#[rfl,by rw[e,List.filter_append];simp[hf]]
 | true=>rw[am rfl];show#[ao,j_,by rw[e,List.filter_append];simp[hf]]
 rintro ys M ⟨rfl,rfl⟩;rw[af,cQ];show hq p hp
def eQ {α:Type}{l:c_ α}{fW:α ->W}(eW:α ->W){keep:Mp ->Prop}{M1:Mp}{own:Nat}{fr:c_ Nat}{ρ:dm}{g:WG}{c:WT}{el:WE}{q:WK}(hz:l.length<=sizeLine)(lD: ∀M,Sm M1 M ->keep M) (hs: ∀a∈l, ∀ (M:Mp) (N:gC W ->Mp ->Prop),Sm M1 M ->N (some (eW a)) M ->g (fW a) (nQ own fr ρ) M λρ2 M2=>c ρ2 M2 λb M3=>ja b (el ρ2 M3 λy M4=>N (some y) M4) (N none M3)) (hq: ∀p,M1 p=none ->q (wr p) (um M1 p (.lst (l.map eW)))):wY (l.map fW) keep own fr g c el ρ M1 q:=by exact uS (λ_=>true) eW hz lD (λa ha M N s h=>hs a ha M N s ⇑h) λp hp=> ?_;have e:l.filter (λ_=>true)=l:=List.filter_eq_self.mpr λ_ _=>rfl;rw[e];show hq p hp
end
def Bu:fG:=λ_ _ _=>False
theorem z3 {P:Y1}{w:ZW}{K:Uc}{mg:Str ->gC dC}{base:ZX}{CX:AV}{k:Nat}{f:iW}{fd:ZZ}{ps:c_ Str}:bE P w K mg base CX k f fd ps (fD K Bu):=#[λvs H Q E ⟨_,_,_,_,_,h,_⟩=>h.elim,λA outer s H args us vs Q E hr=>by
 intros;rename_i h;first
 | (let⟨_,_,_,_,_,h,_⟩:=h;show h.elim)]
end WL
namespace WQ
open PySem L2 WL WP
def fS (f:Int ->Int)(e:Int):Nat ->Int ->Int
 | 0,_=>0
 | n+1,x=>fS f e n x+f (x - e*n)
def nz (f:Int ->Int)(e:Int):Nat ->Int ->Int
 | 0,_=>0
 | n+1,x=>nz f e n x - f (x+e*(n+1:Nat))
def k7 (f:Int ->Int)(e n x:Int):Int:=if n<0 then nz f e (-n).toNat x else fS f e n.toNat x
def vX (f:Int ->Int)(e n x:Int):k7 f e (n+1) x=k7 f e n x+f (x - e*n):=by
 unfold k7;by_cases h:n<0;rw[am h];let⟨m,hm⟩: ∃m:Nat,(-n).toNat=m+1:=#[(-n).toNat - 1, ∅]
 have en:n= -((m:Int)+1):= ∅;have ex:x - e*n=x+e*((m+1:Nat):Int):=by rw[en,Int.mul_neg];push_cast;lia
 rw[hm,nz,ex];by_cases h1:n+1<0;rw[am h1,show(-(n+1)).toNat=m by lia];lia;rw[ak h1,show(n+1).toNat=0 by lia];have:m=0:= ∅;subst this;simp![fS,nz];lia;rw[ak h,ak ∅,show(n+1).toNat=n.toNat+1 by lia,fS];have:((n.toNat:Nat):Int)=n:= ∅;rw[this]
theorem EF (f:Int ->Int)(e:Int): ∀ (n:Nat) (x:Int),k7 f e n x+k7 f e (-n) (x - e*n)=0
 | 0,x=>rfl
 | n + 1,x=>by
  have ih:=EF f e n x;have h1:=vX f e n x;have h2:=vX f e (-(n+1:Nat)) (x - e*(n+1:Nat));have e1:(-((n+1:Nat):Int))+1= -(n:Int):= ∅;rw[e1] at h2;have e2:(((n+1:Nat)):Int)=(n:Int)+1:= ∅;rw[e2] at h2 ⊢;have e3:x - e*((n:Int)+1) - e* -((n:Int)+1)=x:=by rw[Int.mul_neg];lia
  rw[e3] at h2;have sh: ∀ (m:Nat) (z:Int),nz f e m (z - e)=nz f e m z - f z+f (z+e*m):=by
   intro m;induction m with
   | zero=>intro z;simp![nz];rw[Int.ofNat_zero,Int.mul_zero,Int.add_zero];lia
   | succ m ihm=>
    intro z;have a1:z - e+e*((m+1:Nat):Int)=z+e*m:=by
     push_cast;rw[Int.mul_add,Int.mul_one];lia
    rw[nz,ihm,nz,a1];lia
  have hs:=sh (n+1) (x - e*n);have DK:k7 f e (-((n:Int)+1)) (x - e*((n:Int)+1))=nz f e (n+1) (x - e*n - e):=by unfold k7;rw[am ∅,show(- -((n:Int)+1)).toNat=n+1 by lia];congr 1;rw[Int.mul_add,Int.mul_one];lia
  have hs3:k7 f e (-(n:Int)) (x - e*n)=nz f e n (x - e*n):=by unfold k7;by_cases h0:n=0;subst h0;rfl;rw[am ∅,show(- -(n:Int)).toNat=n by lia]
  have hs4:nz f e (n+1) (x - e*n)=nz f e n (x - e*n) - f (x - e*n+e*((n+1:Nat):Int)):=rfl;have e5:x - e*n+e*((n+1:Nat):Int)=x+e:=by push_cast;rw[Int.mul_add,Int.mul_one];lia
  rw[DK,hs,hs4,e5,h1];rw[hs3] at ih;lia
theorem tI {f g:Int ->Int}{e:Int}(h: ∀x,g x= -f (x+e)): ∀ (n:Nat) (x:Int),fS g (-e) n x=nz f e n x
 | 0,_=>rfl
 | n +1,x=>by
  rw[fS,nz,tI h n x,h];have:x - -e*n+e=x+e*((n+1:Nat):Int):=by rw[Int.neg_mul];push_cast;rw[Int.mul_add,Int.mul_one];lia
  rw[this];lia
theorem yX {p:Int}{f g:Int ->Int}{e:Int}(h: ∀x,f x % p=g x % p): ∀ (n:Nat) (x:Int),fS f e n x % p=fS g e n x % p
 | 0,_=>rfl
 | n+1,x=>by rw[fS,fS,Int.add_emod,yX h n x,h, <- Int.add_emod]
theorem jM (f:Int ->Int)(x:Int): ∀n:Nat,fS f 0 n x=f x*n
 | 0=>by simp[fS]
 | n+1=>by rw[fS,jM f x n,Int.zero_mul,Int.sub_zero];push_cast;rw[Int.mul_add,Int.mul_one]
structure gY (p:Int)(a:Rd)(n:Int)(r:Rd):Prop where
 en:r.1=a.1*n
 pt:dR p r.2
 at_: ∀x,fw r.2 x=k7 (fw a.2) a.1 n x % p
theorem gY.eq {p:Int}(hp:0<p){a:Rd}{n:Int}{r r':Rd}(h:gY p a n r)(h':gY p a n r'):r=r':=O0 (h.en.trans h'.en.symm) (Bs hp h.pt h'.pt λx=>(h.at_ x).trans (h'.at_ x).symm)
def gY.xX {p:Int}(hp:0<p){a r:Rd}{n:Int}(hn:n<0)(h:gY p (bk p a) (-n) r):gY p a n r:=by exact#[?_,h.pt,λx=> ?_];rw[h.en];change -a.1* -n=a.1*n;rw[Int.neg_mul_neg];rw[h.at_];unfold k7;rw[ak ∅,am hn];change fS (fw (bk p a).2) (-a.1) (-n).toNat x % p=_;rw[<- tI (f:=fw a.2) (g:=λx=> -fw a.2 (x+a.1)) (λ_=>rfl)];show yX (λy=>by rw[OM hp,Int.emod_emod_of_dvd _ (Int.dvd_refl p)]) _ _
def oq (e:Int)(n:Nat)(q:Int×Int):Pt:=(List.range n).map λ(k:Nat)=>(q.1+e*k,q.2)
def lB (e:Int)(n:Nat)(l:Pt):Pt:=(l.map (oq e n)).flatten
theorem yS (e x:Int)(q:Int×Int): ∀n:Nat,fw (oq e n q) x=fS (fw [q]) e n x
 | 0=>rfl
 | n +1=>by
  have:oq e (n+1) q=oq e n q++ [(q.1+e*n,q.2)]:=by unfold oq;rw[List.range_succ,a6];rfl
  rw[this,gi,yS e x q n,fS];congr 1;simp![fw];by_cases c:q.1+e*n=x;rw[am c,am ∅];rw[ak c,ak ∅]
theorem yY (f g:Int ->Int)(e x:Int): ∀n:Nat,fS (λy=>f y+g y) e n x=fS f e n x+fS g e n x
 | 0=>rfl
 | n+1=>by rw[fS,fS,fS,yY f g e x n];lia
theorem yW (e x:Int): ∀n:Nat,fS (λ_=>0) e n x=0
 | 0=>rfl
 | n+1=>by rw[fS,yW e x n];rfl
theorem yT (e:Int)(n:Nat)(x:Int): ∀l:Pt,fw (lB e n l) x=fS (fw l) e n x
 | []=>by have:fw ([]:Pt)=λ_=>0:=rfl;rw[this,yW];rfl
 | q ::l=>by
  have e1:lB e n (q::l)=oq e n q++lB e n l:=rfl;have e2:fw (q::l)=λy=>fw [q] y+fw l y:=by funext y;have:=gi [q] l y;show this
  rw[e1,gi,yS,yT e n x l,e2,yY]
theorem ug (e:Int)(n:Nat): ∀l:Pt,(lB e n l).length=l.length*n
 | []=>by simp[lB]
 | q::l=>by have e1:lB e n (q::l)=oq e n q++lB e n l:=rfl;rw[e1,aJ,ug e n l,oq,af,List.length_range,az,Nat.succ_mul];lia
theorem vU (b:Rd)(x:Int): ∀n:Nat,fw (ox b n) x=fS (fw b.2) b.1 n x
 | 0=>rfl
 | n+1=>by
  rw[ox,gi,vU b x n,Be,fS];have:x - (n:Int)*b.1=x - b.1*n:=by rw[Int.mul_comm]
  rw[this]
def NG:fG:=λxs M q=>eE λ(p:Int) (a:Rd) (n:Int)=>AB (xs= [wi p,gq a,wi n]) (0<p) (p<1000) (dR p a.2) (a.2.length<=40000) (0<=n) (a.1≠0 ->n<100000 /\ a.2.length*n.toNat<=100000) (∀r:Rd,gY p a n r ->(a.1=0 ->r.2.length<=a.2.length) ->(a.1≠0 ->r.2.length<=a.2.length*n.natAbs) ->q (gq r) M)
def Pd:fG:=λxs M q=>eE λ(p:Int) (a:Rd) (n:Int)=>Ks (xs= [wi p,gq a,wi n]) (0<p) (p<1000) (dR p a.2) (a.2.length<=40000) (a.1≠0 -> -100000<n /\ n<100000 /\ a.2.length*n.natAbs<=100000) (∀r:Rd,gY p a n r ->(a.1=0 ->r.2.length<=a.2.length) ->(a.1≠0 ->r.2.length<=a.2.length*n.natAbs) ->q (gq r) M)
end WQ
namespace HT
open PySem PySem.Spec PyProof.Rows
section
variable {prog:Y1}{w:ZW}{A:Z0}{E:dC ->gw ->Prop}{s:gw}
def Jt {t b:iW}{ws:c_ dC}{Q:dC ->gw ->Prop}(ht:IsTup s.heap t ([]:c_ dC).toArray)(hb:IsTup s.heap b ws.toArray)(h1:Q (.ref b) s):wpAny (model prog w) A (binaryOp .Add (.ref t) (.ref b)) Q E s:=by let⟨⟨cls,dd,data,sl⟩,ho,hc,n,hd⟩:=id ht;let⟨⟨afd,W3,data2,No⟩,Qi,Fo,n2,hd2⟩:=id hb;simp only at hc hd Fo hd2;subst hc hd Fo hd2;show concat_meets #[_,ho,rfl] #[_,Qi,rfl] noFill_tuple_add seq_tuple_add PySem.F.slot_tuple_add PySem.F.entry_tuple_add (PySem.F.args_tuple_add_2 _ _) (tuple_addW0 t b _ ws.toArray n n2 dd W3 sl No (by rfl)) #[ho,Qi,h1]
end
end HT
namespace L2
open PySem PySem.Spec PyProof.Rows
section
variable {X:Cx}
def NC (K:Uc):R2:=λx y H Q=>gm λa b xs ys=>AB (x= .ref a) (y= .ref b) (kW K H a xs) (kW K H b ys) (xs.length+ys.length<=sizeLine) (xs= [] ->Q (.ref b) H) (xs≠ [] ->ys= [] ->Q (.ref a) H) (xs≠ [] ->ys≠ [] -> ∀p,H p=none ->Q (.ref p) (cM H p (.tup (xs++ys))))
def Di:iK X (binaryOp .Add) (NC X.K):=by
 intro ah s σ H x y v u Q I rx ry h;let⟨a,b,xs,ys,rfl,rfl,ha,hb,hz,q0,q1,q2⟩:=h;by_cases hx:xs= []
 subst hx;cases rx;cases ry;let⟨bQ,r1,p1,_⟩:=I.tuple ha;let⟨ya,r2,p2,_⟩:=I.tuple hb;have e:bQ= []:=r1.jT.mpr rfl;subst e;show HT.Jt p1 p2 #[.ref b,H,I,rfl,q0 rfl];show Lj ah s σ H _ _ v u Q I rx ry #[a,b,xs,ys,rfl,rfl,ha,hb,hx,hz,q1 hx,q2 hx]
end
end L2
namespace WL
open PySem L2
section
variable {K:Uc}
def MW:qz:=λx y M q=>cE λl l'=>fi (x= .tup l) (y= .tup l') (l.length+l'.length<=sizeLine) (q (.tup (l++l')) M)
def cU.jT {H:Hp}{l:c_ W}{vs:c_ V}(r:cU K H l vs):vs= []↔l= []:=by have:=r.length;cases l<;>cases vs<;>simp_all
instance:IR K (NC K) MW where
 imp :=by rintro x y v u M H q Q m r1 r2 ⟨l,l',rfl,rfl,hz,h⟩ k;let⟨a,vs,rfl,hv,r⟩:=r1.tup;let⟨b,us,rfl,hu,r'⟩:=r2.tup;exact#[a,b,vs,us,rfl,rfl,hv,hu,by rw[r.length,r'.length];show hz,λe=> ?_,λ_ e=> ?_,λ_ _ p hp=> ?_];rw[r.jT.mp e,List.nil_append] at h;show k _ M _ H h (a5.refl H) m (WR.PK hu r');rw[r'.jT.mp e,c8] at h;show k _ M _ H h (a5.refl H) m (WR.PK hv r);show k _ M _ _ h (L2.ge.ts (cf hp)) (m.new hp) (WR.PK (kW.of bZ) ((r.append r').ts (L2.ge.ts (cf hp))))
def VY {l l':c_ W}{M:Mp}{q:WK}:MW (.tup l) (.tup l') M q=eo (l.length+l'.length<=sizeLine) (q (.tup (l++l')) M):=by apply propext;symm;rintro⟨_,_,h1,h2,h3,k⟩;cases h1;cases h2;show#[h3,k];rintro⟨h3,k⟩;show#[_,_,rfl,rfl,h3,k]
end
end WL
namespace L2
open PySem PySem.Spec PyProof.Rows
section
variable {X:Cx}{tg:Expr}
def Qa (K:Uc)(tl:TE):TI:=λσ H R=>tl σ H λx H1=> ∃a,x= .ref a /\ (((∃xs,iH K H1 a xs) /\ R (W_ K a) H1) \/ ((∃xs,kW K H1 a xs) /\ R (W9 K a) H1))
def O5 {l:Expr}{tl:TE}(hl:PE X l tl):PI X tg l (Qa X.K tl):=by
 intro ah s σ H R I h;exact cX (hl ah s σ H _ I h) λv s1 ⟨x,H1,I1,r1,q1⟩=> ?_;let⟨a,e,q1⟩:=q1;subst e;cases r1;have fin: ∀b∈ [s1.heap.objs.size],kR X ah H1 b:=λb hb=>by have e:b=s1.heap.objs.size:= ⇑hb;subst e;show I1.BV (aq _) (I1.c6.fresh (aq _))
 rcases q1 with⟨⟨xs,hq⟩,q⟩ | ⟨⟨xs,hq⟩,q⟩
 let⟨bQ,rv,p,hz⟩:=I1.list hq;exact wpAny_pyIter_list p.isList ?_;show#[s1.heap.objs.size,[s1.heap.objs.size],_,_,H1,rfl,I1.kept (t':=s1.toks) λb o e=>av _ e,vS a _,#[_,aY _ rfl,rfl,rfl],fin,q];let⟨bQ,rv,p,hz⟩:=I1.tuple hq;exact wpAny_pyIter_tuple (show s1.heap.IsTuple a bQ.toArray from p) ?_;show#[s1.heap.objs.size,[s1.heap.objs.size],_,_,H1,rfl,I1.kept (t':=s1.toks) λb o e=>av _ e,tF a _,#[_,aY _ rfl,rfl,rfl],fin,q]
end
end L2
namespace WL
open PySem L2
section
variable {K:Uc}
def KQ (x:W)(M:Mp)(q:c_ W ->(Mp ->Prop) ->Mp ->Prop):Prop:=(cE λp l=>cS (x=wr p) (M p=some (.lst l)) (q l (λM'=>M' p=some (.lst l)) M)) \/ ∃l,x= .tup l /\ q l (λ_=>True) M
def T_ (a:WE):WI:=λρ M q=>a ρ M λx M1=>KQ x M1 q
instance {t:TE}{a:WE} [ia:IE K t a]:II K (Qa K t) (T_ a) where
 imp :=λρ M σ H q R o h k=>ia.imp ρ M σ H _ _ o h λx M1 v H1 h1 t1 m1 r1=>by
  rcases h1 with⟨p,l,e,hp,h1⟩ | ⟨l,e,h1⟩
  subst e;let⟨vs,hv,rr⟩:=m1 p _ hp;show#[p,r1.eq, .inl #[#[vs,iH.of hv],k l _ _ M1 H1 h1 t1 m1 wx]];subst e;let⟨p,vs,rfl,hv,rr⟩:=r1.tup;show#[p,rfl, .inr #[#[vs,hv],k l _ _ M1 H1 h1 t1 m1 (zR hv rr)]]
theorem YV {a:WE}{ρ:dm}{M:Mp}{q:c_ W ->(Mp ->Prop) ->Mp ->Prop}:T_ a ρ M q=a ρ M λx M1=>KQ x M1 q:=rfl
def Yb {p:iW}{M:Mp}{q:c_ W ->(Mp ->Prop) ->Mp ->Prop}:KQ (.v (.ref p)) M q=lstK (M p) λl=>q l (λM'=>M' p=some (.lst l)) M:=by apply propext;symm;rintro(⟨_,l,h1,h2,k⟩ | ⟨_,h1,_⟩);cases h1;show#[l,h2,k];cases h1;rintro⟨l,h2,k⟩;show .inl #[_,l,rfl,h2,k]
def Ya {l:c_ W}{M:Mp}{q:c_ W ->(Mp ->Prop) ->Mp ->Prop}:KQ (.tup l) M q=q l (λ_=>True) M:=by apply propext;symm;rintro(⟨_,_,h1,_⟩ | ⟨_,h1,k⟩);cases h1;cases h1;show k;intro k;show .inr #[l,rfl,k]
end
end WL
namespace WQ
open PySem L2 WL WP
def cv (a b:c_ Int):Nat ->Nat ->Int
 | 0,_=>0
 | k+1,n=>cv a b k n+if k<=n then a.getD k 0*b.getD (n - k) 0 else 0
structure IsPart (p:Int)(one other q r:List Int):Prop where
 qs:Op p q
 rs:Op p r
 len:r.length<other.length
 ql:q.length<=one.length
 eq: ∀n,one.getD n 0 % p=(cv q other q.length n+r.getD n 0) % p
end WQ
namespace L2
open PySem PySem.Spec PyProof.Rows
theorem vR: ∀ {ss:c_ Str} {us:c_ dC},cj (ss.map V.str) us -> ∃l:c_ (Str×Tok),us=strValues l /\ l.map (·.1)=ss
 | [],_,h=>by cases h;show#[[],rfl,rfl]
 | x ::r,_,h=>by
  cases h with
  | cons h1 h2=>let⟨t,rfl⟩:=h1;let⟨l,rfl,e⟩:=vR h2;show#[(x,t)::l,rfl,by rw[aH,e]]
section
variable {X:Cx}
def oy (K:Uc):V ->c_ V ->Hp ->VK ->Prop:=λx vs H Q=>eE λ(ji:Str) (b:iW) (ss:c_ Str)=>kQ (x= .str ji) (vs= [.ref b]) (iH K H b (ss.map V.str)) (Builtin.Str.tooLong (ss.toArray.foldl (· + ·.length+ji.length) 0)=false) ((Builtin.Str.glued ji ss).length<=sizeLine) (Q (.str (Builtin.Str.glued ji ss)) H)
def jU:Gj X "str.join" (oy X.K):=by
 intro ah s σ H x xs v us Q I rx rv h;let⟨ji,b,ss,rfl,rfl,hb,hl,hg,q⟩:=h;let⟨t,rfl⟩:=rx;let⟨u,rfl,ru⟩:=vals1 rv;cases ru;let⟨bQ,r,p,hz⟩:=I.list hb;let⟨l,rfl,e⟩:=vR r;exact call_meets c5 (typeIs_str _ _ _) PySem.F.entry_str_join (PySem.F.args_str_join_2 _ _) (meets_str_join_list ji t b l (by rw[e];show hl)) #[p.isList,?_];match l,e with
 | [],e=>have e:ss= []:=e.symm;subst e;show#[hg, .str _,H,I.tok _,#[_,rfl],q]
 | [y],e=>have e:ss= [y.1]:=e.symm;subst e;show#[.str y.1,H,I,#[y.2,rfl],q]
 | y::z::l',e=>subst e;show#[hg, .str _,H,I.tok _,#[_,rfl],q]
def ND:R2:=λx y H Q=>cE λi j=>fi (x= .str i) (y= .str j) (i.length+j.length<=sizeLine) (Q (.str (i++j)) H)
theorem fV:iK X (binaryOp .Add) ND:=Bw
def Nx:c_ V ->Hp ->VK ->Prop:=λxs H Q=> ∃i:Int,cS (xs= [.int i]) (i.natAbs.log2<1920) (Q (.str (toString i)) H)
theorem jI:fq X (.type "str") Nx:=yl
end
end L2
namespace WL
open PySem L2
section
variable {K:Uc}
def OC (r:WM)(a:WE)(b:WA):WE:=λρ M q=>a ρ M λx M1=> ∃y,x=ws y /\ b ρ M1 λxs M2=>r x xs M2 q
instance {r:V ->c_ V ->Hp ->VK ->Prop}{w:WM}{t:TE}{u:TA}{a:WE}{b:WA} [ir:IM K r w] [ia:IE K t a] [ib:IA K u b]:IE K (V8 K "str" r t u) (OC w a b) where
 imp :=λρ M σ H q Q o h k=>ia.imp ρ M σ H _ _ o h λx M1 v H1 ⟨y,e,h1⟩ t1 m1 r1=>by subst e;cases r1.eq;show#[rfl,ib.imp ρ M1 σ H1 _ _ (o.mv t1 m1) h1 λz M2 u H2 h2 t2 m2 r2=>ir.imp (ws y) (.str y) z u M2 H2 _ _ m2 WR.v r2 h2 λz M3 v3 H3 h3 t3 m3 r3=>k z M3 v3 H3 h3 ((t1.trans t2).trans t3) m3 r3]
theorem cU.strs {H:Hp}: ∀ {ss:c_ Str} {vs:c_ V},cU K H (ss.map ws) vs ->vs=ss.map V.str
 | [],vs,h=>by simpa only[List.map_nil,cU] using h
 | n::r,vs,h=>by simp![aH,cU] at h;let⟨v,t,rfl,h1,h2⟩:=h;rw[cU.strs h2,h1.eq];rfl
def Gw:WM:=λx ys M q=>eE λ(ji:Str) (b:iW) (ss:c_ Str)=>kQ (x=ws ji) (ys= [wr b]) (M b=some (.lst (ss.map ws))) (Builtin.Str.tooLong (ss.toArray.foldl (· + ·.length+ji.length) 0)=false) ((Builtin.Str.glued ji ss).length<=sizeLine) (q (ws (Builtin.Str.glued ji ss)) M)
instance:IM K (oy K) Gw where
 imp:=by rintro x v ys us M H q Q m r1 r2 ⟨ji,b,ss,rfl,rfl,hb,hl,hg,h⟩ k;cases r1.eq;let⟨u,rfl,r⟩:=r2.one;cases r.eq;let⟨vs,hv,rr⟩:=m b _ hb;cases rr.strs;show#[ji,b,ss,rfl,rfl,iH.of hv,hl,hg,k _ M _ H h (a5.refl H) m WR.v]
def MZ:qz:=λx y M q=>cE λi j=>fi (x=ws i) (y=ws j) (i.length+j.length<=sizeLine) (q (ws (i++j)) M)
instance:IR K ND MZ where
 imp:=by rintro x y v u M H q Q m r1 r2 ⟨i,j,rfl,rfl,hz,h⟩ k;cases r1.eq;cases r2.eq;show#[i,j,rfl,rfl,hz,k _ M _ H h (a5.refl H) m WR.v]
def V1 {i j:Str}{M:Mp}{q:WK}:MZ (.v (.str i)) (.v (.str j)) M q=eo (i.length+j.length<=sizeLine) (q (ws (i++j)) M):=by apply propext;symm;rintro⟨_,_,h1,h2,h3,k⟩;cases h1;cases h2;show#[h3,k];rintro⟨h3,k⟩;show#[_,_,rfl,rfl,h3,k]
def ML:A6:=λxs M q=> ∃i:Int,cS (xs= [wi i]) (i.natAbs.log2<1920) (q (ws (toString i)) M)
instance:IC K Nx ML where
 imp:=by rintro xs v M H q Q m r1 ⟨i,rfl,hz,h⟩ k;let⟨v,rfl,r⟩:=r1.one;cases r.eq;show#[i,rfl,hz,k _ M _ H h (a5.refl H) m WR.v]
def VN {i:Int}{M:Mp}{q:WK}:ML [.v (.int i)] M q=eo (i.natAbs.log2<1920) (q (ws (toString i)) M):=by apply propext;symm;rintro⟨_,h1,h3,k⟩;cases h1;show#[h3,k];rintro⟨h3,k⟩;show#[_,rfl,h3,k]
def xq (x:W)(k:Str ->Prop):Prop:= ∃y,x=ws y /\ k y
def X9 {y:Str}{k:Str ->Prop}:xq (.v (.str y)) k=k y:=by apply propext;symm;rintro⟨_,h,k⟩;cases h;show k;intro h;show#[_,rfl,h]
def XQ {r:WM}{a:WE}{b:WA}{ρ:dm}{M:Mp}{q:WK}:OC r a b ρ M q=a ρ M λx M1=>xq x λy=>b ρ M1 λxs M2=>r (ws y) xs M2 q:=by unfold OC xq;congr 1;funext x M1;apply propext;symm;rintro⟨y,rfl,h⟩;show#[y,rfl,h];rintro⟨y,rfl,h⟩;show#[y,rfl,h]
def XJ {a:WE}{ρ:dm}{M:Mp}{q:WK}:Oz a ρ M q=a ρ M λx M1=>Fh x λi=>eo (i.natAbs.log2<1920) (q (ws (toString i)) M1):=by unfold Oz Fh eo;congr 1;funext x M1;show propext #[λ⟨i,a,b,c⟩=>#[i,a,b,c],λ⟨i,a,b,c⟩=>#[i,a,b,c]]
def XI {a:WE}{ρ:dm}{M:Mp}{q:WK}:Oy a ρ M q=a ρ M λx M1=>xq x λy=>eo (y.length<=sizeLine) (q (ws y) M1):=by unfold Oy xq eo;congr 1;funext x M1;show propext #[λ⟨i,a,b,c⟩=>#[i,a,b,c],λ⟨i,a,b,c⟩=>#[i,a,b,c]]
theorem afu {out:Str}{ρ:dm}{M:Mp}{q:WK}:wJ0 out ρ M q=eo (out.length<=sizeLine) (q (ws out) M):=rfl
def aft {a:WE}{f:Str ->WE}{out:Str}{ρ:dm}{M:Mp}{q:WK}:XA a f out ρ M q=a ρ M λx M1=>xq x λy=>eo ((out++y).length<=sizeLine) (f (out++y) ρ M1 q):=by unfold XA xq eo;congr 1;funext x M1;show propext #[λ⟨i,a,b,c⟩=>#[i,a,b,c],λ⟨i,a,b,c⟩=>#[i,a,b,c]]
end
end WL
namespace WQ
open PySem L2 WL WP
def n6 {a b:Str}(h:a.cps.toList=b.cps.toList):a=b:=by cases a;cases b;congr 1;show Array.toList_inj.mp h
def gx (a b:Str):(a++b).cps.toList=a.cps.toList++b.cps.toList:=by change(a.cps++b.cps).toList=_;simp
def str_len (a:Str):a.length=a.cps.toList.length:=by change a.cps.size=_;simp
def bB (a b:Str):(a++b).length=a.length+b.length:=by rw[str_len,gx,aJ, <- str_len, <- str_len]
def jD (ji:Str): ∀ (x:Str) (ss:c_ Str),(Builtin.Str.glued ji (x::ss)).cps.toList=x.cps.toList++(ss.map λy=>ji.cps.toList++y.cps.toList).flatten:=by
 intro x ss;unfold Builtin.Str.glued;change(ss.foldl (λfR p=>fR++ji.cps++p.cps) x.cps).toList=_;generalize x.cps=a;induction ss generalizing a with
 | nil=>simp
 | cons y ss ih=>rw[List.foldl_cons,ih,aH,List.flatten_cons];simp
theorem wD (ji:Str):Builtin.Str.glued ji []=Str.empty:=rfl
theorem fZ (ji:Str){c:Nat}: ∀ (ss:c_ Str),(∀x∈ss,x.length<=c) ->(Builtin.Str.glued ji ss).length<=ss.length*(c+ji.length)
 | [],_=>by rw[wD];show dh _
 | x :: ss,h=>by
  rw[str_len,jD,aJ, <- str_len];have h1:=h x (by simp);have h2:((ss.map λy=>ji.cps.toList++y.cps.toList).flatten).length<=ss.length*(c+ji.length):=by
   have: ∀l:c_ Str,(∀y∈l,y.length<=c) ->((l.map λy=>ji.cps.toList++y.cps.toList).flatten).length<=l.length*(c+ji.length):=by
    intro l hl;induction l with
    | nil=>simp
    | cons y l ih=>rw[aH,List.flatten_cons,aJ,aJ, <- str_len, <- str_len,az,Nat.succ_mul];have:=hl y (by simp);have:=ih λz hz=>hl z (by simp[hz]);lia
   show this ss λy hy=>h y (by simp[hy])
  rw[az,Nat.succ_mul];lia
def Sn (ji:Str){c:Nat}(ss:c_ Str)(h: ∀x∈ss,x.length<=c)(hz:ss.length*(c+ji.length) <=sizeLine):Builtin.Str.tooLong (ss.toArray.foldl (· + ·.length+ji.length) 0)=false:=by
 have: ∀ (l:c_ Str) (n:Nat),(∀y∈l,y.length<=c) ->l.foldl (λ(a:Nat) (y:Str)=>a+y.length+ji.length) n<=n+l.length*(c+ji.length):=by
  intro l;induction l with
  | nil=>intro n _;simp
  | cons y l ih=>intro n hl;rw[List.foldl_cons,az,Nat.succ_mul];have h1:=hl y (by simp);have h2:=ih (n+y.length+ji.length) λz hz=>hl z (by simp[hz]);lia
 have h1:=this ss 0 h;unfold Builtin.Str.tooLong;rw[decide_eq_false_iff_not,List.foldl_toArray];lia
theorem qc {M:Mp}{q:WK}{ji:Str}{b:iW}{ss:c_ Str}{c:Nat}(hb:M b=some (.lst (ss.map ws)))(h: ∀x∈ss,x.length<=c)(hz:ss.length*(c+ji.length) <=sizeLine)(k:q (ws (Builtin.Str.glued ji ss)) M):Gw (ws ji) [wr b] M q:=#[ji,b,ss,rfl,rfl,hb,Sn ji ss h hz,ar (fZ ji ss h) hz,k]
def G0 (s:String):(Str.ofString s).length=s.toList.length:=by rw[Str.ofString_eq_toList];change((s.toList.map Char.toNat).toArray).size=_;simp
def fk {i:Int}(h:i.natAbs<10 ^ 60):(Str.ofString (toString i)).length<=61:=by
 rw[G0];have hd: ∀n:Nat,n<10 ^ 60 ->(Nat.repr n).toList.length<=60:=λn hn=>by rw[Nat.repr_eq_ofList_toDigits,String.toList_ofList];show(Nat.length_toDigits_le_iff ⋯ ⋯).mpr hn
 cases i with
 | ofNat n=>change(Nat.repr n).toList.length<=61;have:=hd n h;lia
 | negSucc n=>
  change("-" ++Nat.repr (n+1)).toList.length<=61;rw[String.toList_append,aJ];have:=hd (n+1) h;have e:("-" :String).toList.length=1:=⋯
  lia
def fX {i:Int}(h:i.natAbs<10 ^ 60):i.natAbs.log2<1920:=by by_cases h0:i.natAbs=0;rw[h0];decide;rw[Nat.log2_lt h0];show bF h (by decide+kernel)
def fK (z:Int×Int):Str:=(toString z.1:Str)++ "=" ++toString z.2
def jN (a:Rd):Str:=(toString a.1:Str)++ ":" ++Builtin.Str.glued (Str.ofString "") (a.2.map λz=> " " ++fK z)
def y_ (a:Rd):jN a=Builtin.Str.glued " " (((toString a.1:Str)++ ":")::a.2.map fK):=by
 exact n6 ?_;rw[jD,jN,gx];congr 1;cases a.2 with
 | nil=>rfl
 | cons z l=>
  rw[aH,jD,aH,aH,List.flatten_cons,gx,aU,aU];congr 2;apply dF;intro y _;change(Str.ofString "").cps.toList++(Str.ofString " " ++fK y).cps.toList=(Str.ofString " ").cps.toList++(fK y).cps.toList;rw[gx];have:(Str.ofString "").cps.toList= []:=by decide+kernel
  rw[this];rfl
def QP (a:Rd):Prop:=a.1.natAbs<10 ^ 60 /\ ∀z∈a.2,z.1.natAbs<10 ^ 60 /\ z.2.natAbs<10 ^ 60
def uk {z:Int×Int}(h:z.1.natAbs<10 ^ 60 /\ z.2.natAbs<10 ^ 60):(fK z).length<=123:=by
 unfold fK;rw[bB,bB];have h1:=fk h.1;have h2:=fk h.2;have e:(Str.ofString "=").length=1:=by decide+kernel
 lia
def Hv:fG:=λxs M q=> ∃ (a:Rd),fi (xs= [gq a]) (a.2.length<=1000) (QP a) (q (ws (jN a)) M)
theorem Eb (x:Str):Str.empty++x=x:=n6 (by rw[gx];rfl)
theorem bf {n:Nat}(h:n<=5000):n<=sizeLine:=ar h (by rw[c9];decide)
theorem qy (a b c:Str):a++b++c=a++(b++c):=n6 (by rw[gx,gx,gx,gx,bV])
end WQ
namespace WL
open PySem L2
def Jp {α:Type}{l:c_ α}{fW:α ->W}(eW:α ->W){keep:Mp ->Prop}{M1:Mp}{own:Nat}{fr:c_ Nat}{ρ:dm}{g:WG}{c:WT}{el:WE}{q:WK}(hz:l.length<=sizeLine)(lD: ∀M,Sm M1 M ->keep M) (hs: ∀a∈l, ∀ (M:Mp) (N:gC W ->Mp ->Prop),Sm M1 M ->(∀M',Sm M M' ->N (some (eW a)) M') ->g (fW a) (nQ own fr ρ) M λρ2 M2=>c ρ2 M2 λb M3=>ja b (el ρ2 M3 λy M4=>N (some y) M4) (N none M3)) (hq: ∀p M',M1 p=none ->Sm M1 M' ->M' p=some (.lst (l.map eW)) ->q (wr p) M'):wY (l.map fW) keep own fr g c el ρ M1 q:=by
 exact#[by rw[af];show hz,λp hp=>#[λi ys M=>M p=some (.lst ys) /\ Sm M1 M /\ ys=(l.take i).map eW,#[ao,bj hp,by simp],?_,?_,?_]];rintro i ys M hi ⟨h1,h2,rfl⟩;exact#[lD _ h2,h1,?_];rw[af,bU];lia;rintro i x ys M hx ⟨h1,h2,rfl⟩;let⟨a,ha,rfl⟩:=p8 hx;have e:l.take (i+1)=l.take i++ [a]:=by rw[cG,ha];rfl
 exact hs a (aT ha) _ (λo M4=>match o with
 | some y=>M4 p=some (.lst ((l.take i).map eW)) /\ um M4 p (.lst ((l.take i).map eW++ [y])) p=some (.lst ((l.take i).map eW++ [y])) /\ Sm M1 (um M4 p (.lst ((l.take i).map eW++ [y]))) /\ (l.take i).map eW++ [y]=(l.take (i+1)).map eW
 | none=>M4 p=some (.lst ((l.take i).map eW)) /\ Sm M1 M4 /\ (l.take i).map eW=(l.take (i+1)).map eW) h2 λM' s'=>#[s' _ _ h1,ao,λc o ec=>by rw[aQ (cg ec hp)];show s' _ _ (h2 _ _ ec),by rw[e,a6];rfl]
 rintro ys M ⟨h1,h2,rfl⟩;rw[af,cQ] at h1;show hq p M hp h2 h1
end WL
namespace WQ
open PySem L2 WL WP
def cs (n r:Int)(l:Pt):Int:=((l.filter λz=>decide (z.1 % n=r)).map (·.2)).sum
end WQ
namespace L2
open PySem PySem.Spec PyProof.Rows
section
variable {X:Cx}{tg l:Expr}{tl:TE}{K:Uc}
def fT (hK:X.K=K)(hl:PE X l tl):PI X tg l (Ip K tl):=by subst hK;show sR hl
def jR (hK:X.K=K)(hl:PE X l tl):PI X tg l (P_ K tl):=by subst hK;show pT hl
def Db (hK:X.K=K)(hl:PE X l tl):PI X tg l (Qa K tl):=by subst hK;show O5 hl
end
end L2
namespace WL
open PySem L2
def fL {X:Cx}{K:Uc}(hK:X.K=K):fq X (.builtin "len") (O1 K):=by subst hK;show FD
end WL
namespace WQ
open PySem L2 WL WP
abbrev Cf:=Nat ->Int
def W4:Nat ->Cf ->Cf ->Int
 | 0,f,g=>f 0*g 0
 | n+1,f,g=>f 0*g (n+1)+W4 n (λi=>f (i+1)) g
def co (l:c_ Int):Cf:=λi=>l.getD i 0
def Mult (p:Int)(a g:Cf):Prop:=cE λ(E:Cf) (N:Nat)=>(∀i,N<=i ->E i % p=0) /\ ∀n,a n % p=W4 n E g % p
def xh (p:Int)(a g h:Cf):Prop:=eE λ(A B:Cf) (N:Nat)=>(∀i,N<=i ->A i % p=0 /\ B i % p=0) /\ ∀n,a n % p=(W4 n A g+W4 n B h) % p
def FV (p:Int)(a:Rd)(v:Int):Prop:=cE λlo hi=>cS (Vp (Nn a) lo) (Vq (Nn a) hi) (v=fwv p a lo hi)
open Classical in
noncomputable def fv (p:Int) (a:Rd):Int:=if h: ∃v,FV p a v then h.choose else 0
def names:c_ Str:= ["on","back","up","down"]
def V' (p:Int)(s:Str):Rd:=if s= "on" then(1,[]) else if s= "back" then(-1,[]) else if s= "up" then(0,[(0,1)]) else(0,[(0,p - 1)])
end WQ
namespace L2
open PySem
def tX {X:Cx}{K:Uc}(hK:X.K=K):iK X (compareOp .In) (S_ K false):=by subst hK;show EW
def eT {X:Cx}{K:Uc}(hK:X.K=K):fq X (.builtin "isinstance") (O2 K):=by subst hK;show Ju
end L2
namespace WQ
open PySem L2 WL WP
def pairsOf (p:Int)(z:Int×Int):Pt:=if z.2<=p - z.2 then List.replicate z.2.toNat (z.1,1) else List.replicate (p - z.2).toNat (z.1, -1)
def Xf:Int ->Pt ->Int
 | _,[]=>0
 | here,z::r=>Vi (here - z.1)+Xf z.1 r
end WQ
namespace L2
open PySem PySem.Spec PyProof.Rows
def Inv.freeze {X:Cx}{ah:c_ (iW×Obj)}{σ:St}{H:Hp}{s:gw}{d:iW}{v:HO}{o:Obj}(I:Inv X ah σ H s)(e:H d=some v)(ho:s.heap.get? d=some o)(n1: ∀xs,HO.tup xs≠v:=by intro _ q;cases q)(n2: ∀a b,HO.kT a b≠v:=by intro _ _ q;cases q)(n3: ∀a,HO.own a≠v:=by intro _ q;cases q)(n4: ∀a,HO.KI a≠v:=by intro _ q;cases q): Inv X ah σ (cM H d (.kT o v)) s:=by
 have ne: ∀ {b u},H b=some u ->u≠v ->b≠d:=λ{b u} h n z=>by subst z;rw[e] at h;show n (bq h).symm
 have Ls: ∀ {b},H b=none ->b≠d:=λ{b} h z=>by subst z;rw[e] at h;cases h
 exact#[I.ok,I.os,I.bare,#[I.base.keep,I.base.slot,λb u h1 h2 h3=> ?_,I.base.there,λb xs h=> ?_,λb o' u h=> ?_,λb ps h=> ?_],I.loc,I.cell,?_,λx c h=> ?_,λp hp=> ?_,λb u h=> ?_,I.len];have z:=I.base.free b u h1 h2 h3;rw[bR (Ls z)];show z;have z:=I.base.nX b xs h;rw[bR (ne z (n1 _))];show z;have z:=I.base.mL b o' u h;rw[bR (ne z (n2 _ _))];show z;let⟨more,z⟩:=I.base.pL b ps h;show#[more,by rw[bR (ne z (n4 _))];show z];rw[bR (Ls I.free)];show I.free;rw[bR (Ls (I.gF x c h))];show I.gF x c h;let⟨a1,a2,a3⟩:=I.pin p hp;show#[a1,by rw[bR (Ls a2)];show a2,a3];have ow: ∀c,H c=some (.own b) ->cM H d (.kT o v) c=some (.own b):=λc r=>by rw[bR (ne r (n3 _))];show r
 have tu: ∀c xs,H c=some (.tup xs) ->cM H d (.kT o v) c=some (.tup xs):=λc xs r=>by rw[bR (ne r (n1 _))];show r
 by_cases hb:b=d;subst hb;rw[bZ] at h;cases h;show#[ho,(I.c6 b _ e).tJ (λ_ _ _ h=>h) ow tu];rw[bR hb] at h;show(I.c6 b u h).tJ (λ_ _ _ h=>h) ow tu
def Xa (d:iW)(o:Obj)(kvs:c_ (cz×V)):It:=#[λi H=>i<kvs.length /\ H d=some (.kT o (.dK kvs)),λi H x H'=>H'=H /\ ∃kv,kvs[i]? =some kv /\ x=kv.2,λi H=>kvs.length<=i /\ H d=some (.kT o (.dK kvs))]
theorem NP: ∀ {kvs:c_ (cz×V)} {vs:c_ (cz×dC)} {i:Nat} {q:cz×dC},KV kvs vs ->vs[i]? =some q -> ∃p,kvs[i]? =some p /\ RelV p.2 q.2
 | _,_,0,_, .cons ⟨_,r⟩ _,e=>by cases e;show#[_,rfl,r]
 | _,_,i+1,q, .cons _ t,e=>by have e':_=some q:=e;rw[List.getElem?_cons_succ] at e' ⊢;show NP t e'
def yi {X:Cx}{ah:c_ (iW×Obj)}{σ:St}{H:Hp}{s:gw}{d:iW}{o:Obj}{kvs:c_ (cz×V)}{es:Ub DictEntry}{ep:Nat}(I:Inv X ah σ H s)(ho:o.data= .dict es ep)(e:H d=some (.kT o (.dK kvs))): ∃vs,KV kvs vs /\ s.heap.DictAt (cR X.prog X.w) d vs ep:=by
 let⟨h0,_,_,vs,f_,o',W1,W2,h1,h2,h3,h4⟩:=(show d3 X.prog X.w H s.heap d (.kT o (.dK kvs)) from I.c6 d _ e)
 rw[h0] at h1;cases h1;rw[ho] at h3;cases h3;show#[vs,f_,o,es,h0,h2,ho,h4]
def EB {P:Y1}{w:ZW}{K:Uc}{tg:Expr}{d it:iW}{o:Obj}{kvs:c_ (cz×V)}{es:Ub DictEntry}{ep:Nat}(ho:o.data= .dict es ep): yu P w K tg (Xa d o kvs) [it] it (λi h=>h.IsValIter it d i kvs.length ep) where
 mem:=by simp
 obj:=λi h st b hb=>by have e:b=it:= ⇑hb;subst e;let⟨o,e,c,d⟩:=st;show#[o,e,λv z=>by rw[d] at z;cases z]
 keep:=λi h h' st k=>st.at λo e=>k it (by simp) o e
 item:=by
  intro X hP hw hK hc i ah s σ H E I hf st hg;subst hP hw hK;let⟨hi,hH⟩:=hg;let⟨vs,f_,hd⟩:=yi I ho hH;have hl:=f_.length;rw[hl] at st hi;let⟨f0,f1,f2,f3,f4,f5⟩:=hf it (by simp);let⟨⟨k,x⟩,hx⟩: ∃q,vs[i]? =some q:=#[vs[i],by simp[hi]]
  let⟨p,hp,rp⟩:=NP f_ hx;exact wpAny_pyNext_values_item st hd hx λh' BQ gE=> ?_;have I1:Inv X ah σ H {s with heap:=h'}:=I.turned (t':=s.toks) (λb o hb e=>(gE.2 b hb).trans e) f0 f1 f3 f4 f5;let⟨oo,e,c,dd⟩:=id BQ;rw[<- hl] at BQ;show#[x,rfl,wB (s:= {s with heap:=h'}) e c dd ⋯ #[p.2,H,I1,rp,#[rfl,p,hp,rfl],BQ,λb hb=>(hf b hb).1]]
 done:=by intro X hP hw hK hc i ah s σ H E I hf st hg;subst hP hw hK;let⟨hi,hH⟩:=hg;let⟨vs,f_,hd⟩:=yi I ho hH;have hl:=f_.length;rw[hl] at st hi;let⟨f0,f1,f2,f3,f4,f5⟩:=hf it (by simp);show wpAny_pyNext_values_end (I.ok.hd hc) st hd (by simp;omega) λh' eb=>#[rfl,I.turned (t':=s.toks) (λb o hb e=>eb b o hb e) f0 f1 f3 f4 f5]
 self:=λ_ _ _ _ _ st h=>wpAny_pyIter_valiter st h
section
variable {X:Cx}{tg o:Expr}{td:TE}{dL dn:Pos}
def NX (td:TE):TI:=λσ H R=>td σ H λx H1=>cE λd kvs=>cS (x= .ref d) (H1 d=some (.dK kvs)) (∀o,R (Xa d o kvs) (cM H1 d (.kT o (.dK kvs))))
def K3 (ho:PE X o td)(uF:attributeBase o "values" X.env (eval o X.env)=eval o X.env:=by rfl)(uE:(dL.endLine==dn.line)=true:=by rfl):PI X tg (.Call (.Attribute o "values" dL) [] [] dn) (NX td):=by
 intro ah s σ H R I h;exact wpAny_Call_method0_late uF uE (cX (ho ah s σ H _ I h) λv s1 ⟨x,H1,I1,r1,d,kvs,ex,hd,q1⟩=> ?_);subst ex;obtain rfl:v=Value.ref d:=r1;let⟨t1,t2,sys⟩:=BN I1 (.inl #[kvs, .inl hd]);exact#["dict","dict.values",PySem.F.plainAttrs_dict,PySem.F.slot_dict_values,PySem.F.type_dict_values,t1,t2,Calls.callWith_builtin rfl (PySem.evalArgs_none ?_)];let⟨z,Qe,vs,f_,dd⟩:=o_ I1.c6 (.inl hd);exact call_meetsIn PySem.F.slot_dict_values dd.typeIs PySem.F.entry_dict_values (PySem.F.args_dict_values_1 _) (meets_dict_values (cR X.prog X.w) d Qe) #[#[vs,dd],?_];let⟨ob,es,ep,g1,g2,g3,g4⟩:=dd;have da:s1.heap.DictAt (cR X.prog X.w) d vs ep:=#[ob,es,g1,g2,g3,g4]
 exact wpAny_pyIter_values (d:=d) (kvs:=vs) (ep:=ep) (knd:=cR X.prog X.w) #[_,aY _ rfl,rfl,rfl] (da.push _) ?_;have I2:=I1.freeze hd g1;exact#[_,[_],_,Xa d ob kvs,_,rfl,I2.kept (t':=s1.toks) λb o e=>av _ (av _ e),EB g3,?_,λb hb=> ?_,q1 ob];rw[f_.length];show#[_,aY _ rfl,rfl,rfl];have I3:Inv X ah σ (cM H1 d (.kT ob (.dK kvs))) {s1 with heap:=s1.heap.push {cls:= .type "dict_values",data:= .fields #[.ref d]}}:=I2.kept (t':=s1.toks) λb o e=>av _ e;have e:=bn.mp hb;subst e;show I3.BV (aq _) (I3.c6.fresh (aq _))
end
end L2
namespace WL
open PySem L2
variable {K:Uc}
def Ie (a:WE):WI:=λρ M q=>a ρ M λx M1=>cE λd kvs=>cS (x=wr d) (M1 d=some (.dK kvs)) (∀o ks,q (kvs.map (·.2)) (λM'=>M' d=some (.fz o ks kvs)) (um M1 d (.fz o ks kvs)))
theorem NQ: ∀ {H:Hp} {kvs:c_ (cz×W)} {vs:c_ (cz×V)} {i:Nat} {q:cz×V},KR K H kvs vs ->vs[i]? =some q -> ∃p,kvs[i]? =some p /\ WR K H p.2 q.2
 | _,_,_,0,_, .cons ⟨_,r⟩ _,e=>by cases e;show#[_,rfl,r]
 | _,_,_,i+1,q, .cons _ t,e=>by have e':_=some q:=e;rw[List.getElem?_cons_succ] at e' ⊢;show NQ t e'
theorem BL {H:Hp}: ∀ {kvs:c_ (cz×W)} {vs:c_ (cz×V)},KR K H kvs vs ->kvs.length=vs.length
 | _,_, .nil=>rfl
 | _,_, .cons _ t=>by rw[az,az,BL t]
def Fd {H1:Hp}{d:iW}{o:Obj}{kvs:c_ (cz×W)}{ks:c_ (cz×V)}:Cg K H1 (Xa d o ks) (kvs.map (·.2)) (λM'=>M' d=some (.fz o ks kvs)):=by intro i M H t m hM;let⟨e1,r1⟩:=m d _ hM;have hl:=BL r1;rw[af];exact#[λh=>#[by omega,e1],λh=>#[by omega,e1],λv H' hi ⟨e2,kv,hk,e3⟩=> ?_];subst e2 e3;let⟨p,hp,rp⟩:=NQ r1 hk;show#[a5.refl _,m,p.2,by rw[aI,hp];rfl,rp]
instance {t:TE}{a:WE} [ia:IE K t a]:II K (NX t) (Ie a) where
 imp:=λρ M σ H q R o h k=>ia.imp ρ M σ H _ _ o h λx M1 v H1 ⟨d,kvs,ex,hd,h1⟩ t1 m1 r1=>by subst ex;let⟨ks,e,r⟩:=m1 d _ hd;exact#[d,ks,r1.eq,e,λob=>k _ _ _ _ _ (h1 ob ks) (t1.trans (kZ e)) (m1.put (kZ e) #[bZ,KR.ts (kZ e) r]) Fd]
def Wu {a:WE}{ρ:dm}{M:Mp}{q:c_ W ->(Mp ->Prop) ->Mp ->Prop}:Ie a ρ M q=a ρ M λx M1=>fb x λd=>iQ (M1 d) λkvs=> ∀o ks,q (kvs.map (·.2)) (λM'=>M' d=some (.fz o ks kvs)) (um M1 d (.fz o ks kvs)):=by unfold Ie fb iQ;congr 1;funext x M1;apply propext;symm;(· rintro⟨p,l,h1,h2,h⟩;show#[p,h1,l,h2,h]);(· rintro⟨p,h1,l,h2,h⟩;show#[p,l,h1,h2,h])
end WL
namespace WQ
open PySem L2 WL WP
def U8 (n:Int):Pt ->Int ->Int
 | [],_=>0
 | z::r,k=>(if z.1 % n=k then z.2 else 0)+U8 n r k
def UZ {P:Y1}{w:ZW}{K:Uc}{mg:Str ->gC dC}{base:ZX}{CX:AV}{k:Nat}{f:iW}{fd:ZZ}{ps:c_ Str}{p1 p2 p3:fG}(F1:bE P w K mg base CX k f fd ps (fD K p1))(F2:bE P w K mg base CX k f fd ps (fD K p2)) (h: ∀xs M q,p3 xs M q ->p1 xs M q \/ p2 xs M q):bE P w K mg base CX k f fd ps (fD K p3):=by exact#[λvs H Q E ⟨xs,M,q,r,m,h3,k⟩=> ?_,λA outer s H args us vs Q E hr e b v ⟨xs,M,q,r,m,h3,k⟩=> ?_];obtain h4 | h4:=h xs M q h3;show F1.len vs H Q E #[xs,M,q,r,m,h4,k];show F2.len vs H Q E #[xs,M,q,r,m,h4,k];obtain h4 | h4:=h xs M q h3;show F1.run A outer s H args us vs Q E hr e b v #[xs,M,q,r,m,h4,k];show F2.run A outer s H args us vs Q E hr e b v #[xs,M,q,r,m,h4,k]
def fl (p:Int)(m:Nat)(f:Pt):c_ Int:=(List.range m).map λ(k:Nat)=>U8 m f k % p
end WQ
namespace L2
open PySem PySem.Spec PyProof.Rows
section
variable {X:Cx}{k:Nat}{f:iW}{fd:ZZ}{ps:c_ Str}{sp:Sp}{E:XK}{x:Str}{p pos:Pos}{e:Expr}{es:c_ Expr}{t:TA}{st:Stmt}
theorem hU (hP:gT (iJ X.prog X.w) X E)(C:gL X.K X.mg x ps st f fd)(F:bE X.prog X.w X.K X.mg X.base (iJ X.prog X.w) k f fd ps sp)(hr:eG k X.A)(hg:Gl X x) (ha:PA X (e::es) t) (wA:(x==("__debug__" :Str))=false:=by decide) (he:starEach (e::es) X.env=(false,eval e X.env)::starEach es X.env:=by rfl) (pG:(backTo pos (starEach es X.env)).any (·.1)=false:=by rfl): PE X (.Call (.Name x p) (e::es) [] pos) (vW sp [] E t):=De F hr hg C.at_ C.fn.kp C.bd .nil hP ha wA he pG
end
end L2
namespace WQ
open PySem L2 WL WP
def afc (s x:Int):Int:=if s=0 then x else x % s
def hI (s x:Int):Int:=if s=0 then 0 else x / s
def PP:c_ Int ->Int
 | []=>0
 | a::r=>r.foldl (λm x=>if x<m then x else m) a
def plc (l:Pt):c_ Int:=l.map (·.1)
end WQ
namespace L2
open PySem
structure RE (K:PySem.W.Frag)(mg:Str ->Option Value)(x qual:Str)(ps:List Str)(st:Stmt)(C f:Addr)(fd:FuncData):Prop where
 at_:mg x=some (.ref C)
 mkr:Mk K C f
 cl:AU K C
 fn:AI K "__init__" qual st f fd
 bd:Binds K fd ps []
section
variable {X:Cx}{k:Nat}{f C:iW}{fd:ZZ}{ps:c_ Str}{sp:Sp}{x qual:Str}{st:Stmt}{p pos:Pos}{e:Expr}{es:c_ Expr}{t:TA}
theorem jw (M:RE X.K X.mg x qual ps st C f fd)(F:bE X.prog X.w X.K X.mg X.base e9 k f fd ps sp)(hr:eG (k+1) X.A)(hg:Gl X x) (ha:PA X (e::es) t) (wA:(x==("__debug__" :Str))=false:=by decide) (he:starEach (e::es) X.env=(false,eval e X.env)::starEach es X.env:=by rfl) (pG:(backTo pos (starEach es X.env)).any (·.1)=false:=by rfl): PE X (.Call (.Name x p) (e::es) [] pos) (GQ C sp [] E0 t):=K5 M.mkr F hr hg M.at_ M.bd .nil Df ha wA he pG
end
end L2
namespace WL
open PySem L2
section
variable {K:Uc}
theorem zO {H:Hp}{f:Str}{x:W}: ∀ {fs:c_ (Str×W)} {ks:c_ (Str×V)},KR K H fs ks ->fs.lookup f=Option.some x -> ∃v,ks.lookup f=Option.some v /\ WR K H x v
 | _,_, .nil,h=>by cases h
 | (g,y)::fs,(g',v)::ks, .cons ⟨e,r⟩ t,h=>by
  cases (show g=g' from e);rw[List.lookup_cons] at h ⊢;cases hb:f==g with
  | true=>rw[hb] at h;cases h;show#[v,rfl,r]
  | false=>rw[hb] at h;show zO t h
def iT (f:Str)(v:W):c_ (Str×W) ->c_ (Str×W)
 | []=> [(f,v)]
 | (g,x)::r=>if g=f then(g,v)::r else(g,x)::iT f v r
theorem Dz {H:Hp}{f:Str}{x:W}{v:V}(rx:WR K H x v): ∀ {fs:c_ (Str×W)} {ks:c_ (Str×V)},KR K H fs ks ->KR K H (iT f x fs) (L2.jv f v ks)
 | _,_, .nil=> .cons #[rfl,rx] .nil
 | (g,y)::fs,(g',u)::ks, .cons ⟨e,r⟩ t=>by cases (show g=g' from e);unfold iT L2.jv;split;show .cons #[rfl,rx] t;show .cons #[rfl,r] (Dz rx t)
theorem DB {H:Hp}: ∀ {kvs:c_ (Str×W)} {vs:c_ (Str×V)},KR K H kvs vs ->kvs.length=vs.length
 | _,_, .nil=>rfl
 | _,_, .cons _ t=>by rw[az,az,DB t]
def OA (K:Uc)(a:WE)(f:Str):WE:=λρ M q=>a ρ M λx M1=>sD λp C dx fs v=>kQ (x=wr p) (M1 p=some (.ins C dx fs)) (AU K C) (eZ K C f) (fs.lookup f=some v) (q v M1)
instance {t:TE}{a:WE}{f:Str} [ia:IE K t a]:IE K (OP K t f) (OA K a f) where
 imp:=λρ M σ H q Q o h k=>ia.imp ρ M σ H _ _ o h λx M1 v H1 ⟨p,C,dx,fs,y,ex,hp,hc,hn,hl,h1⟩ t1 m1 r1=>by subst ex;let⟨ks,e,r⟩:=m1 p _ hp;let⟨u,hu,ru⟩:=zO r hl;show#[p,C,dx,ks,u,r1.eq,e,hc,hn,hu,k _ _ _ _ h1 t1 m1 ru]
def G9 (K:Uc)(a b:WE)(f:Str):WS:=λD ρ M=>b ρ M λy M1=>a ρ M1 λx M2=>gm λp C dx fs=>kQ (x=wr p) (M2 p=some (.ins C dx fs)) (AU K C) (eZ K C f) (fs.length<1000) (D.nx ρ (um M2 p (.ins C dx (iT f y fs))))
instance {t u:TE}{a b:WE}{f:Str} [ia:IE K t a] [ib:IE K u b]:IS K (SW K t u f) (G9 K a b f) where
 imp:=λρ M σ H D' D o h e=>ib.imp ρ M σ H _ _ o h λy M1 v1 H1 h1 t1 m1 r1=>ia.imp ρ M1 σ H1 _ _ (o.mv t1 m1) h1 λx M2 v2 H2 ⟨p,C,dx,fs,ex,hp,hc,hn,hl,h2⟩ t2 m2 r2=>by subst ex;let⟨ks,ek,r⟩:=m2 p _ hp;have ts:=OK (u:= .ins C dx (jv f v1 ks)) ek;exact#[p,C,dx,ks,r2.eq,ek,hc,hn,by rw[<- DB r];show hl,e.nx ρ _ σ _ h2 ((t1.trans t2).trans ts) (o.mv ((t1.trans t2).trans ts) (m2.put ts #[_,bZ,KR.ts ts (Dz (r1.ts t2) r)]))]
def MQ (C:iW)(p:fG)(a:WA):WE:=λρ M q=>a ρ M λxs M1=> ∀x dx,M1 x=none ->M1 dx=none ->dx≠x ->p (wr x::xs) (um M1 x (.ins C dx [])) λv M2=>v=wn /\ q (wr x) M2
instance {C:iW}{p:fG}{E:XK}{t:TA}{a:WA} [ia:IA K t a]:IE K (GQ C (fD K p) [] E t) (MQ C p a) where
 imp:=λρ M σ H q Q o h k=>ia.imp ρ M σ H _ _ o h λxs M1 vs H1 h1 t1 m1 r1=>λx dx hx Ki nK=>by
  have Qc:cM H1 dx (.own x) x=none:=by rw[bR (dy nK)];show hx
  have ts1:a5 H1 (cM H1 dx (.own x)):=L2.ge.ts (cf Ki);have Sk:a5 (cM H1 dx (.own x)) (cM (cM H1 dx (.own x)) x (.ins C dx [])):=L2.ge.ts (cf Qc);exact#[wr x::xs,um M1 x (.ins C dx []),λv M2=>v=wn /\ q (wr x) M2,cU.cons WR.v (by rw[c8];show r1.ts (ts1.trans Sk)),(m1.new Ki).put Sk #[[],bZ, .nil],h1 x dx (m1.fresh hx) (m1.fresh Ki) nK,?_];rintro y M' u H' ⟨rfl,hq⟩ ts m' r';show#[r'.eq,k _ _ _ _ hq (t1.trans ((ts1.trans Sk).trans ts)) m' WR.v]
def yc (o:gC MO)(k:iW ->iW ->c_ (Str×W) ->Prop):Prop:=eE λC dx fs=>o=some (.ins C dx fs) /\ k C dx fs
def Y0 {C dx:iW}{fs:c_ (Str×W)}{k:iW ->iW ->c_ (Str×W) ->Prop}:yc (some (.ins C dx fs)) k=k C dx fs:=by apply propext;symm;rintro⟨_,_,_,e,h⟩;cases e;show h;intro h;show#[_,_,_,rfl,h]
def XM {a:WE}{f:Str}{ρ:dm}{M:Mp}{q:WK}:OA K a f ρ M q=a ρ M λx M1=>fb x λp=>yc (M1 p) λC dx fs=>eo (AU K C) (eo (eZ K C f) (mJ (fs.lookup f) λv=>q v M1)):=by unfold OA fb yc eo mJ;congr 1;funext x M1;apply propext;symm;rintro⟨p,C,dx,fs,v,e1,e2,e3,e4,e5,h⟩;show#[p,e1,C,dx,fs,e2,e3,e4,v,e5,h];rintro⟨p,e1,C,dx,fs,e2,e3,e4,v,e5,h⟩;show#[p,C,dx,fs,v,e1,e2,e3,e4,e5,h]
def Wa {a b:WE}{f:Str}{D:f8}{ρ:dm}{M:Mp}:G9 K a b f D ρ M=b ρ M λy M1=>a ρ M1 λx M2=>fb x λp=>yc (M2 p) λC dx fs=>eo (AU K C) (eo (eZ K C f) (eo (fs.length<1000) (D.nx ρ (um M2 p (.ins C dx (iT f y fs)))))):=by unfold G9 fb yc eo;congr 1;funext y M1;congr 1;funext x M2;apply propext;symm;rintro⟨p,C,dx,fs,e1,e2,e3,e4,e5,h⟩;show#[p,e1,C,dx,fs,e2,e3,e4,e5,h];rintro⟨p,e1,C,dx,fs,e2,e3,e4,e5,h⟩;show#[p,C,dx,fs,e1,e2,e3,e4,e5,h]
theorem mm {C:iW}{p:fG}{a:WA}{ρ:dm}{M:Mp}{q:WK}:MQ C p a ρ M q=a ρ M λxs M1=> ∀x dx,M1 x=none ->M1 dx=none ->dx≠x ->uU p (wr x::xs) (um M1 x (.ins C dx [])) λv M2=>v=wn /\ q (wr x) M2:=rfl
end
end WL
namespace L2
open PySem
nonrec def eO (s:Stmt)(j:Nat):Stmt:=match s with
 | .ClassDef _ _ _ b _ _ _ _ _ _ _=>b.getD j (.Pass #[0,0,0,0])
 | _=> .Pass #[0,0,0,0]
end L2
namespace L2
open PySem PySem.Spec PyProof.Rows
def Inv.X5 {X:Cx}{ah:c_ (iW×Obj)}{σ:St}{H:Hp}{s:gw}{d:iW}{kvs:c_ (cz×V)}{o:Obj}(I:Inv X ah σ H s)(e:H d=some (.kT o (.dK kvs)))(h0: ∀o u,X.H₀ d≠some (.kT o u)): Inv X ah σ (cM H d (.dK kvs)) s:=by
 have ne: ∀ {b u},H b=some u ->u≠ .kT o (.dK kvs) ->b≠d:=λ{b u} h n z=>by subst z;rw[e] at h;show n (bq h).symm
 have Ls: ∀ {b},H b=none ->b≠d:=λ{b} h z=>by subst z;rw[e] at h;cases h
 exact#[I.ok,I.os,I.bare,#[I.base.keep,I.base.slot,λb u h1 h2 h3=> ?_,I.base.there,λb xs h=> ?_,λb o' u h=> ?_,λb ps h=> ?_],I.loc,I.cell,?_,λx c h=> ?_,λp hp=> ?_,λb u h=> ?_,I.len];have z:=I.base.free b u h1 h2 h3;rw[bR (Ls z)];show z;have z:=I.base.nX b xs h;rw[bR (ne z (λq=>nomatch q))];show z;have z:=I.base.mL b o' u h;have nb:b≠d:=λz=>h0 o' u (z▸h);rw[bR nb];show z;let⟨more,z⟩:=I.base.pL b ps h;show#[more,by rw[bR (ne z (λq=>nomatch q))];show z];rw[bR (Ls I.free)];show I.free;rw[bR (Ls (I.gF x c h))];show I.gF x c h;let⟨a1,a2,a3⟩:=I.pin p hp;show#[a1,by rw[bR (Ls a2)];show a2,a3];have ow: ∀c,H c=some (.own b) ->cM H d (.dK kvs) c=some (.own b):=λc r=>by rw[bR (ne r (λq=>nomatch q))];show r
 have tu: ∀c xs,H c=some (.tup xs) ->cM H d (.dK kvs) c=some (.tup xs):=λc xs r=>by rw[bR (ne r (λq=>nomatch q))];show r
 by_cases hb:b=d;subst hb;rw[bZ] at h;cases h;have z:=(I.c6 b _ e).tJ (H':=cM H b (.dK kvs)) (h':=s.heap) (λ_ _ _ h=>h) ow tu;show z.2;rw[bR hb] at h;show(I.c6 b u h).tJ (λ_ _ _ h=>h) ow tu
end L2
namespace WL
open PySem L2
variable {K:Uc}
theorem HX: ∀ {H:Hp} {kvs:c_ (cz×W)} {vs:c_ (cz×V)} {i:Nat} {q:cz×V},KR K H kvs vs ->vs[i]? =some q -> ∃p,cS (kvs[i]? =some p) (p.1=q.1) (WR K H p.2 q.2)
 | _,_,_,0,_, .cons ⟨e0,r⟩ _,e=>by cases e;show#[_,rfl,e0,r]
 | _,_,_,i+1,q, .cons _ t,e=>by have e':_=some q:=e;rw[List.getElem?_cons_succ] at e' ⊢;show HX t e'
theorem OL {H:Hp}{a:iW}{o:Obj}{xs:c_ (cz×V)}{u:HO}(h:H a=some (.kT o (.dK xs))):a5 H (cM H a u):=CC h (λ_ z=>nomatch z) λ_ _ z=>nomatch z
end WL
set_option maxHeartbeats 4000000
namespace WL
open PySem L2
def SY {a b:WE}{D:f8}{ρ:dm}{M:Mp}:Bn a b D ρ M=a ρ M λx M1=>b ρ M1 λy M2=>fb x λp=>kN y λk=>iQ (M2 p) λkvs=>eo ((fu kvs k).isSome=true) (D.nx ρ (um M2 p (.dK (jG kvs k)))):=by unfold Bn fb kN iQ eo;congr 1;funext x M1;congr 1;funext y M2;apply propext;symm;rintro⟨p,kvs,k,e1,e2,e3,e4,h⟩;show#[p,e1,k,e3,kvs,e2,e4,h];rintro⟨p,e1,k,e3,kvs,e2,e4,h⟩;show#[p,kvs,k,e1,e2,e3,e4,h]
end WL
namespace WQ
open PySem L2 WL WP
abbrev Vm:=Int×Int×Int
def putL (s:Int)(X8:c_ Pt)(tl:c_ Vm):Pt:=tl.flatMap λt=>(X8.getD t.1.toNat []).map λz=>(z.1+t.2.1*s,z.2*t.2.2)
def jv (s x:Int)(X8:c_ Pt)(t:Vm):Int:=fw (X8.getD t.1.toNat []) (x - t.2.1*s)*t.2.2
end WQ
namespace L2
open PySem
def Cq:Nat ->(c_ dC ->Prop) ->Prop
 | 0,p=>p []
 | n+1,p=> ∀v,Cq n λus=>p (v::us)
theorem Cq.to: ∀ {n:Nat} {p:c_ dC ->Prop},Cq n p -> ∀us,us.length=n ->p us
 | 0,_,h,[],_=>h
 | _+1,_,h,v::us,e=>Cq.to (h v) us (Nat.succ.inj e)
section
variable {K:Uc}{h:ZX}{mg:Str ->gC dC}{x:Str}{ps:c_ Str}{st:Stmt}{f C:iW}{oc:dC}{od an:gC iW}{Bv:Ub (gC dC)}{kV jf pm cdv ct:dC}
theorem bT (X:K.In h)(G:h.Ns mainGlobals mg)(a:W.nsIn K mainGlobals x=some (some (.ref f))) (l:K.lookup f=some #[oc,od, .func (W.fnOf x x (e8 st) (dM st) (aV st) .none kV jf pm an cdv ct),Bv]) (c:W.codeIn K cdv x=true) (k:W.keepIn K (.ref f)=true) (b: ∀ (kV jf pm:dC) (an:gC iW) (cdv ct:dC),Cq ps.length λus=>bindArgs (W.fnOf x x (e8 st) (dM st) (aV st) .none kV jf pm an cdv ct) #[us,[]]=pure (ps.zip us):=by(repeat intro _);rfl): gL K mg x ps st f (W.fnOf x x (e8 st) (dM st) (aV st) .none kV jf pm an cdv ct):=#[W.mg_of X G a,qq l c k,(qq (st:=st) l c k).binds λkV jf pm an cdv ct us e=>(b kV jf pm an cdv ct).to us e]
theorem Jr {q:Str}(X:K.In h)(G:h.Ns mainGlobals mg)(a:W.nsIn K mainGlobals x=some (some (.ref C)))(g:W.findIn K (.ref C) "__init__" =some (some (.ref f))) (l:K.lookup f=some #[oc,od, .func (W.fnOf "__init__" q (e8 st) (dM st) (aV st) .none kV jf pm an cdv ct),Bv]) (c:W.codeIn K cdv q=true) (k:W.keepIn K (.ref f)=true) (h1:W.makesIn K C=true) (h2:W.isFn K (.ref f)=true) (h3:W.keepIn K (.ref C)=true) (h4:W.plainGet K C Str.empty=true) (h5:W.hasDictIn K C=true) (h6:W.plainOver K C=true) (h7:W.findIn K (.ref C) "__setattr__" =some (some (.builtin "object.__setattr__"))) (b: ∀ (kV jf pm:dC) (an:gC iW) (cdv ct:dC),Cq ps.length λus=>bindArgs (W.fnOf "__init__" q (e8 st) (dM st) (aV st) .none kV jf pm an cdv ct) #[us,[]]=pure (ps.zip us):=by(repeat intro _);rfl): RE K mg x q ps st C f (W.fnOf "__init__" q (e8 st) (dM st) (aV st) .none kV jf pm an cdv ct):=#[W.mg_of X G a,#[h1,g,h2,h3],#[h4,h5,h6,h7],qq l c k,(qq (st:=st) l c k).binds λkV jf pm an cdv ct us e=>(b kV jf pm an cdv ct).to us e]
theorem uf {q:Str}{fd:ZZ}(_:RE K mg x q ps st C f fd)(a:Str)(e:W.findIn K (.ref C) a=some none):eZ K C a:=e
theorem RF {cd:ClassData}(a:W.nsIn K mainGlobals x=some (some (.ref C)))(e:W.excIn K C U9 "ValueError.__new__" =true)(k1:W.clsIn K C=some cd)(k2:W.findIn K (.ref C) "__getattribute__" =some (some (.builtin "BaseException.__getattribute__")))(k3:W.findIn K (.ref C) "__getattr__" =some none)(k4:W.findIn K (.ref C) "__class__" =some (some (.builtin "object.__class__")))(k5:W.mroIn K C (.type "object")=some true)(k6:W.mroIn K C (.type "BaseException")=some true):pB K x C:=#[a,e,(by rw[k1];rfl),k2,k3,k4,k5,k6]
def PQ {l:W.OpenLaw}{w:ZW}{fa:iW}{fd:ZZ}{p:Str}{kd:Nat}(T:gL K mg "law" [p] st f fd)(hfa:mg "law" =some (.ref fa))(hb: ∀ (kV jf pm:dC) (an:gC iW) (cdv ct v:dC),bindArgs (W.fnOf "law" "law" (e8 st) (dM st) (aV st) .none kV jf pm an cdv ct) #[[v],[]]=pure [(p,v)]) (ok: ∀base,bE l.prog w K mg base e9 kd f fd [p] (WQ.y8 K)): ∃fd:ZZ,(∀ (s:gw) (v:dC),BindsTo s fd #[[v],[]] [(p,v)]) /\ ∀base:ZX,K.In base ->base.Ns mainGlobals mg ->bE l.prog w K mg base e9 kd fa fd [p] (WQ.y8 K):=by have e:=hfa.symm.trans T.at_;cases e;let⟨oc,od,kV,jf,pm,an,cdv,ct,Bv,rfl,lk,DN⟩:=T.fn.ex;show#[_,λs v=> .of_eq (hb kV jf pm an cdv ct v),λbase _ _=>ok base]
end
end L2
namespace WQ
open PySem L2 WL WP
def lc:c_ Int ->c_ (Int ->Int) ->Int ->Int
 | v::vs,g::gs,x=>v*g x+lc vs gs x
 | _,_,_=>0
def fam (s:Int)(b:Pt):Int ->Nat ->c_ (Int ->Int)
 | _,0=> []
 | lo,n+1=>(λx=>look b (x - s*lo))::fam s b (lo+1) n
def cps (s:Int)(G:c_ (Pt×Int×Nat)):c_ (Int ->Int):=G.flatMap λg=>fam s g.1 g.2.1 g.2.2
def LZ (q js:Pt):Pt:=js.flatMap λj=>tm j.2 (mv j.1 q)
def Yi (s Z c:Int):Nat:=if s=0 then(Z - c+1).toNat else(s - c).toNat
def fW (s:Int)(a:Pt):W:=if plc a= [] then wn else wi (PP ((plc a).map (afc s)))
def mz (s Z K c:Int)(q:Nat):Nat:=Yi s Z c*(K.toNat+2)+q
end WQ
namespace L2
open PySem
def bP {X:Cx}{K:Uc}{e:Expr}{f:Str}{pos:Pos}{ta:TE}(hK:X.K=K)(he:PE X e ta)(hb:attributeBase e f X.env (eval e X.env)=eval e X.env):PE X (.Attribute e f pos) (OP K ta f):=by subst hK;show O7 he hb
end L2
namespace L2
open PySem PySem.Spec PyProof.Rows
section
variable {X:Cx}
def C4:V ->c_ V ->Hp ->VK ->Prop:=λx vs H Q=>eE λl xs y=> ∃i:Nat,kQ (x= .ref l) (vs= [.int i,y]) (H l=some (.lst xs)) (xs.length<sizeLine) (i<=xs.length) (Q .d0 (cM H l (.lst (xs.take i++y::xs.drop i))))
def wo:W7 X "list.insert" C4:=by
 intro ah s σ H x vs v us Q I rx rv h;let⟨l,xs,y,i,rfl,rfl,hH,hz,hi,q⟩:=h;cases rx;let⟨u0,u,rfl,⟨tk,rfl⟩,ru⟩:=rv.two;let⟨z,bQ,n,r,hl,e⟩:=I.BH hH;have hf:Builtin.List.listFitsIndex (i:Int)=true:=by have hs:=c9;unfold Builtin.List.listFitsIndex;rw[cB,du,du];lia
 let⟨x,hx⟩: ∃x:Int,x=(i:Int):=#[_,rfl]
 rw[<- hx] at hf ⊢;exact call_meets F.slot_list_insert #[_,e,rfl] F.entry_list_insert (F.args_list_insert_3 _ _ _) (PySem.AutoSeq1.list_insert_list_int_val_1 l bQ.toArray n x tk u (by simp[hf]) (by rw[aM];lia)) #[e,?_];exact#[.d0,_,I.Lx (its':=bQ.take i++u::bQ.drop i) hH e ?_ ((r.take i).append (.cons ru (r.drop i))) ?_,rfl,q];have hk:(if x<0 then(x+(bQ.toArray.size:Int)).toNat else min x.toNat bQ.toArray.size)=i:=by rw[ak ∅,aM];lia
 change(bQ.toArray.extract 0 (if x<0 then(x+(bQ.toArray.size:Int)).toNat else min x.toNat bQ.toArray.size)).push u++bQ.toArray.extract (if x<0 then(x+(bQ.toArray.size:Int)).toNat else min x.toNat bQ.toArray.size)=_;rw[hk];apply Array.toList_inj.mp;simp;show List.take_of_length_le (by simp);rw[aJ,az,bU,List.length_drop];lia
end
end L2
namespace WL
open PySem L2
section
variable {K:Uc}{M:Mp}{q:WK}
def Kz:WM:=λx ys M q=>eE λa l y=> ∃i:Nat,kQ (x=wr a) (ys= [wi i,y]) (M a=some (.lst l)) (l.length<sizeLine) (i<=l.length) (q wn (um M a (.lst (l.take i++y::l.drop i))))
instance:IM K C4 Kz where
 imp:=by rintro x v ys us M H q Q m r1 r2 ⟨a,l,y,i,rfl,rfl,hl,hn,hi,h⟩ k;cases r1.eq;let⟨u0,u,rfl,r0,r⟩:=r2.two;cases r0.eq;let⟨vs,hv,rr⟩:=m a _ hl;show#[a,vs,u,i,rfl,rfl,hv,by rw[rr.length];show hn,by rw[rr.length];show hi,k _ _ _ _ h (jL hv) (m.putL hv ((rr.take i).append (.cons r (rr.drop i)))) WR.v]
end
end WL
namespace L2
open PySem
structure pA (K:PySem.W.Frag)(m qual:Str)(ps:List Str)(st:Stmt)(C f:Addr)(fd:FuncData):Prop where
 Rb:JJ K C m f
 cl:AU K C
 fn:AI K m qual st f fd
 bd:Binds K fd ps []
section
variable {X:Cx}{k:Nat}{f C:iW}{fd:ZZ}{ps:c_ Str}{sp:Sp}{m qual:Str}{st:Stmt}{pos dL:Pos}{o e:Expr}{es:c_ Expr}{ta:TE}{t:TA}
theorem eB {pl:Sem Bool}(M:pA X.K m qual ps st C f fd)(F:bE X.prog X.w X.K X.mg X.base e9 k f fd ps sp)(hr:eG k X.A)(he:PE X o ta)(ha:PA X (e::es) t) (qp:starEach (e::es) X.env=(false,eval e X.env)::starEach es X.env:=by rfl) (pG:(backTo pos (starEach es X.env)).any (·.1)=false:=by rfl) (ht:eval (.Call (.Attribute o m dL) (e::es) [] pos) X.env=(do
  let ov <- eval o X.env
  standAt dL.atName
  let (f,first) <- holding [ov] (getMethod ov m pl)
  callWith pos f first (backTo pos (starEach (e::es) X.env)) (backToKw pos (keywordEach [] X.env))):=by rfl):
 PE X (.Call (.Attribute o m dL) (e::es) [] pos) (qE C m sp [] E0 ta t):=Dd he M.cl M.Rb F hr M.bd .nil Df ha qp pG ht
theorem hJ {pl:Sem Bool}(M:pA X.K m qual ps st C f fd)(F:bE X.prog X.w X.K X.mg X.base e9 k f fd ps sp)(hr:eG k X.A)(he:PE X o ta) (ht:eval (.Call (.Attribute o m dL) [] [] pos) X.env=(do
  let ov <- eval o X.env
  standAt dL.atName
  let (f,first) <- holding [ov] (getMethod ov m pl)
  callWith pos f first (backTo pos (starEach [] X.env)) (backToKw pos (keywordEach [] X.env))):=by rfl):
 PE X (.Call (.Attribute o m dL) [] [] pos) (qE C m sp [] E0 ta EE):=zq he M.cl M.Rb F hr M.bd .nil Df ht
end
section
variable {K:Uc}{h:ZX}{mg:Str ->gC dC}{x:Str}{ps:c_ Str}{st:Stmt}{f g C:iW}{oc:dC}{od an:gC iW}{Bv:Ub (gC dC)}{kV jf pm cdv ct:dC}
theorem ut {n:Int}{t:Tok}(X:K.In h)(G:h.Ns mainGlobals mg)(a:W.nsIn K mainGlobals x=some (some (.int n t))): ∃t,mg x=some (.int n t):=#[t,W.mg_of X G a]
theorem dX {m q q':Str}{ps':c_ Str}{bI:Stmt}{fd':ZZ}(c0:RE K mg x q' ps' bI C g fd')(a:W.findIn K (.ref C) m=some (some (.ref f))) (l:K.lookup f=some #[oc,od, .func (W.fnOf m q (e8 st) (dM st) (aV st) .none kV jf pm an cdv ct),Bv]) (c:W.codeIn K cdv q=true) (k:W.keepIn K (.ref f)=true) (h2:W.isFn K (.ref f)=true) (b: ∀ (kV jf pm:dC) (an:gC iW) (cdv ct:dC),Cq ps.length λus=>bindArgs (W.fnOf m q (e8 st) (dM st) (aV st) .none kV jf pm an cdv ct) #[us,[]]=pure (ps.zip us):=by(repeat intro _);rfl): pA K m q ps st C f (W.fnOf m q (e8 st) (dM st) (aV st) .none kV jf pm an cdv ct):=#[#[a,h2,k],c0.cl,qq l c k,(qq (st:=st) l c k).binds λkV jf pm an cdv ct us e=>(b kV jf pm an cdv ct).to us e]
end
end L2
namespace WL
open PySem L2
section
variable {K:Uc}
theorem uq {H:Hp}{f:Str}: ∀ {fs:c_ (Str×W)} {ks:c_ (Str×V)},KR K H fs ks ->fs.lookup f=Option.none ->ks.lookup f=Option.none
 | _,_, .nil,_=>rfl
 | (g,y)::fs,(g',v)::ks, .cons ⟨e,r⟩ t,h=>by
  cases (show g=g' from e);rw[List.lookup_cons] at h ⊢;cases hb:f==g with
  | true=>rw[hb] at h;cases h
  | false=>rw[hb] at h;show uq t h
def Gv (C:iW)(m:Str)(p:fG)(a:WE)(b:WA):WE:=λρ M q=>a ρ M λx M1=>eE λ(o dx:iW) (fs:c_ (Str×W))=>fi (x=wr o) (M1 o=some (.ins C dx fs)) (fs.lookup m=none) (b ρ M1 λxs M2=>p (x::xs) M2 q)
instance {C:iW}{m:Str}{p:fG}{E:XK}{t:TE}{u:TA}{a:WE}{b:WA} [ia:IE K t a] [ib:IA K u b]:IE K (qE C m (fD K p) [] E t u) (Gv C m p a b) where
 imp:=λρ M σ H q Q o h k=>ia.imp ρ M σ H _ _ o h λx M1 v H1 ⟨ad,dx,fs,ex,hp,hl,h1⟩ t1 m1 r1=>by subst ex;let⟨ks,e,r⟩:=m1 ad _ hp;exact#[ad,dx,ks,r1.eq,e,uq r hl,ib.imp ρ M1 σ H1 _ _ (o.mv t1 m1) h1 λxs M2 vs H2 h2 t2 m2 r2=> ?_];exact#[wr ad::xs,M2,q,cU.cons (r1.ts t2) (by rw[c8];show r2),m2,h2,?_];intro y M' u H' hq ts m' r';show k _ _ _ _ hq ((t1.trans t2).trans ts) m' r'
def VR {C:iW}{m:Str}{p:fG}{a:WE}{b:WA}{ρ:dm}{M:Mp}{q:WK}:Gv C m p a b ρ M q=a ρ M λx M1=>fb x λo=>yc (M1 o) λC' _ fs=>eo (C'=C /\ fs.lookup m=none) (b ρ M1 λxs M2=>uU p (x::xs) M2 q):=by unfold Gv fb yc eo uU;congr 1;funext x M1;apply propext;symm;rintro⟨o,dx,fs,e1,e2,e3,h⟩;show#[o,e1,C,dx,fs,e2,#[rfl,e3],h];rintro⟨o,e1,C',dx,fs,e2,⟨rfl,e3⟩,h⟩;show#[o,dx,fs,e1,e2,e3,h]
end
end WL
namespace WQ
open PySem L2 WL WP
def NF:fG:=λxs M q=>eE λ(p:Int) (a:Rd) (n:Int)=>AB (xs= [wi p,gq a,wi n]) (0<p) (p<1000) (dR p a.2) (a.2.length<=40000) (n<0) (a.1≠0 -> -100000<n /\ n<100000 /\ a.2.length*n.natAbs<=100000) (∀r:Rd,gY p a n r ->(a.1=0 ->r.2.length<=a.2.length) ->(a.1≠0 ->r.2.length<=a.2.length*n.natAbs) ->q (gq r) M)
def K8 {xs:c_ W}{M:Mp}{q:WK}:Pd xs M q ->NG xs M q \/ NF xs M q:=by rintro⟨p,a,n,rfl,p0,p1,hP,hl,hb,k⟩;by_cases hn:n<0;show .inr #[p,a,n,rfl,p0,p1,hP,hl,hn,hb,k];exact .inl #[p,a,n,rfl,p0,p1,hP,hl, ∅,λh=> ?_,k];let⟨_,h2,h3⟩:=hb h;have e:n.toNat=n.natAbs:= ∅;rw[e];show#[h2,h3]
end WQ
namespace L2
open PySem PyProof.Rows PyProof.V PySem.Calls PySem.Spec
inductive AC (X:Cx):List ExceptHandler ->List (Addr×TS) ->Prop
 | nil:AC X [] []
 | cons {x:Str} {np Qg:Pos} {b₀:Stmt} {CJ:List Stmt} {C:Addr} {ts:TS} {c7:List ExceptHandler} {al:List (Addr×TS)} (hg:Gl X x) (O:pB X.K x C) (hsu: ∀ea,yI (X.qX (.ref ea)) (b₀::CJ) ts) (r:AC X c7 al) (wA:(x==("__debug__" :Str))=false:=by decide): AC X (.ExceptHandler (some (.Name x np)) none (b₀::CJ) Qg::c7) ((C,ts)::al)
def tH (K:Uc):c_ (iW×TS) ->iW ->TS
 | [],_=>λ_ _ _=>False
 | (D,ts)::r,C=>λE σ H=> ∃b,cS (W.kitOne K (.ref C) (.ref D)=some b) (b=true ->ts E σ H) (b=false ->tH K r C E σ H)
def L4 {K:Uc}{M:Model}{h:ZX}{C D e:iW}{b:Bool}{oe:Obj}(X:K.In h)(kD:Vu K D)(nK:C≠D)(he:h.get? e=some oe)(hc:oe.cls= .ref C)(hk:W.kitOne K (.ref C) (.ref D)=some b): W.Looks M h (excMatches (.ref e) (.ref D)) b:=by
 exact W.exm_one (cls:= .ref C) X (QB he hc) ?_;have e1:(W.subIn K (.ref D) (.type "BaseException")==some true)=true:=by change(W.mroIn K D (.type "BaseException")==some true)=true;rw[kD.mb];rfl
 unfold W.exmOne;rw[am e1];unfold W.kitOne at hk;rwa [ak (λz=>nK (Value.ref.inj (beq_iff_eq.mp z)))] at hk
section
variable {X:Cx}{ah:c_ (iW×Obj)}{σ:St}{s':gw}
def rJ {E0:XK}{ev:dC}{H1:Hp}{s1:gw}{D:vi}{hs:c_ ExceptHandler}{al:c_ (iW×TS)}(qp:X.stack=X.env::X.outer)(Fn:X.env.frame=some X.env.locals) (I:Inv X ah σ H1 s1) (fl:iJ X.prog X.w X.stack H1 s1 E0 ev s') (ph:AC X hs al) (k: ∀cls d H',E0 cls d H' -> ∃C,cls= .ref C /\ ∀ea,H' ea=none ->a5 H1 (cM H' ea (.ext (gZ ea C))) ->tH X.K al C D σ (cM H' ea (.ext (gZ ea C)))): wpAny (model X.prog X.w) X.A (noteFrame ev X.env) (λ_ s₂=>wpAny (model X.prog X.w) X.A (setFlight ev none) (λ_ s₃=>wpAny (model X.prog X.w) X.A (handleBy ev X.env hs) (SP X ah D) X.xe s₃) X.xe s₂) X.xe s':=by
 let⟨ea,cls,a0,B,H2,rfl,os,bare,fl,c6,DL,un,kb,kt,hE⟩:=fl;let⟨C,rfl,kk⟩:=k _ _ _ hE;exact wpAny_looks_onW (by rw[I.ok.frames,qp]) Fn (qp▸fl) λh₄ UI up₄=> ?_;exact wpAny_landsW UI λh₅ W0 up₅=> ?_;rw[<- qp] at W0;let⟨I5,ts5⟩:=ur I os bare fl c6 DL un kb kt W0 (up₄.trans up₅) (tk:=s'.toks);let⟨ob,hob,Uv⟩:=W0.there;have key:=kk ea DL ts5;clear kk k;induction ph with
 | nil=>show key.elim
 | @cons x np Qg b₀ CJ D' ts c7 al' hg O hsu r wA ih=>
  let⟨b,hk,ht,hf⟩:=key;have O':=Dg I.ok.mod O.ns O.exc;exact wpAny_handleBy_cons (codeAny_handlers_test (Lu I5 hg O'.bound ?_ wA)) (by intro q;cases q);have good:b=true ->codeAny (model X.prog X.w) (X.A.mark (some (.ref ea))) (.handlers (.ref ea) [.ExceptHandler none none (b₀::CJ) Qg] X.env) (λr s₂=>match r with
  | .ok f=>SP X ah D f s₂
  | .error x=>cameBackBy (model X.prog X.w) X.A X.env X.xe x s₂) {s' with heap:=h₅}:=λhb=>by
   exact codeAny_handlers_suite ?_
   exact PyProof.Rows.lands_againW W0 λh₆ fl₆ up₆=> ?_
   let⟨I6,ts⟩:=ur I os bare fl c6 DL un kb kt fl₆ ((up₄.trans up₅).trans up₆) (tk:=s'.toks)
   exact bG (hsu ea ah _ σ _ D (I6.qX (.ref ea)) (ht hb)) (λf s8 h8=> ?_) λ_ _ z=>z.elim
   cases f with
   | next=>let⟨σ',H3,I8,q⟩:=h8;show#[_,_,I8.xO I.ok,q]
   | brk=>let⟨σ',H3,I8,q⟩:=h8;show#[_,_,I8.xO I.ok,q]
   | cont=>let⟨σ',H3,I8,q⟩:=h8;show#[_,_,I8.xO I.ok,q]
   | ret u=>let⟨v,σ',H3,I8,r,q⟩:=h8;show#[v,_,_,I8.xO I.ok,r,q]
  by_cases hCD:C=D';subst hCD;have hb:b=true:=by unfold W.kitOne at hk;rw[am (beq_self_eq_true _)] at hk;show(bq hk).symm
  let⟨bm,N,nm,qn,bs,hdct,sn,sub,ab,col,dd,k0,k1,k2,k3,k5,mN,hC,N8,Fk,TL⟩:=(O'.keeps I5.bk).obj;exact wpAny_excMatches_sub_self hC hob Uv (TL.hasType (by decide+kernel)) ?_;show good hb;exact(L4 (M:=model X.prog X.w) I5.m7 O.k hCD hob Uv hk).here ?_;cases b with
  | true=>show good rfl
  | false=>show ih (hf rfl)
end
section
variable {X:Cx}
def Nc (K:Uc)(sp:Sp)(iy:Nat)(ta:TA)(al:c_ (iW×TS)):TS:=λD σ H=>ta σ H λvs H1=>sp (vs++ []) H1 (λv H2=>D.nx (σ.set iy (some v)) H2) λcls _ H'=> ∃C,cls= .ref C /\ ∀ea,H' ea=none ->a5 H1 (cM H' ea (.ext (gZ ea C))) ->tH K al C D σ (cM H' ea (.ext (gZ ea C)))
def K1 {k:Nat}{f:iW}{fd:ZZ}{ps:c_ Str}{sp:Sp}{fx y:Str}{p yp dn dL pos:Pos}{e₀:Expr}{es:c_ Expr}{ta:TA}{iy:Nat}{h₀:ExceptHandler}{hs:c_ ExceptHandler}{al:c_ (iW×TS)}{st:Stmt} (qp:X.stack=X.env::X.outer) (Fn:X.env.frame=some X.env.locals) (C:gL X.K X.mg fx ps st f fd) (F:bE X.prog X.w X.K X.mg X.base (iJ X.prog X.w) k f fd ps sp) (hr:eG k X.A) (hgf:Gl X fx) (ha:PA X.J7 (e₀::es) ta) (hN:X.N.Nodup) (hiy:X.N[iy]? =some y) (hy:X.env.kindOf y=some .local) (ph:AC X (h₀::hs) al) (gE:swapsWith (.Call (.Name fx p) (e₀::es) [] dn) (some (.Name y yp)) dL.line X.env=pure false:=by rfl) (Qt:(fx==("__debug__" :Str))=false:=by decide) (he:starEach (e₀::es) X.env=(false,eval e₀ X.env)::starEach es X.env:=by rfl) (pG:(backTo dn (starEach es X.env)).any (·.1)=false:=by rfl): PS X (.Try [.Assign [.Name y yp] (.Call (.Name fx p) (e₀::es) [] dn) dL] (h₀::hs) [] [] pos) (Nc X.K sp iy ta al):=by
 intro ah s σ H D I h;exact wpAny_Try_except (wpAny_execs_cons (wpAny_Assign_Name (wpAny_Call_Name_kw (oJ I hgf C.at_ ?_ Qt)) gE));exact W.callWith_K (h₀:=X.base) I.ok.mod.NV C.fn.kp (bG (ha dn ah s σ H _ (I.pI _) h) (λus s1 ⟨vs,H1,I1,r,q⟩=>#[I1.m7,?_]) λ_ _ z=>z.elim) he pG;have I1:=I1.h_;have r2:cj (vs++ []) (us++ []):=r.append .nil;have hl:(us++ []).length=ps.length:=by rw[<- r2.length];show F.len _ _ _ _ q
 exact wpAny_call (codeAny_mono (F.run X.A X.stack s1 H1 #[us,[]] (us++ []) (vs++ []) _ _ hr I1.L' (C.bd s1 us I1.m7 hl) r2 q) λr s2 hq=> ?_);cases r with
 | error ev=>have Zi:iJ X.prog X.w X.stack H1 s1 (λcls _ H'=> ∃C,cls= .ref C /\ ∀ea,H' ea=none ->a5 H1 (cM H' ea (.ext (gZ ea C))) ->tH X.K al C D σ (cM H' ea (.ext (gZ ea C)))) ev s2:=hq;show rJ qp Fn I1 Zi ph λcls d H' z=>z
 | ok fl=>
  cases fl with
  | ret u=>let⟨v,H2,I2,r,q2⟩:=I1.after hq;show n8 I2 hN hiy (.inl hy) r (λs3 I3=>wpAny_execs_nil (wpAny_execs_nil #[_,_,I3,q2])) (.inr hy)
  | next=>show False.elim hq
  | brk=>show False.elim hq
  | cont=>show False.elim hq
def Su (K:Uc)(C:iW)(m:Str)(sp:Sp)(te:TE)(ta:TA)(al:c_ (iW×TS)):TS:=λD σ H=>te σ H λx H0=>eE λ(a dx:iW) (fs:c_ (Str×V))=>fi (x= .ref a) (H0 a=some (.ins C dx fs)) (fs.lookup m=none) (ta σ H0 λvs H1=>sp (.ref a::(vs++ [])) H1 (λv H2=>D.nx σ H2) λcls _ H'=> ∃C,cls= .ref C /\ ∀ea,H' ea=none ->a5 H1 (cM H' ea (.ext (gZ ea C))) ->tH K al C D σ (cM H' ea (.ext (gZ ea C))))
theorem Wd {k:Nat}{f C:iW}{fd:ZZ}{ps:c_ Str}{sp:Sp}{m qual:Str}{dn dL U4 pos:Pos}{o e₀:Expr}{es:c_ Expr}{te:TE}{ta:TA}{h₀:ExceptHandler}{hs:c_ ExceptHandler}{al:c_ (iW×TS)}{st:Stmt}{pl:Sem Bool} (qp:X.stack=X.env::X.outer) (Fn:X.env.frame=some X.env.locals) (M:pA X.K m qual ps st C f fd) (F:bE X.prog X.w X.K X.mg X.base (iJ X.prog X.w) k f fd ps sp) (hr:eG k X.A) (ho:PE X.J7 o te) (ha:PA X.J7 (e₀::es) ta) (ph:AC X (h₀::hs) al) (he:starEach (e₀::es) X.env=(false,eval e₀ X.env)::starEach es X.env:=by rfl) (pG:(backTo dn (starEach es X.env)).any (·.1)=false:=by rfl) (ht:eval (.Call (.Attribute o m dL) (e₀::es) [] dn) X.env=(do
   let ov <- eval o X.env
   standAt dL.atName
   let (f,first) <- holding [ov] (getMethod ov m pl)
   callWith dn f first (backTo dn (starEach (e₀::es) X.env)) (backToKw dn (keywordEach [] X.env))):=by rfl)
  (Y':swapsWith (.Call (.Attribute o m dL) (e₀::es) [] dn) none U4.line X.env=pure false:=by rfl):
  PS X (.Try [.Expr (.Call (.Attribute o m dL) (e₀::es) [] dn) U4] (h₀::hs) [] [] pos) (Su X.K C m sp te ta al):=by
 intro ah s σ H D I h
 exact wpAny_Try_except (wpAny_execs_cons (wpAny_Expr_any ?_ I.quiet Y'))
 exact W.methodCall_KW (pl:=pl) (bG (ho ah s σ H _ (I.pI _) h) (λu s1 ⟨x,H0,I0,rx,a,dx,fs,ex,ea,l,q⟩=> ?_) λ_ _ z=>z.elim) ht
 subst ex
 obtain rfl:u=Value.ref a:=rx
 have I0:=I0.h_
 exact jW I0 ea M.cl M.Rb l ?_
 exact W.callWith_K (first:= [.ref a]) (h₀:=X.base) I.ok.mod.NV M.Rb.kp (bG (ha dn ah s1 σ H0 _ (I0.pI _) q) (λus s2 ⟨vs,H1,I1,r,q⟩=>#[I1.m7,?_]) λ_ _ z=>z.elim) he pG
 have I1:=I1.h_
 have r2:cj (.ref a::(vs++ [])) (.ref a::us++ []):= .cons rfl (r.append .nil)
 have hl:(Value.ref a::us++ []).length=ps.length:=by rw[<- r2.length];show F.len _ _ _ _ q
 exact wpAny_call (codeAny_mono (F.run X.A X.stack s2 H1 #[.ref a::us,[]] (.ref a::us++ []) (.ref a::(vs++ [])) _ _ hr I1.L' (M.bd s2 (.ref a::us) I1.m7 hl) r2 q) λr s3 hq=> ?_)
 cases r with
 | error ev=>have Zi:iJ X.prog X.w X.stack H1 s2 (λcls _ H'=> ∃C,cls= .ref C /\ ∀ea,H' ea=none ->a5 H1 (cM H' ea (.ext (gZ ea C))) ->tH X.K al C D σ (cM H' ea (.ext (gZ ea C)))) ev s3:=hq;show rJ qp Fn I1 Zi ph λcls d H' z=>z
 | ok fl=>
  cases fl with
  | ret u=>let⟨v,H2,I2,r,q2⟩:=I1.after hq;show wpAny_execs_nil (wpAny_execs_nil #[_,_,I2,q2])
  | next=>show False.elim hq
  | brk=>show False.elim hq
  | cont=>show False.elim hq
end
section
variable {X:Cx}{k:Nat}{f C:iW}{fd:ZZ}{ps:c_ Str}{sp:Sp}{E:XK}{m qual:Str}{st:Stmt}{pos dL:Pos}{o e:Expr}{es:c_ Expr}{ta:TE}{t:TA}
theorem cr {pl:Sem Bool}(hP:gT (iJ X.prog X.w) X E)(M:pA X.K m qual ps st C f fd)(F:bE X.prog X.w X.K X.mg X.base (iJ X.prog X.w) k f fd ps sp)(hr:eG k X.A)(he:PE X o ta)(ha:PA X (e::es) t) (qp:starEach (e::es) X.env=(false,eval e X.env)::starEach es X.env:=by rfl) (pG:(backTo pos (starEach es X.env)).any (·.1)=false:=by rfl) (ht:eval (.Call (.Attribute o m dL) (e::es) [] pos) X.env=(do
  let ov <- eval o X.env
  standAt dL.atName
  let (f,first) <- holding [ov] (getMethod ov m pl)
  callWith pos f first (backTo pos (starEach (e::es) X.env)) (backToKw pos (keywordEach [] X.env))):=by rfl):
 PE X (.Call (.Attribute o m dL) (e::es) [] pos) (qE C m sp [] E ta t):=Dd he M.cl M.Rb F hr M.bd .nil hP ha qp pG ht
theorem wc {pl:Sem Bool}(hP:gT (iJ X.prog X.w) X E)(M:pA X.K m qual ps st C f fd)(F:bE X.prog X.w X.K X.mg X.base (iJ X.prog X.w) k f fd ps sp)(hr:eG k X.A)(he:PE X o ta) (ht:eval (.Call (.Attribute o m dL) [] [] pos) X.env=(do
  let ov <- eval o X.env
  standAt dL.atName
  let (f,first) <- holding [ov] (getMethod ov m pl)
  callWith pos f first (backTo pos (starEach [] X.env)) (backToKw pos (keywordEach [] X.env))):=by rfl):
 PE X (.Call (.Attribute o m dL) [] [] pos) (qE C m sp [] E ta EE):=zq he M.cl M.Rb F hr M.bd .nil hP ht
theorem bE.calm {P:Y1}{w:ZW}{K:Uc}{mg:Str ->gC dC}{base:ZX}{sp SR:Sp}(F:bE P w K mg base (iJ P w) k f fd ps sp)(h: ∀vs H Q E,SR vs H Q E ->sp vs H Q E0):bE P w K mg base e9 k f fd ps SR:=#[λvs H Q E z=>F.len vs H Q _ (h vs H Q E z),λA outer s H args us vs Q E hr e0 hb hv z=>codeAny_mono (F.run A outer s H args us vs Q E0 hr e0 hb hv (h vs H Q E z)) λr s' hq=>by
 cases r with
 | error ev=>let⟨_,_,_,_,_,_,_,_,_,_,_,_,_,_,q⟩:=(show iJ P w outer H s E0 ev s' from hq);show q.elim
 | ok fl=>cases fl<;>show hq]
end
end L2
namespace WL
open PySem L2
section
variable {K:Uc}
def We:gS:=λ_ _ _ _=>False
theorem HC {P:Y1}{w:ZW}{mg:Str ->gC dC}{base:ZX}{CX:AV}{k:Nat}{f:iW}{fd:ZZ}{ps:c_ Str}:bE P w K mg base CX k f fd ps (rS K We):=#[λvs H Q E ⟨_,_,_,_,_,_,h,_⟩=>h.elim,λA outer s H args us vs Q E _ _ _ _ ⟨_,_,_,_,_,_,h,_⟩=>h.elim]
def SS (p:gS):fG:=λxs M q=>p xs M q λ_ _=>False
theorem Es {P:Y1}{w:ZW}{mg:Str ->gC dC}{base:ZX}{k:Nat}{f:iW}{fd:ZZ}{ps:c_ Str}{p:gS}(F:bE P w K mg base (iJ P w) k f fd ps (rS K p)):bE P w K mg base e9 k f fd ps (fD K (SS p)):=F.calm λvs H Q E ⟨xs,M,q,r,m,h,k⟩=>#[xs,M,q,_,r,m,h,k,λ_ _ _ z=>z.elim]
def A_ (C:iW)(m:Str)(p:gS)(e:WX)(a:WE)(b:WA):WE:=λρ M q=>a ρ M λx M1=>eE λ(o dx:iW) (fs:c_ (Str×W))=>fi (x=wr o) (M1 o=some (.ins C dx fs)) (fs.lookup m=none) (b ρ M1 λxs M2=>p (x::xs) M2 q (up e))
instance {C:iW}{m:Str}{p:gS}{e:WX}{t:TE}{u:TA}{a:WE}{b:WA} [ia:IE K t a] [ib:IA K u b]:IE K (qE C m (rS K p) [] (Ex K e) t u) (A_ C m p e a b) where
 imp :=λρ M σ H q Q o h k=>ia.imp ρ M σ H _ _ o h λx M1 v H1 ⟨ad,dx,fs,ex,hp,hl,h1⟩ t1 m1 r1=>by subst ex;let⟨ks,e,r⟩:=m1 ad _ hp;exact#[ad,dx,ks,r1.eq,e,uq r hl,ib.imp ρ M1 σ H1 _ _ (o.mv t1 m1) h1 λxs M2 vs H2 h2 t2 m2 r2=> ?_];exact#[wr ad::xs,M2,q,_,cU.cons (r1.ts t2) (by rw[c8];show r2),m2,h2,?_,?_];intro y M' u H' hq ts m' r';show k _ _ _ _ hq ((t1.trans t2).trans ts) m' r';rintro C M' H' ⟨M0,s,h⟩ m;show#[C,M0,rfl,h,m.sub s]
def Et (p:gS)(xs:c_ W)(M:Mp)(q:WK)(e:WX):Prop:=p xs M q e
def RT {C:iW}{m:Str}{p:gS}{e:WX}{a:WE}{b:WA}{ρ:dm}{M:Mp}{q:WK}:A_ C m p e a b ρ M q=a ρ M λx M1=>fb x λo=>yc (M1 o) λC' _ fs=>eo (C'=C /\ fs.lookup m=none) (b ρ M1 λxs M2=>Et p (x::xs) M2 q (up e)):=by unfold A_ fb yc eo Et;congr 1;funext x M1;apply propext;symm;rintro⟨o,dx,fs,e1,e2,e3,h⟩;show#[o,e1,C,dx,fs,e2,#[rfl,e3],h];rintro⟨o,e1,C',dx,fs,e2,⟨rfl,e3⟩,h⟩;show#[o,dx,fs,e1,e2,e3,h]
theorem Sc {p:gS}{e:WX}{a:WA}{ρ:dm}{M:Mp}{q:WK}:GF p e a ρ M q=a ρ M λxs M1=>Et p xs M1 q (up e):=rfl
theorem RO {C:iW}{e:WX}{a:WA}{D:f8}{ρ:dm}{M:Mp}:Gu C e a D ρ M=a ρ M λxs M'=>eo (xs.length<=sizeLine) (up e C M'):=rfl
def qD (K:Uc):c_ (iW×WS) ->iW ->WS
 | [],_=>λ_ _ _=>False
 | (D,s)::r,C=>λE ρ M=> ∃b,cS (W.kitOne K (.ref C) (.ref D)=some b) (b=true ->s E ρ M) (b=false ->qD K r C E ρ M)
class Xc (K:PySem.W.Frag) (t:List (Addr×TS)) (w:outParam (List (Addr×WS))):Prop where
 imp: ∀ (C:Addr) (ρ:dm) (M:Mp) (σ:L2.St) (H:Hp) (D':f8) (D:vi),Ok K ρ M σ H ->qD K w C D' ρ M ->mj K H D' D ->tH K t C D σ H
instance:Xc K [] [] where
 imp:=λ_ _ _ _ _ _ _ _ h _=>h.elim
instance {D:iW}{t:TS}{s:WS}{r:c_ (iW×TS)}{r':c_ (iW×WS)} [is:IS K t s] [ir:Xc K r r']:Xc K ((D,t)::r) ((D,s)::r') where
 imp:=λC ρ M σ H D' D o ⟨b,hk,h1,h2⟩ e=>#[b,hk,λhb=>is.imp ρ M σ H D' D o (h1 hb) e,λhb=>ir.imp C ρ M σ H D' D o (h2 hb) e]
theorem Vh {D C:iW}{s:WS}{r:c_ (iW×WS)}{E:f8}{ρ:dm}{M:Mp}(hk:W.kitOne K (.ref C) (.ref D)=some true)(h:s E ρ M):qD K ((D,s)::r) C E ρ M:=#[true, .mk hk (λ_=>h) λz=>nomatch z]
theorem eh {D C:iW}{s:WS}{r:c_ (iW×WS)}{E:f8}{ρ:dm}{M:Mp}(hk:W.kitOne K (.ref C) (.ref D)=some false)(h:qD K r C E ρ M):qD K ((D,s)::r) C E ρ M:=#[false, .mk hk (λz=>nomatch z) λ_=>h]
theorem rM {C:iW}{s:WS}{r:c_ (iW×WS)}{E:f8}{ρ:dm}{M:Mp}(h:s E ρ M):qD K ((C,s)::r) C E ρ M:=Vh (by unfold W.kitOne;rw[am (beq_self_eq_true _)]) h
theorem mj.of {H H1 H2:Hp}{D':f8}{D:vi}(e:mj K H D' D)(t1:a5 H H1)(t2:a5 H1 H2):mj K H2 D' D:=(e.mv t1).mv t2
def MK (K:Uc)(p:gS)(iy:Nat)(a:WA)(al:c_ (iW×WS)):WS:=λD ρ M=>a ρ M λxs M1=>p xs M1 (λx M2=>D.nx (ρ.set iy (some x)) M2) λC M'=> ∀ea,M' ea=none ->qD K al C D ρ (um M' ea (.exc C))
instance {p:gS}{iy:Nat}{t:TA}{a:WA}{al:c_ (iW×TS)}{wl:c_ (iW×WS)} [ia:IA K t a] [il:Xc K al wl]:IS K (Nc K (rS K p) iy t al) (MK K p iy a wl) where
 imp:=λρ M σ H D' D o h QD=>ia.imp ρ M σ H _ _ o h λx M1 v H1 h1 t1 m1 r1=>#[x,M1,_,_,by rw[c8];show r1,m1,h1,λy M4 v4 H4 h4 t4 m4 r4=>QD.nx _ _ _ _ h4 (t1.trans t4) #[(o.env.ts (t1.trans t4)).set iy r4,m4],λC M' H' h2 m=>#[C,rfl,λea DL tsm=>il.imp C _ (um M' ea (.exc C)) _ _ D' D #[o.env.ts (t1.trans tsm),m.put (L2.ge.ts (cf DL)) bZ] (h2 ea (m.fresh DL)) (QD.of t1 tsm)]]
theorem VL {p:gS}{iy:Nat}{a:WA}{al:c_ (iW×WS)}{D:f8}{ρ:dm}{M:Mp}:MK K p iy a al D ρ M=a ρ M λxs M1=>Et p xs M1 (λx M2=>D.nx (ρ.set iy (some x)) M2) λC M'=> ∀ea,M' ea=none ->qD K al C D ρ (um M' ea (.exc C)):=rfl
end
end WL
namespace L2
open PySem PySem.Spec PyProof.Rows
section
variable {X:Cx}{tg:Expr}
def S3:V ->gC Int ->gC Int ->Hp ->VK ->Prop:=λx lo hi H Q=> ∃z:Str,cS (x= .str z) (z.length<=sizeLine) (Q (.str (Txt.slice z lo hi)) H)
def G3:SlR X S3:=by
 intro ah s σ H x v vl vu lo hi sl Q I rx hs pl pu h;let⟨z,rfl,hz,q⟩:=h;let⟨t,rfl⟩:=rx;exact#["str",_,F.slot_str_getitem.lookup,typeIs_str _ _ _,?_];have fin: ∀t' k,EP X ah σ Q (.str (Txt.slice z lo hi) t') {s with toks:=k}:=λt' k=>#[.str (Txt.slice z lo hi),H,I.tok _,#[_,rfl],q]
 cases pl with
 | none=>
  cases pu with
  | none=>show wpAny_getItem_str_slice (l:=none) (u:=none) (st:=none) hs rfl (post_val_or_str #[ar (Txt.slice_le z _ _) hz,fin])
  | int j tj=>show wpAny_getItem_str_slice (l:=none) (u:=some (j,tj)) (st:=none) hs rfl (post_val_or_str #[ar (Txt.slice_le z _ _) hz,fin])
 | int i ti=>
  cases pu with
  | none=>show wpAny_getItem_str_slice (l:=some (i,ti)) (u:=none) (st:=none) hs rfl (post_val_or_str #[ar (Txt.slice_le z _ _) hz,fin])
  | int j tj=>show wpAny_getItem_str_slice (l:=some (i,ti)) (u:=some (j,tj)) (st:=none) hs rfl (post_val_or_str #[ar (Txt.slice_le z _ _) hz,fin])
def ij (z:Str)(n:Nat):Str:=if n=0 then Str.empty else if n=1 \/ z.length=0 then z else⟨(List.replicate n z.cps).foldl (· ++ ·) #[]⟩
def C0 (z:Str)(n:Nat):(⟨(List.replicate n z.cps).foldl (· ++ ·) #[]⟩:Str).length=n*z.length:=by
 have: ∀ (n:Nat) (a:Ub Nat),((List.replicate n z.cps).foldl (· ++ ·) a).size=a.size+n*z.cps.size:=by
  intro n;induction n with
  | zero=>intro a;simp
  | succ n ih=>intro a;rw[List.replicate_succ,List.foldl_cons,ih,Array.size_append,Nat.succ_mul];omega
 change((List.replicate n z.cps).foldl (· ++ ·) #[]).size=n*z.cps.size;rw[this];simp
def Nz:R2:=λx y H Q=>cE λ(z:Str) (n:Nat)=>gJ (x= .str z) (y= .int n) (n<=1000) (z.length<=1000) (Q (.str (ij z n)) H)
def Lh:iK X (binaryOp .Mult) Nz:=by
 intro ah s σ H x y v u Q I rx ry h;let⟨z,n,rfl,rfl,hn,hz,q⟩:=h;let⟨t,rfl⟩:=rx;let⟨t',rfl⟩:=ry;have hs:z.length*n<=sizeLine:=ar (Nat.mul_le_mul hz hn) (by rw[c9];decide);exact PySem.P.mul_str ?_ (λ_ _=> ?_) (λ_ _=> ?_) ?_;have e1:decide ((n:Int) < -(2 ^ 63:Int))=false:=aL (by omega);have e2:decide ((n:Int)≥2 ^ 63)=false:=aL (by omega);rw[e1,e2];rfl;intro h;have h1:(2 ^ 63 - 1:Int) / 1000<=(2 ^ 63 - 1) / n:=by rw[Int.le_ediv_iff_mul_le (by omega)];have:((2 ^ 63 - 1:Int) / 1000)*n<=((2 ^ 63 - 1:Int) / 1000)*1000:=Int.mul_le_mul_of_nonneg_left (by omega) ⋯;omega
 omega;unfold Builtin.Str.tooLong;rw[decide_eq_false_iff_not];have:(n:Int).toNat=n:=rfl;rw[this];omega;unfold ij at q;by_cases h0:n=0;subst h0;rw[am rfl] at q;rw[am ⋯];show#[⋯,#[.str _,H,I.tok _,#[_,rfl],q]];rw [ak h0] at q;rw[ak (by omega)];by_cases h1:n=1 \/ z.length=0;rw[am h1] at q;rw[am (by obtain h | h:=h1 <;>simp[h])];show#[.str z,H,I,#[t,rfl],q];rw[ak h1] at q;rw[ak (by intro c;rw[Bool.or_eq_true,beq_iff_eq,beq_iff_eq] at c;show h1 (c.imp (by omega) id))];have e:(n:Int).toNat=n:=rfl;rw[e];exact#[?_,#[.str _,H,I.tok _,#[_,rfl],q]];rw[C0];rw[Nat.mul_comm];show hs
def ItS (z:Str):It:=#[λi _=>i<z.cps.size,λi H x H'=>H'=H /\ ∃c,z.cps[i]? =some c /\ x= .str ⟨#[c]⟩,λi _=>z.cps.size<=i]
def GJ {P:Y1}{w:ZW}{K:Uc}{tg:Expr}(z:Str)(t:Tok)(it:iW):yu P w K tg (ItS z) [it] it (λi h=>h.IsStrIter it "str_ascii_iterator" z t i) where
 mem:=by simp
 obj:=λi h st b hb=>by have e:b=it:= ⇑hb;subst e;let⟨o,e,c,d⟩:=st;show#[o,e,λv z=>by rw[d] at z;cases z]
 keep:=λi h h' ⟨o,ho,r⟩ k=>#[o,k it (by simp) o ho,r]
 item:=by intro X hP hw hK hc i ah s σ H E I hf st hg;subst hP hw hK;let⟨f0,f1,f2,f3,f4,f5⟩:=hf it (by simp);have hg:i<z.cps.size:=hg;exact wpAny_pyNext_ascii_item st (c:=z.cps[i]) (by simp[hg]) λh' bI sb=> ?_;have I1:Inv X ah σ H {s with heap:=h',toks:=s.toks+1}:=I.turned (t':=s.toks+1) (λb o hb e=>(sb.2 b hb).trans e) f0 f1 f3 f4 f5;let⟨o,e,c,d⟩:=id bI;show#[_,rfl,wB (s:= {s with heap:=h',toks:=s.toks+1}) e c d ⋯ #[.str ⟨#[z.cps[i]]⟩,H,I1,#[_,rfl],#[rfl,_,by simp[hg],rfl],bI,λb hb=>(hf b hb).1]]
 done:=by intro X hP hw hK hc i ah s σ H E I hf st hg;subst hP hw hK;let⟨f0,f1,f2,f3,f4,f5⟩:=hf it (by simp);have hg:z.cps.size<=i:=hg;show wpAny_pyNext_ascii_end (I.ok.hd hc) st (by simp[hg]) λh' eb=>#[rfl,I.turned (t':=s.toks) (λb o hb e=>eb b o hb e) f0 f1 f3 f4 f5]
 self:=λ_ _ _ _ _ st h=>wpAny_pyIter_striter_ascii st h
def Ug (tl:TE):TI:=λσ H R=>tl σ H λx H1=> ∃z:Str,cS (x= .str z) (z.cps.all (· <128)=true) (R (ItS z) H1)
def Hn {l:Expr}{tl:TE}(hl:PE X l tl):PI X tg l (Ug tl):=by intro ah s σ H R I h;exact cX (hl ah s σ H _ I h) λv s1 ⟨x,H1,I1,r1,q1⟩=> ?_;let⟨z,e,ha,q⟩:=q1;subst e;let⟨t,rfl⟩:=r1;exact wpAny_pyIter_ascii ha ?_;exact#[s1.heap.objs.size,[s1.heap.objs.size],_,_,H1,rfl,I1.kept (t':=s1.toks) λb o e=>av _ e,GJ z t _,#[_,aY _ rfl,rfl,rfl],λb hb=> ?_,q];have e:b=s1.heap.objs.size:= ⇑hb;subst e;show I1.BV (aq _) (I1.c6.fresh (aq _))
def NA:c_ V ->Hp ->VK ->Prop:=λxs H Q=> ∃z,cS (xs= [.str z]) (z.length<=sizeLine) (Q (.int z.length) H)
theorem qw:fq X (.builtin "len") NA:=yn
def AZ (i j:Str):Bool:= !(Builtin.Str.occurrences j i 0 j.length 1).isEmpty
def S9:R2:=λx y H Q=>cE λi j=>cS (x= .str i) (y= .str j) (Q (.bl (AZ i j)) H)
def C2:R2:=λx y H Q=>cE λi j=>cS (x= .str i) (y= .str j) (Q (.bl (!AZ i j)) H)
theorem Pr:iK X (compareOp .In) S9:=EV
theorem EU:iK X (compareOp .NotIn) C2:=xQ
end
end L2
namespace WL
open PySem L2
section
variable {K:Uc}
def RV:qz:=λx y M q=>eE λz i c=>gJ (x=ws z) (y=wi i) (z.length<=sizeLine) (iF z.cps.toList i=some c) (q (ws ⟨#[c]⟩) M)
instance:IR K S6 RV where
 imp:=by rintro x y v u M H q Q m r1 r2 ⟨z,i,c,rfl,rfl,hz,e,h⟩ k;cases r1.eq;cases r2.eq;show#[z,i,c,rfl,rfl,hz,e,k _ M _ H h (a5.refl H) m WR.v]
def XC {z:Str}{i:Int}{M:Mp}{q:WK}:RV (.v (.str z)) (.v (.int i)) M q=eo (z.length<=sizeLine) (mJ (iF z.cps.toList i) λc=>q (ws ⟨#[c]⟩) M):=by apply propext;symm;rintro⟨_,_,c,h1,h2,h3,h4,k⟩;cases h1;cases h2;show#[h3,c,h4,k];rintro⟨h3,c,h4,k⟩;show#[_,_,c,rfl,rfl,h3,h4,k]
def RM:Vj:=λx lo hi M q=> ∃z:Str,cS (x=ws z) (z.length<=sizeLine) (q (ws (Txt.slice z lo hi)) M)
instance:ISl K S3 RM where
 imp:=by rintro x v lo hi M H q Q m r1 ⟨z,rfl,hz,h⟩ k;cases r1.eq;show#[z,rfl,hz,k _ M _ H h (a5.refl H) m WR.v]
def Xs {z:Str}{lo hi:gC Int}{M:Mp}{q:WK}:RM (.v (.str z)) lo hi M q=eo (z.length<=sizeLine) (q (ws (Txt.slice z lo hi)) M):=by apply propext;symm;rintro⟨_,h1,h3,k⟩;cases h1;show#[h3,k];rintro⟨h3,k⟩;show#[_,rfl,h3,k]
def RN:qz:=λx y M q=>cE λ(z:Str) (n:Nat)=>gJ (x=ws z) (y=wi n) (n<=1000) (z.length<=1000) (q (ws (ij z n)) M)
instance:IR K Nz RN where
 imp:=by rintro x y v u M H q Q m r1 r2 ⟨z,n,rfl,rfl,hn,hz,h⟩ k;cases r1.eq;cases r2.eq;show#[z,n,rfl,rfl,hn,hz,k _ M _ H h (a5.refl H) m WR.v]
def RY:qz:=λx y M q=>cE λi j=>cS (x=ws i) (y=ws j) (q (wb (AZ i j)) M)
def Cw:qz:=λx y M q=>cE λi j=>cS (x=ws i) (y=ws j) (q (wb (!AZ i j)) M)
instance:IR K S9 RY where
 imp:=by rintro x y v u M H q Q m r1 r2 ⟨i,j,rfl,rfl,h⟩ k;cases r1.eq;cases r2.eq;show#[i,j,rfl,rfl,k _ M _ H h (a5.refl H) m WR.v]
instance:IR K C2 Cw where
 imp:=by rintro x y v u M H q Q m r1 r2 ⟨i,j,rfl,rfl,h⟩ k;cases r1.eq;cases r2.eq;show#[i,j,rfl,rfl,k _ M _ H h (a5.refl H) m WR.v]
def XG {i j:Str}{M:Mp}{q:WK}:RY (.v (.str i)) (.v (.str j)) M q=q (wb (AZ i j)) M:=by apply propext;symm;rintro⟨_,_,h1,h2,k⟩;cases h1;cases h2;show k;intro k;show#[_,_,rfl,rfl,k]
def QY {i j:Str}{M:Mp}{q:WK}:Cw (.v (.str i)) (.v (.str j)) M q=q (wb (!AZ i j)) M:=by apply propext;symm;rintro⟨_,_,h1,h2,k⟩;cases h1;cases h2;show k;intro k;show#[_,_,rfl,rfl,k]
def MS:A6:=λxs M q=> ∃z,cS (xs= [ws z]) (z.length<=sizeLine) (q (wi z.length) M)
instance:IC K NA MS where
 imp:=by rintro xs v M H q Q m r1 ⟨z,rfl,hz,h⟩ k;let⟨v,rfl,r⟩:=r1.one;cases r.eq;show#[z,rfl,hz,k _ M _ H h (a5.refl H) m WR.v]
def VS {z:Str}{M:Mp}{q:WK}:MS [.v (.str z)] M q=eo (z.length<=sizeLine) (q (wi z.length) M):=by apply propext;symm;rintro⟨_,h1,h3,k⟩;cases h1;show#[h3,k];rintro⟨h3,k⟩;show#[_,rfl,h3,k]
def AX (z:Str):c_ Str:=z.cps.toList.map λc=>⟨#[c]⟩
def PZ (a:WE):WI:=λρ M q=>a ρ M λx M1=> ∃z:Str,cS (x=ws z) (z.cps.all (· <128)=true) (q ((AX z).map ws) (λ_=>True) M1)
def Il {H1:Hp}{z:Str}:Cg K H1 (ItS z) ((AX z).map ws) (λ_=>True):=by
 intro i M H ts m _;have hl:((AX z).map ws).length=z.cps.size:=by unfold AX;simp
 exact#[λh=>by change z.cps.size<=i;omega,λh=>by change i<z.cps.size;omega,λv H' hi y=> ?_];let⟨rfl,c,hc,rfl⟩:=y;exact#[a5.refl _,m,ws ⟨#[c]⟩,?_,WR.v];unfold AX;rw[aU,aI,Array.getElem?_toList,hc];rfl
instance {t:TE}{a:WE} [ia:IE K t a]:II K (Ug t) (PZ a) where
 imp:=λρ M σ H q R o h k=>ia.imp ρ M σ H _ _ o h λx M1 v H1 ⟨z,e,ha,h1⟩ t1 m1 r1=>by subst e;show#[z,r1.eq,ha,k _ _ _ M1 H1 h1 t1 m1 Il]
def YU {a:WE}{ρ:dm}{M:Mp}{q:c_ W ->(Mp ->Prop) ->Mp ->Prop}:PZ a ρ M q=a ρ M λx M1=>xq x λz=>eo (z.cps.all (· <128)=true) (q ((AX z).map ws) (λ_=>True) M1):=by unfold PZ xq eo;congr 1;funext x M1;show propext #[λ⟨i,a,b,c⟩=>#[i,a,b,c],λ⟨i,a,b,c⟩=>#[i,a,b,c]]
end
end WL
namespace TS
open PySem PyProof.Rows
def ui (x y:lz):Bool:=decide ((strOf x.1).cps.toList< (strOf y.1).cps.toList)
def Yp:Ord ui:=by exact#[λx y h=> ?_,λx y z h1 h2=> ?_];unfold ui at*;rw[du] at h;show aL λh'=>List.lt_irrefl _ (List.lt_trans h h');unfold LE ui at*;rw[decide_eq_false_iff_not] at*;show λh=>(List.le_trans (List.not_lt.mp h1) (List.not_lt.mp h2)) h
section
variable {prog:Y1}{w:ZW}{A:Z0}{E:dC ->gw ->Prop}{s:gw}
def ltS {vs:c_ dC}(h0: ∀v,v∈vs -> ∃x t,v= .str x t):iI prog w A E s oneType' (pairsOf vs) ui:=by
 intro x y st Q hx hy hk hq;have hm: ∀p:lz,p∈(pairsOf vs).toList -> ∃a t,p.1= .str a t:=λp hp=>by rw[pairsOf_toList] at hp;show h0 _ (mem_zip_self hp).2
 let⟨n,t,e1⟩:=hm x hx;let⟨m,u,e2⟩:=hm y hy;rw[lt'_eq];exact aw (wpS_get ?_);rw[hk,keyLt'_oneType,e1,e2];exact aw (wpS_lift (wpAny_attempt (oneLt_str #[rfl,?_])));have e:ui x y=decide (n.cps.toList<m.cps.toList):=by unfold ui;rw[e1,e2];rfl
 rw[e] at hq;show aD hq
def EI {a:iW}{vs:c_ dC}{ss:c_ Str}{n:Nat}{P:Fin ->gw ->Prop}(ho:s.heap.get? a=some (seqObj "list" vs.toArray n)) (hI:StrsAre vs ss) (hsz:vs.length<=sizeLine) (h: ∀ (out:Ub dC) (X_:c_ Str),StrsAre out.toList X_ ->X_.Perm ss ->X_.Pairwise (λx y=>¬y.cps.toList<x.cps.toList) ->P (.done (.ret .none)) {s with heap:=sortedHeap s.heap a vs out}): wpAny (model prog w) A (Builtin.«list.sort» #[[.ref a],[]]) P E s:=by
 exact y9 Yp ho hsz (kd:=oneType') (λh2 Q hq=> ?_) (ltS hI.all) λus hp hs=> ?_;let⟨v₁,v₂,c7,rfl⟩:eE λv₁ v₂ c7=>vs=v₁::v₂::c7:=by
  match vs,h2 with
  | [],h2=>simp at h2
  | [_],h2=>simp at h2
  | v₁::v₂::c7,_=>show#[v₁,v₂,c7,rfl]
 rw[keyKind_strs hI];show a7 hq;have vE: ∀v,v∈us -> ∃x t,v= .str x t:=λv hv=>hI.all v (hp.mem_iff.mp hv);exact h us.toArray (us.map strOf) ⇑(strsAre_map us vE) ?_ ?_;have:=hp.map strOf;rwa [hI.strs] at this;rw[List.pairwise_map];exact hs.imp λ{x y} e=> ?_;unfold ui at e;rw[decide_eq_false_iff_not] at e;show e
end
end TS
namespace L2
open PySem PySem.Spec PyProof.Rows
theorem CK: ∀ {ks:c_ Str} {vs:c_ dC},vs.length=ks.length ->(∀ (j:Nat) (v:dC),vs[j]? =some v ->cE λ(k:Str) (t:Tok)=>ks[j]? =some k /\ v= .str k t) ->StrsAre vs ks
 | [],[],_,_=> .nil
 | [],_::_,h,_=>by simp at h
 | _::_,[],h,_=>by simp at h
 | k::ks,v::vs,h,hv=>by let⟨k',t,e1,e2⟩:=hv 0 v rfl;simp at e1;subst e1 e2;show .cons k t (CK ⇑h λj u e=> ⇑(hv (j+1) u ⇑e))
theorem nW: ∀ {ks:c_ Str} {vs:c_ dC},StrsAre vs ks ->cj (ks.map V.str) vs
 | _,_, .nil=> .nil
 | _,_, .cons x t r=> .cons #[t,rfl] (nW r)
section
variable {X:Cx}{tg o e:Expr}{td ty:TE}{dL dn:Pos}
def zn:c_ V ->Hp ->VK ->Prop:=λxs H Q=>eE λ(d:iW) (kvs:c_ (cz×V)) (ks:c_ Str)=>gJ (xs= [.ref d]) (H d=some (.dK kvs)) (kvs.map (·.1)=ks.map Sum.inr) (ks.length<=sizeLine) (∀ (p:iW) (ns:c_ Str),H p=none ->ns.Perm ks ->ns.Pairwise (λx y=>¬y.cps.toList<x.cps.toList) ->Q (.ref p) (cM H p (.lst (ns.map V.str))))
def fo (hc:X.calm=true):fq X (.builtin "sorted") zn:=by
 intro ah s σ H xs us Q I r h;let⟨d,kvs,ks,rfl,hd,hk,LU,q⟩:=h;let⟨u,rfl,ru⟩:=vals1 r;cases ru;have hh:X.A.in1.handled=none:=I.ok.hd hc;let⟨hz,lo,vs,f_,dd⟩:=wO I.c6 hd;let⟨ep,ZL⟩:=dd.dictAt;have d4:vs.length=ks.length:=by have e1:=congrArg List.length hk;rw[af,af] at e1;rw[<- f_.length,e1]
 exact Calls.call_function_entry kind_sorted plain_sorted entry_sorted (args_sorted1 _) ?_;unfold Builtin.«sorted»;exact ax (m:=checkCount "sorted" 1 1 _) (a7 ?_);exact ax (W.kdu_collect (A:=X.A.in1) (W.kdl_dict (knd:=cR X.prog X.w) (kvs:=vs) (ep:=ep) lo) hh ZL (by rw[<- f_.length];show hz) λh' tk fR Zx BS=> ?_);have hl:fR.toList.length=ks.length:=by rw[dH,BS.1,d4]
 have hI:StrsAre fR.toList ks:=CK hl λj v e=>by
  let⟨k,x,hx,UF⟩:=BS.2 j v (by rw[<- Array.getElem?_toList];show e);have Iy:(kvs.map (·.1))[j]? =some k:=by
   have:(vs.map (·.1))[j]? =some k:=by rw[aI,hx];rfl
   rw[<- f_.keys] at this;show this
  rw[hk,aI] at Iy;cases e2:ks[j]? with
  | none=>rw[e2] at Iy;cases Iy
  | some n=>
   rw[e2] at Iy;cases Iy;have Qn:oO (Sum.inr n) v=true:=UF;rcases dg Qn with⟨i,t,e3,e4⟩ | ⟨x,t,e3,e4⟩
   cases e3;cases e3;show#[n,t,rfl,e4]
 exact ax (wpAny_newList ?_ (by rw[hl];show LU));have ho:(h'.push (seqObj "list" fR.toList.toArray 0)).get? h'.objs.size=some (seqObj "list" fR.toList.toArray 0):=aY _ rfl;exact ax (wpAny_holding (wpAny_call_entry slot_list_sort #[_,ho,rfl] entry_list_sort (TS.EI (s:= {s with heap:=h'.push (seqObj "list" fR.toList.toArray 0),toks:=tk}) ho hI (by rw[hl];show LU) λout A1 a1 a2 a3=>#[_,rfl,?_]) (args_list_sort _)));let⟨ee,Qv⟩:=sortedHeap_at (out:=out) ho;have I':Inv X ah σ H {s with heap:=h',toks:=tk}:=I.kept (t':=tk) Zx;exact a7 #[_,rfl, .ref h'.objs.size,_,I'.laid (t':=tk) (o:= .lst (A1.map V.str)) (λb o hb=> ?_) (aq _) ?_,rfl,q _ A1 (I'.c6.fresh (aq _)) a2 a3];have mK:b<h'.objs.size:=aO hb;rw[sortedHeap_old (bA mK) (by rw[Heap.size_push];show Nat.lt_succ_of_lt mK)];show av _ hb;exact#[?_,out.toList,ee,nW a1, ⇑Qv];rw[af,a2.length_eq];show LU
def Hg:c_ V ->Hp ->VK ->Prop:=λxs H Q=>cE λ(d:iW) (kvs:c_ (cz×V))=>cS (xs= [.ref d]) (H d=some (.dK kvs)) (∀p,H p=none ->Q (.ref p) (cM H p (.dK kvs)))
def j5:fq X (.type "dict") Hg:=by intro ah s σ H xs us Q I r h;let⟨d,kvs,rfl,hd,q⟩:=h;let⟨u,rfl,ru⟩:=vals1 r;cases ru;let⟨hz,lo,vs,f_,dd⟩:=wO I.c6 hd;exact kt_call_dict lo dd (by rw[<- f_.length];show hz) λh' UK sb=> ?_;have big:=I.big;exact#[.ref s.heap.objs.size,_,I.laid (a:=s.heap.objs.size) (o:= .dK kvs) (t':=s.toks) (λb u e=> ?_) (aq _) #[hz,?_,vs,f_,UK],rfl,q _ (I.c6.fresh (aq _))];rw[sb.2 b (bA (aO e))];show av _ e;show beq_eq_false_iff_ne.mpr (λz=>by rw[z] at big;show Nat.lt_irrefl _ big)
def Mt (d:iW)(o:Obj)(kvs:c_ (cz×V)):It:=#[λi H=>i<kvs.length /\ H d=some (.kT o (.dK kvs)),λi H x H'=>H'=H /\ ∃kv,kvs[i]? =some kv /\ x=kV kv.1,λi H=>kvs.length<=i /\ H d=some (.kT o (.dK kvs))]
theorem HW: ∀ {kvs:c_ (cz×V)} {vs:c_ (cz×dC)} {i:Nat} {q:cz×dC},KV kvs vs ->vs[i]? =some q -> ∃p,kvs[i]? =some p /\ p.1=q.1
 | _,_,0,_, .cons ⟨e0,r⟩ _,e=>by cases e;show#[_,rfl,e0]
 | _,_,i+1,q, .cons _ t,e=>by have e':_=some q:=e;rw[List.getElem?_cons_succ] at e' ⊢;show HW t e'
def EC {P:Y1}{w:ZW}{K:Uc}{tg:Expr}{d it:iW}{o:Obj}{kvs:c_ (cz×V)}{es:Ub DictEntry}{ep:Nat}(ho:o.data= .dict es ep): yu P w K tg (Mt d o kvs) [it] it (λi h=>h.IsKeyIter it d i kvs.length ep) where
 mem:=by simp
 obj:=λi h st b hb=>by have e:b=it:= ⇑hb;subst e;let⟨o,e,c,d⟩:=st;show#[o,e,λv z=>by rw[d] at z;cases z]
 keep:=λi h h' st k=>st.at λo e=>k it (by simp) o e
 item:=by
  intro X hP hw hK hc i ah s σ H E I hf st hg;subst hP hw hK;let⟨hi,hH⟩:=hg;let⟨vs,f_,hd⟩:=yi I ho hH;have hl:=f_.length;rw[hl] at st hi;let⟨f0,f1,f2,f3,f4,f5⟩:=hf it (by simp);let⟨⟨k,x⟩,hx⟩: ∃q,vs[i]? =some q:=#[vs[i],by simp[hi]]
  let⟨p,hp,rp⟩:=HW f_ hx;exact wpAny_pyNext_dict_item st hd hx λkey h' Qo BQ gE=> ?_;have I1:Inv X ah σ H {s with heap:=h'}:=I.turned (t':=s.toks) (λb o hb e=>(gE.2 b hb).trans e) f0 f1 f3 f4 f5;let⟨oo,e,c,dd⟩:=id BQ;rw[<- hl] at BQ;have rk:RelV (kV p.1) key:=by
   rw[show p.1=k from rp];rcases dg (show oO k key=true from Qo) with⟨i,t,e,e2⟩ | ⟨x,t,e,e2⟩
   subst e;show#[t,e2];subst e;show#[t,e2]
  show#[key,rfl,wB (s:= {s with heap:=h'}) e c dd ⋯ #[kV p.1,H,I1,rk,#[rfl,p,hp,rfl],BQ,λb hb=>(hf b hb).1]]
 done:=by intro X hP hw hK hc i ah s σ H E I hf st hg;subst hP hw hK;let⟨hi,hH⟩:=hg;let⟨vs,f_,hd⟩:=yi I ho hH;have hl:=f_.length;rw[hl] at st hi;let⟨f0,f1,f2,f3,f4,f5⟩:=hf it (by simp);show wpAny_pyNext_dict_end (I.ok.hd hc) st hd (by simp;omega) λh' eb=>#[rfl,I.turned (t':=s.toks) (λb o hb e=>eb b o hb e) f0 f1 f3 f4 f5]
 self:=λ_ _ _ _ _ st h=>wpAny_pyIter_keyiter st h
def NZ (td:TE):TI:=λσ H R=>td σ H λx H1=>cE λd kvs=>cS (x= .ref d) (H1 d=some (.dK kvs)) (∀o,R (Mt d o kvs) (cM H1 d (.kT o (.dK kvs))))
def K4 (ho:PE X o td):PI X tg o (NZ td):=by
 intro ah s σ H R I h;exact cX (ho ah s σ H _ I h) λv s1 ⟨x,H1,I1,r1,d,kvs,ex,hd,q1⟩=> ?_;subst ex;obtain rfl:v=Value.ref d:=r1;let⟨z,Qe,vs,f_,dd⟩:=o_ I1.c6 (.inl hd);let⟨ob,es,ep,g1,g2,g3,g4⟩:=dd;have da:s1.heap.DictAt (cR X.prog X.w) d vs ep:=#[ob,es,g1,g2,g3,g4]
 exact wpAny_pyIter_dict (knd:=cR X.prog X.w) Qe da ?_;have I2:=I1.freeze hd g1;exact#[_,[_],_,Mt d ob kvs,_,rfl,I2.kept (t':=s1.toks) λb o e=>av _ e,EC g3,?_,λb hb=> ?_,q1 ob];rw[f_.length];show#[_,aY _ rfl,rfl,rfl];have e:=bn.mp hb;subst e;show I2.BV (aq _) (I2.c6.fresh (aq _))
def Nd (t:TE):TE:=λσ H Q=>cE λd kvs=>H d=some (.dK kvs) /\ t σ H λv H'=>cE λo us=>H' d=some (.kT o (.dK us)) /\ Q v (cM H' d (.dK us))
def Dc {e:Expr}{t:TE}(h:PE X e t):PE X e (Nd t):=by
 rintro ah s σ H Q I ⟨d,kvs,hd,ht⟩;have h0: ∀o u,X.H₀ d≠some (.kT o u):=λo u e=>by have:=I.base.mL d o u e;rw[hd] at this;cases this
 exact cX (h ah s σ H _ I ht) λv s' ⟨x,H',I',r,o,us,e,q⟩=>#[x,_,I'.X5 e h0,?_,q]
 show r
structure QN (K:PySem.W.Frag)(mg:Str ->Option Value)(x:Str)(ns:List Int):Prop where
 ex: ∃a,mg x=some (.ref a) /\ ∀H,kW K H a (ns.map V.int)
def tGT (K:Uc)(ns:c_ Int):TE:=λ_ H Q=> ∀a,kW K H a (ns.map V.int) ->Q (.ref a) H
def K6 {x:Str}{ns:c_ Int}{pos:Pos}(hg:Gl X x)(T:QN X.K X.mg x ns)(hd:(x==("__debug__" :Str))=false:=by decide):PE X (.Name x pos) (tGT X.K ns):=by let⟨a,hm,hs⟩:=T.ex;intro ah s σ H Q I h;show fU (v:= .ref a) hg hm rfl hd ah s σ H Q I (h a (hs H))
end
end L2
namespace WL
open PySem L2
section
variable {K:Uc}
def wGT (ns:c_ Int):WE:=λ_ M q=>q (.tup (ns.map wi)) M
instance {ns:c_ Int}:IE K (tGT K ns) (wGT ns) where
 imp:=λρ M σ H q Q o h k=>λa hs=>k _ M _ H h (a5.refl H) o.hp (WR.PK hs (by
  exact cU.mk (by simp) λj d v e1 e2=> ?_;rw[aI] at e1 e2;cases hj:ns[j]? with
  | none=>rw[hj] at e1;cases e1
  | some n=>rw[hj] at e1 e2;cases e1;cases e2;show WR.v))
theorem afw {ns:c_ Int}{ρ:dm}{M:Mp}{q:WK}:wGT ns ρ M q=q (.tup (ns.map wi)) M:=rfl
def Gr:A6:=λxs M q=>eE λ(d:iW) (kvs:c_ (cz×W)) (ks:c_ Str)=>gJ (xs= [wr d]) (M d=some (.dK kvs)) (kvs.map (·.1)=ks.map Sum.inr) (ks.length<=sizeLine) (∀ (p:iW) (ns:c_ Str),M p=none ->ns.Perm ks ->ns.Pairwise (λx y=>¬y.cps.toList<x.cps.toList) ->q (wr p) (um M p (.lst (ns.map ws))))
theorem DC {H:Hp}: ∀ {kvs:c_ (cz×W)} {vs:c_ (cz×V)},KR K H kvs vs ->kvs.map (·.1)=vs.map (·.1)
 | _,_, .nil=>rfl
 | _,_, .cons ⟨e,_⟩ t=>by rw[aH,aH,DC t,e]
theorem yO {H:Hp}: ∀ (ns:c_ Str),cU K H (ns.map ws) (ns.map V.str)
 | []=>cU.nil
 | _::r=>cU.cons WR.v (yO r)
instance:IC K zn Gr where
 imp:=by rintro xs v M H q Q m r1 ⟨d,kvs,ks,rfl,hd,hk,hl,h⟩ k;let⟨v,rfl,r⟩:=r1.one;cases r.eq;let⟨us,e,rr⟩:=m d _ hd;show#[d,us,ks,rfl,e,by rw[<- DC rr];show hk,hl,λp ns hp h1 h2=>k _ _ _ _ (h p ns (m.fresh hp) h1 h2) (L2.ge.ts (cf hp)) (m.zE hp (yO ns)) WR.v]
def Gy:A6:=λxs M q=>cE λ(d:iW) (kvs:c_ (cz×W))=>cS (xs= [wr d]) (M d=some (.dK kvs)) (∀p,M p=none ->q (wr p) (um M p (.dK kvs)))
instance:IC K Hg Gy where
 imp:=by rintro xs v M H q Q m r1 ⟨d,kvs,rfl,hd,h⟩ k;let⟨v,rfl,r⟩:=r1.one;cases r.eq;let⟨us,e,rr⟩:=m d _ hd;show#[d,us,rfl,e,λp hp=>k _ _ _ _ (h p (m.fresh hp)) (L2.ge.ts (cf hp)) (m.put (L2.ge.ts (cf hp)) #[us,bZ,KR.ts (L2.ge.ts (cf hp)) rr]) WR.v]
def RZ {d:iW}{M:Mp}{q:WK}:Gy [.v (.ref d)] M q=iQ (M d) λkvs=> ∀p,M p=none ->q (wr p) (um M p (.dK kvs)):=by apply propext;symm;rintro⟨_,kvs,h1,h2,k⟩;cases h1;show#[kvs,h2,k];rintro⟨kvs,h2,k⟩;show#[_,kvs,rfl,h2,k]
def Ii (a:WE):WI:=λρ M q=>a ρ M λx M1=>cE λd kvs=>cS (x=wr d) (M1 d=some (.dK kvs)) (∀o ks,q (kvs.map λkv=>iN kv.1) (λM'=>M' d=some (.fz o ks kvs)) (um M1 d (.fz o ks kvs)))
def Fe {H1:Hp}{d:iW}{o:Obj}{kvs:c_ (cz×W)}{ks:c_ (cz×V)}:Cg K H1 (Mt d o ks) (kvs.map λkv=>iN kv.1) (λM'=>M' d=some (.fz o ks kvs)):=by intro i M H t m hM;let⟨e1,r1⟩:=m d _ hM;have hl:=BL r1;rw[af];exact#[λh=>#[by omega,e1],λh=>#[by omega,e1],λv H' hi ⟨e2,kv,hk,e3⟩=> ?_];subst e2 e3;let⟨p,hp,e4,rp⟩:=HX r1 hk;exact#[a5.refl _,m,iN p.1,by rw[aI,hp];rfl,?_];rw[e4];cases kv.1<;>show WR.v
instance {t:TE}{a:WE} [ia:IE K t a]:II K (NZ t) (Ii a) where
 imp:=λρ M σ H q R o h k=>ia.imp ρ M σ H _ _ o h λx M1 v H1 ⟨d,kvs,ex,hd,h1⟩ t1 m1 r1=>by subst ex;let⟨ks,e,r⟩:=m1 d _ hd;exact#[d,ks,r1.eq,e,λob=>k _ _ _ _ _ (h1 ob ks) (t1.trans (kZ e)) (m1.put (kZ e) #[bZ,KR.ts (kZ e) r]) Fe]
def Wx {a:WE}{ρ:dm}{M:Mp}{q:c_ W ->(Mp ->Prop) ->Mp ->Prop}:Ii a ρ M q=a ρ M λx M1=>fb x λd=>iQ (M1 d) λkvs=> ∀o ks,q (kvs.map λkv=>iN kv.1) (λM'=>M' d=some (.fz o ks kvs)) (um M1 d (.fz o ks kvs)):=by unfold Ii fb iQ;congr 1;funext x M1;apply propext;symm;rintro⟨d,kvs,e1,e2,h⟩;show#[d,e1,kvs,e2,h];rintro⟨d,e1,kvs,e2,h⟩;show#[d,kvs,e1,e2,h]
def RL (t:WE):WE:=λρ M q=>cE λd kvs=>M d=some (.dK kvs) /\ t ρ M λv M'=>eE λo ks us=>M' d=some (.fz o ks us) /\ q v (um M' d (.dK us))
instance {t:TE}{a:WE} [ia:IE K t a]:IE K (Nd t) (RL a) where
 imp:=λρ M σ H q Q o ⟨d,kvs,hd,h⟩ k=>by let⟨ks,ek,r⟩:=o.hp d _ hd;exact#[d,ks,ek,ia.imp ρ M σ H _ _ o h ?_];rintro x M' v H' ⟨ob,us,ws,hM,hq⟩ ts m' r';let⟨e1,r1⟩:=m' d _ hM;have t2:=OL (u:= .dK us) e1;show#[ob,us,e1,k _ _ _ _ hq (ts.trans t2) (m'.put t2 #[us,bZ,KR.ts t2 r1]) (r'.ts t2)]
end
end WL
namespace L2
open PySem
def mC {X:Cx}{K:Uc}(hK:X.K=K):iK X (compareOp .NotIn) (S_ K true):=by subst hK;show xR
theorem jg {K:Uc}{h:ZX}{mg:Str ->gC dC}{x:Str}{C:iW}(X:K.In h)(G:h.Ns mainGlobals mg)(a:W.nsIn K mainGlobals x=some (some (.ref C))):mg x=some (.ref C):=W.mg_of X G a
theorem i6 {K:Uc}{h:ZX}{x:Str}{C:iW}{cd:ClassData}(_:K.In h)(a:W.nsIn K mainGlobals x=some (some (.ref C)))(e:W.excIn K C U9 "ValueError.__new__" =true)(k1:W.clsIn K C=some cd)(k2:W.findIn K (.ref C) "__getattribute__" =some (some (.builtin "BaseException.__getattribute__")))(k3:W.findIn K (.ref C) "__getattr__" =some none)(k4:W.findIn K (.ref C) "__class__" =some (some (.builtin "object.__class__")))(k5:W.mroIn K C (.type "object")=some true)(k6:W.mroIn K C (.type "BaseException")=some true):pB K x C:=RF a e k1 k2 k3 k4 k5 k6
theorem OR {K:Uc}{h:ZX}{mg:Str ->gC dC}{x z:Str}{t:Tok}(X:K.In h)(G:h.Ns mainGlobals mg)(a:W.nsIn K mainGlobals x=some (some (.str z t))): ∃t,mg x=some (.str z t):=#[t,W.mg_of X G a]
theorem OJ {K:Uc}{h:ZX}{mg:Str ->gC dC}{x:Str}{ad:iW}{n1 n2 n3 n4:Int}{t1 t2 t3 t4:Tok}{n:Nat}{sl:Ub (gC dC)}(X:K.In h)(G:h.Ns mainGlobals mg)(a:W.nsIn K mainGlobals x=some (some (.ref ad))) (l:K.lookup ad=some #[.type "tuple",none, .seq (List.toArray [.int n1 t1, .int n2 t2, .int n3 t3, .int n4 t4]) n,sl]):QN K mg x [n1,n2,n3,n4]:=#[ad,W.mg_of X G a,λH=> .inr #[_,_,_,l,rfl,rfl,rfl,by change 4<=sizeLine;decide, .cons #[_,rfl] (.cons #[_,rfl] (.cons #[_,rfl] (.cons #[_,rfl] .nil)))]]
end L2
namespace WL
open PySem L2
section
variable {K:Uc}
def Ba (a b:WE):WE:=λρ M q=>a ρ M λx M1=> ∃p,cS (x=wr p) (∃kvs,M1 p=some (.dK kvs)) (b ρ M1 λy M2=>eE λkvs k z=>fi (M2 p=some (.dK kvs)) (y=iN k) (fu kvs k=some z) (q z (um M2 p (.dK (jG kvs k)))))
instance {t u:TE}{a b:WE} [ia:IE K t a] [ib:IE K u b]:IE K (GR t u) (Ba a b) where
 imp :=λρ M σ H q Q o h k=>ia.imp ρ M σ H _ _ o h λx M1 v H1 ⟨p,e,⟨kvs,hp⟩,h1⟩ t1 m1 r1=>by
  subst e;let⟨ks,hk,rr⟩:=m1 p _ hp;exact#[p,r1.eq, .inl #[ks, .inl hk],ib.imp ρ M1 σ H1 _ _ (o.mv t1 m1) h1 λy M2 u H2 ⟨kvs,ky,z,e2,e3,e4,h2⟩ t2 m2 r2=> ?_];subst e3;let⟨ks,hk,rr⟩:=m2 p _ e2;have ts:=kZ (u:= .dK (lS ks ky)) hk;rcases rr.val ky with⟨n1,_⟩ | ⟨x',v',n1,n2,rx⟩
  rw[n1] at e4;cases e4;rw[n1] at e4;cases e4;show#[ks,ky,v',hk,iX r2,n2,k _ _ _ _ h2 ((t1.trans t2).trans ts) (m2.putD hk rr.drop) (rx.ts ts)]
def R0 {a b:WE}{ρ:dm}{M:Mp}{q:WK}:Ba a b ρ M q=a ρ M λx M1=>fb x λp=>iQ (M1 p) λ_=>b ρ M1 λy M2=>kN y λk=>iQ (M2 p) λkvs=>mJ (fu kvs k) λz=>q z (um M2 p (.dK (jG kvs k))):=by
 unfold Ba fb iQ kN mJ;congr 1;funext x M1;apply propext;symm;rintro⟨p,e1,⟨kvs,e2⟩,h⟩;exact#[p,e1,kvs,e2,?_];have:(λy M2=>eE λkvs k z=>fi (M2 p=some (.dK kvs)) (y=iN k) (fu kvs k=some z) (q z (um M2 p (.dK (jG kvs k)))))=(λy M2=> ∃k,y=iN k /\ ∃l,M2 p=some (.dK l) /\ ∃z,fu l k=some z /\ q z (um M2 p (.dK (jG l k)))):=by funext y M2;apply propext;symm;rintro⟨kvs,k,z,h1,h2,h3,h4⟩;show#[k,h2,kvs,h1,z,h3,h4];rintro⟨k,h2,kvs,h1,z,h3,h4⟩;show#[kvs,k,z,h1,h2,h3,h4]
 rw[this] at h;show h;rintro⟨p,e1,kvs,e2,h⟩;exact#[p,e1,#[kvs,e2],?_];have:(λy M2=>eE λkvs k z=>fi (M2 p=some (.dK kvs)) (y=iN k) (fu kvs k=some z) (q z (um M2 p (.dK (jG kvs k)))))=(λy M2=> ∃k,y=iN k /\ ∃l,M2 p=some (.dK l) /\ ∃z,fu l k=some z /\ q z (um M2 p (.dK (jG l k)))):=by funext y M2;apply propext;symm;rintro⟨kvs,k,z,h1,h2,h3,h4⟩;show#[k,h2,kvs,h1,z,h3,h4];rintro⟨k,h2,kvs,h1,z,h3,h4⟩;show#[kvs,k,z,h1,h2,h3,h4]
 rw[this];show h
end
end WL
namespace WQ
open PySem L2 WL WP
section
variable {α:Type}
def rR (f:α ->W)(l:c_ (Str×α)):c_ (cz×W):=l.map λz=>(.inr z.1,f z.2)
def cx (l:c_ (Str×α))(n:Str):gC α:=(l.find? λz=>decide (z.1=n)).map (·.2)
def gO (l:c_ (Str×α))(n:Str)(a:α):c_ (Str×α):=if(l.any λz=>decide (z.1=n))=true then l.map (λz=>if z.1=n then(z.1,a) else z) else l++ [(n,a)]
def nP (l:c_ (Str×α))(n:Str):c_ (Str×α):=l.filter λz=>decide (z.1≠n)
theorem sV {a b:Str}:((Sum.inr a:cz)= .inr b)↔a=b:=#[Sum.inr.inj,λh=>by rw[h]]
def cK (f:α ->W)(l:c_ (Str×α))(n:Str):fu (rR f l) (.inr n)=(cx l n).map f:=by
 unfold fu rR cx;induction l with
 | nil=>rfl
 | cons z l ih=>rw[aH,cL,cL];simp![sV];by_cases h:z.1=n;simp[h];simpa [h] using ih
def gr (f:α ->W)(l:c_ (Str×α))(n:Str)(a:α):xH (rR f l) (.inr n) (f a)=rR f (gO l n a):=by
 have e:((rR f l).any λkv=>decide (kv.1= .inr n))=(l.any λz=>decide (z.1=n)):=by unfold rR;rw[List.any_map];congr 1;funext z;simp![Function.comp,sV]
 unfold xH gO;rw[e];split;unfold rR;rw[aU,aU];apply dF;intro z _;simp![Function.comp,sV];split<;>rfl;unfold rR;rw[a6];rfl
def o6 (f:α ->W)(l:c_ (Str×α))(n:Str):jG (rR f l) (.inr n)=rR f (nP l n):=by unfold jG rR nP;rw[List.filter_map];congr 2;funext z;simp![Function.comp,ne_eq,sV]
def jl (f:α ->W)(l:c_ (Str×α)):(rR f l).map (·.1)=(l.map (·.1)).map Sum.inr:=by unfold rR;rw[aU,aU];rfl
def nZ (f:α ->W)(l:c_ (Str×α)):(rR f l).length=l.length:=by unfold rR;rw[af]
def mw (l:c_ (Str×α))(n:Str)(a:α):(gO l n a).length<=l.length+1:=by unfold gO;split<;>simp
theorem sZ (l:c_ (Str×α))(n:Str):(nP l n).length<=l.length:=List.length_filter_le _ _
def dZ {l:c_ (Str×α)}{n:Str}{a:α}(h:cx l n=some a): ∃z∈l,z.1=n /\ z.2=a:=by
 unfold cx at h;cases e:l.find? λz=>decide (z.1=n) with
 | none=>rw[e] at h;cases h
 | some z=>rw[e] at h;cases h;show#[z,List.mem_of_find?_eq_some e, ⇑(List.find?_some e),rfl]
def yh {l:c_ (Str×α)}{z:Str×α}(h:z∈l): ∃a,cx l z.1=some a:=by
 unfold cx;cases e:l.find? λy=>decide (y.1=z.1) with
 | none=>simpa using List.find?_eq_none.mp e z h
 | some y=>show#[_,rfl]
def oz {l:c_ (Str×α)}{n:Str}{a:α}{z:Str×α}(h:z∈gO l n a):z∈l \/ z=(n,a):=by unfold gO at h;split at h;let⟨y,hy,rfl⟩:=b8.mp h;split;rename_i e;rw[e];show .inr rfl;show .inl hy;obtain h | h:=bh.mp h;show .inl h;show .inr (bn.mp h)
theorem pc {l:c_ (Str×α)}{n:Str}{z:Str×α}(h:z∈nP l n):z∈l:=(List.mem_filter.mp h).1
def Hj (l:c_ (Str×α))(n:Str)(a:α):(gO l n a).map (·.1)=if(l.any λz=>decide (z.1=n))=true then l.map (·.1) else l.map (·.1)++ [n]:=by unfold gO;split;rw[aU];apply dF;intro z _;simp![Function.comp];split<;>rfl;rw[a6];rfl
def Hi {l:c_ (Str×α)}{n:Str}{a:α}(h:(l.map (·.1)).Nodup):((gO l n a).map (·.1)).Nodup:=by rw[Hj];split;show h;rename_i hn;rw[List.nodup_append];exact#[h,by simp,λx hx y hy=> ?_];rw[bn.mp hy];rintro rfl;apply hn;let⟨z,hz,e⟩:=b8.mp hx;show List.any_eq_true.mpr #[z,hz, ⇑e]
theorem Jg {l:c_ (Str×α)}{n:Str}(h:(l.map (·.1)).Nodup):((nP l n).map (·.1)).Nodup:=h.sublist (List.Sublist.map _ List.filter_sublist)
def tL {a b c:c_ Str}(h1:a.Perm c)(h2:b.Perm c)(s1:a.Pairwise λx y=>¬y.cps.toList<x.cps.toList)(s2:b.Pairwise λx y=>¬y.cps.toList<x.cps.toList):a=b:=by exact List.Perm.eq_of_pairwise (le:=λx y=>¬y.cps.toList<x.cps.toList) (λx y _ _ Wz hyx=> ?_) s1 s2 (h1.trans h2.symm);show n6 (List.le_antisymm Wz hyx)
end
inductive Rf where
 | BadName | NoDeed | NoRound | NoCrew | Taken | InUse | TooMany | TooFar | NoMore | NoState
def CY:Rf ->Str
 | .BadName=> "BadName" | .NoDeed=> "NoDeed" | .NoRound=> "NoRound" | .NoCrew=> "NoCrew" | .Taken=> "Taken" | .InUse=> "InUse" | .TooMany=> "TooMany" | .TooFar=> "TooFar" | .NoMore=> "NoMore" | .NoState=> "NoState"
abbrev yJ:Str:= "abcdefghijklmnopqrstuvwxyz"
abbrev Rm:=c_ (Str×Rd)
abbrev Tm:=c_ (Str×c_ Str)
def e_ (l:c_ Str):W:= .tup (l.map ws)
abbrev tQ (R:Rm):c_ (cz×W):=rR gq R
abbrev ny (T:Tm):c_ (cz×W):=rR e_ T
def qW (n:Str)(l:c_ Str):Bool:=NW (.str n) (l.map V.str)
def rQ (T:Tm)(n:Str):Bool:=T.any λz=>qW n z.2
def ci (n:Str):Bool:=decide (1<=n.length) && decide (n.length<=12) && (AX n).all λc=>AZ c yJ
def gd (a:Rd)(m r:Int):Bool:= !(decide ((if a.1<0 then -a.1 else a.1) <=m) && a.2.all λz=>decide ((if z.1<0 then -z.1 else z.1) <=r))
abbrev gK (n:Str):Prop:=n.cps.all (· <128)=true
def lr (r t:iW):c_ (Str×W):= [("rounds",wr r),("teams",wr t)]
def fC (p:Int)(now la lu lh:iW):c_ (Str×W):= [("p",wi p),("now",wr now),("past",wr la),("undone",wr lu),("held",wr lh)]
section
variable {p:Int}{r t now la lu lh x:iW}
theorem pV:(lr r t).lookup ("rounds" :Str)=some (wr r):=rfl
theorem nC:(lr r t).lookup ("teams" :Str)=some (wr t):=rfl
theorem FI:(fC p now la lu lh).lookup ("p" :Str)=some (wi p):=rfl
theorem j7:(fC p now la lu lh).lookup ("now" :Str)=some (wr now):=rfl
theorem afh:(fC p now la lu lh).lookup ("past" :Str)=some (wr la):=rfl
theorem aff:iT "now" (wr x) (fC p now la lu lh)=fC p x la lu lh:=rfl
theorem afe:iT "undone" (wr x) (fC p now la lu lh)=fC p now la x lh:=rfl
theorem afg:((fC p now la lu lh).length<1000)=True:=ay (by change 5<1000;decide)
theorem Aw:(fC p now la lu lh).lookup ("settings" :Str)=none:=rfl
theorem iE:(fC p now la lu lh).lookup ("turn_to" :Str)=none:=rfl
theorem uY:(fC p now la lu lh).lookup ("put" :Str)=none:=rfl
theorem me:(fC p now la lu lh).lookup ("put_team" :Str)=none:=rfl
theorem rK:(fC p now la lu lh).lookup ("enlisted" :Str)=none:=rfl
theorem tf:(fC p now la lu lh).lookup ("team" :Str)=none:=rfl
theorem Mi:(fC p now la lu lh).lookup ("tell" :Str)=none:=rfl
theorem B8:(fC p now la lu lh).lookup ("join_as" :Str)=none:=rfl
theorem Ca:(fC p now la lu lh).lookup ("back_as" :Str)=none:=rfl
theorem Av:(fC p now la lu lh).lookup ("times_as" :Str)=none:=rfl
theorem Mj:(fC p now la lu lh).lookup ("drop" :Str)=none:=rfl
theorem Jy:(fC p now la lu lh).lookup ("found" :Str)=none:=rfl
theorem B_:(fC p now la lu lh).lookup ("disband" :Str)=none:=rfl
theorem FH:(fC p now la lu lh).lookup ("enlist" :Str)=none:=rfl
theorem B9:(fC p now la lu lh).lookup ("dismiss" :Str)=none:=rfl
theorem Ax:(fC p now la lu lh).lookup ("names" :Str)=none:=rfl
theorem Ay:(fC p now la lu lh).lookup ("crews" :Str)=none:=rfl
theorem eI:(fC p now la lu lh).lookup ("round_of" :Str)=none:=rfl
theorem uZ:(fC p now la lu lh).lookup ("members" :Str)=none:=rfl
end
def GL {α:Type}(f:α ->W)(l:c_ (Str×α)):(rR f l).map (λx=>x.2)=l.map λz=>f z.2:=by unfold rR;rw[aU];rfl
def wF (l:c_ Str):(l.map V.str).all lG=true:=by rw[List.all_map];show List.all_eq_true.mpr λ_ _=>rfl
theorem sW {n:Str}{l:c_ Str}{M:Mp}{q:WK}(h:q (wb (qW n l)) M):VT false (ws n) (e_ l) M q:=#[.str n,l.map V.str,rfl, .inl (by unfold e_;rw[aU];rfl),rfl,wF l,h]
theorem nH {n:Str}{l:c_ Str}{M:Mp}{q:WK}(h:q (wb (!qW n l)) M):VT true (ws n) (e_ l) M q:=#[.str n,l.map V.str,rfl, .inl (by unfold e_;rw[aU];rfl),rfl,wF l,h]
theorem CD {M:Mp}{t u:iW}{o f:MO}{l:MO}(h:M t=some o)(hu:um M t f u=none):Sm M (um (um (um M t f) u l) t o):=λa x e=>by by_cases ht:a=t;subst ht;rw[ao];rw[h] at e;show e;rw[aQ ht,aQ (cg (M:=um M t f) (by rw[aQ ht];show e) hu),aQ ht];show e
def Pg (C:iW)(M:Mp)(a:iW)(R:Rm)(T:Tm):Prop:=eE λ(dx r t:iW)=>cS (M a=some (.ins C dx (lr r t))) (M r=some (.dK (tQ R))) (M t=some (.dK (ny T)))
structure Bk (B C:Addr)(M:Mp)(b la lu lh:Addr)(p:Int)(now:Addr)(pa un he:List Addr)(R:Rm)(T:Tm):Prop where
 ob: ∃dx,M b=some (.ins B dx (fC p now la lu lh))
 pa:M la=some (.lst (pa.map wr))
 un:M lu=some (.lst (un.map wr))
 he:M lh=some (.lst (he.map wr))
 ne:la≠lu /\ la≠lh /\ lu≠lh
 pg:Pg C M now R T
def Ev (b la:iW)(M M':Mp):Prop:= ∀a o,M a=some o ->a≠b ->a≠la ->M' a=some o
def Pg.sm {C a:iW}{M M':Mp}{R:Rm}{T:Tm}(h:Pg C M a R T)(s:Sm M M'):Pg C M' a R T:=by let⟨dx,r,t,h1,h2,h3⟩:=h;show#[dx,r,t,s _ _ h1,s _ _ h2,s _ _ h3]
def Bk.sm {B C b la lu lh now:iW}{M M':Mp}{p:Int}{pa un he:c_ iW}{R:Rm}{T:Tm}(h:Bk B C M b la lu lh p now pa un he R T)(s:Sm M M'):Bk B C M' b la lu lh p now pa un he R T:=by let⟨⟨dx,h1⟩,h2,h3,h4,h5,h6⟩:=h;show#[#[dx,s _ _ h1],s _ _ h2,s _ _ h3,s _ _ h4,h5,h6.sm s]
theorem Ev.sm {b la:iW}{M M1 M':Mp}(F:Ev b la M1 M')(s:Sm M M1):Ev b la M M':=λa o h n1 n2=>F a o (s a o h) n1 n2
theorem Ev.Kq {b la:iW}{M M':Mp}(F:Ev b la M M'){B dx:iW}{fs:c_ (Str×W)}{l:c_ W}(hb:M b=some (.ins B dx fs))(ha:M la=some (.lst l)){r:iW}{kvs:c_ (cz×W)}(h:M r=some (.dK kvs)):M' r=some (.dK kvs):=F _ _ h (λz=>by subst z;rw[hb] at h;cases h) λz=>by subst z;rw[ha] at h;cases h
def Ev.pg {b la:iW}{M M':Mp}(F:Ev b la M M'){B C dx now la' lu lh a:iW}{p:Int}{l:c_ W}{R:Rm}{T:Tm}(hb:M b=some (.ins B dx (fC p now la' lu lh)))(ha:M la=some (.lst l))(h:Pg C M a R T):Pg C M' a R T:=by let⟨mF,r,t,h1,h2,h3⟩:=h;exact#[mF,r,t,F _ _ h1 (λz=> ?_) (λz=> ?_),F.Kq hb ha h2,F.Kq hb ha h3];subst z;rw[hb] at h1;injection h1 with h1;injection h1 with _ _ h1;have:=congrArg List.length h1;revert this;change 5=2 ->False;decide;subst z;rw[ha] at h1;cases h1
def Fs (s:iW)(M M':Mp):Prop:= ∀a o,M a=some o ->a≠s ->M' a=some o
theorem Fs.trans {s:iW}{M M1 M2:Mp}(f:Fs s M M1)(g:Fs s M1 M2):Fs s M M2:=λa o h n=>g a o (f a o h n) n
theorem Fs.self {s:iW}{M:Mp}{o:MO}:Fs s M (um M s o):=λa u h n=>by rw[aQ n];show h
theorem Fs.new {s p:iW}{M M':Mp}{o:MO}(f:Fs s M M')(hp:M' p=none):Fs s M (um M' p o):=λa u h n=>by rw[aQ (cg (f a u h n) hp)];show f a u h n
theorem Fs.put {s:iW}{M M':Mp}{o:MO}(f:Fs s M M'):Fs s M (um M' s o):=λa u h n=>by rw[aQ n];show f a u h n
def Fs.free {s p:iW}{M M':Mp}(f:Fs s M M')(hp:M' p=none)(n:p≠s):M p=none:=by
 cases e:M p with
 | none=>rfl
 | some o=>rw[f p o e n] at hp;cases hp
structure pz (p:Int)(R:Rm):Prop where
 nd:(R.map (·.1)).Nodup
 len:R.length<=1000
 ok: ∀z∈R,dR p z.2.2 /\ z.2.2.length<=401 /\ gd z.2 200 200=false
def Pl (C:iW):gS:=λxs M q e=> ∃n:Str,gJ (xs= [ws n]) (gK n) (n.length<=100) (ci n=true ->q wn M) (ci n=false ->e C M)
def O_:fG:=λxs M q=>gm λ(d:iW) (kvs:c_ (cz×W)) (n:Str) (x:W)=>fi (xs= [wr d,ws n,x]) (M d=some (.dK kvs)) (kvs.length<=2000) (∀r,M r=none ->q (wr r) (um M r (.dK (xH kvs (.inr n) x))))
def Ht:fG:=λxs M q=>eE λ(d:iW) (kvs:c_ (cz×W)) (n:Str)=>fi (xs= [wr d,ws n]) (M d=some (.dK kvs)) ((fu kvs (.inr n)).isSome=true) (∀r,M r=none ->q (wr r) (um M r (.dK (jG kvs (.inr n)))))
def Tk (C:iW):fG:=λxs M q=>gm λ(s dx r t:iW)=>cS (xs= [wr s,wr r,wr t]) (M s=some (.ins C dx [])) (q wn (um M s (.ins C dx (lr r t))))
def Tt (B C:iW):fG:=λxs M q=>eE λ(s dx:iW) (p:Int)=>fi (xs= [wr s,wi p]) (p=2 \/ p=3 \/ p=5 \/ p=7) (M s=some (.ins B dx [])) (∀M' la lu lh now,Bk B C M' s la lu lh p now [] [] [] [] [] ->Fs s M M' ->M la=none ->M lu=none ->M lh=none ->la≠s ->q wn M')
def ER (B C:iW):fG:=λxs M q=>sD λ(b la lu lh now:iW)=>gm λ(p:Int) (pa un he:c_ iW)=>cE λ(R:Rm) (T:Tm)=>cS (xs= [wr b]) (Bk B C M b la lu lh p now pa un he R T) (q (wi p) M)
def Tg (B C:iW):fG:=λxs M q=>RB λ(b la lu lh now pg:iW)=>gm λ(p:Int) (pa un he:c_ iW)=>gm λ(R:Rm) (T:Tm) (R':Rm) (T':Tm)=>gJ (xs= [wr b,wr pg]) (Bk B C M b la lu lh p now pa un he R T) (Pg C M pg R' T') (pa.length<=1000) (∀M' eK,Bk B C M' b la eK lh p pg (pa++ [now]) [] he R' T' ->Ev b la M M' ->M eK=none ->q wn M')
def ET (B C:iW):fG:=λxs M q=>sD λ(b la lu lh now:iW)=>gm λ(p:Int) (pa un he:c_ iW)=>eE λ(R:Rm) (T:Tm) (n:Str)=>fi (xs= [wr b,ws n]) (Bk B C M b la lu lh p now pa un he R T) (T.length<=1000) (q (wb (rQ T n)) M)
def dq (T:Tm)(n:Str)(a:Rd):Bool:=gd a 200 200 || (rQ T n && gd a 8 24)
def ES (B C X:iW):gS:=λxs M q e=>sD λ(b la lu lh now:iW)=>gm λ(p:Int) (pa un he:c_ iW)=>gm λ(R:Rm) (T:Tm) (n:Str) (a:Rd)=>AB (xs= [wr b,ws n,gq a]) (Bk B C M b la lu lh p now pa un he R T) (pa.length<=1000) (R.length<=1000) (T.length<=1000) (a.2.length<=1000000) (dq T n a=false -> ∀M' eK pg,Bk B C M' b la eK lh p pg (pa++ [now]) [] he (gO R n a) T ->Ev b la M M' ->M eK=none ->M pg=none ->q wn M') (dq T n a=true ->e X M)
def Hu:fG:=λxs M q=>eE λ(a:Rd) (e r:Int)=>cS (xs= [gq a,wi e,wi r]) (a.2.length<=1000000) (q (wb (!gd a e r)) M)
def Pk:fG:=λxs M q=> ∃a:Rd,cS (xs= [gq a]) (a.2.length<=1000000) (q (wb (!gd a 8 24)) M)
inductive dP where
 | tell (n:Str) (ds:List (Str×Int)) | join (n x y:Str) | back (n x:Str) | times (n x:Str) (k:Int) | drop (n:Str)
inductive Oc (α:Type) where
 | ok (R:α) | bad (r:Rf)
noncomputable def He (p:Int) (a:Rd) (n:Int):Rd:=Classical.epsilon λr=>gY p a n r
theorem C1 {p:Int}(hp:0<p){a r:Rd}{n:Int}(h:gY p a n r):He p a n=r:=(Classical.epsilon_spec (p:=λr=>gY p a n r) #[r,h]).eq hp h
def S2 {p:Int}(hp:0<p){a:Rd}(h:dR p a.2):gY p a 1 a:=by
 exact#[by rw[Int.mul_one],h,λx=> ?_];have e:k7 (fw a.2) a.1 1 x=fw a.2 x:=by simp[k7,fS]
 rw[e, <- mn hp,HG hp h]
theorem OZ {p:Int}(hp:0<p){a:Rd}:gY p a (-1) (bk p a):=(S2 hp (Cb hp a)).xX hp ⋯
def je (ds:c_ (Str×Int)):Bool:=ds.all λd=>decide (d.1= "go") || decide (d.1= "turn")
def uG {ds:c_ (Str×Int)}:je ds=true↔ ∀d∈ds,Good d:=by unfold je Good;rw[List.all_eq_true];simp![Bool.or_eq_true,du]
def iM (R:Rm)(T:Tm)(n:Str)(a:Rd):Oc Rm:=if dq T n a=true then .bad .TooFar else .ok (gO R n a)
noncomputable def cw (p:Int) (R:Rm) (T:Tm):dP ->Oc Rm
 | .tell n ds=>if ci n=false then .bad .BadName else if je ds=false then .bad .NoDeed else iM R T n ((eX ds).1,pZ p (eX ds).2)
 | .join n x y=>if ci n=false then .bad .BadName else match cx R x,cx R y with
  | some a,some b=>iM R T n (jn p a b)
  | _,_=> .bad .NoRound
 | .back n x=>if ci n=false then .bad .BadName else match cx R x with
  | some a=>iM R T n (bk p a)
  | none=> .bad .NoRound
 | .times n x k=>if ci n=false then .bad .BadName else match cx R x with
  | some a=>iM R T n (He p a k)
  | none=> .bad .NoRound
 | .drop n=>match cx R n with
  | none=> .bad .NoRound
  | some _=>if rQ T n=true then .bad .InUse else .ok (nP R n)
structure Nm (n:Str):Prop where
 as:gK n
 len:n.length<=100
def Ge:dP ->Prop
 | .tell n ds=>cS (Nm n) (ds.length<=50) (∀d∈ds,d.1.length<=100)
 | .join n x y=>cS (Nm n) (Nm x) (Nm y)
 | .back n x=>Nm n /\ Nm x
 | .times n x k=>fi (Nm n) (Nm x) (-100<=k) (k<=100)
 | .drop n=>Nm n
structure MJ (p:Int)(R:Rm)(T:Tm)(pa:List Addr):Prop where
 p4:p=2 \/ p=3 \/ p=5 \/ p=7
 pa:pa.length<=900
 r:pz p R
 t:T.length<=900
def rO (B C:iW)(M:Mp)(b la lh:iW)(p:Int)(now:iW)(pa he:c_ iW)(R:Rm)(T:Tm)(q:WK):Prop:=∀M' eK pg,Bk B C M' b la eK lh p pg (pa++ [now]) [] he R T ->Ev b la M M' ->M eK=none ->M pg=none ->q wn M'
def Ts (B C:iW)(uV:Rf ->iW)(f:c_ W ->Mp ->dP ->Prop):gS:=λxs M q e=>sD λ(b la lu lh now:iW)=>gm λ(p:Int) (pa un he:c_ iW)=>gm λ(R:Rm) (T:Tm) (dd:dP) (ys:c_ W)=>Ks (xs=wr b::ys) (f ys M dd) (Ge dd) (Bk B C M b la lu lh p now pa un he R T) (MJ p R T pa) (∀R',cw p R T dd= .ok R' ->rO B C M b la lh p now pa he R' T q) (∀r,cw p R T dd= .bad r ->e (uV r) M)
def xG {B C X:iW}{M:Mp}{b la lu lh now:iW}{p:Int}{pa un he:c_ iW}{R:Rm}{T:Tm}{n:Str}{a:Rd}{O:Oc Rm}{q:WK}{e:WX}{uV:Rf ->iW}(hB:Bk B C M b la lu lh p now pa un he R T)(hS:MJ p R T pa)(hl:a.2.length<=1000000)(ho:O=iM R T n a) (kq: ∀R',O= .ok R' ->rO B C M b la lh p now pa he R' T q) (ke: ∀r,O= .bad r ->up e (uV r) M) (hX:X=uV .TooFar:=by rfl):ES B C X [wr b,ws n,gq a] M (λ_ M1=> ∃M0,Sm M0 M1 /\ q wn M0) (up e):=by have h1:=hS.pa;have h2:=hS.r.len;have h3:=hS.t;exact#[b,la,lu,lh,now,p,pa,un,he,R,T,n,a,rfl,hB,by omega,h2,by omega,hl,λhb M' eK pg B' F hu hp=>eP (kq _ (by rw[ho,iM,ak (by rw[hb];decide)]) M' eK pg B' F hu hp),λhb=> ?_];rw[hX];show ke .TooFar (by rw[ho,iM,am hb])
def U0 (ys:c_ W)(M:Mp)(dd:dP):Prop:=eE λ(n:Str) (a:iW) (ds:c_ (Str×Int))=>cS (ys= [ws n,wr a]) (dd= .tell n ds) (M a=some (.lst (ds.map fQ)))
def U1 (ys:c_ W)(_:Mp)(dd:dP):Prop:=eE λ(n x y:Str)=>ys= [ws n,ws x,ws y] /\ dd= .join n x y
def U3 (ys:c_ W)(_:Mp)(dd:dP):Prop:=cE λ(n x:Str)=>ys= [ws n,ws x] /\ dd= .back n x
def Qz (ys:c_ W)(_:Mp)(dd:dP):Prop:=eE λ(n x:Str) (k:Int)=>ys= [ws n,ws x,wi k] /\ dd= .times n x k
def U2 (ys:c_ W)(_:Mp)(dd:dP):Prop:= ∃n:Str,ys= [ws n] /\ dd= .drop n
def Hw (B C X:iW):gS:=λxs M q e=>sD λ(b la lu lh now:iW)=>gm λ(p:Int) (pa un he:c_ iW)=>eE λ(R:Rm) (T:Tm) (n:Str)=>gJ (xs= [wr b,ws n]) (Bk B C M b la lu lh p now pa un he R T) (n.length<=100) (∀a,cx R n=some a ->q (gq a) M) (cx R n=none ->e X M)
def K_ (B C:iW):fG:=λxs M q=>sD λ(b la lu lh now:iW)=>gm λ(p:Int) (pa un he:c_ iW)=>cE λ(R:Rm) (T:Tm)=>fi (xs= [wr b]) (Bk B C M b la lu lh p now pa un he R T) (R.length<=1000) (∀ (u:iW) (ns:c_ Str),M u=none ->ns.Perm (R.map (·.1)) ->ns.Pairwise (λx y=>¬y.cps.toList<x.cps.toList) ->q (wr u) (um M u (.lst (ns.map ws))))
def Le (B C:iW):fG:=λxs M q=>sD λ(b la lu lh now:iW)=>gm λ(p:Int) (pa un he:c_ iW)=>cE λ(R:Rm) (T:Tm)=>fi (xs= [wr b]) (Bk B C M b la lu lh p now pa un he R T) (T.length<=1000) (∀ (u:iW) (ns:c_ Str),M u=none ->ns.Perm (T.map (·.1)) ->ns.Pairwise (λx y=>¬y.cps.toList<x.cps.toList) ->q (wr u) (um M u (.lst (ns.map ws))))
theorem Oa {a n:Str}(h:a.length<=100)(hn:n.length<=100):(a++n).length<=sizeLine:=bf (by rw[bB];omega)
theorem N_ {a n c:Str}(h:a.length<=100)(hn:n.length<=100)(hc:c.length<=100):(a++n++c).length<=sizeLine:=bf (by rw[bB,bB];omega)
theorem WZ {a n c d:Str}(h:a.length<=100)(hn:n.length<=100)(hc:c.length<=100)(hd:d.length<=100):(a++n++c++d).length<=sizeLine:=bf (by rw[bB,bB,bB];omega)
theorem zk {lo hi:Int}: ∀ {l:Pt} {a:Int},l.Pairwise (λx y=>x.1<y.1) ->(∀z∈l,a<=z.1 /\ z.1<=hi) ->a<=hi+1 ->(l.length:Int) <=hi+1 - a
 | [],a,_,_,h=>by simp;omega
 | z::l,a,hp,hb,h=>by have h0:=hb z (by simp);have:=zk (lo:=lo) (hi:=hi) (l:=l) (a:=z.1+1) (cb.mp hp).2 (λy hy=>#[by have:=(cb.mp hp).1 y hy;omega,(hb y (by simp[hy])).2]) (by omega);rw[az];push_cast;omega
def L0 {a:Rd}{p:Int}(h:gd a 200 200=false)(hp:dR p a.2):a.2.length<=401:=by unfold gd at h;rw[Bool.not_eq_false',cB,List.all_eq_true] at h;have:=zk (lo:=0) (hi:=200) (a:= -200) hp.2 (λz hz=>by have:=bg (h.2 z hz);split at this<;>omega) ⋯;omega
def pz.put {p:Int}{R:Rm}{T:Tm}{n:Str}{a:Rd}(h:pz p R)(hl:R.length<1000)(ha:dR p a.2)(hb:dq T n a=false):pz p (gO R n a):=by
 have hf:gd a 200 200=false:=by unfold dq at hb;rw[Bool.or_eq_false_iff] at hb;show hb.1
 show#[Hi h.nd,ar (mw _ _ _) hl,λz hz=>(oz hz).elim (h.ok z) λe=>by rw[e];show#[ha,L0 hf ha,hf]]
theorem pz.del {p:Int}{R:Rm}{n:Str}(h:pz p R):pz p (nP R n):=#[Jg h.nd,ar (sZ _ _) h.len,λz hz=>h.ok z (pc hz)]
def mh {x:Str}:gK x↔ ∀c∈x.cps.toList,c<128:=by unfold gK;rw[<- Array.all_toList,List.all_eq_true];simp![du]
def Nm.app {x y:Str}(hx:gK x)(hy:gK y):gK (x++y):=by rw[mh] at*;intro c hc;rw[gx] at hc;show(bh.mp hc).elim (hx c) (hy c)
def AA {x:Str}{lo hi:gC Int}(hx:gK x):gK (Txt.slice x lo hi):=by unfold Txt.slice;split;show hx;rw[mh] at*;intro c hc;rw[List.mem_filterMap] at hc;let⟨i,_,hi⟩:=hc;show hx c (Array.mem_toList_iff.mpr (Array.mem_of_getElem? hi))
def JB {x:Str}{n:Nat}(hx:gK x):gK (ij x n):=by
 unfold ij;split;decide+kernel;split;show hx;rw [mh] at*;have: ∀ (n:Nat) (a:Ub Nat),(∀c∈a.toList,c<128) -> ∀c∈((List.replicate n x.cps).foldl (· ++ ·) a).toList,c<128:=by
  intro n;induction n with
  | zero=>intro a ha c hc;show ha c hc
  | succ n ih=>intro a ha c hc;rw[List.replicate_succ,List.foldl_cons] at hc;exact ih (a++x.cps) (λc hc=> ?_) c hc;rw[bX] at hc;show(bh.mp hc).elim (ha c) (hx c)
 show this n #[] (by simp)
def ED {x:Str}{n:Nat}:(ij x n).length<=n*x.length:=by unfold ij;split;change 0<=_;omega;split;rename_i h0 h;obtain h | h:=h;subst h;omega;rw[h];omega;rw[C0];show aq _
def JC {ss:c_ Str}{ji:Str}(h0:gK ji)(h: ∀x∈ss,gK x):gK (Builtin.Str.glued ji ss):=by
 cases ss with
 | nil=>rw[wD];decide+kernel
 | cons x ss=>rw[mh];intro c hc;rw[jD,bh] at hc;obtain hc | hc:=hc;show mh.mp (h x (by simp)) c hc;let⟨l,hl,hc⟩:=List.mem_flatten.mp hc;let⟨y,hy,rfl⟩:=b8.mp hl;obtain hc | hc:=bh.mp hc;show mh.mp h0 c hc;show mh.mp (h y (by simp[hy])) c hc
def HN {i:Int}(h0:0<=i)(h1:i<26): ∃c,iF yJ.cps.toList i=some c /\ gK ⟨#[c]⟩:=by
 have hl:yJ.cps.toList.length=26:=by decide+kernel
 have hj:i.toNat<yJ.cps.toList.length:=by omega
 have ha: ∀c∈yJ.cps.toList,c<128:=by decide+kernel
 exact#[yJ.cps.toList[i.toNat],f7 h0 (aF hj),mh.mpr λc hc=> ?_];have e:c=yJ.cps.toList[i.toNat]:= ⇑hc;rw[e];show ha _ (List.getElem_mem _)
def K':fG:=λxs M q=>eE λ(d l:iW) (m:Int)=>gJ (xs= [wr d,wi m]) (Dr M d l) (0<=m) (m<=20) (∀ (u:iW) (ns:c_ Str) (M':Mp),M' u=some (.lst (ns.map ws)) ->(ns.length:Int)=m ->(∀n∈ns,Nm n) ->u≠d ->u≠l ->Dr M' d l ->q (wr u) M')
end WQ
namespace WL
open PySem L2
section
variable {K:Uc}
def GC:WM:=λx ys M q=>cE λa l=>fi (x=wr a) (ys= []) (M a=some (.lst l)) (q wn (um M a (.lst [])))
instance:IM K Hh GC where
 imp:=by
  rintro x v ys us M H q Q m r1 r2 ⟨a,l,rfl,rfl,ha,h⟩ k;cases r1.eq;let⟨vs,hv,rr⟩:=m a _ ha;have e:us= []:=by simpa only[cU] using r2
  subst e;show#[a,vs,rfl,rfl,hv,k _ _ _ _ h (jL hv) (m.putL hv cU.nil) WR.v]
def R_ {a:iW}{M:Mp}{q:WK}:GC (.v (.ref a)) [] M q=lstK (M a) λ_=>q wn (um M a (.lst [])):=by apply propext;symm;rintro⟨_,l,h1,_,h2,k⟩;cases h1;show#[l,h2,k];rintro⟨l,h2,k⟩;show#[_,l,rfl,rfl,h2,k]
end
end WL
namespace WQ
open PySem L2 WL WP
def Ud (x:Str):NW (.str x) [.str "go", .str "turn"]=(decide (x= "go") || decide (x= "turn")):=by
 change(Gi (.str "go") (.str x) || (Gi (.str "turn") (.str x) || false))=_;rw[Bool.or_false,Bool.eq_iff_iff,Bool.or_eq_true,Bool.or_eq_true,du,du];have e: ∀y:Str,Gi (.str y) (.str x)=true↔x=y:=λy=>by simp[Gi];show eq_comm
 rw[e,e]
theorem qu:Mc ws Dt.str:=λ_=>rfl
def BZ (l:c_ Str):sC (.lst (l.map Dt.str)) <=50:=by
 have: ∀l:c_ Str,jY (l.map Dt.str) <=1:=λl=>by
  induction l with
  | nil=>simp[jY]
  | cons x l ih=>simp[jY,sC];omega
 have:=this l;simp![sC];omega
theorem xv {p:gS}{xs:c_ W}{M:Mp}{q:WK}(h:p xs M q λ_ _=>False):uU (SS p) xs M q:=h
def mB {xs:c_ W}{y:Int}{k:W ->Prop}(P:W ->Prop)(h0:0<=y)(h1:y<xs.length)(hP: ∀x∈xs,P x)(hk: ∀x,P x ->k x):mJ (iF xs y) k:=by
 have hj:y.toNat<xs.length:=by omega
 show#[xs[y.toNat],f7 h0 (aF hj),hk _ (hP _ (List.getElem_mem _))]
structure sE (T:Tm):Prop where
 nd:(T.map (·.1)).Nodup
 len:T.length<=900
 key: ∀z∈T,z.1.length<=100
 mem: ∀z∈T,z.2.length<=100
def yf {α:Type}{l:c_ (Str×α)}(h:(l.map (·.1)).Nodup){z:Str×α}(hz:z∈l):cx l z.1=some z.2:=by
 induction l with
 | nil=>cases hz
 | cons y l ih=>rw[aH,List.nodup_cons] at h;unfold cx;rw[cL];obtain e | e:=aP.mp hz;subst e;simp;have nK:y.1≠z.1:=λe2=>h.1 (b8.mpr #[z,e,e2.symm]);rw[aL nK];show ih h.2 e
def Hc (M:Mp)(h:iW):Mp:=λa=>if a=h then none else M a
theorem pR {M:Mp}{h a:iW}(n:a≠h):Hc M h a=M a:=ak n
theorem KZ {M M2:Mp}{h:iW}{o:MO}(s:Sm M M2):Sm (Hc M h) (um M2 h o):=λa u e=>by by_cases n:a=h;subst n;unfold Hc at e;rw[am rfl] at e;cases e;rw[pR n] at e;rw[aQ n];show s _ _ e
def Bk.Hc {B C b la lu lh now h:iW}{M:Mp}{p:Int}{pa un he:c_ iW}{R:Rm}{T:Tm}{l:c_ W}(hB:Bk B C M b la lu lh p now pa un he R T)(hh:M h=some (.lst l))(n1:la≠h)(n2:lu≠h)(n3:lh≠h):Bk B C (Hc M h) b la lu lh p now pa un he R T:=by
 let⟨⟨dx,h1⟩,h2,h3,h4,h5,mF,r,t,h6,h7,h8⟩:=hB;have ni: ∀ {a:iW} {o:MO},M a=some o ->(∀l,o≠ .lst l) ->WQ.Hc M h a=some o:=λ{a o} e n=>by rw[pR (λz=>by subst z;rw[e] at hh;cases hh;show n _ rfl)];show e
 show#[#[dx,ni h1 (λ_ z=>nomatch z)],by rw[pR n1];show h2,by rw[pR n2];show h3,by rw[pR n3];show h4,h5,mF,r,t,ni h6 (λ_ z=>nomatch z),ni h7 (λ_ z=>nomatch z),ni h8 (λ_ z=>nomatch z)]
theorem Ev.Hc {b la h:iW}{M M1 M':Mp}(F:Ev b la M1 M')(s:Sm M M1)(hh:M h=none):Ev b la M (Hc M' h):=λa o e n1 n2=>by rw[pR (cg e hh)];show F a o (s a o e) n1 n2
def DV (M:Mp):dP ->W ->Prop
 | .tell n ds,w=> ∃a:iW,w= .tup [ws "tell",ws n,wr a] /\ M a=some (.lst (ds.map fQ))
 | .join n x y,w=>w= .tup [ws "join",ws n, .tup [ws x,ws y]]
 | .back n x,w=>w= .tup [ws "back",ws n, .tup [ws x],wi (-1)]
 | .times n x k,w=>w= .tup [ws "times",ws n, .tup [ws x],wi k]
 | .drop n,w=>w= .tup [ws "drop",ws n]
def DV.mv {M M':Mp}{dd:dP}{w:W}(h:DV M dd w)(f: ∀a l,M a=some (.lst l) ->(∃n,w= .tup [ws "tell",n,wr a]) ->M' a=some (.lst l)):DV M' dd w:=by
 cases dd with
 | tell n ds=>let⟨a,rfl,ha⟩:=h;show#[a,rfl,f a _ ha #[_,rfl]]
 | _=>show h
theorem DV.sm {M M':Mp}{dd:dP}{w:W}(h:DV M dd w)(s:Sm M M'):DV M' dd w:=h.mv λa l e _=>s a _ e
noncomputable def iR (p:Int) (R:Rm):dP ->gC Rd
 | .tell _ ds=>some ((eX ds).1,pZ p (eX ds).2)
 | .join _ x y=>match cx R x,cx R y with
  | some a,some b=>some (jn p a b)
  | _,_=>none
 | .back _ x=>(cx R x).map λa=>He p a (-1)
 | .times _ x k=>(cx R x).map λa=>He p a k
 | .drop _=>none
def gc:dP ->Str
 | .tell n _=>n | .join n _ _=>n | .back n _=>n | .times n _ _=>n | .drop n=>n
def kdOf:dP ->Str
 | .tell _ _=> "tell" | .join _ _ _=> "join" | .back _ _=> "back" | .times _ _ _=> "times" | .drop _=> "drop"
def Lb:fG:=λxs M q=> ∃n:Str,cS (xs= [ws n]) (Nm n) (q (wb (ci n)) M)
def To:fG:=λxs M q=>eE λ(a:Rd) (m r:Int)=>cS (xs= [gq a,wi m,wi r]) (a.2.length<=1000000) (q (wb (gd a m r)) M)
def Pb:fG:=λxs M q=>sD λ(p:Int) (r:iW) (R:Rm) (dd:dP) (w:W)=>AB (xs= [wi p,wr r,w]) (p=2 \/ p=3 \/ p=5 \/ p=7) (M r=some (.dK (tQ R))) (pz p R) (DV M dd w) (Ge dd) ((iR p R dd).isSome=true) (∀a,iR p R dd=some a ->dR p a.2 ->a.2.length<=1000000 ->q (gq a) M)
def Tp:fG:=λxs M q=>W5 λ(p:Int) (r t:iW) (R:Rm) (T:Tm) (dd:dP) (w:W)=>AB (xs= [wi p, .tup [wr r,wr t],w]) (p=2 \/ p=3 \/ p=5 \/ p=7) (M r=some (.dK (tQ R)) /\ M t=some (.dK (ny T))) (pz p R /\ sE T) (DV M dd w) (Ge dd) (∀R',cw p R T dd= .ok R' ->pz p R /\ (R.length<1000 ->pz p R') -> ∀r' M',Sm M M' ->M r'=none ->M' r'=some (.dK (tQ R')) ->q (.tup [ws "", .tup [wr r',wr t]]) M') (∀f,cw p R T dd= .bad f ->q (.tup [ws (CY f), .tup [wr r,wr t]]) M)
def Dj {p:Int}{R:Rm}{T:Tm}{dd:dP}(h:ci (gc dd)=false)(hd: ∀n,dd≠ .drop n):cw p R T dd= .bad .BadName:=by
 cases dd with
 | drop n=>show absurd rfl (hd n)
 | _=>rw[cw];show am h
def HF {p:Int}(p0:0<p){R:Rm}{T:Tm}{dd:dP}{a:Rd}(h:ci (gc dd)=true)(hg: ∀n ds,dd= .tell n ds ->je ds=true)(hv:iR p R dd=some a):cw p R T dd=iM R T (gc dd) a:=by
 have hn:¬ci (gc dd)=false:=by rw[h];decide
 cases dd with
 | tell n ds=>replace hn:¬ci n=false:=hn;rw[cw,ak hn,ak (by rw[hg n ds rfl];decide)];cases hv;rfl
 | join n x y=>
  replace hn:¬ci n=false:=hn;rw[cw,ak hn];rw[iR] at hv;cases hx:cx R x with
  | none=>rw[hx] at hv;cases hv
  | some a1=>
   cases hy:cx R y with
   | none=>rw[hx,hy] at hv;cases hv
   | some a2=>rw[hx,hy] at hv;cases hv;rfl
 | back n x=>
  replace hn:¬ci n=false:=hn;rw[cw,ak hn];rw[iR] at hv;cases hx:cx R x with
  | none=>rw[hx] at hv;cases hv
  | some a1=>rw[hx] at hv;cases hv;change iM R T n (bk p a1)=iM R T n (He p a1 (-1));rw[C1 p0 (OZ p0)]
 | times n x k=>
  replace hn:¬ci n=false:=hn;rw[cw,ak hn];rw[iR] at hv;cases hx:cx R x with
  | none=>rw[hx] at hv;cases hv
  | some a1=>rw[hx] at hv;cases hv;rfl
 | drop n=>cases hv
def Lg {R:Rm}{T:Tm}{n:Str}{a:Rd}{r:Rf}(h:iM R T n a= .bad r):r= .TooFar:=by unfold iM at h;split at h;cases h;rfl;cases h
def TB {p:Int}{R:Rm}{T:Tm}{dd:dP}{r:Rf}(h:cw p R T dd= .bad r):r= .BadName \/ r= .NoDeed \/ r= .NoRound \/ r= .InUse \/ r= .TooFar:=by
 cases dd<;>rw[cw] at h;all_goals
  repeat' split at h
  all_goals first
  | (cases h;done)
  | (cases h;simp;done)
  | (have:=Lg h;simp[this];done)
def L1 (la:iW)(w:W):Prop:= ∀n,w≠ .tup [ws "tell",n,wr la]
def K7 (B C:iW):fG:=λxs M q=>W5 λ(b la lu lh now r t:iW)=>gm λ(p:Int) (pa un he:c_ iW)=>cE λ(R:Rm) (T:Tm)=>kQ (xs= [wi p,wr b, .tup [wr r,wr t]]) (Bk B C M b la lu lh p now pa un he R T) (M r=some (.dK (tQ R)) /\ M t=some (.dK (ny T))) (pz p R) (sE T /\ ∀z∈R,z.1.length<=100) (q (wb true) M)
def Lc:fG:=λxs M q=>cE λ(d l:iW)=>cS (xs= [wr d]) (Dr M d l) (∀ (u:iW) (ds:c_ (Str×Int)) (M':Mp),M u=none ->M' u=some (.lst (ds.map fQ)) ->ds.length<=50 ->(∀z∈ds,z.1.length<=100) ->Dr M' d l ->Fs d M M' ->q (wr u) M')
def xN:fG:=λxs M q=>gm λ(d l nl:iW) (ns:c_ Str)=>Ks (xs= [wr d,wr nl]) (Dr M d l) (M nl=some (.lst (ns.map ws))) (nl≠d) (0<ns.length /\ ns.length<=100) (∀n∈ns,Nm n) (∀ (n:Str) (M':Mp),Nm n ->Dr M' d l ->NB d M M' ->q (ws n) M')
def Pe:fG:=λxs M q=>gm λ(d l nl:iW) (ns:c_ Str)=>Ks (xs= [wr d,wr nl]) (Dr M d l) (M nl=some (.lst (ns.map ws))) (nl≠d) (0<ns.length /\ ns.length<=100) (∀n∈ns,Nm n) (∀ (dd:dP) (w:W) (M':Mp),DV M' dd w ->Ge dd ->(∀a n,w= .tup [ws "tell",n,wr a] ->M a=none) ->Dr M' d l ->Fs d M M' ->q w M')
def Th (B C X:iW):gS:=λxs M q e=>sD λ(b la lu lh now:iW)=>gm λ(p:Int) (pa un he:c_ iW)=>eE λ(R:Rm) (T:Tm) (n:Str)=>gJ (xs= [wr b,ws n]) (Bk B C M b la lu lh p now pa un he R T) (n.length<=100) (∀a,cx T n=some a ->q (e_ a) M) (cx T n=none ->e X M)
def Hy (B C X:iW):gS:=λxs M q e=>sD λ(b la lu lh now:iW)=>gm λ(p:Int) (pa un he:c_ iW)=>eE λ(R:Rm) (T:Tm) (n:Str)=>gJ (xs= [wr b,ws n]) (Bk B C M b la lu lh p now pa un he R T) (n.length<=100) (∀a,cx T n=some a -> ∀u,M u=none ->q (wr u) (um M u (.lst (a.map ws)))) (cx T n=none ->e X M)
def xP {R R':Rm}{T:Tm}{n:Str}{a:Rd}(h:iM R T n a= .ok R'):R'=gO R n a:=by unfold iM at h;split at h;cases h;cases h;rfl
def TC {p:Int}{R R':Rm}{T:Tm}{dd:dP}(h:cw p R T dd= .ok R'):(∃a,R'=gO R (gc dd) a /\ ci (gc dd)=true) \/ R'=nP R (gc dd):=by
 cases dd<;>rw[cw] at h;case drop n=>
  repeat' split at h
  all_goals first
  | (cases h;done)
  | (cases h;show .inr rfl)
 all_goals
  repeat' split at h
  all_goals first
  | (cases h;done)
  | (rename_i h1 _;exact .inl #[_,xP h,?_];show(Bool.not_eq_false _).mp h1)
  | (rename_i h1 _ _ _;exact .inl #[_,xP h,?_];show(Bool.not_eq_false _).mp h1)
  | (rename_i h1 _ _ _ _ _ _;exact .inl #[_,xP h,?_];show(Bool.not_eq_false _).mp h1)
def HK {n:Str}(h:ci n=true):n.length<=100:=by unfold ci at h;rw[cB,cB] at h;have:=bg h.1.2;omega
def Lo {p:Int}{R R':Rm}{T:Tm}{dd:dP}(h:cw p R T dd= .ok R')(hk: ∀z∈R,z.1.length<=100):(∀z∈R',z.1.length<=100) /\ R'.length<=R.length+1:=by
 rcases TC h with⟨a,rfl,hn⟩ | rfl
 show#[λz hz=>(oz hz).elim (hk z) λe=>by rw[e];show HK hn,mw _ _ _];show#[λz hz=>hk z (pc hz),ar (sZ _ _) (by omega)]
def DV.head {M:Mp}{dd:dP}{w:W}(h:DV M dd w): ∃c7,w= .tup (ws (kdOf dd)::c7):=by
 cases dd with
 | tell n ds=>let⟨a,rfl,_⟩:=h;show#[_,rfl]
 | _=>cases h;show#[_,rfl]
def Bk.fs {B C b la lu lh now d:iW}{M M':Mp}{p:Int}{pa un he:c_ iW}{R:Rm}{T:Tm}{x:c_ W}(hB:Bk B C M b la lu lh p now pa un he R T)(F:Fs d M M')(hd:M d=some (.lst x))(n1:la≠d)(n2:lu≠d)(n3:lh≠d):Bk B C M' b la lu lh p now pa un he R T:=by let⟨⟨dx,h1⟩,h2,h3,h4,h5,mF,r,t,h6,h7,h8⟩:=hB;have ni: ∀ {a:iW} {o:MO},M a=some o ->(∀l,o≠ .lst l) ->M' a=some o:=λ{a o} e n=>F a o e (λz=>by subst z;rw[e] at hd;cases hd;show n _ rfl);show#[#[dx,ni h1 (λ_ z=>nomatch z)],F _ _ h2 n1,F _ _ h3 n2,F _ _ h4 n3,h5,mF,r,t,ni h6 (λ_ z=>nomatch z),ni h7 (λ_ z=>nomatch z),ni h8 (λ_ z=>nomatch z)]
theorem Fs.Kq {d r:iW}{M M':Mp}{x:c_ W}{kvs:c_ (cz×W)}(F:Fs d M M')(hd:M d=some (.lst x))(h:M r=some (.dK kvs)):M' r=some (.dK kvs):=F _ _ h λz=>by subst z;rw[hd] at h;cases h
def Je {M M':Mp}{d l:iW}(h:Dr M d l)(s:Sm M M'):Dr M' d l:=by let⟨ns,i,c,sd,h1,h2,h3,h4⟩:=h;show#[ns,i,c,sd,s _ _ h1,s _ _ h2,h3,h4]
def Ec {M:Mp}{d l:iW}(h:Dr M d l): ∃x,M d=some (.lst x):=by let⟨ns,i,c,sd,h1,h2,h3,h4⟩:=h;show#[_,h1]
def Nv (f:Rf):CY f≠ "" :=by cases f<;>decide+kernel
end WQ
namespace L2
open PySem
def GU (td ty:TE):TE:=GW td ty
theorem Ho {X:Cx}{o i:Expr}{td ty:TE}{pos:Pos}(hu:X.A.units+1<cLine)(ho:PE X o td)(hi:PE X i ty)(hs:QQ i):PE X (.Subscript o i pos) (GU td ty):=eA hu ho hi hs
end L2
namespace WL
open PySem L2
section
variable {K:Uc}
def L_ (o:gC MO)(k:c_ (cz×W) ->Prop):Prop:= ∃l,(o=some (.dK l) \/ cE λb ks=>o=some (.fz b ks l)) /\ k l
def Gz (a b:WE):WE:=λρ M q=>a ρ M λx M1=>b ρ M1 λy M2=>fb x λp=>kN y λk=>L_ (M2 p) λkvs=>mJ (fu kvs k) λz=>q z M2
instance {t u:TE}{a b:WE} [ia:IE K t a] [ib:IE K u b]:IE K (GU t u) (Gz a b) where
 imp :=λρ M σ H q Q o h k=>ia.imp ρ M σ H _ _ o h λx M1 v H1 h1 t1 m1 r1=>ib.imp ρ M1 σ H1 _ _ (o.mv t1 m1) h1 λy M2 u H2 h2 t2 m2 r2=>by
  let⟨p,e1,ky,e3,kvs,e2,z,e4,h2⟩:=h2;subst e1 e3;have fin: ∀ks,KR K H2 kvs ks ->Rd H2 p (.dK ks) ->cE λa v=>cS (V.ref p= .ref a) (mP H2 a (kV ky) (some v)) (Q v H2):=λks rr hk=>by
   rcases rr.val ky with⟨n1,_⟩ | ⟨x',v',n1,n2,rx⟩
   rw[n1] at e4;cases e4;rw[n1] at e4;cases e4;show#[p,v',rfl, .inl #[ks,ky,hk,rfl,n2.symm],k _ M2 _ H2 h2 (t1.trans t2) m2 rx]
  rw[iX r2,r1.eq];obtain e2 | ⟨ob,ks,e2⟩:=e2;let⟨ks,hk,rr⟩:=m2 p _ e2;show fin ks rr (.inl hk);let⟨hk,rr⟩:=m2 p _ e2;show fin ks rr (.inr #[ob,hk])
def afa {l:c_ (cz×W)}{b:Obj}{ks:c_ (cz×V)}{k:c_ (cz×W) ->Prop}:L_ (some (.fz b ks l)) k=k l:=by unfold L_;apply propext;symm;rintro⟨_,h | ⟨_,_,h⟩,k⟩;cases h;cases h;show k;intro h;show#[l, .inr #[b,ks,rfl],h]
theorem R1 {a b:WE}{ρ:dm}{M:Mp}{q:WK}:Gz a b ρ M q=a ρ M λx M1=>b ρ M1 λy M2=>fb x λp=>kN y λk=>L_ (M2 p) λkvs=>mJ (fu kvs k) λz=>q z M2:=rfl
end
end WL
namespace WQ
open PySem L2 WL WP
inductive fN where
 | found (c:Str) | disband (c:Str) | enlist (c n:Str) | dismiss (c n:Str)
def cC (R:Rm)(T:Tm):fN ->Oc Tm
 | .found c=>if ci c=false then .bad .BadName else match cx T c with
  | some _=> .bad .Taken
  | none=> .ok (gO T c [])
 | .disband c=>match cx T c with
  | none=> .bad .NoCrew
  | some _=> .ok (nP T c)
 | .enlist c n=>match cx T c with
  | none=> .bad .NoCrew
  | some l=>match cx R n with
   | none=> .bad .NoRound
   | some a=>if qW n l=true then .bad .Taken else if 6<=l.length then .bad .TooMany else if gd a 8 24=true then .bad .TooFar else .ok (gO T c (l++ [n]))
 | .dismiss c n=>match cx T c with
  | none=> .bad .NoCrew
  | some l=>if qW n l=false then .bad .NoRound else .ok (gO T c (l.filter λm=>decide (m≠n)))
def AW:fN ->Prop
 | .found c=>Nm c
 | .disband c=>Nm c
 | .enlist c n=>Nm c /\ Nm n
 | .dismiss c n=>Nm c /\ Nm n
def Hx (B C:iW):fG:=λxs M q=>sD λ(b la lu lh now:iW)=>gm λ(p:Int) (pa un he:c_ iW)=>gm λ(R:Rm) (T:Tm) (c:Str) (l:c_ Str)=>gJ (xs= [wr b,ws c,e_ l]) (Bk B C M b la lu lh p now pa un he R T) (pa.length<=900) (T.length<=900) (rO B C M b la lh p now pa he R (gO T c l) q)
def sT (B C:iW)(uV:Rf ->iW)(f:c_ W ->fN ->Prop):gS:=λxs M q e=>sD λ(b la lu lh now:iW)=>gm λ(p:Int) (pa un he:c_ iW)=>gm λ(R:Rm) (T:Tm) (dd:fN) (ys:c_ W)=>AB (xs=wr b::ys) (f ys dd) (AW dd) (Bk B C M b la lu lh p now pa un he R T) (MJ p R T pa) (sE T) (∀T',cC R T dd= .ok T' ->rO B C M b la lh p now pa he R T' q) (∀r,cC R T dd= .bad r ->e (uV r) M)
def QA (ys:c_ W)(dd:fN):Prop:= ∃c:Str,ys= [ws c] /\ dd= .found c
def IZ (ys:c_ W)(dd:fN):Prop:= ∃c:Str,ys= [ws c] /\ dd= .disband c
def L3 (ys:c_ W)(dd:fN):Prop:=cE λ(c n:Str)=>ys= [ws c,ws n] /\ dd= .enlist c n
def IY (ys:c_ W)(dd:fN):Prop:=cE λ(c n:Str)=>ys= [ws c,ws n] /\ dd= .dismiss c n
inductive i5 where
 | r (d:dP) | c (d:fN) | undo | redo | hold | ret (k:Int)
def yb:i5 ->Prop
 | .r _=>True | .c _=>True | _=>False
structure sF where
 R:Rm
 T:Tm
 past:List (Addr×Rm×Tm)
 KD:List (Addr×Rm×Tm)
 held:List (Addr×Rm×Tm)
def JG (C:iW)(M:Mp)(l:c_ (iW×Rm×Tm)):Prop:= ∀z∈l,Pg C M z.1 z.2.1 z.2.2
structure A7 (B C:Addr)(M:Mp)(b la lu lh:Addr)(p:Int)(now:Addr)(S:sF):Prop where
 bk:Bk B C M b la lu lh p now (S.past.map (·.1)) (S.KD.map (·.1)) (S.held.map (·.1)) S.R S.T
 pp:JG C M S.past
 pu:JG C M S.KD
 ph:JG C M S.held
theorem JG.sm {C:iW}{M M':Mp}{l:c_ (iW×Rm×Tm)}(h:JG C M l)(s:Sm M M'):JG C M' l:=λz hz=>(h z hz).sm s
theorem JG.snoc {C:iW}{M:Mp}{l:c_ (iW×Rm×Tm)}(h:JG C M l){z:iW×Rm×Tm}(hz:Pg C M z.1 z.2.1 z.2.2):JG C M (l++ [z]):=λy hy=>(bh.mp hy).elim (h y) λe=>by rw[bn.mp e];show hz
theorem A7.sm {B C b la lu lh now:iW}{M M':Mp}{p:Int}{S:sF}(h:A7 B C M b la lu lh p now S)(s:Sm M M'):A7 B C M' b la lu lh p now S:=#[h.bk.sm s,h.pp.sm s,h.pu.sm s,h.ph.sm s]
def QR (b la lu lh:iW)(M M':Mp):Prop:= ∀a o,M a=some o ->a≠b ->a≠la ->a≠lu ->a≠lh ->M' a=some o
def keep (s:sF)(now:iW):sF:= {s with past:=s.past++ [(now,s.R,s.T)],KD:= []}
noncomputable def A0 (p:Int) (R:Rm) (T:Tm):i5 ->Oc (Rm×Tm)
 | .r d=>match cw p R T d with
  | .ok R'=> .ok (R',T)
  | .bad f=> .bad f
 | .c d=>match cC R T d with
  | .ok T'=> .ok (R,T')
  | .bad f=> .bad f
 | _=> .bad .NoMore
noncomputable def oA (p:Int) (now:iW) (S:sF):i5 ->Oc (sF×W)
 | .undo=>match S.past.getLast? with
  | none=> .bad .NoMore
  | some z=> .ok (#[z.2.1,z.2.2,S.past.dropLast,S.KD++ [(now,S.R,S.T)],S.held],wn)
 | .redo=>match S.KD.getLast? with
  | none=> .bad .NoMore
  | some z=> .ok (#[z.2.1,z.2.2,S.past++ [(now,S.R,S.T)],S.KD.dropLast,S.held],wn)
 | .hold=> .ok ({S with held:=S.held++ [(now,S.R,S.T)]},wi S.held.length)
 | .ret k=>if 0<=k then match S.held[k.toNat]? with
   | none=> .bad .NoState
   | some z=> .ok (#[z.2.1,z.2.2,S.past++ [(now,S.R,S.T)],[],S.held],wn)
  else .bad .NoState
 | dd=>match A0 p S.R S.T dd with
  | .ok z=> .ok (#[z.1,z.2,S.past++ [(now,S.R,S.T)],[],S.held],wn)
  | .bad f=> .bad f
theorem kx {p:Int}{now:iW}{S:sF}{dd:i5}(h:yb dd):oA p now S dd=match A0 p S.R S.T dd with
  | .ok z=> .ok (#[z.1,z.2,S.past++ [(now,S.R,S.T)],[],S.held],wn)
  | .bad f=> .bad f:=by
 cases dd with
 | r d=>rfl
 | c d=>rfl
 | _=>cases h
def Cr (B C:iW)(M:Mp)(b la lu lh:iW)(p:Int)(S:sF)(q:WK)(v:W):Prop:= ∀M' eK oI,A7 B C M' b la eK lh p oI S ->QR b la lu lh M M' ->(eK=lu \/ M eK=none) ->q v M'
theorem JD {B C b la lu lh now:iW}{M:Mp}{p:Int}{S:sF}{R':Rm}{T':Tm}{q:WK}(hS:A7 B C M b la lu lh p now S)(k:Cr B C M b la lu lh p #[R',T',S.past++ [(now,S.R,S.T)],[],S.held] q wn):rO B C M b la lh p now (S.past.map (·.1)) (S.held.map (·.1)) R' T' q:=λM' eK pg B' F hu _=>by let⟨dx,hb⟩:=hS.bk.ob;have pm: ∀ {l},JG C M l ->JG C M' l:=λh z hz=>F.pg hb hS.bk.pa (h z hz);exact k M' eK pg #[?_,(pm hS.pp).snoc (F.pg hb hS.bk.pa hS.bk.pg),λz hz=>(by cases hz),pm hS.ph] (λa o h n1 n2 _ _=>F a o h n1 n2) (.inr hu);change Bk B C M' b la eK lh p pg ((S.past++ [(now,S.R,S.T)]).map (·.1)) [] (S.held.map (·.1)) R' T';rw[a6];show B'
def DA (M:Mp):i5 ->W ->Prop
 | .r d,w=>DV M d w
 | .c (.found c),w=>w= .tup [ws "found",ws c]
 | .c (.disband c),w=>w= .tup [ws "disband",ws c]
 | .c (.enlist c n),w=>w= .tup [ws "enlist",ws c,ws n]
 | .c (.dismiss c n),w=>w= .tup [ws "dismiss",ws c,ws n]
 | .undo,w=>w= .tup [ws "undo"]
 | .redo,w=>w= .tup [ws "redo"]
 | .hold,w=>w= .tup [ws "hold"]
 | .ret k,w=>w= .tup [ws "return",wi k]
def DA.sm {M M':Mp}{dd:i5}{w:W}(h:DA M dd w)(s:Sm M M'):DA M' dd w:=by
 cases dd with
 | r d=>show DV.sm h s
 | c d=>cases d<;>show h
 | _=>show h
def Vv:i5 ->Prop
 | .r d=>Ge d
 | .c d=>AW d
 | _=>True
structure nr (p:Int)(R:Rm)(T:Tm):Prop where
 r:pz p R
 t:sE T
 k: ∀z∈R,z.1.length<=100
 m: ∀z∈T, ∀n∈z.2,n.length<=100
structure FN (p:Int)(S:sF):Prop where
 p4:p=2 \/ p=3 \/ p=5 \/ p=7
 s:nr p S.R S.T
 pa:S.past.length<=900
 un:S.KD.length<=900
 he:S.held.length<=900
theorem FN.bk {p:Int}{S:sF}(h:FN p S):MJ p S.R S.T (S.past.map (·.1)):=#[h.p4,by rw[af];show h.pa,h.s.r,h.s.t.len]
def Tj (ok:i5 ->Prop)(B C:iW)(uV:Rf ->iW):gS:=λxs M q e=>RB λ(b la lu lh now:iW) (p:Int)=>eE λ(S:sF) (dd:i5) (w:W)=>AB (xs= [wr b,w]) (DA M dd w /\ ok dd) (L1 la w) (Vv dd) (A7 B C M b la lu lh p now S) (FN p S) (∀S' v,oA p now S dd= .ok (S',v) ->Cr B C M b la lu lh p S' q v) (∀r,oA p now S dd= .bad r ->e (uV r) M)
def Pm (ok:i5 ->Prop)(B C:iW):fG:=λxs M q=>RB λ(b la lu lh now:iW) (p:Int)=>eE λ(S:sF) (dd:i5) (w:W)=>AB (xs= [wr b,w]) (DA M dd w /\ ok dd) (L1 la w) (Vv dd) (A7 B C M b la lu lh p now S) (FN p S) (∀S' v,oA p now S dd= .ok (S',v) ->Cr B C M b la lu lh p S' (λv M'=>q (.tup [ws "",v]) M') v) (∀r,oA p now S dd= .bad r ->q (.tup [ws (CY r),wn]) M)
def nG (R:Rm)(l:c_ Str):fN ->Oc (c_ Str)
 | .dismiss _ n=>if qW n l=false then .bad .NoRound else .ok (l.filter λm=>decide (m≠n))
 | .enlist _ n=>match cx R n with
  | none=> .bad .NoRound
  | some a=>if qW n l=true then .bad .Taken else if 6<=l.length then .bad .TooMany else if gd a 8 24=true then .bad .TooFar else .ok (l++ [n])
 | _=> .bad .NoMore
def Mg:fN ->Str
 | .found c=>c | .disband c=>c | .enlist c _=>c | .dismiss c _=>c
def Io:fN ->Prop
 | .enlist _ _=>True | .dismiss _ _=>True | _=>False
theorem As {R:Rm}{T:Tm}{d:fN}(h:Io d){l:c_ Str}(hg:cx T (Mg d)=some l):cC R T d=match nG R l d with
  | .ok l'=> .ok (gO T (Mg d) l')
  | .bad f=> .bad f:=by
 cases d with
 | found c=>cases h
 | disband c=>cases h
 | enlist c n=>
  rw[cC,nG];replace hg:cx T c=some l:=hg;rw[hg];dsimp only;cases cx R n with
  | none=>rfl
  | some a=>dsimp only;by_cases h1:qW n l=true;rw[am h1,am h1];rw[ak h1,ak h1];by_cases h2:6<=l.length;rw[am h2,am h2];rw[ak h2,ak h2];by_cases h3:gd a 8 24=true;rw[am h3,am h3];rw[ak h3,ak h3];rfl
 | dismiss c n=>rw[cC,nG];replace hg:cx T c=some l:=hg;rw[hg];dsimp only;by_cases h1:qW n l=false;rw[am h1,am h1];rw[ak h1,ak h1];rfl
def NH:fG:=λxs M q=>sD λ(r t:iW) (R:Rm) (T:Tm) (d:fN)=>cE λ(w:W) (l:c_ Str)=>AB (xs= [.tup [wr r,wr t],w]) (M r=some (.dK (tQ R)) /\ M t=some (.dK (ny T))) (Io d /\ AW d) (DA M (.c d) w) (cx T (Mg d)=some l) (l.length<=100 /\ ∀z∈R,z.2.2.length<=1000) (∀l',nG R l d= .ok l' ->q (.tup [ws "",e_ l']) M) (∀f,nG R l d= .bad f ->q (.tup [ws (CY f), .tup []]) M)
def Tq:fG:=λxs M q=>RB λ(r t:iW) (R:Rm) (T:Tm) (d:fN) (w:W)=>AB (xs= [.tup [wr r,wr t],w]) (M r=some (.dK (tQ R)) /\ M t=some (.dK (ny T))) (AW d) (DA M (.c d) w) (sE T) (∀z∈R,z.2.2.length<=1000) (∀T',cC R T d= .ok T' -> ∀t' M',Sm M M' ->M' t'=some (.dK (ny T')) ->q (.tup [ws "", .tup [wr r,wr t']]) M') (∀f,cC R T d= .bad f ->q (.tup [ws (CY f), .tup [wr r,wr t]]) M)
def Tr:fG:=λxs M q=>W5 λ(p:Int) (r t:iW) (R:Rm) (T:Tm) (dd:i5) (w:W)=>AB (xs= [wi p, .tup [wr r,wr t],w]) (p=2 \/ p=3 \/ p=5 \/ p=7) (M r=some (.dK (tQ R)) /\ M t=some (.dK (ny T))) (nr p R T) (DA M dd w /\ yb dd) (Vv dd) (∀R' T',A0 p R T dd= .ok (R',T') ->(R.length<1000 ->T.length<900 ->nr p R' T') ->(R'.length<=R.length+1 /\ T'.length<=T.length+1) -> ∀r' t' M',Sm M M' ->M' r'=some (.dK (tQ R')) ->M' t'=some (.dK (ny T')) ->q (.tup [ws "", .tup [wr r',wr t']]) M') (∀f,A0 p R T dd= .bad f ->q (.tup [ws (CY f), .tup [wr r,wr t]]) M)
def yg {T:Tm}(h:sE T){c:Str}{l:c_ Str}(hg:cx T c=some l):l.length<=100:=by let⟨z,hz,_,rfl⟩:=dZ hg;show h.mem z hz
theorem sE.put {T:Tm}(h:sE T)(hl:T.length<900){c:Str}(hc:c.length<=100){l:c_ Str}(hm:l.length<=100):sE (gO T c l):=#[Hi h.nd,ar (mw _ _ _) hl,λz hz=>(oz hz).elim (h.key z) λe=>by rw[e];show hc,λz hz=>(oz hz).elim (h.mem z) λe=>by rw[e];show hm]
def Me {R:Rm}{T T':Tm}{d:fN}(hd:AW d)(h:sE T)(ho:cC R T d= .ok T'):(T.length<900 ->sE T') /\ T'.length<=T.length+1:=by
 cases d with
 | found c=>
  rw[cC] at ho;repeat' split at ho
  all_goals first
  | (cases ho;done)
  | (cases ho;show#[λhl=>h.put hl hd.len (by simp),mw _ _ _])
 | disband c=>rw[cC] at ho;split at ho;cases ho;cases ho;show#[λhl=>#[Jg h.nd,ar (sZ _ _) h.len,λz hz=>h.key z (pc hz),λz hz=>h.mem z (pc hz)],ar (sZ _ _) (by omega)]
 | enlist c n=>
  rw[cC] at ho;split at ho;cases ho;split at ho;cases ho;repeat' split at ho
  all_goals first
  | (cases ho;done)
  | (cases ho;show#[λhl=>h.put hl hd.1.len (by rw[aJ];simp;omega),mw _ _ _])
 | dismiss c n=>rw[cC] at ho;split at ho;cases ho;rename_i l hg;split at ho;cases ho;cases ho;show#[λhl=>h.put hl hd.1.len (ar (List.length_filter_le _ _) (yg h hg)),mw _ _ _]
def Mf {R:Rm}{T T':Tm}{d:fN}(hd:AW d)(h: ∀z∈T, ∀n∈z.2,n.length<=100)(ho:cC R T d= .ok T'): ∀z∈T', ∀n∈z.2,n.length<=100:=by
 have pt: ∀ {c:Str} {l:c_ Str},(∀n∈l,n.length<=100) -> ∀z∈gO T c l, ∀n∈z.2,n.length<=100:=λhl z hz=>(oz hz).elim (h z) λe=>by rw[e];show hl
 have gt: ∀ {c:Str} {l:c_ Str},cx T c=some l -> ∀n∈l,n.length<=100:=λhg=>by let⟨z,hz,_,rfl⟩:=dZ hg;show h z hz
 cases d with
 | found c=>
  rw[cC] at ho;repeat' split at ho
  all_goals first
  | (cases ho;done)
  | (cases ho;show pt (by simp))
 | disband c=>rw[cC] at ho;split at ho;cases ho;cases ho;show λz hz=>h z (pc hz)
 | enlist c n=>
  rw[cC] at ho;split at ho;cases ho;rename_i l hg;split at ho;cases ho;repeat' split at ho
  all_goals first
  | (cases ho;done)
  | (cases ho;show pt λy hy=>(bh.mp hy).elim (gt hg y) λe=>by rw[bn.mp e];show hd.2.len)
 | dismiss c n=>rw[cC] at ho;split at ho;cases ho;rename_i l hg;split at ho;cases ho;cases ho;show pt λy hy=>gt hg y (List.mem_filter.mp hy).1
def Md {R:Rm}{T:Tm}{d:fN}{r:Rf}(h:cC R T d= .bad r):r= .BadName \/ r= .NoRound \/ r= .NoCrew \/ r= .Taken \/ r= .TooMany \/ r= .TooFar:=by
 cases d<;>rw[cC] at h;all_goals
  repeat' split at h
  all_goals first
  | (cases h;done)
  | (cases h;simp;done)
def TH {p:Int}{now:iW}{S:sF}{dd:i5}{r:Rf}(uB:yb dd)(h:oA p now S dd= .bad r):r≠ .NoMore /\ r≠ .NoState:=by
 cases dd with
 | r d=>
  rw[kx uB,A0] at h;cases ho:cw p S.R S.T d with
  | ok R'=>rw[ho] at h;cases h
  | bad f=>rw[ho] at h;cases h;obtain rfl | rfl | rfl | rfl | rfl:=TB ho <;>show#[nofun,nofun]
 | c d=>
  rw[kx uB,A0] at h;cases ho:cC S.R S.T d with
  | ok R'=>rw[ho] at h;cases h
  | bad f=>rw[ho] at h;cases h;obtain rfl | rfl | rfl | rfl | rfl | rfl:=Md ho <;>show#[nofun,nofun]
 | _=>cases uB
def Pn:fG:=λxs M q=>gm λ(d l nl:iW) (ns:c_ Str)=>Ks (xs= [wr d,wr nl]) (Dr M d l) (M nl=some (.lst (ns.map ws))) (nl≠d) (2<=ns.length /\ ns.length<=100) (∀n∈ns,Nm n) (∀ (dd:fN) (w:W) (M':Mp),DA M' (.c dd) w ->AW dd ->Dr M' d l ->NB d M M' ->q w M')
def Pg.fs {C a d:iW}{M M':Mp}{R:Rm}{T:Tm}{x:c_ W}(h:Pg C M a R T)(F:Fs d M M')(hd:M d=some (.lst x)):Pg C M' a R T:=by let⟨mF,r,t,h6,h7,h8⟩:=h;have ni: ∀ {a:iW} {o:MO},M a=some o ->(∀l,o≠ .lst l) ->M' a=some o:=λ{a o} e n=>F a o e (λz=>by subst z;rw[e] at hd;cases hd;show n _ rfl);show#[mF,r,t,ni h6 (λ_ z=>nomatch z),ni h7 (λ_ z=>nomatch z),ni h8 (λ_ z=>nomatch z)]
structure Ap (x la lu lh:Addr):Prop where
 a:la≠x
 u:lu≠x
 h:lh≠x
theorem Ap.step {x la lu lh eK:iW}{M:Mp}{o:MO}(h:Ap x la lu lh)(hx:M x=some o)(hu:eK=lu \/ M eK=none):Ap x la eK lh:=#[h.a,(by obtain rfl | hu:=hu;show h.u;show(cg hx hu).symm),h.h]
theorem A7.fs {B C b la lu lh now d:iW}{M M':Mp}{p:Int}{S:sF}{x:c_ W}(h:A7 B C M b la lu lh p now S)(F:Fs d M M')(hd:M d=some (.lst x))(n:Ap d la lu lh):A7 B C M' b la lu lh p now S:=#[h.bk.fs F hd n.a n.u n.h,λz hz=>(h.pp z hz).fs F hd,λz hz=>(h.pu z hz).fs F hd,λz hz=>(h.ph z hz).fs F hd]
def QR.lst {B C b la lu lh now x:iW}{M M':Mp}{p:Int}{S:sF}{l:c_ W}(F:QR b la lu lh M M')(hB:A7 B C M b la lu lh p now S)(h:M x=some (.lst l))(n:Ap x la lu lh):M' x=some (.lst l):=by let⟨dx,hb⟩:=hB.bk.ob;show F _ _ h (λz=>by subst z;rw[hb] at h;cases h) n.a.symm n.u.symm n.h.symm
def QR.Kq {B C b la lu lh now x:iW}{M M':Mp}{p:Int}{S:sF}{l:c_ (cz×W)}(F:QR b la lu lh M M')(hB:A7 B C M b la lu lh p now S)(h:M x=some (.dK l)):M' x=some (.dK l):=by let⟨dx,hb⟩:=hB.bk.ob;show F _ _ h (λz=>by subst z;rw[hb] at h;cases h) (λz=>by subst z;rw[hB.bk.pa] at h;cases h) (λz=>by subst z;rw[hB.bk.un] at h;cases h) λz=>by subst z;rw[hB.bk.he] at h;cases h
def QR.dr {B C b la lu lh now d l:iW}{M M':Mp}{p:Int}{S:sF}(F:QR b la lu lh M M')(hB:A7 B C M b la lu lh p now S)(h:Dr M d l)(n1:Ap d la lu lh)(n2:Ap l la lu lh):Dr M' d l:=by let⟨ns,i,c,sd,h1,h2,h3,h4⟩:=h;show#[ns,i,c,sd,F.lst hB h1 n1,F.lst hB h2 n2,h3,h4]
def U6 {M:Mp}{d l:iW}(h:Dr M d l): ∃x,M l=some (.lst x):=by let⟨ns,i,c,sd,h1,h2,h3,h4⟩:=h;show#[_,h2]
def Ld (B C:iW)(p:Int)(d l nl b r t la lu lh now:iW)(ns:c_ Str)(S:sF)(M:Mp):Prop:=fi (A7 B C M b la lu lh p now S) (Dr M d l) (M nl=some (.lst (ns.map ws))) (M r=some (.dK (tQ S.R)) /\ M t=some (.dK (ny S.T)))
def Ld.sm {B C d l nl b r t la lu lh now:iW}{p:Int}{ns:c_ Str}{S:sF}{M M':Mp}(h:Ld B C p d l nl b r t la lu lh now ns S M)(s:Sm M M'):Ld B C p d l nl b r t la lu lh now ns S M':=by let⟨h1,h2,h3,h4,h5⟩:=h;show#[h1.sm s,Je h2 s,s _ _ h3,s _ _ h4,s _ _ h5]
def Ld.fs {B C d l nl b r t la lu lh now:iW}{p:Int}{ns:c_ Str}{S:sF}{M M':Mp}(h:Ld B C p d l nl b r t la lu lh now ns S M)(vA:nl≠d)(n:Ap d la lu lh)(D:Dr M' d l)(F:Fs d M M'):Ld B C p d l nl b r t la lu lh now ns S M':=by let⟨h1,h2,h3,h4,h5⟩:=h;let⟨x,hx⟩:=Ec h2;show#[h1.fs F hx n,D,F _ _ h3 vA,F.Kq hx h4,F.Kq hx h5]
def k_join_tell:decide (("join" :Str)= "tell")=false:=by decide+kernel
def k_back_tell:decide (("back" :Str)= "tell")=false:=by decide+kernel
def k_back_join:decide (("back" :Str)= "join")=false:=by decide+kernel
def k_times_tell:decide (("times" :Str)= "tell")=false:=by decide+kernel
def k_times_join:decide (("times" :Str)= "join")=false:=by decide+kernel
def k_times_back:decide (("times" :Str)= "back")=false:=by decide+kernel
def k_drop_tell:decide (("drop" :Str)= "tell")=false:=by decide+kernel
def k_drop_join:decide (("drop" :Str)= "join")=false:=by decide+kernel
def k_drop_back:decide (("drop" :Str)= "back")=false:=by decide+kernel
def k_drop_times:decide (("drop" :Str)= "times")=false:=by decide+kernel
def k_found_tell:decide (("found" :Str)= "tell")=false:=by decide+kernel
def k_found_join:decide (("found" :Str)= "join")=false:=by decide+kernel
def k_found_back:decide (("found" :Str)= "back")=false:=by decide+kernel
def k_found_times:decide (("found" :Str)= "times")=false:=by decide+kernel
def k_found_drop:decide (("found" :Str)= "drop")=false:=by decide+kernel
def k_disband_tell:decide (("disband" :Str)= "tell")=false:=by decide+kernel
def k_disband_join:decide (("disband" :Str)= "join")=false:=by decide+kernel
def k_disband_back:decide (("disband" :Str)= "back")=false:=by decide+kernel
def k_disband_times:decide (("disband" :Str)= "times")=false:=by decide+kernel
def k_disband_drop:decide (("disband" :Str)= "drop")=false:=by decide+kernel
def k_disband_found:decide (("disband" :Str)= "found")=false:=by decide+kernel
def k_enlist_tell:decide (("enlist" :Str)= "tell")=false:=by decide+kernel
def k_enlist_join:decide (("enlist" :Str)= "join")=false:=by decide+kernel
def k_enlist_back:decide (("enlist" :Str)= "back")=false:=by decide+kernel
def k_enlist_times:decide (("enlist" :Str)= "times")=false:=by decide+kernel
def k_enlist_drop:decide (("enlist" :Str)= "drop")=false:=by decide+kernel
def k_enlist_found:decide (("enlist" :Str)= "found")=false:=by decide+kernel
def k_enlist_disband:decide (("enlist" :Str)= "disband")=false:=by decide+kernel
def k_dismiss_tell:decide (("dismiss" :Str)= "tell")=false:=by decide+kernel
def k_dismiss_join:decide (("dismiss" :Str)= "join")=false:=by decide+kernel
def k_dismiss_back:decide (("dismiss" :Str)= "back")=false:=by decide+kernel
def k_dismiss_times:decide (("dismiss" :Str)= "times")=false:=by decide+kernel
def k_dismiss_drop:decide (("dismiss" :Str)= "drop")=false:=by decide+kernel
def k_dismiss_found:decide (("dismiss" :Str)= "found")=false:=by decide+kernel
def k_dismiss_disband:decide (("dismiss" :Str)= "disband")=false:=by decide+kernel
def k_dismiss_enlist:decide (("dismiss" :Str)= "enlist")=false:=by decide+kernel
def k_enlist_dismiss:decide (("enlist" :Str)= "dismiss")=false:=by decide+kernel
section
variable {i:Nat}{s k:Str}{l:c_ W}{a c7:WS}{D:f8}{ρ:dm}{M:Mp}
def at0 {q:WK}(hρ:ρ[i]? =some (some (.tup (ws k::l))))(h:q (wb (decide (k=s))) M):Ky Q3 (Ky Gx (ft i) (wC (W.v (V.int 0)))) (wC (W.v (V.str s))) ρ M q:=by
 unfold Ky ft wC;rw[hρ];exact#[_,0,_,rfl,rfl,Vf,_,_,rfl,rfl,rfl,?_];have e:decide (V.str k=V.str s)=decide (k=s):=by simp
 rw[e];show h
theorem kS (hρ:ρ[i]? =some (some (.tup (ws k::l))))(nK:decide (k=s)=false)(h:c7 D ρ M):EL (Q9 (yQ (Ky Q3 (Ky Gx (ft i) (wC (W.v (V.int 0)))) (wC (W.v (V.str s))))) a CW) c7 D ρ M:=at0 hρ #[false,by rw[nK],h]
theorem KJ (hρ:ρ[i]? =some (some (.tup (ws s::l))))(h:a {nx:=hold (c7 D),rt:=D.rt,bk:=D.bk,ct:=D.ct} ρ M):EL (Q9 (yQ (Ky Q3 (Ky Gx (ft i) (wC (W.v (V.int 0)))) (wC (W.v (V.str s))))) a CW) c7 D ρ M:=at0 hρ #[true,by rw[bL rfl],h]
end
def jj:dP ->c_ Str
 | .join _ x y=> [x,y] | .back _ x=> [x] | .times _ x _=> [x] | _=> []
def Rk:dP ->Prop
 | .join _ _ _=>True | .back _ _=>True | .times _ _ _=>True | _=>False
def dvn {M:Mp}{dd:dP}{w:W}(h:DV M dd w)(hn:Rk dd): ∃tail,w= .tup (ws (kdOf dd)::ws (gc dd):: .tup ((jj dd).map ws)::tail):=by cases dd<;>first | cases hn;done | (cases h;show#[_,rfl])
def kdn {dd:dP}(hn:Rk dd):cS (decide (kdOf dd= "drop")=false) (decide (kdOf dd= "tell")=false) (decide (kdOf dd≠ "tell")=true):=by
 have h: ∀k:Str,k= "join" \/ k= "back" \/ k= "times" ->cS (decide (k= "drop")=false) (decide (k= "tell")=false) (decide (k≠ "tell")=true):=by rintro k (rfl | rfl | rfl) <;>show#[by decide+kernel,by decide+kernel,by decide+kernel]
 cases dd<;>first | cases hn;done | show h _ (.inl rfl) | show h _ (.inr (.inl rfl)) | show h _ (.inr (.inr rfl))
def nmn {dd:dP}(hn:Rk dd)(h:Ge dd):Nm (gc dd):=by cases dd<;>first | cases hn;done | show h.1
def TD {p:Int}{R:Rm}{T:Tm}{dd:dP}(hn:Rk dd)(jc:ci (gc dd)=true)(h:((jj dd).all λx=>(cx R x).isSome)=false):cw p R T dd= .bad .NoRound:=by
 have zW:¬ci (gc dd)=false:=by rw[jc];decide
 cases dd with
 | join n x y=>
  replace zW:¬ci n=false:=zW;rw[cw,ak zW];simp![jj,List.all_cons,List.all_nil,Bool.and_true] at h;cases hx:cx R x with
  | none=>rfl
  | some a=>
   cases hy:cx R y with
   | none=>rfl
   | some b=>rw[hx,hy] at h;cases h
 | back n x=>
  replace zW:¬ci n=false:=zW;rw[cw,ak zW];simp![jj,List.all_cons,List.all_nil,Bool.and_true] at h;cases hx:cx R x with
  | none=>rfl
  | some a=>rw[hx] at h;cases h
 | times n x k=>
  replace zW:¬ci n=false:=zW;rw[cw,ak zW];simp![jj,List.all_cons,List.all_nil,Bool.and_true] at h;cases hx:cx R x with
  | none=>rfl
  | some a=>rw[hx] at h;cases h
 | _=>cases hn
def KC {p:Int}{R:Rm}{dd:dP}(hn:Rk dd)(h:((jj dd).all λx=>(cx R x).isSome)=true):(iR p R dd).isSome=true:=by
 cases dd with
 | join n x y=>simp![jj,List.all_cons,List.all_nil,Bool.and_true,cB] at h;let⟨a,ha⟩:=Option.isSome_iff_exists.mp h.1;let⟨b,hb⟩:=Option.isSome_iff_exists.mp h.2;rw[iR,ha,hb];rfl
 | back n x=>simp![jj,List.all_cons,List.all_nil,Bool.and_true] at h;rw[iR,b0];show h
 | times n x k=>simp![jj,List.all_cons,List.all_nil,Bool.and_true] at h;rw[iR,b0];show h
 | _=>cases hn
def Ot (dd:dP):(jj dd).length<=2:=by cases dd<;>simp[jj]
end WQ
namespace L2
open PySem
theorem HL {X:Cx}{K:Uc}(h:X.K=K):Gj X "str.join" (oy K):=h▸jU
theorem O9 {X:Cx}{K:Uc}{T id:String}{name:Str}{r:V ->c_ V ->Hp ->VK ->Prop}{o e:Expr}{es:c_ Expr}{to:TE}{t:TA}{dL dn:Pos}(hK:X.K=K)(pa:PlainAttrs T)(slot:Slot T name id)(Um:typeOf (.builtin id)=pure (.type "method_descriptor"))(hm:Gj X id r)(ho:PE X o to)(ha:PA X (e::es) t) (uF:attributeBase o name X.env (eval o X.env)=eval o X.env:=by rfl) (Qr:((backTo dn (starEach (e::es) X.env)).all (λx=> !x.1) && (backToKw dn (keywordEach [] X.env)).all (λx=>x.1.isSome) && decide ((e::es).length+([]:c_ Keyword).length+(if([]:c_ Keyword).isEmpty then 0 else 1) <30))=true:=by rfl) (uE:(dL.endLine==dn.line)=true:=by rfl) (hs:starEach (e::es) X.env=(false,eval e X.env)::starEach es X.env:=by rfl) (BP:(backTo dn (starEach es X.env)).any (·.1)=false:=by rfl): PE X (.Call (.Attribute o name dL) (e::es) [] dn) (V8 K T r to t):=hK▸e7 pa slot Um hm ho ha uF Qr uE hs BP
end L2
namespace WQ
open PySem L2 WL WP
noncomputable def OV (l:c_ Str):c_ Str:=Classical.epsilon λns:c_ Str=>ns.Perm l /\ ns.Pairwise λx y=>¬y.cps.toList<x.cps.toList
def xt {l ns:c_ Str}(h1:ns.Perm l)(h2:ns.Pairwise λx y=>¬y.cps.toList<x.cps.toList):ns=OV l:=by have:=Classical.epsilon_spec (p:=λns:c_ Str=>ns.Perm l /\ ns.Pairwise λx y=>¬y.cps.toList<x.cps.toList) #[ns,h1,h2];show tL h1 this.1 h2 this.2
def g0 (R:Rm)(n:Str):Str:=match cx R n with
 | some a=> "round " ++n++ " " ++jN a
 | none=> ""
def pQ (T:Tm)(c:Str):Str:=match cx T c with
 | some l=>Builtin.Str.glued " " ("crew" ::c::l)
 | none=> ""
noncomputable def uX (p:Int) (R:Rm) (T:Tm):Str:=Builtin.Str.glued "\n" (("settings " ++Str.ofString (toString p))::((OV (R.map (·.1))).map (g0 R)++(OV (T.map (·.1))).map (pQ T)))
def we (B C:iW):fG:=λxs M q=>sD λ(b la lu lh now:iW)=>gm λ(p:Int) (pa un he:c_ iW)=>cE λ(R:Rm) (T:Tm)=>kQ (xs= [wr b]) (Bk B C M b la lu lh p now pa un he R T) (p=2 \/ p=3 \/ p=5 \/ p=7) (nr p R T) (R.length<=100 /\ T.length<=100) (q (ws (uX p R T)) M)
def tU:fG:=λxs M q=>sD λ(p:Int) (r t:iW) (R:Rm) (T:Tm)=>kQ (xs= [wi p, .tup [wr r,wr t]]) (M r=some (.dK (tQ R)) /\ M t=some (.dK (ny T))) (p=2 \/ p=3 \/ p=5 \/ p=7) (nr p R T) (R.length<=100 /\ T.length<=100) (q (ws (uX p R T)) M)
def xY {p:Int}{a:Rd}(hp:p<1000)(h:dR p a.2)(hf:gd a 200 200=false):QP a:=by
 unfold gd at hf;rw[Bool.not_eq_false',cB,List.all_eq_true] at hf;have h1:=bg hf.1;exact#[?_,λz hz=> ?_];split at h1<;>(have:a.1.natAbs<=200:=by omega) <;>omega;have h2:=bg (hf.2 z hz);have h3:=h.1 z hz;have:z.1.natAbs<=200:=by split at h2<;>omega
 have:z.2.natAbs<=1000:=by omega
 omega
def pN {a:Rd}(h:QP a)(hl:a.2.length<=401):(jN a).length<=50000:=by
 unfold jN;rw[bB,bB];have l1:=fk h.1;have lc:(Str.ofString ":").length=1:=by decide+kernel
 have l0:(Str.ofString "").length=0:=by decide+kernel
 have lb:(Str.ofString " ").length=1:=by decide+kernel
 have d4: ∀x∈a.2.map (λz=>Str.ofString " " ++fK z),x.length<=124:=λx hx=>by let⟨z,Gg,rfl⟩:=b8.mp hx;have:=uk (h.2 z Gg);rw[bB];omega
 have:=fZ (Str.ofString "") _ d4;rw[af,l0] at this;omega
def Ha {p:Int}{R:Rm}(hp:p<1000)(h:pz p R){n:Str}(hn:n.length<=100):(g0 R n).length<=51000:=by
 unfold g0;split;rename_i a hg;let⟨z,hz,_,rfl⟩:=dZ hg;have:=pN (xY hp (h.ok z hz).1 (h.ok z hz).2.2) (h.ok z hz).2.1;have l1:(Str.ofString "round ").length=6:=by decide+kernel
 have l2:(Str.ofString " ").length=1:=by decide+kernel
 rw[bB,bB,bB];omega;have:(Str.ofString "").length=0:=by decide+kernel
 omega
theorem xB {T:Tm}(hm: ∀z∈T, ∀n∈z.2,n.length<=100){c:Str}(hc:c.length<=100){l:c_ Str}(hg:cx T c=some l): ∀x∈(Str.ofString "crew" ::c::l),x.length<=100:=λx hx=>by let⟨z,hz,_,rfl⟩:=dZ hg;obtain rfl | hx:=aP.mp hx;decide+kernel;obtain rfl | hx:=aP.mp hx;show hc;show hm z hz x hx
def Hb {T:Tm}(h:sE T)(hm: ∀z∈T, ∀n∈z.2,n.length<=100){c:Str}(hc:c.length<=100):(pQ T c).length<=51000:=by
 unfold pQ;split;rename_i l hg;have h1:=fZ (Str.ofString " ") _ (xB hm hc hg);have l2:(Str.ofString " ").length=1:=by decide+kernel
 have:=yg h hg;rw[az,az,l2] at h1;omega;have:(Str.ofString "").length=0:=by decide+kernel
 omega
theorem j6 {n:Nat}(h:n<=16000000):n<=sizeLine:=ar h (by rw[c9];decide)
def w5 {p:Int}{R:Rm}{T:Tm}{ns cs:c_ Str}{M:Mp}{q:WK}{b:iW}(hp:p=2 \/ p=3 \/ p=5 \/ p=7)(hS:nr p R T)(hl:R.length<=100 /\ T.length<=100)(n1:ns.Perm (R.map (·.1)))(n2:ns.Pairwise λx y=>¬y.cps.toList<x.cps.toList)(c1:cs.Perm (T.map (·.1)))(c2:cs.Pairwise λx y=>¬y.cps.toList<x.cps.toList) (hb:M b=some (.lst ((ws ("settings " ++Str.ofString (toString p)))::(ns.map (λn=>ws (g0 R n))++cs.map λc=>ws (pQ T c))))) (k:q (ws (uX p R T)) M):Gw (ws "\n") [wr b] M q:=by
 have l1:(Str.ofString "\n").length=1:=by decide+kernel
 have en:=n1.length_eq;have ec:=c1.length_eq;rw[af] at en ec;exact qc (ss:=("settings " ++Str.ofString (toString p))::(ns.map (g0 R)++cs.map (pQ T))) (c:=51000) (by rw[hb,aH,a6,aU,aU];rfl) (λx hx=> ?_) ?_ ?_;obtain rfl | hx:=aP.mp hx;have:=fk (i:=p) (by omega);have l2:(Str.ofString "settings ").length=9:=by decide+kernel
 rw[bB];omega;obtain hx | hx:=bh.mp hx;let⟨n,hn,rfl⟩:=b8.mp hx;let⟨z,hz,rfl⟩:=b8.mp (n1.mem_iff.mp hn);show Ha (by omega) hS.r (hS.k z hz);let⟨n,hn,rfl⟩:=b8.mp hx;let⟨z,hz,rfl⟩:=b8.mp (c1.mem_iff.mp hn);show Hb hS.t hS.m (hS.t.key z hz);exact j6 ?_;rw[az,aJ,af,af,l1];omega;rw[xt n1 n2,xt c1 c2];show k
def FF {p:Int}:uX p [] []= "settings " ++Str.ofString (toString p):=by unfold uX;rw[<- xt (l:=List.map (λx=>x.1) ([]:Rm)) (ns:= []) (List.Perm.refl _) List.Pairwise.nil, <- xt (l:=List.map (λx=>x.1) ([]:Tm)) (ns:= []) (List.Perm.refl _) List.Pairwise.nil];exact n6 ?_;rw[List.map_nil,List.map_nil,c8,jD];simp
end WQ
set_option synthInstance.maxSize 100000
set_option synthInstance.maxHeartbeats 0
open PySem L2 WL WP WQ PyProof.Rows
local macro_rules | `(tactic| simp? [$xs,*]) => do let a <- ("YK ae' Yr afi YW YX afH Yj X4 YQ YO Xq Xp Xo Xn Xm Xl Xk Xj Xi Xh VJ VI VH VG VF VE VD VC VB VA Vz Vy Vx Vw afQ afq afn afP afv afO afy afs afx afr VM XU afp Xu V0 Xt VQ Sa Xv VW Xr Xx XD XB QZ YZ VP afo afz VZ Xz Xy XX Q1 Q0 Ov XE afA XR Q5 Q2 XO VU VV XN Q4 R8 V_ Wb Yd afB Yg Yf SX Ye V2 X1 V3 XZ X0 VO Ww YT Ys Wv VX Xg R9 V1 VN X9 XQ XJ XI afu aft YV Yb Ya VY XM Wa Y0 SY YU XC Xs XG QY VS RZ Wx Wu afw RT VR Sc RO VL R0 R_ R1 afa".splitOn " ").toArray.mapM λs => `(Lean.Parser.Tactic.simpLemma| ↓ $(Lean.mkIdent s.toName):term); let b <- ("NU LG NT Kc LF LI Ke LH Ia Kd NS LB NR J_ LA Fa DF E_ BM DE J9 HZ J8 Gf HY LD Kb LC H_ Ka sl1 No sl3 sl4 sl5 sl0 List.map_cons List.map_nil List.length_cons List.length_nil Nat.zero_add List.cons_append List.nil_append List.set_cons_zero List.set_cons_succ ao j_ Vf afM afL afK afF afE afD Bool.not_true Bool.not_false List.getElem?_cons_zero List.getElem?_cons_succ Option.join_some and_self and_true true_and Option.getD_some Option.getD_none V4 nQ".splitOn " ").toArray.mapM λs => `(Lean.Parser.Tactic.simpLemma| $(Lean.mkIdent s.toName):term); `(tactic| try simp only [$a,*, $b,*, Nat.reduceAdd, Nat.reduceSub, List.reduceReplicate, $xs,*])
local macro_rules | `(tactic| dsimp? [$xs,*]) => `(tactic| (simp? [↓cI, $xs,*]; repeat (with_reducible refine fg ?_; simp? [↓cI, $xs,*])))
local macro_rules | `(tactic| trivial) => `(tactic| first | exact Or.inl rfl | exact Or.inr rfl)
local macro_rules | `(tactic| right) => `(tactic| decide +kernel)
local macro_rules | `(tactic| left) => `(tactic| (intro _ _ _ h; (repeat (cases h; rename_i h)); subst_vars; rfl))
set_option hygiene false
local macro_rules | `(tactic| exists $a, $n, $c) => `(tactic| (have nd : List.Nodup ($n : List Str) := (by decide +kernel); refine Yt (N := $n) $a ⟨rfl, rfl, rfl, nd, rfl, by decide +kernel, by decide +kernel⟩ (by left) λcdv A' outer s H E hr => ?_; refine ⟨_, $c, ?_⟩; (try dsimp only [eL]); refine ⟨_, inferInstance, ?_⟩))
set_option hygiene true
namespace eN
open PySem L2 WL WP WQ PyProof.Rows
nonrec def top (i:Nat):Stmt:=PySem.Challenge.pw_duskround_k52_books_written.main.body.getD i (.Pass #[0,0,0,0])
nonrec abbrev Bj:Stmt:=top 15
nonrec abbrev CV:Stmt:=top 16
nonrec abbrev xy:Stmt:=top 17
nonrec abbrev xx:Stmt:=top 18
nonrec abbrev Bl:Stmt:=top 21
nonrec abbrev zi:Stmt:=top 22
nonrec abbrev tP:Stmt:=top 23
nonrec abbrev ik:Stmt:=top 24
nonrec abbrev i7:Stmt:=top 25
nonrec abbrev qJ:Stmt:=top 53
nonrec abbrev jO:Stmt:=top 64
nonrec abbrev oh:Stmt:=top 65
nonrec abbrev vZ:Stmt:=top 66
nonrec abbrev G7:Stmt:=eO (top 67) 0
nonrec abbrev G8:Stmt:=eO (top 68) 0
nonrec abbrev kj:Stmt:=eO (top 68) 1
nonrec abbrev ll:Stmt:=eO (top 68) 2
nonrec abbrev nA:Stmt:=eO (top 68) 3
nonrec abbrev kl:Stmt:=eO (top 68) 4
nonrec abbrev km:Stmt:=eO (top 68) 5
nonrec abbrev ln:Stmt:=eO (top 68) 6
nonrec abbrev lm:Stmt:=eO (top 68) 7
nonrec abbrev io:Stmt:=eO (top 68) 8
nonrec abbrev iu:Stmt:=eO (top 68) 9
nonrec abbrev gM:Stmt:=eO (top 68) 10
nonrec abbrev lp:Stmt:=eO (top 68) 11
nonrec abbrev jP:Stmt:=eO (top 68) 12
nonrec abbrev iq:Stmt:=eO (top 68) 13
nonrec abbrev i8:Stmt:=eO (top 68) 14
nonrec abbrev ip:Stmt:=eO (top 68) 15
nonrec abbrev qL:Stmt:=eO (top 68) 16
nonrec abbrev qM:Stmt:=eO (top 68) 17
nonrec abbrev qO:Stmt:=eO (top 68) 18
nonrec abbrev jt:Stmt:=eO (top 68) 19
nonrec abbrev ol:Stmt:=eO (top 68) 21
nonrec abbrev om:Stmt:=eO (top 68) 22
nonrec abbrev gN:Stmt:=eO (top 68) 23
nonrec abbrev im:Stmt:=eO (top 68) 24
nonrec abbrev CP:Stmt:=top 70
nonrec abbrev qK:Stmt:=top 71
nonrec abbrev pO:Stmt:=top 73
nonrec abbrev zd:Stmt:=top 74
nonrec abbrev Np:Stmt:=top 75
nonrec abbrev v_:Stmt:=top 76
nonrec abbrev zc:Stmt:=top 77
nonrec abbrev CQ:Stmt:=top 78
nonrec abbrev ze:Stmt:=top 79
nonrec abbrev zh:Stmt:=top 80
nonrec abbrev v7:Stmt:=top 81
nonrec abbrev qI:Stmt:=top 82
nonrec abbrev CT:Stmt:=top 83
nonrec abbrev zb:Stmt:=top 84
nonrec abbrev v6:Stmt:=top 85
nonrec abbrev mT:Stmt:=top 86
nonrec abbrev li:Stmt:=top 87
nonrec abbrev oj:Stmt:=top 88
nonrec abbrev CU:Stmt:=top 89
nonrec abbrev xz:Stmt:=top 90
nonrec abbrev zg:Stmt:=top 91
nonrec abbrev lj:Stmt:=top 92
nonrec abbrev tN:Stmt:=top 93
nonrec abbrev lf:Stmt:=top 94
nonrec abbrev mU:Stmt:=top 95
nonrec abbrev qH:Stmt:=top 96
nonrec abbrev zf:Stmt:=top 97
nonrec abbrev CS:Stmt:=top 98
nonrec abbrev lg:Stmt:=top 99
nonrec abbrev oi:Stmt:=top 100
nonrec abbrev tO:Stmt:=top 101
nonrec abbrev v8:Stmt:=top 102
nonrec abbrev mV:Stmt:=top 103
nonrec abbrev G6:Stmt:=top 104
set_option genInjectivity false in
set_option genSizeOf false in
structure Xd where
 IQ:Addr
 Ji:FuncData
 D_:Addr
 Ep:FuncData
 DT:Addr
 Ej:FuncData
 DQ:Addr
 Eh:FuncData
 IV:Addr
 Jj:FuncData
 Ac:Addr
 Ao:FuncData
 uJ:Addr
 uP:FuncData
 iB:Addr
 iC:FuncData
 m8:Addr
 nj:FuncData
 rb:Addr
 rA:FuncData
 oX:Addr
 pi:FuncData
 oU:Addr
 pd:FuncData
 wH:Addr
 wP:FuncData
 IW:Addr
 Jk:FuncData
 IX:Addr
 Jl:FuncData
 kC:Addr
 kJ:FuncData
 lL:Addr
 lX:FuncData
 uK:Addr
 uQ:FuncData
 kG:Addr
 kL:FuncData
 kH:Addr
 kM:FuncData
 rg:Addr
 rE:FuncData
 rf:Addr
 rD:FuncData
 lN:Addr
 lZ:FuncData
 lQ:Addr
 md:FuncData
 kB:Addr
 kI:FuncData
 rm:Addr
 rH:FuncData
 oZ:Addr
 pk:FuncData
 lP:Addr
 l_:FuncData
 nh:Addr
 nq:FuncData
 lO:Addr
 l7:FuncData
 re:Addr
 rC:FuncData
 rh:Addr
 rF:FuncData
 rj:Addr
 rG:FuncData
 jF:Addr
 jH:FuncData
 oY:Addr
 pj:FuncData
 o0:Addr
 pq:FuncData
 kF:Addr
 kK:FuncData
 lM:Addr
 lY:FuncData
 DS:Addr
 Ei:FuncData
 rc:Addr
 rB:FuncData
 wN:Addr
 wV:FuncData
 z7:Addr
 Aj:FuncData
 Oe:Addr
 Oh:FuncData
 wM:Addr
 wT:FuncData
 z6:Addr
 Ai:FuncData
 DU:Addr
 Ek:FuncData
 z8:Addr
 Ak:FuncData
 Ab:Addr
 An:FuncData
 wK:Addr
 wR:FuncData
 ra:Addr
 rq:FuncData
 DY:Addr
 En:FuncData
 z4:Addr
 Ah:FuncData
 wJ:Addr
 wQ:FuncData
 m_:Addr
 nk:FuncData
 lJ:Addr
 lV:FuncData
 oW:Addr
 pf:FuncData
 DZ:Addr
 Eo:FuncData
 DW:Addr
 El:FuncData
 Aa:Addr
 Am:FuncData
 lK:Addr
 lW:FuncData
 uH:Addr
 uN:FuncData
 lH:Addr
 lT:FuncData
 nc:Addr
 nn:FuncData
 q_:Addr
 rn:FuncData
 z_:Addr
 Al:FuncData
 DX:Addr
 Em:FuncData
 lI:Addr
 lU:FuncData
 oV:Addr
 pe:FuncData
 uI:Addr
 uO:FuncData
 wL:Addr
 wS:FuncData
 ng:Addr
 no:FuncData
 Od:Addr
 Og:FuncData
 eD:Addr
 gz:Addr
 eR:Addr
 fh:Addr
 uW:Addr
 eC:Addr
 qx:Addr
 gy:Addr
 dY:Addr
 eU:Addr
 bx:Addr
 a4:Addr
structure fj (K:PySem.W.Frag)(mg:Str ->Option Value)(A:Xd):Prop where
 rL:mg "abs" =none
 xg:mg "all" =none
 Ol:mg "any" =none
 QL:mg "bool" =none
 yq:mg "dict" =none
 U':mg "int" =none
 dD:mg "isinstance" =none
 mf:mg "len" =none
 gR:mg "list" =none
 i0:mg "range" =none
 gH:mg "sorted" =none
 u4:mg "str" =none
 iZ:mg "tuple" =none
 tidy:gL K mg "tidy" ["p","pairs"] Bj A.IQ A.Ji
 added:gL K mg "added" ["p","one","other"] CV A.D_ A.Ep
 moved:gL K mg "moved" ["pattern","by"] xy A.DT A.Ej
 timed:gL K mg "timed" ["p","pattern","n"] xx A.DQ A.Eh
 gone:gL K mg "gone" ["p","deeds"] Bl A.IV A.Jj
 joined:gL K mg "joined" ["p","one","other"] zi A.Ac A.Ao
 backward:gL K mg "backward" ["p","one"] tP A.uJ A.uP
 repeated:gL K mg "repeated" ["p","one","n"] ik A.iB A.iC
 lies_within:gL K mg "lies_within" ["one","farthest_end","farthest_place"] i7 A.m8 A.nj
 fits_crew:gL K mg "fits_crew" ["one"] qJ A.rb A.rA
 check_name:gL K mg "check_name" ["name"] jO A.oX A.pi
 with_thing:gL K mg "with_thing" ["things","name","thing"] oh A.oU A.pd
 without:gL K mg "without" ["things","name"] vZ A.wH A.wP
 Page:RE K mg "Page" "Page.__init__" ["self","rounds","teams"] G7 A.bx A.IW A.Jk
 Book:RE K mg "Book" "Book.__init__" ["self","p"] G8 A.a4 A.IX A.Jl
 nv:pA K "settings" "Book.settings" ["self"] kj A.a4 A.kC A.kJ
 f9:pA K "turn_to" "Book.turn_to" ["self","page"] ll A.a4 A.lL A.lX
 ml:pA K "put" "Book.put" ["self","name","one"] nA A.a4 A.uK A.uQ
 gA:pA K "put_team" "Book.put_team" ["self","crew","team"] kl A.a4 A.kG A.kL
 jh:pA K "enlisted" "Book.enlisted" ["self","name"] km A.a4 A.kH A.kM
 jK:pA K "team" "Book.team" ["self","crew"] ln A.a4 A.rg A.rE
 xi:pA K "tell" "Book.tell" ["self","name","deeds"] lm A.a4 A.rf A.rD
 pC:pA K "join_as" "Book.join_as" ["self","name","one","other"] io A.a4 A.lN A.lZ
 pF:pA K "back_as" "Book.back_as" ["self","name","one"] iu A.a4 A.lQ A.md
 nu:pA K "times_as" "Book.times_as" ["self","name","one","n"] gM A.a4 A.kB A.kI
 xj:pA K "drop" "Book.drop" ["self","name"] lp A.a4 A.rm A.rH
 vk:pA K "found" "Book.found" ["self","crew"] jP A.a4 A.oZ A.pk
 pE:pA K "disband" "Book.disband" ["self","crew"] iq A.a4 A.lP A.l_
 rN:pA K "enlist" "Book.enlist" ["self","crew","name"] i8 A.a4 A.nh A.nq
 pD:pA K "dismiss" "Book.dismiss" ["self","crew","name"] ip A.a4 A.lO A.l7
 Gb:pA K "undo" "Book.undo" ["self"] qL A.a4 A.re A.rC
 Gc:pA K "redo" "Book.redo" ["self"] qM A.a4 A.rh A.rF
 Gd:pA K "hold" "Book.hold" ["self"] qO A.a4 A.rj A.rG
 vj:pA K "return_to" "Book.return_to" ["self","k"] jt A.a4 A.jF A.jH
 nT:pA K "names" "Book.names" ["self"] ol A.a4 A.oY A.pj
 nU:pA K "crews" "Book.crews" ["self"] om A.a4 A.o0 A.pq
 dG:pA K "round_of" "Book.round_of" ["self","name"] gN A.a4 A.kF A.kK
 j9:pA K "members" "Book.members" ["self","crew"] im A.a4 A.lM A.lY
 shown:gL K mg "shown" ["one"] CP A.DS A.Ei
 book_text:gL K mg "book_text" ["book"] qK A.rc A.rB
 Dy:gL K mg "_law_begin" ["_law_script"] pO A.wN A.wV
 dc:gL K mg "_law_take" ["_law_draw","_law_many"] zd A.z7 A.Aj
 l_p:gL K mg "_law_p" ["_law_draw"] Np A.Oe A.Oh
 Dv:gL K mg "_law_names" ["_law_draw","_law_many"] v_ A.wM A.wT
 x_:gL K mg "_law_tidy" ["_law_p_here","_law_pairs"] zc A.z6 A.Ai
 Ds:gL K mg "_law_sum" ["_law_p_here","_law_one","_law_other","_law_by","_law_many"] CQ A.DU A.Ek
 HR:gL K mg "_law_join" ["_law_p_here","_law_one","_law_other"] ze A.z8 A.Ak
 HV:gL K mg "_law_back" ["_law_p_here","_law_one"] zh A.Ab A.An
 Dq:gL K mg "_law_times" ["_law_p_here","_law_one","_law_n"] v7 A.wK A.wR
 p_:gL K mg "_law_is_name" ["_law_name"] qI A.ra A.rq
 Dx:gL K mg "_law_far" ["_law_one","_law_most","_law_reach"] CT A.DY A.En
 HQ:gL K mg "_law_walk" ["_law_p_here","_law_deeds"] zb A.z4 A.Ah
 Dp:gL K mg "_law_value" ["_law_p_here","_law_rounds","_law_deed"] v6 A.wJ A.wQ
 qT:gL K mg "_law_due_round" ["_law_p_here","_law_stand","_law_deed"] mT A.m_ A.nk
 oN:gL K mg "_law_due_member" ["_law_stand","_law_deed"] li A.lJ A.lV
 uo:gL K mg "_law_due_crew" ["_law_stand","_law_deed"] oj A.oW A.pf
 HU:gL K mg "_law_due" ["_law_p_here","_law_stand","_law_deed"] CU A.DZ A.Eo
 NO:gL K mg "_law_run" ["_law_book","_law_deed"] xz A.DW A.El
 BK:gL K mg "_law_call" ["_law_book","_law_deed"] zg A.Aa A.Am
 jV:gL K mg "_law_draw_deeds" ["_law_draw"] lj A.lK A.lW
 jA:gL K mg "_law_target" ["_law_draw","_law_names_here"] tN A.uH A.uN
 oK:gL K mg "_law_round_deed" ["_law_draw","_law_names_here"] lf A.lH A.lT
 qU:gL K mg "_law_crew_deed" ["_law_draw","_law_names_here"] mU A.nc A.nn
 wv:gL K mg "_law_planned" ["_law_draw","_law_k","_law_names_here"] qH A.q_ A.rn
 HS:gL K mg "_law_grow" ["_law_draw","_law_p_here","_law_book","_law_names_here"] zf A.z_ A.Al
 Dw:gL K mg "_law_int" ["_law_thing"] CS A.DX A.Em
 oM:gL K mg "_law_is_pattern" ["_law_p_here","_law_thing"] lg A.lI A.lU
 ul:gL K mg "_law_is_round" ["_law_p_here","_law_thing"] oi A.oV A.pe
 zM:gL K mg "_law_stands" ["_law_p_here","_law_book","_law_stand"] tO A.uI A.uO
 Du:gL K mg "_law_shown" ["_law_one"] v8 A.wL A.wS
 lC:gL K mg "_law_book_text" ["_law_p_here","_law_stand"] mV A.ng A.no
 law:gL K mg "law" ["_law_script"] G6 A.Od A.Og
 n_Book_held:eZ K A.a4 "held"
 n_Book_now:eZ K A.a4 "now"
 n_Book_p:eZ K A.a4 "p"
 n_Book_past:eZ K A.a4 "past"
 n_Book_undone:eZ K A.a4 "undone"
 n_Page_rounds:eZ K A.bx "rounds"
 n_Page_teams:eZ K A.bx "teams"
 nw: ∃t,mg "FARTHEST" =some (.int 200 t)
 tD: ∃t,mg "FARTHEST_END" =some (.int 8 t)
 pK: ∃t,mg "FARTHEST_PLACE" =some (.int 24 t)
 kY: ∃t,mg "LONGEST_NAME" =some (.int 12 t)
 kX: ∃t,mg "MOST_MEMBERS" =some (.int 6 t)
 EA: ∃t,mg "LETTERS" =some (.str "abcdefghijklmnopqrstuvwxyz" t)
 GN:QN K mg "COUNTS" [2,3,5,7]
 Ri:mg "BadName" =some (.ref A.eD)
 Ws:mg "InUse" =some (.ref A.gz)
 TY:mg "NoCrew" =some (.ref A.eR)
 TX:mg "NoDeed" =some (.ref A.fh)
 TW:mg "NoMore" =some (.ref A.uW)
 Rh:mg "NoRound" =some (.ref A.eC)
 Rg:mg "NoState" =some (.ref A.qx)
 Wr:mg "Taken" =some (.ref A.gy)
 TV:mg "TooFar" =some (.ref A.dY)
 Rc:mg "TooMany" =some (.ref A.eU)
 vQ:pB K "BadName" A.eD
 Ct:pB K "InUse" A.gz
 yM:pB K "NoCrew" A.eR
 yL:pB K "NoDeed" A.fh
 Gm:pB K "NoMore" A.uW
 pH:pB K "NoRound" A.eC
 Ey:pB K "NoState" A.qx
 xk:pB K "Taken" A.gy
 nV:pB K "TooFar" A.dY
 vP:pB K "TooMany" A.eU
 sw:PySem.W.kitOne K (.ref A.gz) (.ref A.eD)=some false
 uA:PySem.W.kitOne K (.ref A.gz) (.ref A.eR)=some false
 uz:PySem.W.kitOne K (.ref A.gz) (.ref A.fh)=some false
 sv:PySem.W.kitOne K (.ref A.gz) (.ref A.eC)=some false
 vC:PySem.W.kitOne K (.ref A.gz) (.ref A.gy)=some false
 qm:PySem.W.kitOne K (.ref A.eR) (.ref A.eD)=some false
 su:PySem.W.kitOne K (.ref A.eR) (.ref A.fh)=some false
 qk:PySem.W.kitOne K (.ref A.eR) (.ref A.eC)=some false
 qj:PySem.W.kitOne K (.ref A.fh) (.ref A.eD)=some false
 oR:PySem.W.kitOne K (.ref A.eC) (.ref A.eD)=some false
 qi:PySem.W.kitOne K (.ref A.eC) (.ref A.fh)=some false
 sr:PySem.W.kitOne K (.ref A.gy) (.ref A.eD)=some false
 uy:PySem.W.kitOne K (.ref A.gy) (.ref A.eR)=some false
 ux:PySem.W.kitOne K (.ref A.gy) (.ref A.fh)=some false
 sq:PySem.W.kitOne K (.ref A.gy) (.ref A.eC)=some false
 qh:PySem.W.kitOne K (.ref A.dY) (.ref A.eD)=some false
 uw:PySem.W.kitOne K (.ref A.dY) (.ref A.gz)=some false
 sk:PySem.W.kitOne K (.ref A.dY) (.ref A.eR)=some false
 sj:PySem.W.kitOne K (.ref A.dY) (.ref A.fh)=some false
 qg:PySem.W.kitOne K (.ref A.dY) (.ref A.eC)=some false
 uv:PySem.W.kitOne K (.ref A.dY) (.ref A.gy)=some false
 qf:PySem.W.kitOne K (.ref A.dY) (.ref A.eU)=some false
 oQ:PySem.W.kitOne K (.ref A.eU) (.ref A.eD)=some false
 si:PySem.W.kitOne K (.ref A.eU) (.ref A.gz)=some false
 qe:PySem.W.kitOne K (.ref A.eU) (.ref A.eR)=some false
 qd:PySem.W.kitOne K (.ref A.eU) (.ref A.fh)=some false
 oP:PySem.W.kitOne K (.ref A.eU) (.ref A.eC)=some false
 sf:PySem.W.kitOne K (.ref A.eU) (.ref A.gy)=some false
theorem CO:cH ["p","deeds","place","pairs","deed","word"] ["p","deeds"] (aV Bl):=#[rfl,rfl,rfl,by right,rfl,by right,by right]
theorem iS:cH ["p","one","n","end","pattern","pairs"] ["p","one","n"] (aV ik):=#[rfl,rfl,rfl,by right,rfl,by right,by right]
theorem mR:cH ["name"] ["name"] (aV jO):=#[rfl,rfl,rfl,by right,rfl,by right,by right]
theorem qF:cH ["self","name","one"] ["self","name","one"] (aV nA):=#[rfl,rfl,rfl,by right,rfl,by right,by right]
theorem oa:cH ["self","crew"] ["self","crew"] (aV ln):=#[rfl,rfl,rfl,by right,rfl,by right,by right]
theorem n_:cH ["self","name","deeds"] ["self","name","deeds"] (aV lm):=#[rfl,rfl,rfl,by right,rfl,by right,by right]
theorem kf:cH ["self","name","one","other"] ["self","name","one","other"] (aV io):=#[rfl,rfl,rfl,by right,rfl,by right,by right]
theorem ki:cH ["self","name","one"] ["self","name","one"] (aV iu):=#[rfl,rfl,rfl,by right,rfl,by right,by right]
theorem jq:cH ["self","name","one","n"] ["self","name","one","n"] (aV gM):=#[rfl,rfl,rfl,by right,rfl,by right,by right]
theorem og:cH ["self","name"] ["self","name"] (aV lp):=#[rfl,rfl,rfl,by right,rfl,by right,by right]
theorem mS:cH ["self","crew"] ["self","crew"] (aV jP):=#[rfl,rfl,rfl,by right,rfl,by right,by right]
theorem kh:cH ["self","crew"] ["self","crew"] (aV iq):=#[rfl,rfl,rfl,by right,rfl,by right,by right]
theorem k_:cH ["self","crew","name","team","one"] ["self","crew","name"] (aV i8):=#[rfl,rfl,rfl,by right,rfl,by right,by right]
theorem kg:cH ["self","crew","name","team"] ["self","crew","name"] (aV ip):=#[rfl,rfl,rfl,by right,rfl,by right,by right]
theorem jr:cH ["self","name"] ["self","name"] (aV gN):=#[rfl,rfl,rfl,by right,rfl,by right,by right]
theorem kc:cH ["self","crew"] ["self","crew"] (aV im):=#[rfl,rfl,rfl,by right,rfl,by right,by right]
theorem tM:cH ["_law_script"] ["_law_script"] (aV pO):=#[rfl,rfl,rfl,by right,rfl,by right,by right]
theorem za:cH ["_law_book","_law_deed","_law_handed","_law_told"] ["_law_book","_law_deed"] (aV xz):=#[rfl,rfl,rfl,by right,rfl,by right,by right]
theorem G5:cH ["_law_script","_law_draw","_law_p_here","_law_names_here","_law_book","_law_first","_law_stand","_law_found","_law_deed","_law_due_here"] ["_law_script"] (aV G6):=#[rfl,rfl,rfl,by right,rfl,by right,by right]
def uV (A:Xd):Rf ->iW
 | .BadName=>A.eD | .NoDeed=>A.fh | .NoRound=>A.eC | .NoCrew=>A.eR | .Taken=>A.gy | .InUse=>A.gz | .TooMany=>A.eU | .TooFar=>A.dY | .NoMore=>A.uW | .NoState=>A.qx
section
variable {P:Y1}{w:ZW}{K:Uc}{mg:Str ->gC dC}{base:ZX}{A:Xd}
def BB (T:fj K mg A):bE P w K mg base e9 1 A.wN A.wV ["_law_script"] (CL K):=by
 exact T.Dy.fn.ok tM (λvs H Q E h=> ?_) (λcdv A' outer s H vs Q E hr h=> ?_);let⟨a,ns,rfl,_⟩:=h;rfl;let⟨a,ns,rfl,hs,k⟩:=h;have nd:=tM.nd;exact#[_,(aj (aE (fI (aa (b_ eM (by rfl) T.gR Boot.«list» (aa (tR KO (pv 0) xK (xJ ai)) ae)) (aa ai (aa ai (aa ai ae))))))),?_];have ec: ∃ms:c_ Int,Fy (ns.map V.int) none (some 63)=ms.map V.int:=by exact#[(ns.drop (HT.yF (ns.map V.int).length 0 none)).take (HT.yF (ns.map V.int).length (ns.map V.int).length (some 63) - HT.yF (ns.map V.int).length 0 none),?_];unfold Fy;rw[List.map_take,List.map_drop]
 let⟨ms,em⟩:=ec;exact#[_,rfl,_,rfl,_,_,rfl,hs,λp hp=>#[_,_,rfl, .inl (iH.of bZ),λl hl=>#[by change 4<=sizeLine;decide,λd hd=> ?_]]];have hld:l≠d:=λe=>by rw[e,bZ] at hd;cases hd
 exact k d l ms _ hld.symm bZ ?_;rw[bR hld,bZ,em]
def bM (T:fj K mg A):bE P w K mg base e9 1 A.z7 A.Aj ["_law_draw","_law_many"] (fD K Ti):=by
 exists T.dc.fn,["_law_draw","_law_many","_law_number","_law_got"],(ag (bu (pS (aR ko (aG (show ce _ (i_ K) from dS) (pv 0) ai (λ_ _=>rfl)) (pv 1) (a_ _)) (mq (aR ko (aG (show ce _ (i_ K) from dS) (pv 0) ai (λ_ _=>rfl)) (br (fL (K:=K) rfl) (by rfl) T.mf Boot.«len» (aa (aG (show ce _ (i_ K) from dS) (pv 0) ai (λ_ _=>rfl)) ae)) (a_ _)))).pt (ag (a8 (i:=2) nd rfl (by trivial) (aG (show ce _ (i_ K) from dS) (aG (show ce _ (i_ K) from dS) (pv 0) ai (λ_ _=>rfl)) (aG (show ce _ (i_ K) from dS) (pv 0) ai (λ_ _=>rfl)) (λ_ _=>rfl))) (ag (gk (bS eY (aG (show ce _ (i_ K) from dS) (pv 0) ai (λ_ _=>rfl)) ai) (pU (pv 0) ai jp)) (ag (gk ai (pU (pv 0) ai jp)) (aj (bu (aR zw (br fM (by rfl) T.rL Boot.«abs» (aa (pv 2) ae)) (bS Pp ai ai) (a_ _)) (aj (gk (br fM (by rfl) T.rL Boot.«abs» (aa (pv 2) ae)) (pU (pv 0) ai jp))) (aj (gk (bS ls (bS eY (bS eY (bS gQ (aG (show ce _ (i_ K) from dS) (pv 0) ai (λ_ _=>rfl)) ai) (bS gQ (bS ls (pv 2) ai) ai)) ai) ai) (pU (pv 0) ai jp)))))))) aK) (ag (bu (aR zw (aG (show ce _ (i_ K) from dS) (pv 0) ai (λ_ _=>rfl)) (pv 1) (a_ _)) (ag (a8 (i:=3) nd rfl (by trivial) (bS ls (aG (show ce _ (i_ K) from dS) (pv 0) ai (λ_ _=>rfl)) (pv 1))) (ag (gk (bS Dh (aG (show ce _ (i_ K) from dS) (pv 0) ai (λ_ _=>rfl)) (pv 1)) (pU (pv 0) ai jp)) (aj (aE (pv 3))))) aK) (ag (gk (bS ls (bS eY (bS gQ (aG (show ce _ (i_ K) from dS) (pv 0) ai (λ_ _=>rfl)) ai) ai) ai) (pU (pv 0) ai jp)) (aj (aE (bS ls (bS Dh (aG (show ce _ (i_ K) from dS) (pv 0) ai (λ_ _=>rfl)) ai) (pv 1)))))))
 rintro vs M q ⟨d,l,n,rfl,⟨ns,i,c,sd,hd,hl,hi,nK⟩,n0,n1,k⟩;exact uu (λρ M'=>sD λ(o1 o2:gC W) (i' c' s':Int)=>fi (ρ= [some (wr d),some (wi n),o1,o2]) (M' d=some (.lst [wr l,wi i',wi c',wi s'])) (NB d M M') (0<=i')) ?_ λN hN=> ?_;rintro ρ M' ⟨o1,o2,i',c',s',rfl,h,nb,qZ⟩;have fin: ∀ (r c' s':Int),0<=r ->r<n -> ∃M0,Sm M0 (um M' d (.lst [wr l,wi i',wi c',wi s'])) /\ q (wi r) M0:=λr c' s' h0 h1=>eP (k r _ h0 h1 #[ns,i',c',s',ao,by rw[aQ (dy nK),nb l (dy nK)];show hl,qZ,nK] (nb.trans NB.put));have cm3: ∀x,mQ x 16807=True:=λx=>by simp[mQ]
 have cd1: ∀x,J5 x n=True:=λx=>by simp[J5,n0,n1]
 have cd2: ∀x,J5 x 64=True:=λx=>by simp[J5]
 have z2:((0:Int) <2147483647)=True:=⋯
 dsimp? [h];exact dQ (λ_=> ?_) λ_=> ?_;dsimp? [h,n0,cd1];show fin _ _ _ (Int.emod_nonneg _ ∅) (Int.emod_lt_of_pos _ n0);dsimp? [h,ao,n0,cm3,cd2,z2];show fin _ _ _ (Int.emod_nonneg _ ∅) (Int.emod_lt_of_pos _ n0);have nx: ∀ (o1 o2:gC W) (i' c' s':Int),0<=i' ->N [some (wr d),some (wi n),o1,o2] (um M d (.lst [wr l,wi i',wi c',wi s'])):=λ_ _ _ _ _ h=>hN _ _ #[_,_,_,_,_,rfl,ao,NB.put,h];have Wn: ∀ (o1 o2:gC W),N [some (wr d),some (wi n),o1,o2] M:=λ_ _=>hN _ _ #[_,_,_,_,_,rfl,hd,NB.refl d M,hi];have cp:QW 10 18=True:=by simp[QW]
 have cm: ∀x,mQ x 48271=True:=λx=>by simp[mQ]
 have cm2: ∀x,mQ x 69621=True:=λx=>by simp[mQ]
 have z1:((0:Int) <2147483629)=True:=⋯
 have z2:((0:Int) <2147483647)=True:=⋯
 by_cases mK:i<ns.length;have hx:iF (ns.map wi) i=some (wi (ns[i.toNat]'∅)):=f7 hi (by rw[aI,aF ∅];rfl);dsimp? [hd,hl,af];exact dQ (λ_=> ?_) λ_=>Wn _ _;exact dQ (λ_=> ?_) λ_=>Wn _ _;dsimp? [hd,hl,hx,ao,aQ nK.symm,cp];exact dQ (λ_=> ?_) λ_=> ?_;dsimp? [ao];show nx _ _ _ _ _ ∅;dsimp? [ao,cm,cm2,z1,z2];show nx _ _ _ _ _ ∅;dsimp? [hd,hl,mK,af,decide_false];show dQ (λ_=>Wn _ _) λ_=>Wn _ _
def Py (T:fj K mg A):bE P w K mg base e9 2 A.Oe A.Oh ["_law_draw"] (fD K pP):=by
 exists T.l_p.fn,["_law_draw"],(aj (aE (aG (show ce _ (bt K) from aB) (aN (aa ai (aa ai (aa ai (aa ai ae))))) (au T.dc (bM T) hr (aa (pv 0) (aa ai ae))) (λ_ _=>rfl))))
 rintro vs M q ⟨d,l,rfl,hD,k⟩;simp? [↓bz];exact#[d,l,4,rfl,hD,⋯,⋯,λr M1 r0 r1 D1 b1=> ?_];have Zg:r=0 \/ r=1 \/ r=2 \/ r=3:=by omega
 obtain rfl | rfl | rfl | rfl:=Zg <;> simp? [↓bz];show eP (k 2 _ ⋯ D1 b1);show eP (k 3 _ ⋯ D1 b1);show eP (k 5 _ ⋯ D1 b1);show eP (k 7 _ ⋯ D1 b1)
def t7 (T:fj K mg A):bE P w K mg base e9 1 A.DX A.Em ["_law_thing"] (fD K Yo):=by
 exists T.Dw.fn,["_law_thing"],(aj (aE (xM (br (eT (K:=K) rfl) (by rfl) T.dD Boot.«isinstance» (aa (pv 0) (aa (gv (by rfl) T.U' Boot.«int» (show RelV (.ty "int") _ from rfl)) ae))) (tS (Bq (br (eT (K:=K) rfl) (by rfl) T.dD Boot.«isinstance» (aa (pv 0) (aa (gv (by rfl) T.QL Boot.«bool» (show RelV (.ty "bool") _ from rfl)) ae))))))))
 rintro vs M q ⟨i,rfl,k⟩;simp? [↓bz];show eP k
def oC (T:fj K mg A):bE P w K mg base e9 1 A.IQ A.Ji ["p","pairs"] (fD K NE):=by
 exists T.tidy.fn,["p","pairs","turned","place","setting"],(ag (a8 (i:=2) nd rfl (by trivial) jx) (ag (gj cV rfl (sR (pv 1)) (d_ (n:=2) rfl (bw (aZ (i:=3) nd rfl (by trivial)) (bw (aZ (i:=4) nd rfl (by trivial)) dA))) (aj (mx (dU hr) (pv 2) (pv 3) (bS ls (bS eY (zt (dU hr) (pv 2) (pv 3) ai #[by rfl,by rfl,by rfl,by rfl]) (pv 4)) (pv 0)) rfl))) (aj (aE (b_ gG (by rfl) T.iZ Boot.«tuple» (aa (dB rfl (cW.of (sc:=aV Bj) (N:= ["p","pairs","turned","place","setting"]) (own:= ["place"]) (fr:= [2]) (N':= ["place","turned"])) (sR (br (px rfl) (by rfl) T.gH Boot.«sorted» (aa (pv 2) ae))) (λ_ _ _ _=>(aZ (i:=0) (by change(["place","turned"]:c_ Str).Nodup;decide+kernel) rfl (by trivial))) d7 (λ_ _ _ _=>(sQ (aR oB (eA (dU hr) (pv 1) (pv 0) (λ_ _=>rfl)) ai (a_ _)))) (λ_ _ _ _=>(aN (aa (pv 0) (aa (eA (dU hr) (pv 1) (pv 0) (λ_ _=>rfl)) ae))))) ae))))))
 rintro vs M q ⟨a,p,ps,rfl,ha,p0,LU,ZI,k⟩;simp? [↓bz];intro d hd;have TR:a≠d:=cg ha hd;simp? [↓bz,aQ TR,ha];exact jE (λi ρ M'=>eE λ(o1 o2:gC W) (m:Pt)=>kQ (ρ= [some (wi p),some (wr a),some (wr d),o1,o2]) (M'=um M d (.dK (vn m))) ((m.map (·.1)).Nodup) (m.length<=i) (∀x,look m x=fw (ps.take i) x % p) (∀k∈m.map (·.1), ∃q∈ps,q.1=k)) #[none,none,[],rfl,rfl,List.nodup_nil,aq _,λx=>by simp[look,fw],by simp] ?_ ?_ ?_;rintro i ρ M' _ ⟨o1,o2,m,rfl,rfl,_⟩;rw[aQ TR];show ha;rintro i x ρ M' hx ⟨o1,o2,m,rfl,rfl,hn,hl,ht,zY⟩ N hN;let⟨z,hz,rfl⟩:=pairs_at hx;have Zz:=(bv.mp hz).1;have hs:((vn m).length<sizeLine)=True:=by rw[vn,af];show ay (mO (by omega))
 simp? [↓bz,ca,DP,p0,hs,C7];exact hN _ _ #[_,_,_,rfl,rfl,Dl hn,ar zL (by omega),λx=> ?_,λk hk=>(zJ hk).elim (λe=>#[z,aT hz,e.symm]) (zY k)];rw[wt,cG,hz];change _=fw (ps.take i++ [z]) x % p;rw[tG];by_cases hx:x=z.1;subst hx;rw[am rfl,am rfl,ht,Int.emod_add_emod];rw[ak hx,ak (dy hx),Int.add_zero];show ht x;rintro ρ M' ⟨o1,o2,m,rfl,rfl,hn,hl,ht,zY⟩;rw[af] at hl ht;rw[cQ] at ht;simp? [↓bz];exact#[d,vn m,m.map (·.1),rfl,ao,zN m,(by rw[af];show big (by omega)),λsp ns A3 jB zV=> ?_];have Qs:d≠sp:=cg ao A3;have oS:ns.length<=16000000:=by rw[jB.length_eq,af];omega
 simp? [↓bz];exact iD (λx=>match x with | .v (.int n)=>if look m n=0 then none else some (ca (n,look m n)) | _=>none) (by rw[af];show big oS) (λM3 s3=>s3 _ _ ao) ?_ λt Y9=> ?_;intro i x hx M3 N s3 hN;let⟨n,zW,rfl⟩:=zT hx;have ZG:M3 d=some (.dK (vn m)):=s3 _ _ (by rw[aQ Qs,ao]);have Zp:n∈m.map (·.1):=jB.mem_iff.mp (aT zW);simp? [↓bz,ZG,GG Zp];exact P9 (λh=> ?_) λh=> ?_;simp![h,bD] at hN;show hN;simp![h,cc] at hN;show hN;simp? [↓bz];exact#[M,((Sm.um (Sm.refl M) hd).trans (bj A3)).trans (bj Y9),?_];have e:(ns.map wi).filterMap (λx=>match x with | .v (.int n)=>if look m n=0 then none else some (ca (n,look m n)) | _=>none)=(pZ p ps).map ca:=by rw[<- CN p0 hn ht jB zV,List.filterMap_map];unfold Q8;rw[List.map_filterMap];congr 1;funext n;simp![Function.comp];split<;>rfl
 rw[e];show k
def pW (T:fj K mg A):bE P w K mg base e9 1 A.z6 A.Ai ["_law_p_here","_law_pairs"] (fD K NE):=by
 exists T.x_.fn,["_law_p_here","_law_pairs","_law_sums","_law_place","_law_setting"],(ag (a8 (i:=2) nd rfl (by trivial) jx) (ag (gj cV rfl (fT (K:=K) rfl (pv 1)) (d_ (n:=2) rfl (bw (aZ (i:=3) nd rfl (by trivial)) (bw (aZ (i:=4) nd rfl (by trivial)) dA))) (aj (mx (dU hr) (pv 2) (pv 3) (bS ls (bS eY (zt (dU hr) (pv 2) (pv 3) ai #[by rfl,by rfl,by rfl,by rfl]) (pv 4)) (pv 0)) rfl))) (aj (aE (b_ gG (by rfl) T.iZ Boot.«tuple» (aa (dB rfl (cW.of (sc:=_) (N:= ["_law_p_here","_law_pairs","_law_sums","_law_place","_law_setting"]) (own:= ["_law_place"]) (fr:= [2]) (N':= ["_law_place","_law_sums"]) rfl rfl rfl (by right) rfl (by right) (by right) (by right) (by right) (bg rfl)) (fT (K:=K) rfl (br (px rfl) (by rfl) T.gH Boot.«sorted» (aa (pv 2) ae))) (λ_ _ _ _=>(aZ (i:=0) (by change(["_law_place","_law_sums"]:c_ Str).Nodup;decide+kernel) rfl (by trivial))) d7 (λ_ _ _ _=>(sQ (aR HA (eA (dU hr) (pv 1) (pv 0) (λ_ _=>rfl)) ai (a_ _)))) (λ_ _ _ _=>(aN (aa (pv 0) (aa (eA (dU hr) (pv 1) (pv 0) (λ_ _=>rfl)) ae))))) ae))))))
 rintro vs M q ⟨a,p,ps,rfl,ha,p0,LU,ZI,k⟩;simp? [↓bz];intro d hd;have TR:a≠d:=cg ha hd;simp? [↓bz,aQ TR,ha];exact jE (λi ρ M'=>eE λ(o1 o2:gC W) (m:Pt)=>kQ (ρ= [some (wi p),some (wr a),some (wr d),o1,o2]) (M'=um M d (.dK (vn m))) ((m.map (·.1)).Nodup) (m.length<=i) (∀x,look m x=fw (ps.take i) x % p) (∀k∈m.map (·.1), ∃q∈ps,q.1=k)) #[none,none,[],rfl,rfl,List.nodup_nil,aq _,λx=>by simp[look,fw],by simp] ?_ ?_ ?_;rintro i ρ M' _ ⟨o1,o2,m,rfl,rfl,_⟩;rw[aQ TR];show ha;rintro i x ρ M' hx ⟨o1,o2,m,rfl,rfl,hn,hl,ht,zY⟩ N hN;let⟨z,hz,rfl⟩:=pairs_at hx;have Zz:=(bv.mp hz).1;have hs:((vn m).length<sizeLine)=True:=by rw[vn,af];show ay (mO (by omega))
 simp? [↓bz,ca,DP,p0,hs,C7];exact hN _ _ #[_,_,_,rfl,rfl,Dl hn,ar zL (by omega),λx=> ?_,λk hk=>(zJ hk).elim (λe=>#[z,aT hz,e.symm]) (zY k)];rw[wt,cG,hz];change _=fw (ps.take i++ [z]) x % p;rw[tG];by_cases hx:x=z.1;subst hx;rw[am rfl,am rfl,ht,Int.emod_add_emod];rw[ak hx,ak (dy hx),Int.add_zero];show ht x;rintro ρ M' ⟨o1,o2,m,rfl,rfl,hn,hl,ht,zY⟩;rw[af] at hl ht;rw[cQ] at ht;simp? [↓bz];exact#[d,vn m,m.map (·.1),rfl,ao,zN m,(by rw[af];show big (by omega)),λsp ns A3 jB zV=> ?_];have Qs:d≠sp:=cg ao A3;have oS:ns.length<=16000000:=by rw[jB.length_eq,af];omega
 simp? [↓bz];exact iD (λx=>match x with | .v (.int n)=>if look m n=0 then none else some (ca (n,look m n)) | _=>none) (by rw[af];show big oS) (λM3 s3=>s3 _ _ ao) ?_ λt Y9=> ?_;intro i x hx M3 N s3 hN;let⟨n,zW,rfl⟩:=zT hx;have ZG:M3 d=some (.dK (vn m)):=s3 _ _ (by rw[aQ Qs,ao]);have Zp:n∈m.map (·.1):=jB.mem_iff.mp (aT zW);simp? [↓bz,ZG,GG Zp];have ZC:0<=look m n:=by rw[ht];show Int.emod_nonneg _ (by omega)
 exact dQ (λh=> ?_) λh=> ?_;have h':¬look m n=0:=by omega
 simp![h',bD] at hN;show hN;have h':look m n=0:=by omega
 simp![h',cc] at hN;show hN;simp? [↓bz];exact#[M,((Sm.um (Sm.refl M) hd).trans (bj A3)).trans (bj Y9),?_];have e:(ns.map wi).filterMap (λx=>match x with | .v (.int n)=>if look m n=0 then none else some (ca (n,look m n)) | _=>none)=(pZ p ps).map ca:=by rw[<- CN p0 hn ht jB zV,List.filterMap_map];unfold Q8;rw[List.map_filterMap];congr 1;funext n;simp![Function.comp];split<;>rfl
 rw[e];show k
def zy (T:fj K mg A):bE P w K mg base e9 1 A.DT A.Ej ["pattern","by"] (fD K Pf):=by
 exists T.moved.fn,["pattern","by"],(aj (aE (b_ gG (by rfl) T.iZ Boot.«tuple» (aa (dB rfl (cW.of (sc:=aV xy) (N:= ["pattern","by"]) (own:= ["place","setting"]) (fr:= [1]) (N':= ["place","setting","by"])) (pT (pv 0)) (λ_ _ _ _=>(d_ (n:=2) rfl (bw (aZ (i:=0) (by change(["place","setting","by"]:c_ Str).Nodup;decide+kernel) rfl (by trivial)) (bw (aZ (i:=1) (by change(["place","setting","by"]:c_ Str).Nodup;decide+kernel) rfl (by trivial)) dA)))) f6 (λ_ _ _ _=>dz) (λ_ _ _ _=>(aN (aa (bS eY (pv 0) (pv 2)) (aa (pv 1) ae))))) ae))))
 rintro vs M q ⟨vw,b,rfl,hl,k⟩;simp? [↓bz,gb];exact iD (λx=>match x with | .tup [.v (.int x),s]=>some (.tup [wi (x+b),s]) | _=>none) (by rw[af];show big hl) (λ_ _=>trivial) ?_ λt ht=> ?_;intro i x hx M3 N s3 hN;let⟨z,hz,rfl⟩:=pairs_at hx;simp? [↓bz,ca];show hN;simp? [↓bz];exact#[M,bj ht,?_];have e:(vw.map ca).filterMap (λx=>match x with | .tup [.v (.int x),s]=>some (.tup [wi (x+b),s]) | _=>none)=(mv b vw).map ca:=by rw[List.filterMap_map,mv,aU];show List.filterMap_eq_map.symm▸rfl
 rw[e];show k
def rV (T:fj K mg A):bE P w K mg base e9 2 A.lI A.lU ["_law_p_here","_law_thing"] (fD K Ph):=by
 exists T.oM.fn,["_law_p_here","_law_thing","_law_k","_law_pair"],(ag (bu (d9 (dt (br (eT (K:=K) rfl) (by rfl) T.dD Boot.«isinstance» (aa (pv 1) (aa (gv (by rfl) T.iZ Boot.«tuple» (show RelV (.ty "tuple") _ from rfl)) ae))))) (aj (aE gV)) aK) (ag (gj cV rfl (fJ (by rfl) T.i0 (aa (br (fL (K:=K) rfl) (by rfl) T.mf Boot.«len» (aa (pv 1) ae)) ae)) (aZ (i:=2) nd rfl (by trivial)) (ag (a8 (i:=3) nd rfl (by trivial) (aG (show ce _ (bt K) from aB) (pv 1) (pv 2) (λ_ _=>rfl))) (ag (bu (kn (d9 (dt (br (eT (K:=K) rfl) (by rfl) T.dD Boot.«isinstance» (aa (pv 3) (aa (gv (by rfl) T.iZ Boot.«tuple» (show RelV (.ty "tuple") _ from rfl)) ae))))) (ix (aR oB (br (fL (K:=K) rfl) (by rfl) T.mf Boot.«len» (aa (pv 3) ae)) ai (a_ _)))).pt (aj (aE gV)) aK) (ag (bu (kn (d9 (dt (au T.Dw (t7 T) hr (aa (aG (show ce _ (bt K) from aB) (pv 3) ai (λ_ _=>rfl)) ae)))) (kn (d9 (dt (au T.Dw (t7 T) hr (aa (aG (show ce _ (bt K) from aB) (pv 3) ai (λ_ _=>rfl)) ae)))) (ix (d9 (zp ko ko ai (aG (show ce _ (bt K) from aB) (pv 3) ai (λ_ _=>rfl)) (pv 0)))))).pt (aj (aE gV)) aK) (aj (bu (pS (aR HA (pv 2) ai (a_ _)) (mq (aR zw (aG (show ce _ (bt K) from aB) (aG (show ce _ (bt K) from aB) (pv 1) (bS tV (pv 2) ai) (λ_ _=>rfl)) ai (λ_ _=>rfl)) (aG (show ce _ (bt K) from aB) (pv 3) ai (λ_ _=>rfl)) (a_ _)))).pt (aj (aE gV)) aK)))))) (aj (aE gV))))
 rintro vs M q ⟨p,vw,rfl,⟨h1,h2⟩,hl,k⟩;have qY:(vw.map ca).length=vw.length:=af _;simp? [↓bz,gb,qY];exact#[#[by omega,by omega],jE (λi ρ M'=>cE λ(o1 o2:gC W)=>ρ= [some (wi p),some (gb vw),o1,o2] /\ M'=M) #[none,none,rfl,rfl] (λ_ _ _ _ _=>trivial) ?_ ?_];rintro i x ρ M' hx ⟨o1,o2,rfl,rfl⟩ N hN;let⟨hi,rfl⟩:=ju hx;have qZ:i<vw.length:=by omega
 have ha:iF (vw.map ca) (0+(i:Int))=some (ca vw[i]):=by rw[Int.zero_add];show fF (by rw[aI,aF qZ];rfl)
 have hz:=h1 vw[i] (List.getElem_mem qZ);simp? [↓bz,gb,ha,ca];exact#[_,rfl,?_];simp? [↓bz];exact#[_,rfl,?_];simp? [↓bz,hz.1,hz.2,cD];exact dQ (λh=> ?_) λh=>hN _ _ #[_,_,rfl,rfl];have hi1:i - 1<vw.length:=by omega
 have ha':iF (vw.map ca) (0+(i:Int) - 1)=some (ca vw[i - 1]):=by
  have:(0+(i:Int) - 1)=((i - 1:Nat):Int):=by omega
  rw[this];show fF (by rw[aI,aF hi1];rfl)
 have mK:=List.pairwise_iff_getElem.mp h2 (i - 1) i hi1 qZ (by omega);simp? [↓bz,ha',ca];show dQ (λh=>by omega) λ_=>hN _ _ #[_,_,rfl,rfl];rintro ρ M' ⟨o1,o2,rfl,rfl⟩;simp? [↓bz];show eP k
def HE (T:fj K mg A):bE P w K mg base e9 2 A.D_ A.Ep ["p","one","other"] (fD K Po):=by
 exists T.added.fn,["p","one","other"],(aj (aE (au T.tidy (oC T) hr (aa (pv 0) (aa (bS xS (b_ eM (by rfl) T.gR Boot.«list» (aa (pv 1) ae)) (b_ eM (by rfl) T.gR Boot.«list» (aa (pv 2) ae))) ae)))))
 rintro vs M q ⟨p,a,b,rfl,p0,hf,ha,hb,k⟩;simp? [↓bz,gb];intro u hu;simp? [↓bz];intro v hv;have huv:u≠v:=cg ao hv;have hs:((a.map ca).length+(b.map ca).length<=sizeLine)=True:=ay (big (by rw[af,af];omega));simp? [↓bz,aQ huv,hs];intro c hc;simp? [↓bz];exact#[c,p,a++b,rfl,by rw[ao,a6],p0,hf,by rw[aJ];omega,?_];show#[M,((bj hu).trans (bj hv)).trans (bj hc),k]
def tZ (T:fj K mg A):bE P w K mg base e9 2 A.DQ A.Eh ["p","pattern","n"] (fD K Pc):=by
 exists T.timed.fn,["p","pattern","n"],(aj (aE (au T.tidy (oC T) hr (aa (pv 0) (aa (dB rfl (cW.of (sc:=aV xx) (N:= ["p","pattern","n"]) (own:= ["place","setting"]) (fr:= [2]) (N':= ["place","setting","n"])) (pT (pv 1)) (λ_ _ _ _=>(d_ (n:=2) rfl (bw (aZ (i:=0) (by change(["place","setting","n"]:c_ Str).Nodup;decide+kernel) rfl (by trivial)) (bw (aZ (i:=1) (by change(["place","setting","n"]:c_ Str).Nodup;decide+kernel) rfl (by trivial)) dA)))) f6 (λ_ _ _ _=>dz) (λ_ _ _ _=>(aN (aa (pv 0) (aa (bS gQ (pv 1) (pv 2)) ae))))) ae)))))
 rintro vs M q ⟨p,a,n,rfl,p0,hf,ha,hz,k⟩;simp? [↓bz,gb];exact iD (λx=>match x with | .tup [x, .v (.int s)]=>some (.tup [x,wi (s*n)]) | _=>none) (by rw[af];show big (by omega)) (λ_ _=>trivial) ?_ λt ht=> ?_;intro i x hx M3 N s3 hN;let⟨z,Iq,rfl⟩:=pairs_at hx;have:=hz z (aT Iq);have cm:mQ z.2 n=True:=ay (.inl #[by omega,by omega]);simp? [↓bz,ca,cm];show hN;have e:(a.map ca).filterMap (λx=>match x with | .tup [x, .v (.int s)]=>some (.tup [x,wi (s*n)]) | _=>none)=(tm n a).map ca:=by rw[List.filterMap_map,tm,aU];show List.filterMap_eq_map.symm▸rfl
 rw[e];simp? [↓bz];exact#[t,p,tm n a,rfl,ao,p0,hf,by rw[tm,af];omega,M,bj ht,k]
def t0 (T:fj K mg A):bE P w K mg base e9 2 A.DU A.Ek ["_law_p_here","_law_one","_law_other","_law_by","_law_many"] (fD K Yn):=by
 exists T.Ds.fn,["_law_p_here","_law_one","_law_other","_law_by","_law_many"],(aj (aE (au T.x_ (pW T) hr (aa (pv 0) (aa (bS xS (b_ eM (by rfl) T.gR Boot.«list» (aa (pv 1) ae)) (dB rfl (cW.of (sc:=_) (N:= ["_law_p_here","_law_one","_law_other","_law_by","_law_many"]) (own:= ["_law_place","_law_setting"]) (fr:= [3,4]) (N':= ["_law_place","_law_setting","_law_by","_law_many"]) rfl rfl rfl (by right) rfl (by right) (by right) (by right) (by right) (bg rfl)) (jR (K:=K) rfl (pv 2)) (λ_ _ _ _=>(d_ (n:=2) rfl (bw (aZ (i:=0) (by change(["_law_place","_law_setting","_law_by","_law_many"]:c_ Str).Nodup;decide+kernel) rfl (by trivial)) (bw (aZ (i:=1) (by change(["_law_place","_law_setting","_law_by","_law_many"]:c_ Str).Nodup;decide+kernel) rfl (by trivial)) dA)))) f6 (λ_ _ _ _=>dz) (λ_ _ _ _=>(aN (aa (bS eY (pv 0) (pv 2)) (aa (bS gQ (pv 1) (pv 3)) ae)))))) ae)))))
 rintro vs M q ⟨p,a,b,y,n,rfl,p0,hf,ha,hb,hz,k⟩;simp? [↓bz,gb];intro u hu;simp? [↓bz];exact iD (λx=>match x with | .tup [.v (.int x), .v (.int s)]=>some (.tup [wi (x+y),wi (s*n)]) | _=>none) (by rw[af];show big (by omega)) (λ_ _=>trivial) ?_ λt ht=> ?_;intro i x hx M3 N s3 hN;let⟨z,Iq,rfl⟩:=pairs_at hx;have:=hz z (aT Iq);have cm:mQ z.2 n=True:=ay (.inl #[by omega,by omega]);simp? [↓bz,ca,cm];show hN;have e:(b.map ca).filterMap (λx=>match x with | .tup [.v (.int x), .v (.int s)]=>some (.tup [wi (x+y),wi (s*n)]) | _=>none)=(Dm y n b).map ca:=by rw[List.filterMap_map,Dm,aU];show List.filterMap_eq_map.symm▸rfl
 rw[e];have hut:u≠t:=cg ao ht;have hs:((a.map ca).length+((Dm y n b).map ca).length<=sizeLine)=True:=ay (big (by rw[af,af,Dm,af];omega));simp? [↓bz,aQ hut,hs];intro c hc;simp? [↓bz];exact#[c,p,a++Dm y n b,rfl,by rw[ao,a6],p0,hf,by rw[aJ,Dm,af];omega,?_];show#[M,((bj hu).trans (bj ht)).trans (bj hc),k]
end
end eN
open PySem L2 WL WP WQ PyProof.Rows
namespace eN
open PySem L2 WL WP WQ PyProof.Rows
section
variable {P:Y1}{w:ZW}{K:Uc}{mg:Str ->gC dC}{base:ZX}{A:Xd}
def E2 (T:fj K mg A):bE P w K mg base e9 3 A.Ac A.Ao ["p","one","other"] (fD K La):=by
 exists T.joined.fn,["p","one","other","end","pattern","more","behind"],(ag (gk (pv 1) (d_ (n:=2) rfl (bw (aZ (i:=3) nd rfl (by trivial)) (bw (aZ (i:=4) nd rfl (by trivial)) dA)))) (ag (gk (pv 2) (d_ (n:=2) rfl (bw (aZ (i:=5) nd rfl (by trivial)) (bw (aZ (i:=6) nd rfl (by trivial)) dA)))) (aj (aE (aN (aa (bS eY (pv 3) (pv 5)) (aa (au T.added (HE T) hr (aa (pv 0) (aa (pv 4) (aa (au T.moved (zy T) hr (aa (pv 6) (aa (pv 3) ae))) ae)))) ae)))))))
 rintro vs M q ⟨p,a,b,rfl,p0,hf,ha,hb,k⟩;simp? [↓bz,gq];exact#[b.2,a.1,rfl,by omega,?_];simp? [↓bz];exact#[p,a.2,mv a.1 b.2,rfl,p0,hf,ar ha ⋯,by rw[p7];show ar hb ⋯,?_];simp? [↓bz];show eP k
def lx (T:fj K mg A):bE P w K mg base e9 3 A.uJ A.uP ["p","one"] (fD K NI):=by
 exists T.backward.fn,["p","one","end","pattern"],(ag (gk (pv 1) (d_ (n:=2) rfl (bw (aZ (i:=2) nd rfl (by trivial)) (bw (aZ (i:=3) nd rfl (by trivial)) dA)))) (aj (aE (aN (aa (gh eV (pv 2)) (aa (au T.timed (tZ T) hr (aa (pv 0) (aa (au T.moved (zy T) hr (aa (pv 3) (aa (gh eV (pv 2)) ae))) (aa (gh eV ai) ae)))) ae))))))
 rintro vs M q ⟨p,a,rfl,p0,hf,ha,hz,k⟩;simp? [↓bz,gq];exact#[a.2, -a.1,rfl,by omega,?_];simp? [↓bz];exact#[p,mv (-a.1) a.2, -1,rfl,p0,IP hf,by rw[p7];show ha,λz Iq=> ?_,?_];let⟨y,hy,rfl⟩:=b8.mp Iq;show hz y hy;simp? [↓bz];show eP k
def EY (T:fj K mg A):bE P w K mg base e9 3 A.z8 A.Ak ["_law_p_here","_law_one","_law_other"] (fD K Tl):=by
 exists T.HR.fn,["_law_p_here","_law_one","_law_other"],(aj (aE (aN (aa (bS eY (aG (show ce _ (bt K) from aB) (pv 1) ai (λ_ _=>rfl)) (aG (show ce _ (bt K) from aB) (pv 2) ai (λ_ _=>rfl))) (aa (au T.Ds (t0 T) hr (aa (pv 0) (aa (aG (show ce _ (bt K) from aB) (pv 1) ai (λ_ _=>rfl)) (aa (aG (show ce _ (bt K) from aB) (pv 2) ai (λ_ _=>rfl)) (aa (aG (show ce _ (bt K) from aB) (pv 1) ai (λ_ _=>rfl)) (aa ai ae)))))) ae)))))
 rintro vs M q ⟨p,a,b,rfl,p0,hf,ha,hb,hz,k⟩;have e:Dm a.1 1 b.2=mv a.1 b.2:=by rw[BC,ON]
 simp? [↓bz,gq];exact#[p,a.2,b.2,a.1,1,rfl,p0,by rw[e];show hf,ar ha ⋯,ar hb ⋯,hz,?_];rw[e];simp? [↓bz];show eP k
def E1 (T:fj K mg A):bE P w K mg base e9 3 A.Ab A.An ["_law_p_here","_law_one"] (fD K NI):=by
 exists T.HV.fn,["_law_p_here","_law_one"],(aj (aE (aN (aa (gh eV (aG (show ce _ (bt K) from aB) (pv 1) ai (λ_ _=>rfl))) (aa (au T.Ds (t0 T) hr (aa (pv 0) (aa (aN ae) (aa (aG (show ce _ (bt K) from aB) (pv 1) ai (λ_ _=>rfl)) (aa (gh eV (aG (show ce _ (bt K) from aB) (pv 1) ai (λ_ _=>rfl))) (aa (gh eV ai) ae)))))) ae)))))
 rintro vs M q ⟨p,a,rfl,p0,hf,ha,hz,k⟩;have e:Dm (-a.1) (-1) a.2=tm (-1) (mv (-a.1) a.2):=BC;simp? [↓bz,gq];exact#[p,[],a.2, -a.1, -1,rfl,p0,by rw[e];show IP hf,⋯,ar ha ⋯,hz,?_];rw[e,List.nil_append];simp? [↓bz];show eP k
def vx (T:fj K mg A):bE P w K mg base e9 3 A.oV A.pe ["_law_p_here","_law_thing"] (fD K Hz):=by
 exists T.ul.fn,["_law_p_here","_law_thing"],(ag (bu (kn (d9 (dt (br (eT (K:=K) rfl) (by rfl) T.dD Boot.«isinstance» (aa (pv 1) (aa (gv (by rfl) T.iZ Boot.«tuple» (show RelV (.ty "tuple") _ from rfl)) ae))))) (ix (aR oB (br (fL (K:=K) rfl) (by rfl) T.mf Boot.«len» (aa (pv 1) ae)) ai (a_ _)))).pt (aj (aE gV)) aK) (aj (aE (xM (au T.Dw (t7 T) hr (aa (aG (show ce _ (bt K) from aB) (pv 1) ai (λ_ _=>rfl)) ae)) (tS (au T.oM (rV T) hr (aa (pv 0) (aa (aG (show ce _ (bt K) from aB) (pv 1) ai (λ_ _=>rfl)) ae))))))))
 rintro vs M q ⟨p,a,rfl,hp,hl,k⟩;have e2:decide ((((0+1+1:Nat)):Int)=2)=true:=⋯
 have e2':decide (((2:Nat):Int)=2)=true:=⋯
 simp? [↓bz,gq,e2,e2'];exact#[_,rfl,?_];simp? [↓bz];show#[p,a.2,rfl,hp,ar hl ⋯,eP k]
def Ll (T:fj K mg A):bE P w K mg base (iJ P w) 2 A.IV A.Jj ["p","deeds"] (rS K (Pj A.fh)):=by
 exact AY T.gone.fn CO (by rintro vs M q e ⟨a,p,ds,rfl,_⟩;rfl) λcdv A' outer s H E e hr hF hP=> ?_;have nd:=CO.nd;exact#[_,(ag (a8 (i:=2) nd rfl (by trivial) ai) (ag (a8 (i:=3) nd rfl (by trivial) (fI ae)) (ag (gj Lf rfl (sR (pv 1)) (aZ (i:=4) nd rfl (by trivial)) (ag (a8 (i:=5) nd rfl (by trivial) (aG aB (pv 4) ai (λ_ _=>rfl))) (aj (bu (aR dI (pv 5) aC (a_ _)) (aj (O4 (i:=2) nd rfl (Or.inl rfl) (aG aB (pv 4) ai (λ_ _=>rfl)) P')) (aj (bu (aR dI (pv 5) aC (a_ _)) (aj (bN (e7 aS bK bJ dW (pv 3) (aa (aN (aa (pv 2) (aa (aG aB (pv 4) ai (λ_ _=>rfl)) ae))) ae)))) (aj (d5 hF rfl (by rfl) T.yL (aa (eJ (bO aC (bO (gP (pv 5)) fH))) ae))))))))) (aj (aE (aN (aa (pv 2) (aa (au T.tidy (oC T) hr (aa (pv 0) (aa (pv 3) ae))) ae)))))))),?_];try dsimp only[eL]
 exact#[_,inferInstance,?_];rintro vs M q ⟨a,p,ds,rfl,ha,p0,hf,hl,hw,kq,ke⟩;simp? [↓cI];exact fg ?_; simp? [↓cI];intro b hb;have DO:a≠b:=cg ha hb;exact fg ?_; simp? [↓cI,aQ DO,ha];exact jE (λi ρ M'=> ∃ (o1 o2:gC W),(∀d∈ds.take i,Good d) /\ ρ= [some (wi p),some (wr a),some (wi (eX (ds.take i)).1),some (wr b),o1,o2] /\ M'=um M b (.lst ((eX (ds.take i)).2.map ca))) #[none,none,by simp,rfl,rfl] ?_ ?_ ?_;rintro i ρ M' _ ⟨o1,o2,_,rfl,rfl⟩;rw[aQ DO];show ha
 .rintro i x ρ M' hx ⟨o1,o2,Rs,rfl,rfl⟩ N hN;let⟨z,hz,rfl⟩:=Of hx;have Zz:=(bv.mp hz).1;have et:ds.take (i+1)=ds.take i++ [z]:=by rw[cG,hz];rfl
  have d4:(((eX (ds.take i)).2.map ca).length<sizeLine)=True:=ay (mO (by have:=jo (ds.take i);rw[af];rw[bU] at this;omega));have LR:Good z -> ∀d∈ds.take (i+1),Good d:=λhg d hd=>by rw[et,bh] at hd;obtain hd | hd:=hd;show Rs d hd;simp at hd;rw[hd];show hg
  have Gg:z∈ds:=aT hz;let⟨z1,z2⟩:=z;have Wy:=hw _ Gg;have e3:decide (("go" :Str)= "go")=true:=by right
  have e1:decide (("turn" :Str)= "go")=false:=by right
  have e2:decide (("turn" :Str)= "turn")=true:=by right
  by_cases h1:z1= "go";subst h1;have hs:sstep (eX (ds.take i)) ("go",z2)=((eX (ds.take i)).1+z2,(eX (ds.take i)).2):=am rfl;simp? [↓cI,fQ];exact fg ?_; simp? [↓cI,e3];simp![et,jm,hs] at hN LR;show hN _ _ #[_,_,LR (.inl rfl),rfl,rfl];by_cases h2:z1= "turn";subst h2;have hs:sstep (eX (ds.take i)) ("turn",z2)=((eX (ds.take i)).1,(eX (ds.take i)).2++ [((eX (ds.take i)).1,z2)]):=ak (show ¬((("turn" :Str),z2).1=("go" :Str)) from(by right:¬(("turn" :Str)=("go" :Str))));simp? [↓cI,fQ];exact fg ?_; simp? [↓cI,e1,e2,d4];simp![et,jm,hs,a6,aH,List.map_nil] at hN LR;show hN _ _ #[_,_,LR (.inr rfl),rfl,rfl];have f1:decide (z1= "go")=false:=aL h1;have f2:decide (z1= "turn")=false:=aL h2;simp? [↓cI,fQ];exact fg ?_; simp? [↓cI,f1,f2];have Ui:z1.length<=100:=Wy;(repeat (exact#[by first | decide | decide+kernel | show bf (by omega) | show Oa (by right) Ui | show N_ (by right) Ui (by right),?_]));show#[M,bj hb,ke #[(z1,z2),Gg,λh=>h.elim h1 h2]]
 rintro ρ M' ⟨o1,o2,Rs,rfl,rfl⟩;rw[af,cQ] at*;dsimp only;exact fg ?_; simp? [↓cI];have:=jo ds;exact#[b,p,(eX ds).2,rfl,ao,p0,hf,by omega,?_];simp? [↓cI];show#[M,bj hb,kq Rs]
def EX (T:fj K mg A):bE P w K mg base e9 2 A.z4 A.Ah ["_law_p_here","_law_deeds"] (fD K Pa):=by
 exists T.HQ.fn,["_law_p_here","_law_deeds","_law_here","_law_pairs","_law_word","_law_number"],(ag (a8 (i:=2) nd rfl (by trivial) ai) (ag (a8 (i:=3) nd rfl (by trivial) (fI ae)) (ag (gj cV rfl (fT (K:=K) rfl (pv 1)) (d_ (n:=2) rfl (bw (aZ (i:=4) nd rfl (by trivial)) (bw (aZ (i:=5) nd rfl (by trivial)) dA))) (aj (bu (aR dI (pv 4) aC (a_ _)) (aj (a8 (i:=2) nd rfl (by trivial) (bS eY (pv 2) (pv 5)))) (aj (bN (e7 aS bK bJ dW (pv 3) (aa (aN (aa (pv 2) (aa (pv 5) ae))) ae))))))) (aj (aE (aN (aa (pv 2) (aa (au T.x_ (pW T) hr (aa (pv 0) (aa (pv 3) ae))) ae))))))))
 rintro vs M q ⟨a,p,ds,rfl,ha,p0,hf,hl,k⟩;simp? [↓cI];exact fg ?_; simp? [↓cI];intro b hb;have DO:a≠b:=cg ha hb;exact fg ?_; simp? [↓cI,aQ DO,ha];exact jE (λi ρ M'=> ∃ (o1 o2:gC W),ρ= [some (wi p),some (wr a),some (wi (eX (ds.take i)).1),some (wr b),o1,o2] /\ M'=um M b (.lst ((eX (ds.take i)).2.map ca))) #[none,none,rfl,rfl] ?_ ?_ ?_;rintro i ρ M' _ ⟨o1,o2,rfl,rfl⟩;rw[aQ DO];show ha;rintro i x ρ M' hx ⟨o1,o2,rfl,rfl⟩ N hN;let⟨z,hz,rfl⟩:=Of hx;have Zz:=(bv.mp hz).1;have et:ds.take (i+1)=ds.take i++ [z]:=by rw[cG,hz];rfl
 have d4:(((eX (ds.take i)).2.map ca).length<sizeLine)=True:=ay (mO (by have:=jo (ds.take i);rw[af];rw[bU] at this;omega));let⟨z1,z2⟩:=z;have e3:decide (("go" :Str)= "go")=true:=by right
 by_cases h1:z1= "go";subst h1;have hs:sstep (eX (ds.take i)) ("go",z2)=((eX (ds.take i)).1+z2,(eX (ds.take i)).2):=am rfl;simp? [↓cI,fQ,e3];simp![et,jm,hs] at hN;show hN _ _ #[_,_,rfl,rfl];have hs:sstep (eX (ds.take i)) (z1,z2)=((eX (ds.take i)).1,(eX (ds.take i)).2++ [((eX (ds.take i)).1,z2)]):=ak h1;have f1:decide (z1= "go")=false:=aL h1;simp? [↓cI,fQ,f1,d4];simp![et,jm,hs,a6,aH,List.map_nil] at hN;show hN _ _ #[_,_,rfl,rfl];rintro ρ M' ⟨o1,o2,rfl,rfl⟩;rw[af,cQ];dsimp only;exact fg ?_; simp? [↓cI];have:=jo ds;exact#[b,p,(eX ds).2,rfl,ao,p0,hf,by omega,?_];simp? [↓cI];show#[M,bj hb,k]
def oE (T:fj K mg A):bE P w K mg base e9 4 A.iB A.iC ["p","one","n"] (fD K NG):=by
 have nS:bE P w K mg base e9 3 A.iB A.iC ["p","one","n"] (fD K Bu):=z3;exact Yt T.repeated.fn iS (by left) λcdv A' outer s H E hr=> ?_;have nd:=iS.nd;exact#[_,(ag (bu (aR ko (pv 2) ai (a_ _)) (aj (aE (au T.repeated nS hr (aa (pv 0) (aa (au T.backward (lx T) hr (aa (pv 0) (aa (pv 1) ae))) (aa (gh eV (pv 2)) ae)))))) aK) (ag (gk (pv 1) (d_ (n:=2) rfl (bw (aZ (i:=3) nd rfl (by trivial)) (bw (aZ (i:=4) nd rfl (by trivial)) dA)))) (ag (bu (aR dI (pv 3) ai (a_ _)) (aj (aE (aN (aa ai (aa (au T.timed (tZ T) hr (aa (pv 0) (aa (pv 4) (aa (pv 2) ae)))) ae))))) aK) (ag (qP (i:=5) (n1:=2) rfl nd rfl (Or.inl rfl) (cW.of (sc:=aV ik) (N:= ["p","one","n","end","pattern","pairs"]) (own:= ["place","setting","k"]) (fr:= [3,2]) (N':= ["place","setting","k","end","n"])) (pT (pv 4)) (λ_ _ _ _=>(d_ (n:=2) rfl (bw (aZ (i:=0) (by change(["place","setting","k","end","n"]:c_ Str).Nodup;decide+kernel) rfl (by trivial)) (bw (aZ (i:=1) (by change(["place","setting","k","end","n"]:c_ Str).Nodup;decide+kernel) rfl (by trivial)) dA)))) ⋯ (DD (by change _<_;decide) (by change _<_;decide)) (λ_ _ _ _=>dz) (λ_ _ _ _=>(fJ (by rfl) T.i0 (aa (pv 4) ae))) (λ_ _ _ _=>(aZ (i:=2) (by change(["place","setting","k","end","n"]:c_ Str).Nodup;decide+kernel) rfl (by trivial))) (zP (by change _<=_ /\ _<_;decide)) (λ_ _ _ _=>dz) (λ_ _ _ _=>(aN (aa (bS eY (pv 0) (bS gQ (pv 3) (pv 2))) (aa (pv 1) ae)))) rfl) (aj (aE (aN (aa (bS gQ (pv 3) (pv 2)) (aa (au T.tidy (oC T) hr (aa (pv 0) (aa (pv 5) ae))) ae))))))))),?_];try dsimp only[eL]
 exact#[_,inferInstance,?_];rintro vs M q ⟨p,a,n,rfl,p0,p1,hP,hl,n0,hb,k⟩;have Qk:decide (n<0)=false:=aL (by omega);have sA:=k9 hP p1;dsimp? [gq,Qk];exact dQ (λh=> ?_) λh=> ?_;simp? [↓cI];exact#[p,a.2,n,rfl,p0,BW,hl,sA,?_];simp? [↓cI];exact eP (k (0,pZ p (tm n a.2)) #[?_,fY p0 _,λx=> ?_] (λ_=> ?_) λh'=>absurd h h');rw[h,Int.zero_mul];rw[mn p0,Bd];unfold k7;rw[ak (by omega),h,jM];have:((n.toNat:Nat):Int)=n:=by omega
 rw[this];show ar (iV _ _) (by rw[tm,af];show aq _);let⟨nb,d4⟩:=hb h;have cm: ∀j:Int,j<100000 ->0<=j ->mQ a.1 j=True:=λj h1 h2=>ay (.inr #[by omega,by omega]);dsimp? [gb];exact FC (λ_=>List.range n.toNat) (λ(k:Nat)=>wi (0+(k:Int))) (λz k=>ca (z.1+a.1*(0+(k:Int)),z.2)) ?_ (λ_ _=>trivial) ?_ λt ht=> ?_;exact mO ?_;simp![List.length_range];rw[List.map_const',List.sum_replicate_nat];show ar d4 ⋯;intro z hz M3 s3 B N0 hB;simp? [↓bz,ca];exact#[#[by omega,by omega],hB _ _ (λ_ _=>trivial) ?_];intro j hj M4 s4 N hN;have hj:=List.mem_range.mp hj;simp? [↓bz,cm (0+(j:Int)) (by omega) (by omega)];show hN;have e:(a.2.map λz=>(List.range n.toNat).map λ(k:Nat)=>ca (z.1+a.1*(0+(k:Int)),z.2)).flatten=(lB a.1 n.toNat a.2).map ca:=by rw[lB,List.map_flatten,aU];congr 1;apply dF;intro z _;simp![Function.comp_apply,oq,aU];apply dF;intro j _;rw[Int.zero_add];rfl
 rw[e];have cn:mQ a.1 n=True:=cm n nb n0;dsimp? [cn];exact#[t,p,lB a.1 n.toNat a.2,rfl,ao,p0,BW,by rw[ug];show ar d4 ⋯,?_];simp? [↓cI];exact#[M,bj ht,k (a.1*n,pZ p (lB a.1 n.toNat a.2)) #[rfl,fY p0 _,λx=> ?_] (λh'=>absurd h' h) λ_=> ?_];rw[mn p0,yT];unfold k7;rw[ak (by omega)];exact ar (iV _ _) ?_;rw[ug];have:n.toNat=n.natAbs:=by omega
 rw[this];show aq _
def xT (T:fj K mg A):bE P w K mg base e9 5 A.iB A.iC ["p","one","n"] (fD K NF):=by
 have nS:=oE (P:=P) (w:=w) (base:=base) T;exact Yt T.repeated.fn iS (by left) λcdv A' outer s H E hr=> ?_;have nd:=iS.nd;exact#[_,(ag (bu (aR ko (pv 2) ai (a_ _)) (aj (aE (au T.repeated nS hr (aa (pv 0) (aa (au T.backward (lx T) hr (aa (pv 0) (aa (pv 1) ae))) (aa (gh eV (pv 2)) ae)))))) aK) (ag (gk (pv 1) (d_ (n:=2) rfl (bw (aZ (i:=3) nd rfl (by trivial)) (bw (aZ (i:=4) nd rfl (by trivial)) dA)))) (ag (bu (aR dI (pv 3) ai (a_ _)) (aj (aE (aN (aa ai (aa (au T.timed (tZ T) hr (aa (pv 0) (aa (pv 4) (aa (pv 2) ae)))) ae))))) aK) (ag (qP (i:=5) (n1:=2) rfl nd rfl (Or.inl rfl) (cW.of (sc:=aV ik) (N:= ["p","one","n","end","pattern","pairs"]) (own:= ["place","setting","k"]) (fr:= [3,2]) (N':= ["place","setting","k","end","n"])) (pT (pv 4)) (λ_ _ _ _=>(d_ (n:=2) rfl (bw (aZ (i:=0) (by change(["place","setting","k","end","n"]:c_ Str).Nodup;decide+kernel) rfl (by trivial)) (bw (aZ (i:=1) (by change(["place","setting","k","end","n"]:c_ Str).Nodup;decide+kernel) rfl (by trivial)) dA)))) ⋯ (DD (by change _<_;decide) (by change _<_;decide)) (λ_ _ _ _=>dz) (λ_ _ _ _=>(fJ (by rfl) T.i0 (aa (pv 4) ae))) (λ_ _ _ _=>(aZ (i:=2) (by change(["place","setting","k","end","n"]:c_ Str).Nodup;decide+kernel) rfl (by trivial))) (zP (by change _<=_ /\ _<_;decide)) (λ_ _ _ _=>dz) (λ_ _ _ _=>(aN (aa (bS eY (pv 0) (bS gQ (pv 3) (pv 2))) (aa (pv 1) ae)))) rfl) (aj (aE (aN (aa (bS gQ (pv 3) (pv 2)) (aa (au T.tidy (oC T) hr (aa (pv 0) (aa (pv 5) ae))) ae))))))))),?_];try dsimp only[eL]
 exact#[_,inferInstance,?_];rintro vs M q ⟨p,a,n,rfl,p0,p1,hP,hl,hn,hb,k⟩;have Qk:decide (n<0)=true:=bL hn;have sA:=k9 hP p1;dsimp? [Qk];exact#[p,a,rfl,p0,BW,hl,sA,?_];dsimp? [];have hB:=Cc p a;exact#[p,bk p a, -n,rfl,p0,p1,Cb p0 a,by omega,by omega,λhe=> ?_,λr hr UA LO=> ?_];have he':a.1≠0:=λz=>he (by change -a.1=0;omega);let⟨h1,h2,h3⟩:=hb he';exact#[by omega,ar (Nat.mul_le_mul hB (Nat.le_of_eq ?_)) h3];omega;dsimp? [];have e:(-n).natAbs=n.natAbs:=by omega
 rw[e] at LO;have hm:(bk p a).2.length*n.natAbs<=a.2.length*n.natAbs:=Nat.mul_le_mul_right _ hB;show eP (k r (hr.xX p0 hn) (λh=>ar (UA (by change -a.1=0;omega)) hB) λh=>ar (LO (by change -a.1≠0;omega)) hm)
theorem zx (T:fj K mg A):bE P w K mg base e9 5 A.iB A.iC ["p","one","n"] (fD K Pd):=UZ ((oE T).mono ⋯) (xT T) λ_ _ _=>K8
def By (T:fj K mg A):bE P w K mg base e9 4 A.wK A.wR ["_law_p_here","_law_one","_law_n"] (fD K Pd):=by
 exists T.Dq.fn,["_law_p_here","_law_one","_law_n","_law_base","_law_pairs","_law_k"],(ag (bu (aR dI (aG (show ce _ (bt K) from aB) (pv 1) ai (λ_ _=>rfl)) ai (a_ _)) (aj (aE (aN (aa ai (aa (au T.Ds (t0 T) hr (aa (pv 0) (aa (aN ae) (aa (aG (show ce _ (bt K) from aB) (pv 1) ai (λ_ _=>rfl)) (aa ai (aa (pv 2) ae)))))) ae))))) aK) (ag (a8 (i:=3) nd rfl (by trivial) (pv 1)) (ag (bu (aR ko (pv 2) ai (a_ _)) (aj (a8 (i:=3) nd rfl (by trivial) (au T.HV (E1 T) hr (aa (pv 0) (aa (pv 1) ae))))) aK) (ag (a8 (i:=4) nd rfl (by trivial) (fI ae)) (ag (gj cV rfl (fJ (by rfl) T.i0 (aa (br fM (by rfl) T.rL Boot.«abs» (aa (pv 2) ae)) ae)) (aZ (i:=5) nd rfl (by trivial)) (aj (bN (e7 aS PySem.F.slot_list_extend PySem.F.type_list_extend mD (pv 4) (aa (dB rfl (cW.of (sc:=_) (N:= ["_law_p_here","_law_one","_law_n","_law_base","_law_pairs","_law_k"]) (own:= ["_law_place","_law_setting"]) (fr:= [5,3]) (N':= ["_law_place","_law_setting","_law_k","_law_base"]) rfl rfl rfl (by right) rfl (by right) (by right) (by right) (by right) (bg rfl)) (jR (K:=K) rfl (aG (show ce _ (bt K) from aB) (pv 3) ai (λ_ _=>rfl))) (λ_ _ _ _=>(d_ (n:=2) rfl (bw (aZ (i:=0) (by change(["_law_place","_law_setting","_law_k","_law_base"]:c_ Str).Nodup;decide+kernel) rfl (by trivial)) (bw (aZ (i:=1) (by change(["_law_place","_law_setting","_law_k","_law_base"]:c_ Str).Nodup;decide+kernel) rfl (by trivial)) dA)))) f6 (λ_ _ _ _=>dz) (λ_ _ _ _=>(aN (aa (bS eY (pv 0) (bS gQ (pv 2) (aG (show ce _ (bt K) from aB) (pv 3) ai (λ_ _=>rfl)))) (aa (pv 1) ae))))) ae))))) (aj (aE (aN (aa (bS gQ (aG (show ce _ (bt K) from aB) (pv 3) ai (λ_ _=>rfl)) (br fM (by rfl) T.rL Boot.«abs» (aa (pv 2) ae))) (aa (au T.x_ (pW T) hr (aa (pv 0) (aa (pv 4) ae))) ae))))))))))
 rintro vs M q ⟨p,a,n,rfl,p0,p1,hP,hl,hb,k⟩;have sA:=k9 hP p1;dsimp? [gq];exact dQ (λh=> ?_) λh=> ?_;exact#[p,[],a.2,0,n,rfl,p0,BW,⋯,by omega,sA,?_];dsimp? [];exact eP (k (0,pZ p (Dm 0 n a.2)) #[by rw[h,Int.zero_mul],fY p0 _,λx=> ?_] (λ_=> ?_) λh'=>absurd h h');rw[mn p0,BC,Bd,Lv,h];unfold k7;by_cases hn:n<0;rw[am hn, <- tI (f:=fw a.2) (g:=λx=> -fw a.2 (x+0)) (λ_=>rfl)];change _=fS (λx=> -fw a.2 (x+0)) 0 (-n).toNat x % p;rw[jM,Int.add_zero];have:(((-n).toNat:Nat):Int)= -n:=by omega
 rw[this,Int.neg_mul_neg];rw[ak hn,jM];have:((n.toNat:Nat):Int)=n:=by omega
 rw[this];exact ar (iV _ _) ?_;rw[Dm,af];show aq _;let⟨b1,b2,b3⟩:=hb h;exact fg ?_; simp? [↓cI];exact fg (uu (λρ M'=>M'=M /\ ∃b:WQ.Rd,gJ (ρ= [some (wi p),some (gq a),some (wi n),some (gq b),none,none]) (dR p b.2) (b.2.length<=a.2.length) (b.2.length*n.natAbs<=100000) (∀r,gY p b n.natAbs r ->gY p a n r)) ?_ λN hN=> ?_);rintro ρ M' ⟨rfl,b,rfl,hPb,hlb,hbn,Ze⟩;have UO:(if n<0 then -n else n)=(n.natAbs:Int):=by split<;>omega
 dsimp? [];intro t ht;dsimp? [UO];exact#[#[by omega,by omega],jE (λi ρ Oo=> ∃o1:gC W,ρ= [some (wi p),some (gq a),some (wi n),some (gq b),some (wr t),o1] /\ Oo t=some (.lst ((ox b i).map ca)) /\ Sm M' Oo) #[none,rfl,ao,bj ht] (λ_ _ _ _ _=>trivial) ?_ ?_];rintro i x ρ Oo hx ⟨o1,rfl,hM,sM⟩ N hN;let⟨hi,rfl⟩:=ju hx;have cm:mQ (0+(i:Int)) b.1=True:=ay (.inl #[by omega,by omega]);dsimp? [hM,gq,gb];exact eQ (λz=>ca (z.1+(0+(i:Int))*b.1,z.2)) (big (by omega)) (λ_ _=>trivial) ?_ λu hu=> ?_;intro z hz M3 N3 s3 jd;simp? [↓bz,ca,cm];show jd;have e:b.2.map (λz=>ca (z.1+(0+(i:Int))*b.1,z.2))=(mv ((i:Int)*b.1) b.2).map ca:=by rw[mv,aU,Int.zero_add];rfl
 rw[e];have Y8:t≠u:=cg hM hu;have d4:(((ox b i).map ca).length+((mv ((i:Int)*b.1) b.2).map ca).length<=sizeLine)=True:=ay (big (by rw[af,af,ou,p7];have h1:(i+1)*b.2.length<=n.natAbs*b.2.length:=Nat.mul_le_mul_right _ (by omega);rw[Nat.succ_mul] at h1;rw[Nat.mul_comm n.natAbs] at h1;omega));dsimp? [aQ Y8,hM,d4];exact hN _ _ #[_,rfl,?_,λc o e=> ?_];rw[ao,ox,a6];rw[aQ (cg e ht)];show(bj hu) _ _ (sM c o e);rintro ρ Oo ⟨o1,rfl,hM,sM⟩;rw[hG] at hM;have en:((n.natAbs:Int)).toNat=n.natAbs:=by omega
 rw[en] at hM;dsimp only;have cm:mQ b.1 (n.natAbs:Int)=True:=ay (.inr #[by omega,by omega]);dsimp? [UO,gq,cm];exact#[t,p,ox b n.natAbs,rfl,hM,p0,BW,by rw[ou,Nat.mul_comm];omega,?_];dsimp? [];exact#[M',sM,k (b.1*(n.natAbs:Int),pZ p (ox b n.natAbs)) (Ze _ #[rfl,fY p0 _,λx=> ?_]) (λh'=>absurd h' h) λ_=> ?_];rw[mn p0,vU];unfold k7;rw[ak (by omega)];have:((n.natAbs:Int)).toNat=n.natAbs:=by omega
 rw[this];exact ar (iV _ _) ?_;rw[ou,Nat.mul_comm];show Nat.mul_le_mul_right _ hlb;dsimp? [];have hB:=Cc p a;exact dQ (λhn=> ?_) λhn=> ?_;dsimp? [];exact#[p,a,rfl,p0,BW,hl,sA,?_];dsimp? [];exact hN _ _ #[rfl,bk p a,rfl,Cb p0 a,hB,ar (Nat.mul_le_mul_right _ hB) b3,λr hr=> ?_];have e:((n.natAbs:Nat):Int)= -n:=by omega
 rw[e] at hr;show hr.xX p0 hn;dsimp? [];exact hN _ _ #[rfl,a,rfl,hP,aq _,b3,λr hr=> ?_];have e:((n.natAbs:Nat):Int)=n:=by omega
 rw[e] at hr;show hr
def fA (T:fj K mg A):bE P w K mg base (iJ P w) 1 A.oX A.pi ["name"] (rS K (Pl A.eD)):=by
 exact AY T.check_name.fn mR (by rintro vs M q e ⟨n,rfl,_⟩;rfl) λcdv A' outer s H E e hr hF hP=> ?_;have nd:=mR.nd;exact#[_,(aj (bu (kn (d9 (zp tW tW ai (br qw (by rfl) T.mf Boot.«len» (aa (pv 0) ae)) (fU (by rfl) T.kY.choose_spec (show RelV (.int 12) _ from#[_,rfl])))) (ix (dt (br (wZ rfl) (by rfl) T.Ol Boot.«any» (aa (dB rfl (cW.of (sc:=_) (N:= ["name"]) (own:= ["sign"]) (fr:= []) (N':= ["sign"]) rfl rfl rfl (by right) rfl (by right) (by right) (by right) (by right) (bg rfl)) (Hn (pv 0)) (λ_ _ _ _=>(aZ (i:=0) (by change(["sign"]:c_ Str).Nodup;decide+kernel) rfl (by trivial))) d7 (λ_ _ _ _=>dz) (λ_ _ _ _=>(gu EU (pv 0) (fU (by rfl) T.EA.choose_spec (show RelV (.str "abcdefghijklmnopqrstuvwxyz") _ from#[_,rfl])) (by rfl)))) ae))))).pt (aj (d5 hF rfl (by rfl) T.vQ (aa (eJ (bO aC (bO (nD (fU (by rfl) T.kY.choose_spec (show RelV (.int 12) _ from#[_,rfl]))) (bO aC fH)))) ae))) aK)),?_];try dsimp only[eL]
 exact#[_,inferInstance,?_];rintro vs M q ⟨n,rfl,ha,hl,kq,ke⟩;have hz:n.length<=sizeLine:=bf (by omega);have Iq:(n.length<=sizeLine)=True:=ay hz;dsimp? [Iq];by_cases h1:1<=n.length
 .have e1:decide (1<=(n.length:Int))=true:=bL (by omega);by_cases h2:n.length<=12
  .have e2:decide ((n.length:Int) <=12)=true:=bL (by omega);dsimp? [e1,e2,ha,aX];exact eQ (λc=>wb (!AZ c yJ)) (by unfold AX;rw[af, <- str_len];show hz) (λ_ _=>trivial) ?_ λu hu=> ?_;intro c hc M3 N3 s3 jd;dsimp? [];show jd;exact#[u,(AX n).map λc=> !AZ c yJ,rfl,by rw[ao,aU];rfl,?_];have e3:((AX n).map λc=> !AZ c yJ).any id= !ci n:=by have d1:decide (1<=n.length)=true:=bL h1;have d2:decide (n.length<=12)=true:=bL h2;unfold ci;rw[d1,d2,List.any_map,Bool.true_and,Bool.true_and,List.not_all_eq_any_not];rfl
   rw[e3];dsimp? [];cases hn:ci n with
   | true=> dsimp? [aX];show#[M,bj hu,kq hn]
   | false=> dsimp? [bp];(repeat (exact#[by first | decide | decide+kernel,?_]));show#[M,bj hu,ke hn]
  .have e2:decide ((n.length:Int) <=12)=false:=aL (by omega);dsimp? [e1,e2,bp];(repeat (exact#[by first | decide | decide+kernel,?_]));show#[M,Sm.refl M,ke (by unfold ci;rw[aL h2];simp)]
 .have e1:decide (1<=(n.length:Int))=false:=aL (by omega);dsimp? [e1];(repeat (exact#[by first | decide | decide+kernel,?_]));show#[M,Sm.refl M,ke (by unfold ci;rw[aL h1];simp)]
def mX (T:fj K mg A):bE P w K mg base e9 1 A.oU A.pd ["things","name","thing"] (fD K O_):=by
 exists T.with_thing.fn,["things","name","thing","changed"],(ag (a8 (i:=3) nd rfl (by trivial) (b_ j5 (by rfl) T.yq Boot.«dict» (aa (pv 0) ae))) (ag (mx (dU hr) (pv 3) (pv 1) (pv 2) rfl) (aj (aE (pv 3)))))
 rintro vs M q ⟨d,kvs,n,x,rfl,hd,hl,k⟩;dsimp? [hd];intro u hu;have hs:(kvs.length<sizeLine)=True:=ay (mO (by omega));exact fg ?_; simp? [↓cI,hs];show eP (k u hu)
def tY (T:fj K mg A):bE P w K mg base e9 1 A.wH A.wP ["things","name"] (fD K Ht):=by
 exists T.without.fn,["things","name","changed"],(ag (a8 (i:=2) nd rfl (by trivial) (b_ j5 (by rfl) T.yq Boot.«dict» (aa (pv 0) ae))) (ag (K2 (pv 2) (pv 1)) (aj (aE (pv 2)))))
 rintro vs M q ⟨d,kvs,n,rfl,hd,hl,k⟩;dsimp? [hd];intro u hu;exact fg ?_; simp? [↓cI,hl];show eP (k u hu)
def oH (T:fj K mg A):bE P w K mg base e9 1 A.IW A.Jk ["self","rounds","teams"] (fD K (Tk A.bx)):=by
 have cl:=ay T.Page.cl;have n1:=ay T.n_Page_rounds;have n2:=ay T.n_Page_teams;exists T.Page.fn,["self","rounds","teams"],(ag (jQ (pv 0) (pv 1) rfl) (aj (jQ (pv 0) (pv 2) rfl)))
 rintro vs M q ⟨s,dx,r,t,rfl,hs,k⟩;have e1:iT "rounds" (wr r) []= [(("rounds" :Str),wr r)]:=rfl;have e2:iT "teams" (wr t) [(("rounds" :Str),wr r)]=lr r t:=rfl;dsimp? [hs,cl,n1,n2,e1,e2,Nat.reduceLT];show eP k
def Lm (T:fj K mg A):bE P w K mg base e9 3 A.IX A.Jl ["self","p"] (fD K (Tt A.a4 A.bx)):=by
 have cl:=ay T.Book.cl;have n1:=ay T.n_Book_p;have n2:=ay T.n_Book_now;have n3:=ay T.n_Book_past;have n4:=ay T.n_Book_undone;have n5:=ay T.n_Book_held;exists T.Book.fn,["self","p"],(ag (bu (aR (mC (K:=K) rfl) (pv 1) (K6 (by rfl) T.GN) (by rfl)) (aj Hm) aK) (ag (jQ (pv 0) (pv 1) rfl) (ag (jQ (pv 0) (jw T.Page (oH T) (hr.mono ⋯) (by rfl) (aa jx (aa jx ae))) rfl) (ag (jQ (pv 0) (fI ae) rfl) (ag (jQ (pv 0) (fI ae) rfl) (aj (jQ (pv 0) (fI ae) rfl)))))))
 rintro vs M q ⟨s,dx,p,rfl,hp,hs,k⟩;dsimp? [];exact#[.int p,[.int 2, .int 3, .int 5, .int 7],rfl, .inl rfl,rfl,rfl,?_];have zY:(if true=true then !NW (.int p) [.int 2, .int 3, .int 5, .int 7] else NW (.int p) [.int 2, .int 3, .int 5, .int 7])=false:=by obtain rfl | rfl | rfl | rfl:=hp <;>decide+kernel
 rw[zY];have e1:iT "p" (wi p) []= [(("p" :Str),wi p)]:=rfl;dsimp? [hs,cl,n1,e1,Nat.reduceLT];intro r iA;dsimp? [];intro t ht;dsimp? [];intro pg mF nI Ki nK;exact#[pg,mF,r,t,rfl,ao,rfl,?_];have h1:Fs s M (um M s (.ins A.a4 dx [("p",wi p)])):=Fs.self;have h2:=h1.new (o:= .dK []) iA;have h3:=h2.new (o:= .dK []) ht;have h4:=(h3.new (o:= .ins A.bx mF []) nI)
 have Wp:s≠r:=cg ao iA;have Yy:s≠t:=cg (by rw[aQ Wp];show ao) ht;have nps:s≠pg:=cg (by rw[aQ Yy,aQ Wp];show ao) nI;have nrt:r≠t:=cg ao ht;have nrp:r≠pg:=cg (by rw[aQ nrt];show ao) nI;have ntp:t≠pg:=cg ao nI;have f5:Fs s M (um (um (um (um (um M s (.ins A.a4 dx [("p",wi p)])) r (.dK [])) t (.dK [])) pg (.ins A.bx mF [])) pg (.ins A.bx mF (lr r t))):=by rw[j_];show h3.new nI
 have g1:(um (um (um (um (um M s (.ins A.a4 dx [("p",wi p)])) r (.dK [])) t (.dK [])) pg (.ins A.bx mF [])) pg (.ins A.bx mF (lr r t))) s=some (.ins A.a4 dx [("p",wi p)]):=by rw[j_,aQ nps,aQ Yy,aQ Wp];show ao
 have g2:(um (um (um (um (um M s (.ins A.a4 dx [("p",wi p)])) r (.dK [])) t (.dK [])) pg (.ins A.bx mF [])) pg (.ins A.bx mF (lr r t))) r=some (.dK []):=by rw[j_,aQ nrp,aQ nrt];show ao
 have g3:(um (um (um (um (um M s (.ins A.a4 dx [("p",wi p)])) r (.dK [])) t (.dK [])) pg (.ins A.bx mF [])) pg (.ins A.bx mF (lr r t))) t=some (.dK []):=by rw[j_,aQ ntp];show ao
 have g4:(um (um (um (um (um M s (.ins A.a4 dx [("p",wi p)])) r (.dK [])) t (.dK [])) pg (.ins A.bx mF [])) pg (.ins A.bx mF (lr r t))) pg=some (.ins A.bx mF (lr r t)):=ao;generalize (um (um (um (um (um M s (.ins A.a4 dx [("p",wi p)])) r (.dK [])) t (.dK [])) pg (.ins A.bx mF [])) pg (.ins A.bx mF (lr r t)))=M4 at f5 g1 g2 g3 g4;clear h1 h2 h3 h4 iA ht nI Ki;have e2:iT "now" (wr pg) [(("p" :Str),wi p)]= [(("p" :Str),wi p),("now",wr pg)]:=rfl;dsimp? [g1,cl,n2,e2,az,List.length_nil,Nat.reduceLT];intro la Kg;have HI:s≠la:=cg ao Kg;have e3:iT "past" (wr la) [(("p" :Str),wi p),("now",wr pg)]= [(("p" :Str),wi p),("now",wr pg),("past",wr la)]:=rfl;dsimp? [aQ HI,cl,n3,e3,az,List.length_nil,Nat.reduceLT];intro lu yH;have PD:s≠lu:=cg ao yH;have Lr:la≠lu:=cg (by rw[aQ HI.symm];show ao) yH;have e4:iT "undone" (wr lu) [(("p" :Str),wi p),("now",wr pg),("past",wr la)]= [(("p" :Str),wi p),("now",wr pg),("past",wr la),("undone",wr lu)]:=rfl;dsimp? [aQ PD,cl,n4,e4,az,List.length_nil,Nat.reduceLT];intro lh LP;have NK:s≠lh:=cg ao LP;have PF:la≠lh:=cg (by rw[aQ HI.symm,aQ Lr,aQ HI.symm];show ao) LP;have PB:lu≠lh:=cg (by rw[aQ PD.symm];show ao) LP;have e5:iT "held" (wr lh) [(("p" :Str),wi p),("now",wr pg),("past",wr la),("undone",wr lu)]=fC p pg la lu lh:=rfl;dsimp? [aQ NK,cl,n5,e5,az,List.length_nil,Nat.reduceLT];have F:=((((((Fs.self (M:=M4) (s:=s)).new Kg (o:= .lst [])).put (o:= .ins A.a4 dx [(("p" :Str),wi p),("now",wr pg),("past",wr la)])).new yH (o:= .lst [])).put (o:= .ins A.a4 dx [(("p" :Str),wi p),("now",wr pg),("past",wr la),("undone",wr lu)])).new LP (o:= .lst [])).put (o:= .ins A.a4 dx (fC p pg la lu lh));exact eP (k _ la lu lh pg #[#[dx,ao],?_,?_,?_,#[Lr,PF,PB],mF,r,t,F _ _ g4 nps.symm,F _ _ g2 Wp.symm,F _ _ g3 Yy.symm] (f5.trans F) ?_ ?_ ?_ HI.symm);rw[aQ HI.symm,aQ PF,aQ HI.symm,aQ Lr,aQ HI.symm];show ao;rw[aQ PD.symm,aQ PB,aQ PD.symm];show ao;rw[aQ NK.symm];show ao;rw[aQ HI.symm] at Kg;show f5.free Kg HI.symm;rw[aQ PD.symm,aQ Lr.symm,aQ PD.symm] at yH;show f5.free yH PD.symm;rw[aQ NK.symm,aQ PB.symm,aQ NK.symm,aQ PF.symm,aQ NK.symm] at LP;show f5.free LP NK.symm
def pY (T:fj K mg A):bE P w K mg base e9 1 A.kC A.kJ ["self"] (fD K (ER A.a4 A.bx)):=by
 have cl:=ay T.Book.cl;have n1:=ay T.n_Book_p;exists T.nv.fn,["self"],(aj (aE (bP (K:=K) rfl (pv 0) rfl)))
 rintro vs M q ⟨b,la,lu,lh,now,p,pa,un,he,R,T',rfl,hB,k⟩;let⟨dx,hb⟩:=hB.ob;dsimp? [hb,cl,n1,FI];show eP k
def lv (T:fj K mg A):bE P w K mg base e9 1 A.m8 A.nj ["one","farthest_end","farthest_place"] (fD K Hu):=by
 exists T.lies_within.fn,["one","farthest_end","farthest_place","end","pattern"],(ag (gk (pv 0) (d_ (n:=2) rfl (bw (aZ (i:=3) nd rfl (by trivial)) (bw (aZ (i:=4) nd rfl (by trivial)) dA)))) (aj (aE (xM (gu tW (br fM (by rfl) T.rL Boot.«abs» (aa (pv 3) ae)) (pv 1) (a_ _)) (tS (br (hZ rfl) (by rfl) T.xg Boot.«all» (aa (dB rfl (cW.of (sc:=aV i7) (N:= ["one","farthest_end","farthest_place","end","pattern"]) (own:= ["place","setting"]) (fr:= [2]) (N':= ["place","setting","farthest_place"])) (pT (pv 4)) (λ_ _ _ _=>(d_ (n:=2) rfl (bw (aZ (i:=0) (by change(["place","setting","farthest_place"]:c_ Str).Nodup;decide+kernel) rfl (by trivial)) (bw (aZ (i:=1) (by change(["place","setting","farthest_place"]:c_ Str).Nodup;decide+kernel) rfl (by trivial)) dA)))) f6 (λ_ _ _ _=>dz) (λ_ _ _ _=>(gu tW (br fM (by rfl) T.rL Boot.«abs» (aa (pv 0) ae)) (pv 2) (a_ _)))) ae)))))))
 rintro vs M q ⟨a,e,r,rfl,hl,k⟩;have sm: ∀u o,M u=none ->Sm M (um M u o):=λu o h=>bj h;have ef:gd a e r= !(decide ((if a.1<0 then -a.1 else a.1) <=e) && a.2.all λz=>decide ((if z.1<0 then -z.1 else z.1) <=r)):=rfl;dsimp? [gq,gb];cases h1:decide ((if a.1<0 then -a.1 else a.1) <=e) with
 | false=>rw[h1,Bool.false_and] at ef;rw[ef] at k;dsimp? [];show eP k
 | true=>rw[h1,Bool.true_and] at ef;rw[ef,Bool.not_not] at k;dsimp? [];exact eQ (λz=>wb (decide ((if z.1<0 then -z.1 else z.1) <=r))) (big (by omega)) (λ_ _=>trivial) ?_ λu hu=> ?_;intro z hz M3 N3 s3 jd;dsimp? [ca];show jd;exact#[u,a.2.map λz=>decide ((if z.1<0 then -z.1 else z.1) <=r),rfl,by rw[ao,aU];rfl,?_];rw[List.all_map];show#[M,bj hu,k]
def oG (T:fj K mg A):bE P w K mg base e9 2 A.rb A.rA ["one"] (fD K Pk):=by
 exists T.fits_crew.fn,["one"],(aj (aE (au T.lies_within (lv T) hr (aa (pv 0) (aa (fU (by rfl) T.tD.choose_spec (show RelV (.int 8) _ from#[_,rfl])) (aa (fU (by rfl) T.pK.choose_spec (show RelV (.int 24) _ from#[_,rfl])) ae))))))
 rintro vs M q ⟨a,rfl,hl,k⟩;dsimp? [];show#[a,8,24,rfl,hl,eP k]
def fE (T:fj K mg A):bE P w K mg base e9 1 A.lL A.lX ["self","page"] (fD K (Tg A.a4 A.bx)):=by
 have cl:=ay T.Book.cl;have n2:=ay T.n_Book_now;have n3:=ay T.n_Book_past;have n4:=ay T.n_Book_undone;exists T.f9.fn,["self","page"],(ag (bN (e7 aS bK bJ dW (bP (K:=K) rfl (pv 0) rfl) (aa (bP (K:=K) rfl (pv 0) rfl) ae))) (ag (jQ (pv 0) (fI ae) rfl) (aj (jQ (pv 0) (pv 1) rfl))))
 rintro vs M q ⟨b,la,lu,lh,now,pg,p,pa,un,he,R,T',R',T1,rfl,hB,hP,hl,k⟩;let⟨dx,hb⟩:=hB.ob;have hs:((pa.map wr).length<sizeLine)=True:=ay (mO (by rw[af];omega));have ha:=hB.pa;have YD:b≠la:=λz=>by subst z;rw[hb] at ha;cases ha
 dsimp? [hb,cl,n2,n3,n4,j7,afh,ha,hs];intro eK hu;have YE:la≠eK:=cg ao hu;have nbu:b≠eK:=cg (by rw[aQ YD];show hb) hu;dsimp? [aQ nbu,aQ YD,hb,cl,n2,n4,afg,afe,aff];have Rq:M eK=none:=by rwa [aQ YE.symm] at hu
 have F:Ev b la M (um (um (um M la (.lst (pa.map wr++ [wr now]))) eK (.lst [])) b (.ins A.a4 dx (fC p pg la eK lh))):=λa o h n1 n2=>by rw[aQ n1,aQ (cg h Rq),aQ n2];show h
 have hh:=hB.he;exact eP (k _ eK #[#[dx,ao],?_,?_,F _ _ hh (λz=>by subst z;rw[hb] at hh;cases hh) hB.ne.2.1.symm,#[YE,hB.ne.2.1,(cg hh Rq).symm],F.pg hb ha hP] F Rq);rw[aQ YD.symm,aQ YE,ao,a6];rfl;rw[aQ nbu.symm];show ao
def jz (T:fj K mg A):bE P w K mg base e9 1 A.kH A.kM ["self","name"] (fD K (ET A.a4 A.bx)):=by
 have cl:=ay T.Book.cl;have qv:=ay T.Page.cl;have n2:=ay T.n_Book_now;have n3:=ay T.n_Page_teams;exists T.jh.fn,["self","name"],(aj (aE (br (wZ rfl) (by rfl) T.Ol Boot.«any» (aa (Dc (dB rfl (cW.of (sc:=_) (N:= ["self","name"]) (own:= ["team"]) (fr:= [1]) (N':= ["team","name"]) rfl rfl rfl (by right) rfl (by right) (by right) (by right) (by right) (bg rfl)) (K3 (bP (K:=K) rfl (bP (K:=K) rfl (pv 0) rfl) rfl)) (λ_ _ _ _=>(aZ (i:=0) (by change(["team","name"]:c_ Str).Nodup;decide+kernel) rfl (by trivial))) d7 (λ_ _ _ _=>dz) (λ_ _ _ _=>(gu (tX (K:=K) rfl) (pv 1) (pv 0) (by rfl))))) ae))))
 rintro vs M q ⟨b,la,lu,lh,now,p,pa,un,he,R,T',n,rfl,hB,hl,k⟩;let⟨dx,hb⟩:=hB.ob;let⟨mF,r,t,h1,h2,h3⟩:=hB.pg;dsimp? [];exact#[t,_,h3,?_];dsimp? [hb,h1,cl,qv,n2,n3,j7,nC,h3];intro o ks;rw[GL];exact eQ (λz=>wb (qW n z.2)) (big (by omega)) (λM2 s2=>s2 _ _ ao) ?_ λu hu=> ?_;intro z hz M3 N3 s3 jd;dsimp? [];show sW jd;have nut:t≠u:=cg ao hu;exact#[o,ks,_,by rw[aQ nut];show ao,u,T'.map λz=>qW n z.2,rfl,by rw[aQ nut.symm,ao,aU];rfl,M,CD h3 hu,?_];rw[List.any_map];show k
def iU (T:fj K mg A):bE P w K mg base (iJ P w) 4 A.uK A.uQ ["self","name","one"] (rS K (ES A.a4 A.bx A.dY)):=by
 have cl:=ay T.Book.cl;have qv:=ay T.Page.cl;have n2:=ay T.n_Book_now;have n3:=ay T.n_Page_teams;have n4:=ay T.n_Page_rounds;exact AY T.ml.fn qF (by rintro vs M q e ⟨b,la,lu,lh,now,p,pa,un,he,R,T',n,a,rfl,_⟩;rfl) λcdv A' outer s H E e hr hF hP=> ?_;have nd:=qF.nd;exact#[_,(ag (bu (d9 (dt (au T.lies_within (lv T) hr (aa (pv 2) (aa (fU (by rfl) T.nw.choose_spec (show RelV (.int 200) _ from#[_,rfl])) (aa (fU (by rfl) T.nw.choose_spec (show RelV (.int 200) _ from#[_,rfl])) ae)))))) (aj (d5 hF rfl (by rfl) T.nV (aa (eJ (bO aC (bO (nD (fU (by rfl) T.nw.choose_spec (show RelV (.int 200) _ from#[_,rfl]))) (bO aC fH)))) ae))) aK) (ag (bu (pS (dt (eB T.jh (jz T) (hr.mono ⋯) (pv 0) (aa (pv 1) ae))) (mq (d9 (dt (au T.fits_crew (oG T) hr (aa (pv 2) ae)))))).pt (aj (d5 hF rfl (by rfl) T.nV (aa aC ae))) aK) (aj (bN (eB T.f9 (fE T) (hr.mono ⋯) (pv 0) (aa (jw T.Page (oH T) (hr.mono ⋯) (by rfl) (aa (au T.with_thing (mX T) hr (aa (bP (K:=K) rfl (bP (K:=K) rfl (pv 0) rfl) rfl) (aa (pv 1) (aa (pv 2) ae)))) (aa (bP (K:=K) rfl (bP (K:=K) rfl (pv 0) rfl) rfl) ae))) ae)))))),?_];try dsimp only[eL]
 exact#[_,inferInstance,?_];rintro vs M q ⟨b,la,lu,lh,now,p,pa,un,he,R,T',n,a,rfl,hB,hl,hlR,hlT,Kg,kq,ke⟩;let⟨dx,hb⟩:=hB.ob;let⟨mF,r,t,h1,h2,h3⟩:=hB.pg;have up: ∀C,e C M ->WL.up e C M:=λC h=>#[M,Sm.refl M,h]
 dsimp? [];exact#[a,200,200,rfl,Kg,?_];cases hf:gd a 200 200 with
 | true=>dsimp? [aX,bp];(repeat (exact#[by first | decide | decide+kernel,?_]));show up _ (ke (by unfold dq;rw[hf];rfl))
 | false=>
  dsimp? [aX,bp,hb,rK];exact#[b,la,lu,lh,now,p,pa,un,he,R,T',n,rfl,hB,hlT,?_];cases hu:rQ T' n with
  | false=>
   have nM:dq T' n a=false:=by unfold dq;rw[hf,hu];rfl
   dsimp? [hb,h1,cl,qv,n2,n3,n4,j7,nC,pV,iE];rw[mm];dsimp? [hb,h1,cl,qv,n2,n3,n4,j7,nC,pV];exact#[r,_,n,_,rfl,h2,by rw[nZ];omega,λu hu=> ?_];have Uy:=cg hb hu;have nJ:=cg h1 hu;dsimp? [aQ Uy,aQ nJ,hb,h1,cl,qv,n2,n3,n4,j7,nC,pV];intro pg yk nI Ki nK;rw[gr] at nI ⊢;exact#[pg,yk,u,t,rfl,ao,rfl,?_];rw[j_];have s2:=(bj hu (o:= .dK (rR gq (gO R n a)))).trans (bj nI (o:= .ins A.bx yk (lr u t)));have Lp:=cg ao nI;show#[b,la,lu,lh,now,pg,p,pa,un,he,R,T',_,T',rfl,hB.sm s2,#[yk,u,t,ao,by rw[aQ Lp];show ao,s2 _ _ h3],hl,λM' eK B' F yH=>eP (kq nM M' eK pg B' (F.sm s2) (s2.free yH) ((bj hu).free nI))]
  | true=>
   dsimp? [];exact#[a,rfl,Kg,?_];cases Kh:gd a 8 24 with
   | true=>dsimp? [aX,bp];(repeat (exact#[by first | decide | decide+kernel,?_]));show up _ (ke (by unfold dq;rw[hu,Kh,hf];rfl))
   | false=>
    have nM:dq T' n a=false:=by unfold dq;rw[hf,hu,Kh];rfl
    dsimp? [aX,bp,hb,h1,cl,qv,n2,n3,n4,j7,nC,pV,iE];rw[mm];dsimp? [hb,h1,cl,qv,n2,n3,n4,j7,nC,pV];exact#[r,_,n,_,rfl,h2,by rw[nZ];omega,λu hu=> ?_];have Uy:=cg hb hu;have nJ:=cg h1 hu;dsimp? [aQ Uy,aQ nJ,hb,h1,cl,qv,n2,n3,n4,j7,nC,pV];intro pg yk nI Ki nK;rw[gr] at nI ⊢;exact#[pg,yk,u,t,rfl,ao,rfl,?_];rw[j_];have s2:=(bj hu (o:= .dK (rR gq (gO R n a)))).trans (bj nI (o:= .ins A.bx yk (lr u t)));have Lp:=cg ao nI;show#[b,la,lu,lh,now,pg,p,pa,un,he,R,T',_,T',rfl,hB.sm s2,#[yk,u,t,ao,by rw[aQ Lp];show ao,s2 _ _ h3],hl,λM' eK B' F yH=>eP (kq nM M' eK pg B' (F.sm s2) (s2.free yH) ((bj hu).free nI))]
def cY (T:fj K mg A):bE P w K mg base (iJ P w) 1 A.kF A.kK ["self","name"] (rS K (Hw A.a4 A.bx A.eC)):=by
 have cl:=ay T.Book.cl;have qv:=ay T.Page.cl;have n2:=ay T.n_Book_now;have n4:=ay T.n_Page_rounds;exact AY T.dG.fn jr (by rintro vs M q e ⟨b,la,lu,lh,now,p,pa,un,he,R,T',n,rfl,_⟩;rfl) λcdv A' outer s H E e hr hF hP=> ?_;have nd:=jr.nd;exact#[_,(ag (bu (nB (jy (dU hr) (pv 1) (bP (K:=K) rfl (bP (K:=K) rfl (pv 0) rfl) rfl))) (aj (d5 hF rfl (by rfl) T.pH (aa (eJ (bO aC (bO (gP (pv 1)) fH))) ae))) aK) (aj (aE (eA (dU hr) (bP (K:=K) rfl (bP (K:=K) rfl (pv 0) rfl) rfl) (pv 1) (λ_ _=>rfl))))),?_];try dsimp only[eL]
 exact#[_,inferInstance,?_];rintro vs M q ⟨b,la,lu,lh,now,p,pa,un,he,R,T',n,rfl,hB,hl,kq,ke⟩;let⟨dx,hb⟩:=hB.ob;let⟨mF,r,t,h1,h2,h3⟩:=hB.pg;dsimp? [hb,h1,h2,cl,qv,n2,n4,j7,pV,cK];cases hg:cx R n with
 | some a=>dsimp? [bC,cq,aX];dsimp? [hb,h1,h2,cl,qv,n2,n4,j7,pV,cK,hg,bC];show eP (kq a hg)
 | none=>dsimp? [Option.map_none,df,bp];(repeat (exact#[by first | decide | decide+kernel | show bf (by omega) | show Oa (by right) hl | show N_ (by right) hl (by right),?_]));show#[M,Sm.refl M,ke hg]
def mY (T:fj K mg A):bE P w K mg base e9 1 A.oY A.pj ["self"] (fD K (K_ A.a4 A.bx)):=by
 have cl:=ay T.Book.cl;have qv:=ay T.Page.cl;have n2:=ay T.n_Book_now;have n4:=ay T.n_Page_rounds;exists T.nT.fn,["self"],(aj (aE (br (fo rfl) (by rfl) T.gH Boot.«sorted» (aa (bP (K:=K) rfl (bP (K:=K) rfl (pv 0) rfl) rfl) ae))))
 rintro vs M q ⟨b,la,lu,lh,now,p,pa,un,he,R,T',rfl,hB,hl,k⟩;let⟨dx,hb⟩:=hB.ob;let⟨mF,r,t,h1,h2,h3⟩:=hB.pg;dsimp? [hb,h1,h2,cl,qv,n2,n4,j7,pV];show#[r,_,R.map (·.1),rfl,h2,jl _ _,by rw[af];show big (by omega),λu ns hu h3 h4=>eP (k u ns hu h3 h4)]
def mZ (T:fj K mg A):bE P w K mg base e9 1 A.o0 A.pq ["self"] (fD K (Le A.a4 A.bx)):=by
 have cl:=ay T.Book.cl;have qv:=ay T.Page.cl;have n2:=ay T.n_Book_now;have n4:=ay T.n_Page_teams;exists T.nU.fn,["self"],(aj (aE (br (fo rfl) (by rfl) T.gH Boot.«sorted» (aa (bP (K:=K) rfl (bP (K:=K) rfl (pv 0) rfl) rfl) ae))))
 rintro vs M q ⟨b,la,lu,lh,now,p,pa,un,he,R,T',rfl,hB,hl,k⟩;let⟨dx,hb⟩:=hB.ob;let⟨mF,r,t,h1,h2,h3⟩:=hB.pg;dsimp? [hb,h1,h3,cl,qv,n2,n4,j7,nC];show#[t,_,T'.map (·.1),rfl,h3,jl _ _,by rw[af];show big (by omega),λu ns hu h3 h4=>eP (k u ns hu h3 h4)]
def xV (T:fj K mg A):bE P w K mg base (iJ P w) 5 A.rf A.rD ["self","name","deeds"] (rS K (Ts A.a4 A.bx (uV A) U0)):=by
 have cl:=ay T.Book.cl;have n1:=ay T.n_Book_p;exact AY T.xi.fn n_ (by rintro vs M q e ⟨b,la,lu,lh,now,p,pa,un,he,R,T',dd,ys,rfl,⟨n,a,ds,rfl,_⟩,_⟩;rfl) λcdv A' outer s H E e hr hF hP=> ?_;have nd:=n_.nd;exact#[_,(ag (bN (hU hP T.check_name (fA T) (hr.mono ⋯) (by rfl) (aa (pv 1) ae))) (aj (bN (cr hP T.ml (iU T) (hr.mono ⋯) (pv 0) (aa (pv 1) (aa (hU hP T.gone (Ll T) (hr.mono ⋯) (by rfl) (aa (bP (K:=K) rfl (pv 0) rfl) (aa (pv 2) ae))) ae)))))),?_];try dsimp only[eL]
 exact#[_,inferInstance,?_];rintro vs M q ⟨b,la,lu,lh,now,p,pa,un,he,R,T',dd,ys,rfl,⟨n,a,ds,rfl,rfl,ha⟩,⟨hn,hd,hw⟩,hB,hS,kq,ke⟩;let⟨dx,hb⟩:=hB.ob;have p0:0<p:=by have:=hS.p4;omega
 have up: ∀C,e C M ->WL.up e C M:=λC h=>#[M,Sm.refl M,h]
 exact#[n,rfl,hn.as,hn.len,λjc=> ?_,λjc=>up _ (ke .BadName (by rw[cw,am jc]))];have BO: ∀ (a':WQ.Rd),a'.2.length<=1000000 ->cw p R T' (.tell n ds)=iM R T' n a' ->ES A.a4 A.bx A.dY [wr b,ws n,gq a'] M (λ_ M1=> ∃M0,Sm M0 M1 /\ q wn M0) (WL.up e):=λa' hl ho=>xG hB hS hl ho kq λr h=>up _ (ke r h);dsimp? [hb,cl,n1,FI,uY];exact#[a,p,ds,rfl,ha,p0,BW,by omega,hw,λhg=> ?_,λhg=>up _ (ke .NoDeed ?_)];dsimp? [];show BO _ (ar (iV _ _) (ar (jo _) (by omega))) (by rw[cw,ak (by rw[jc];decide),ak (by rw[uG.mpr hg];decide)]);have:je ds=false:=by
  cases h:je ds with
  | false=>rfl
  | true=>let⟨d,h1,h2⟩:=hg;show absurd (uG.mp h d h1) h2
 rw[cw,ak (by rw[jc];decide),am this]
def rX (T:fj K mg A):bE P w K mg base (iJ P w) 5 A.lN A.lZ ["self","name","one","other"] (rS K (Ts A.a4 A.bx (uV A) U1)):=by
 have cl:=ay T.Book.cl;have n1:=ay T.n_Book_p;exact AY T.pC.fn kf (by rintro vs M q e ⟨b,la,lu,lh,now,p,pa,un,he,R,T',dd,ys,rfl,⟨n,x,y,rfl,_⟩,_⟩;rfl) λcdv A' outer s H E e hr hF hP=> ?_;have nd:=kf.nd;exact#[_,(ag (bN (hU hP T.check_name (fA T) (hr.mono ⋯) (by rfl) (aa (pv 1) ae))) (aj (bN (cr hP T.ml (iU T) (hr.mono ⋯) (pv 0) (aa (pv 1) (aa (au T.joined (E2 T) hr (aa (bP (K:=K) rfl (pv 0) rfl) (aa (cr hP T.dG (cY T) (hr.mono ⋯) (pv 0) (aa (pv 2) ae)) (aa (cr hP T.dG (cY T) (hr.mono ⋯) (pv 0) (aa (pv 3) ae)) ae)))) ae)))))),?_];try dsimp only[eL]
 exact#[_,inferInstance,?_];rintro vs M q ⟨b,la,lu,lh,now,p,pa,un,he,R,T',dd,ys,rfl,⟨n,x,y,rfl,rfl⟩,⟨hn,hx,hy⟩,hB,hS,kq,ke⟩;let⟨dx,hb⟩:=hB.ob;have p0:0<p:=by have:=hS.p4;omega
 have up: ∀C,e C M ->WL.up e C M:=λC h=>#[M,Sm.refl M,h]
 dsimp? [];exact#[n,rfl,hn.as,hn.len,λjc=> ?_,λjc=>up _ (ke .BadName (by rw[cw,am jc]))];have BO: ∀ (a':WQ.Rd),a'.2.length<=1000000 ->cw p R T' (.join n x y)=iM R T' n a' ->ES A.a4 A.bx A.dY [wr b,ws n,gq a'] M (λ_ M1=> ∃M0,Sm M0 M1 /\ q wn M0) (WL.up e):=λa' hl ho=>xG hB hS hl ho kq λr h=>up _ (ke r h);have nJ:¬ci n=false:=by rw[jc];decide
 dsimp? [hb,cl,n1,FI,uY,eI];exact#[b,la,lu,lh,now,p,pa,un,he,R,T',x,rfl,hB,hx.len,λa hg=> ?_,λhg=>up _ (ke .NoRound (by rw[cw,ak nJ,hg]))];dsimp? [hb,cl,n1,FI,uY,eI];exact#[b,la,lu,lh,now,p,pa,un,he,R,T',y,rfl,hB,hy.len,λa2 A5=> ?_,λA5=>up _ (ke .NoRound (by rw[cw,ak nJ,hg,A5]))];dsimp? [];let⟨z,hz,rfl,rfl⟩:=dZ hg;let⟨z2,Qb,rfl,rfl⟩:=dZ A5;have l1:=(hS.r.ok z hz).2.1;have l2:=(hS.r.ok z2 Qb).2.1;exact#[p,z.2,z2.2,rfl,p0,BW,by omega,by omega,?_];dsimp? [];show BO _ (ar (Ib _ _ _) (by omega)) (by rw[cw,ak nJ,hg,A5])
def r_ (T:fj K mg A):bE P w K mg base (iJ P w) 5 A.lQ A.md ["self","name","one"] (rS K (Ts A.a4 A.bx (uV A) U3)):=by
 have cl:=ay T.Book.cl;have n1:=ay T.n_Book_p;exact AY T.pF.fn ki (by rintro vs M q e ⟨b,la,lu,lh,now,p,pa,un,he,R,T',dd,ys,rfl,⟨n,x,rfl,_⟩,_⟩;rfl) λcdv A' outer s H E e hr hF hP=> ?_;have nd:=ki.nd;exact#[_,(ag (bN (hU hP T.check_name (fA T) (hr.mono ⋯) (by rfl) (aa (pv 1) ae))) (aj (bN (cr hP T.ml (iU T) (hr.mono ⋯) (pv 0) (aa (pv 1) (aa (au T.backward (lx T) hr (aa (bP (K:=K) rfl (pv 0) rfl) (aa (cr hP T.dG (cY T) (hr.mono ⋯) (pv 0) (aa (pv 2) ae)) ae))) ae)))))),?_];try dsimp only[eL]
 exact#[_,inferInstance,?_];rintro vs M q ⟨b,la,lu,lh,now,p,pa,un,he,R,T',dd,ys,rfl,⟨n,x,rfl,rfl⟩,⟨hn,hx⟩,hB,hS,kq,ke⟩;let⟨dx,hb⟩:=hB.ob;have p0:0<p:=by have:=hS.p4;omega
 have p1:p<1000:=by have:=hS.p4;omega
 have up: ∀C,e C M ->WL.up e C M:=λC h=>#[M,Sm.refl M,h]
 dsimp? [];exact#[n,rfl,hn.as,hn.len,λjc=> ?_,λjc=>up _ (ke .BadName (by rw[cw,am jc]))];have BO: ∀ (a':WQ.Rd),a'.2.length<=1000000 ->cw p R T' (.back n x)=iM R T' n a' ->ES A.a4 A.bx A.dY [wr b,ws n,gq a'] M (λ_ M1=> ∃M0,Sm M0 M1 /\ q wn M0) (WL.up e):=λa' hl ho=>xG hB hS hl ho kq λr h=>up _ (ke r h);have nJ:¬ci n=false:=by rw[jc];decide
 dsimp? [hb,cl,n1,FI,uY,eI];exact#[b,la,lu,lh,now,p,pa,un,he,R,T',x,rfl,hB,hx.len,λa hg=> ?_,λhg=>up _ (ke .NoRound (by rw[cw,ak nJ,hg]))];dsimp? [];let⟨z,hz,rfl,rfl⟩:=dZ hg;have l1:=(hS.r.ok z hz).2.1;exact#[p,z.2,rfl,p0,BW,by omega,k9 (hS.r.ok z hz).1 p1,?_];dsimp? [];show BO _ (ar (Cc _ _) (by omega)) (by rw[cw,ak nJ,hg])
def pX (T:fj K mg A):bE P w K mg base (iJ P w) 6 A.kB A.kI ["self","name","one","n"] (rS K (Ts A.a4 A.bx (uV A) Qz)):=by
 have cl:=ay T.Book.cl;have n1:=ay T.n_Book_p;exact AY T.nu.fn jq (by rintro vs M q e ⟨b,la,lu,lh,now,p,pa,un,he,R,T',dd,ys,rfl,⟨n,x,j,rfl,_⟩,_⟩;rfl) λcdv A' outer s H E e hr hF hP=> ?_;have nd:=jq.nd;exact#[_,(ag (bN (hU hP T.check_name (fA T) (hr.mono ⋯) (by rfl) (aa (pv 1) ae))) (aj (bN (cr hP T.ml (iU T) (hr.mono ⋯) (pv 0) (aa (pv 1) (aa (au T.repeated (zx T) hr (aa (bP (K:=K) rfl (pv 0) rfl) (aa (cr hP T.dG (cY T) (hr.mono ⋯) (pv 0) (aa (pv 2) ae)) (aa (pv 3) ae)))) ae)))))),?_];try dsimp only[eL]
 exact#[_,inferInstance,?_];rintro vs M q ⟨b,la,lu,lh,now,p,pa,un,he,R,T',dd,ys,rfl,⟨n,x,j,rfl,rfl⟩,⟨hn,hx,j0,j1⟩,hB,hS,kq,ke⟩;let⟨dx,hb⟩:=hB.ob;have p0:0<p:=by have:=hS.p4;omega
 have p1:p<1000:=by have:=hS.p4;omega
 have up: ∀C,e C M ->WL.up e C M:=λC h=>#[M,Sm.refl M,h]
 dsimp? [];exact#[n,rfl,hn.as,hn.len,λjc=> ?_,λjc=>up _ (ke .BadName (by rw[cw,am jc]))];have BO: ∀ (a':WQ.Rd),a'.2.length<=1000000 ->cw p R T' (.times n x j)=iM R T' n a' ->ES A.a4 A.bx A.dY [wr b,ws n,gq a'] M (λ_ M1=> ∃M0,Sm M0 M1 /\ q wn M0) (WL.up e):=λa' hl ho=>xG hB hS hl ho kq λr h=>up _ (ke r h);have nJ:¬ci n=false:=by rw[jc];decide
 dsimp? [hb,cl,n1,FI,uY,eI];exact#[b,la,lu,lh,now,p,pa,un,he,R,T',x,rfl,hB,hx.len,λa hg=> ?_,λhg=>up _ (ke .NoRound (by rw[cw,ak nJ,hg]))];dsimp? [];let⟨z,hz,rfl,rfl⟩:=dZ hg;have l1:=(hS.r.ok z hz).2.1;have l3:z.2.2.length*j.natAbs<=401*100:=Nat.mul_le_mul l1 (by omega);exact#[p,z.2,j,rfl,p0,p1,(hS.r.ok z hz).1,by omega,λ_=>#[by omega,by omega,by omega],λr hr UA LO=> ?_];dsimp? [];exact BO _ ?_ (by rw[cw,ak nJ,hg];simp![C1 p0 hr]);by_cases h0:z.2.1=0;have:=UA h0;omega;have:=LO h0;omega
def xW (T:fj K mg A):bE P w K mg base (iJ P w) 3 A.rm A.rH ["self","name"] (rS K (Ts A.a4 A.bx (uV A) U2)):=by
 have cl:=ay T.Book.cl;have qv:=ay T.Page.cl;have n2:=ay T.n_Book_now;have n3:=ay T.n_Page_teams;have n4:=ay T.n_Page_rounds;exact AY T.xj.fn og (by rintro vs M q e ⟨b,la,lu,lh,now,p,pa,un,he,R,T',dd,ys,rfl,⟨n,rfl,_⟩,_⟩;rfl) λcdv A' outer s H E e hr hF hP=> ?_;have nd:=og.nd;exact#[_,(ag (bN (cr hP T.dG (cY T) (hr.mono ⋯) (pv 0) (aa (pv 1) ae))) (ag (bu (dt (eB T.jh (jz T) (hr.mono ⋯) (pv 0) (aa (pv 1) ae))) (aj (d5 hF rfl (by rfl) T.Ct (aa (eJ (bO (gP (pv 1)) (bO aC fH))) ae))) aK) (aj (bN (eB T.f9 (fE T) (hr.mono ⋯) (pv 0) (aa (jw T.Page (oH T) (hr.mono ⋯) (by rfl) (aa (au T.without (tY T) hr (aa (bP (K:=K) rfl (bP (K:=K) rfl (pv 0) rfl) rfl) (aa (pv 1) ae))) (aa (bP (K:=K) rfl (bP (K:=K) rfl (pv 0) rfl) rfl) ae))) ae)))))),?_];try dsimp only[eL]
 exact#[_,inferInstance,?_];rintro vs M q ⟨b,la,lu,lh,now,p,pa,un,he,R,T',dd,ys,rfl,⟨n,rfl,rfl⟩,hn,hB,hS,kq,ke⟩;let⟨dx,hb⟩:=hB.ob;let⟨mF,r,t,h1,h2,h3⟩:=hB.pg;have up: ∀C,e C M ->WL.up e C M:=λC h=>#[M,Sm.refl M,h]
 have hT:=hS.t;have hPa:=hS.pa;dsimp? [hb,eI];exact#[b,la,lu,lh,now,p,pa,un,he,R,T',n,rfl,hB,hn.len,λa hg=> ?_,λhg=>up _ (ke .NoRound (by rw[cw,hg]))];dsimp? [hb,rK];exact#[b,la,lu,lh,now,p,pa,un,he,R,T',n,rfl,hB,by omega,?_];cases hu:rQ T' n with
 | true=>dsimp? [];have hW:=hn.len;(repeat (exact#[by first | decide | decide+kernel | show bf (by omega) | show Oa (by right) hW | show N_ (by right) hW (by right),?_]));show up _ (ke .InUse (by rw[cw,hg];show am hu))
 | false=>
  have ho:cw p R T' (.drop n)= .ok (nP R n):=by rw[cw,hg];show ak (by rw[hu];decide)
  dsimp? [hb,iE];rw[mm];dsimp? [hb,h1,cl,qv,n2,n3,n4,j7,nC,pV];exact#[r,_,n,rfl,h2,by rw[cK,hg];rfl,λu hu=> ?_];have Uy:=cg hb hu;have nJ:=cg h1 hu;dsimp? [aQ Uy,aQ nJ,hb,h1,cl,qv,n2,n3,n4,j7,nC,pV];intro pg yk nI Ki nK;rw[o6] at nI ⊢;exact#[pg,yk,u,t,rfl,ao,rfl,?_];rw[j_];have s2:=(bj hu (o:= .dK (rR gq (nP R n)))).trans (bj nI (o:= .ins A.bx yk (lr u t)));have Lp:=cg ao nI;show#[b,la,lu,lh,now,pg,p,pa,un,he,R,T',_,T',rfl,hB.sm s2,#[yk,u,t,ao,by rw[aQ Lp];show ao,s2 _ _ h3],by omega,λM' eK B' F yH=>eP (kq _ ho M' eK pg B' (F.sm s2) (s2.free yH) ((bj hu).free nI))]
def BA (T:fj K mg A):bE P w K mg base e9 2 A.wM A.wT ["_law_draw","_law_many"] (fD K K'):=by
 exists T.Dv.fn,["_law_draw","_law_many","_law_letters","_law_body","_law_cut","_law_start","_law_names_here","_law_k","_law_sign"],(ag (a8 (i:=2) nd rfl (by trivial) aC) (ag (a8 (i:=3) nd rfl (by trivial) (e7 dw c5 dN (show Gj _ _ (oy K) from jU) aC (aa (dB rfl (cW.of (sc:=_) (N:= ["_law_draw","_law_many","_law_letters","_law_body","_law_cut","_law_start","_law_names_here","_law_k","_law_sign"]) (own:= ["_law_k"]) (fr:= [2,0]) (N':= ["_law_k","_law_letters","_law_draw"]) rfl rfl rfl (by right) rfl (by right) (by right) (by right) (by right) (bg rfl)) (fJ (by rfl) T.i0 (aa (au T.dc (bM T) hr (aa (pv 0) (aa ai ae))) ae)) (λ_ _ _ _=>(aZ (i:=0) (by change(["_law_k","_law_letters","_law_draw"]:c_ Str).Nodup;decide+kernel) rfl (by trivial))) d7 (λ_ _ _ _=>dz) (λ_ _ _ _=>(aG Ij (pv 1) (au T.dc (bM T) hr (aa (pv 2) (aa ai ae))) (λ_ _=>rfl)))) ae))) (ag (a8 (i:=4) nd rfl (by trivial) (au T.dc (bM T) hr (aa (pv 0) (aa (bS eY (br qw (by rfl) T.mf Boot.«len» (aa (pv 3) ae)) ai) ae)))) (ag (a8 (i:=5) nd rfl (by trivial) (au T.dc (bM T) hr (aa (pv 0) (aa ai ae)))) (ag (a8 (i:=6) nd rfl (by trivial) (fI ae)) (ag (gj cV rfl (fJ (by rfl) T.i0 (aa (pv 1) ae)) (aZ (i:=7) nd rfl (by trivial)) (ag (a8 (i:=8) nd rfl (by trivial) (bS Lh (aG Ij (pv 2) (bS ls (bS eY (pv 5) (bS gQ ai (pv 7))) ai) (λ_ _=>rfl)) (bS eY ai (au T.dc (bM T) hr (aa (pv 0) (aa ai ae)))))) (aj (bN (e7 aS bK bJ dW (pv 6) (aa (bS fV (bS fV (tR G3 (pv 3) xK (xJ (pv 4))) (pv 8)) (tR G3 (pv 3) (xJ (pv 4)) xK)) ae)))))) (aj (aE (pv 6)))))))))
 rintro vs M q ⟨d,l,m,rfl,hD,m0,m1,k⟩;have hLz:(yJ.length<=sizeLine)=True:=ay (by right);dsimp? [];exact#[d,l,11,rfl,hD,⋯,⋯,λj M1 j0 j1 D1 b1=> ?_];dsimp? [];exact#[#[by omega,by omega],QI (by rw[hG];show big (by omega)) λu hu=> ?_];let⟨E4,nul⟩:=D1.ne hu;exact#[λi ys M'=> ∃ss:c_ Str,gJ (ys=ss.map ws) (ss.length=i) (∀x∈ss,gK x /\ x.length=1) (M' u=some (.lst ys)) (Dr M' d l),#[[],rfl,rfl,by simp,ao,D1.put hu],?_,?_,?_];rintro i ys M' _ ⟨ss,rfl,hl,_,hM,_⟩;show#[trivial,hM,by rw[af];omega];rintro i x ys M' hx ⟨ss,rfl,hl,hs,hM,D2⟩ N hN;let⟨hi,rfl⟩:=ju hx;dsimp? [];exact#[d,l,26,rfl,D2,⋯,⋯,λr M3 r0 r1 D3 b3=> ?_];let⟨c,hc,ac⟩:=HN r0 r1;dsimp? [hLz,hc];exact#[by rw[b3 u E4];show hM,hN _ _ #[ss++ [⟨#[c]⟩],by rw[a6];rfl,by simp[hl],λx hx=> ?_,by rw[ao],D3.O3 E4 nul]];obtain h | h:=bh.mp hx;show hs x h;rw[bn.mp h];show#[ac,rfl];rintro ys M' ⟨ss,rfl,hl,hs,hM,D2⟩;rw[hG] at hl;exact qc hM (c:=1) (λx hx=>by rw[(hs x hx).2];show aq _) (bf (by
  have:(Str.ofString "").length=0:=by right
  rw[this];omega)) ?_
 have Rv:(Builtin.Str.glued (Str.ofString "") ss).length<=10:=ar (fZ _ ss (c:=1) λx hx=>by rw[(hs x hx).2];show aq _) (by
  have:(Str.ofString "").length=0:=by right
  rw[this];omega)
 have ZM:gK (Builtin.Str.glued (Str.ofString "") ss):=JC (by right) λx hx=>(hs x hx).1;generalize Builtin.Str.glued (Str.ofString "") ss=bo at Rv ZM;have hbz:(bo.length<=sizeLine)=True:=ay (bf (by omega));clear hM hs hl hu b1 D1;dsimp? [hbz];exact#[d,l,_,rfl,D2,by omega,by omega,λcu M3 c0 c1 D3 b3=> ?_];dsimp? [];exact#[d,l,26,rfl,D3,⋯,⋯,λsta M4 s0 s1 D4 b4=> ?_];dsimp? [];intro v hv;let⟨Yw,nvl⟩:=D4.ne hv;dsimp? [];exact#[#[by omega,by omega],jE (λi ρ M'=>eE λ(o1 o2:gC W) (ns:c_ Str)=>gJ (ρ= [some (wr d),some (wi m),some (ws yJ),some (ws bo),some (wi cu),some (wi sta),some (wr v),o1,o2]) (ns.length=i) (∀n∈ns,Nm n) (M' v=some (.lst (ns.map ws))) (Dr M' d l)) #[none,none,[],rfl,rfl,by simp,ao,D4.put hv] (λ_ _ _ _ _=>trivial) ?_ ?_];rintro i x ρ M5 hx ⟨o1,o2,ns,rfl,hl,oS,hM,D5⟩ N hN;let⟨hi,rfl⟩:=ju hx;have cm:mQ 7 (0+(i:Int))=True:=ay (.inl #[by omega,by omega]);have h26:((0:Int) <26)=True:=ay ⋯;let⟨c,hc,ac⟩:=HN (i:=(sta+7*(0+(i:Int))) % 26) (by omega) (by omega);dsimp? [cm,h26,hLz,hc];exact#[d,l,2,rfl,D5,⋯,⋯,λr M6 r0 r1 D6 b6=> ?_];dsimp? [];let⟨w,rfl⟩:=Int.eq_ofNat_of_zero_le r0;exact#[⟨#[c]⟩,1+w,rfl,by push_cast;rfl,by omega,by change 1<=1000;decide,?_];have tl:=ED (x:=⟨#[c]⟩) (n:=1+w);have tl':(ij ⟨#[c]⟩ (1+w)).length<=2:=ar tl (by change(1+w)*1<=2;omega);have l1:=Txt.slice_le bo none (some cu);have l2:=Txt.slice_le bo (some cu) none;have z1:((Txt.slice bo none (some cu)).length+(ij ⟨#[c]⟩ (1+w)).length<=sizeLine)=True:=ay (bf (by omega));have z2:(((Txt.slice bo none (some cu))++(ij ⟨#[c]⟩ (1+w))).length+(Txt.slice bo (some cu) none).length<=sizeLine)=True:=ay (bf (by rw[bB];omega));have LS:M6 v=some (.lst (ns.map ws)):=by rw[b6 v Yw];show hM
 have hls:((ns.map ws).length<sizeLine)=True:=ay (mO (by rw[af];omega));dsimp? [hbz,z1,z2,LS,hls];exact hN _ _ #[_,_,ns++ [Txt.slice bo none (some cu)++ij ⟨#[c]⟩ (1+w)++Txt.slice bo (some cu) none],rfl,by simp[hl],λn hn=> ?_,by rw[ao,a6];rfl,D6.O3 Yw nvl];obtain h | h:=bh.mp hn;show oS n h;rw[bn.mp h];show#[Nm.app (Nm.app (AA ZM) (JB ac)) (AA ZM),by rw[bB,bB];omega];rintro ρ M5 ⟨o1,o2,ns,rfl,hl,oS,hM,D5⟩;rw[hG] at hl;dsimp? [];show eP (k v ns M5 hM (by omega) oS Yw nvl D5)
def oF (T:fj K mg A):bE P w K mg base e9 1 A.ra A.rq ["_law_name"] (fD K Lb):=by
 exists T.p_.fn,["_law_name","_law_good"],(ag (a8 (i:=1) nd rfl (by trivial) (br (hZ rfl) (by rfl) T.xg Boot.«all» (aa (dB rfl (cW.of (sc:=_) (N:= ["_law_name","_law_good"]) (own:= ["_law_sign"]) (fr:= []) (N':= ["_law_sign"]) rfl rfl rfl (by right) rfl (by right) (by right) (by right) (by right) (bg rfl)) (Hn (pv 0)) (λ_ _ _ _=>(aZ (i:=0) (by change(["_law_sign"]:c_ Str).Nodup;decide+kernel) rfl (by trivial))) d7 (λ_ _ _ _=>dz) (λ_ _ _ _=>(gu Pr (pv 0) aC (by rfl)))) ae))) (aj (aE (xM (pv 1) (tS (Hq tW tW ai (br qw (by rfl) T.mf Boot.«len» (aa (pv 0) ae)) ai))))))
 rintro vs M q ⟨n,rfl,hn,k⟩;have hz:n.length<=sizeLine:=bf (by have:=hn.len;omega);have Iq:(n.length<=sizeLine)=True:=ay hz;have ha:=hn.as;dsimp? [Iq,ha];exact eQ (λc=>wb (AZ c yJ)) (by unfold AX;rw[af, <- str_len];show hz) (λ_ _=>trivial) ?_ λu hu=> ?_;intro c hc M3 N3 s3 jd;dsimp? [];show jd;exact#[u,(AX n).map λc=>AZ c yJ,rfl,by rw[ao,aU];rfl,?_];have e3:((AX n).map λc=>AZ c yJ).all id=(AX n).all λc=>AZ c yJ:=by rw[List.all_map];rfl
 rw[e3];have ek:ci n=(decide (1<=n.length) && decide (n.length<=12) && (AX n).all λc=>AZ c yJ):=rfl;dsimp? [Iq];cases hA:(AX n).all λc=>AZ c yJ with
 | false=>rw[hA,Bool.and_false] at ek;rw[ek] at k;dsimp? [];show#[M,bj hu,k]
 | true=>rw[hA,Bool.and_true] at ek;dsimp? [Iq];by_cases h1:1<=n.length;have e1:decide (1<=(n.length:Int))=true:=bL (by omega);have e2:decide ((n.length:Int) <=12)=decide (n.length<=12):=decide_eq_decide.mpr (by omega);rw[bL h1,Bool.true_and] at ek;rw[ek] at k;dsimp? [e1,e2];show#[M,bj hu,k];have e1:decide (1<=(n.length:Int))=false:=aL (by omega);rw[aL h1,Bool.false_and] at ek;rw[ek] at k;dsimp? [e1];show#[M,bj hu,k]
def t_ (T:fj K mg A):bE P w K mg base e9 1 A.DY A.En ["_law_one","_law_most","_law_reach"] (fD K To):=by
 exists T.Dx.fn,["_law_one","_law_most","_law_reach"],(aj (aE (Tf (gu HA (br fM (by rfl) T.rL Boot.«abs» (aa (aG (show ce _ (bt K) from aB) (pv 0) ai (λ_ _=>rfl)) ae)) (pv 1) (a_ _)) (tS (Bq (br (hZ rfl) (by rfl) T.xg Boot.«all» (aa (dB rfl (cW.of (sc:=_) (N:= ["_law_one","_law_most","_law_reach"]) (own:= ["_law_place","_law_setting"]) (fr:= [2]) (N':= ["_law_place","_law_setting","_law_reach"]) rfl rfl rfl (by right) rfl (by right) (by right) (by right) (by right) (bg rfl)) (jR (K:=K) rfl (aG (show ce _ (bt K) from aB) (pv 0) ai (λ_ _=>rfl))) (λ_ _ _ _=>(d_ (n:=2) rfl (bw (aZ (i:=0) (by change(["_law_place","_law_setting","_law_reach"]:c_ Str).Nodup;decide+kernel) rfl (by trivial)) (bw (aZ (i:=1) (by change(["_law_place","_law_setting","_law_reach"]:c_ Str).Nodup;decide+kernel) rfl (by trivial)) dA)))) f6 (λ_ _ _ _=>dz) (λ_ _ _ _=>(gu tW (br fM (by rfl) T.rL Boot.«abs» (aa (pv 0) ae)) (pv 2) (a_ _)))) ae)))))))
 rintro vs M q ⟨a,m,r,rfl,hl,k⟩;have ef:gd a m r= !(decide ((if a.1<0 then -a.1 else a.1) <=m) && a.2.all λz=>decide ((if z.1<0 then -z.1 else z.1) <=r)):=rfl;dsimp? [gq,gb];by_cases h1:(if a.1<0 then -a.1 else a.1) <=m;have e1:decide (m<if a.1<0 then -a.1 else a.1)=false:=aL (by omega);rw[bL h1,Bool.true_and] at ef;rw[ef] at k;dsimp? [e1];exact eQ (λz=>wb (decide ((if z.1<0 then -z.1 else z.1) <=r))) (big (by omega)) (λ_ _=>trivial) ?_ λu hu=> ?_;intro z hz M3 N3 s3 jd;dsimp? [ca];show jd;exact#[u,a.2.map λz=>decide ((if z.1<0 then -z.1 else z.1) <=r),rfl,by rw[ao,aU];rfl,?_];rw[List.all_map];dsimp? [];show#[M,bj hu,k];have e1:decide (m<if a.1<0 then -a.1 else a.1)=true:=bL (by omega);rw[aL h1,Bool.false_and] at ef;rw[ef] at k;dsimp? [e1];show eP k
def Bx (T:fj K mg A):bE P w K mg base e9 5 A.wJ A.wQ ["_law_p_here","_law_rounds","_law_deed"] (fD K Pb):=by
 exists T.Dp.fn,["_law_p_here","_law_rounds","_law_deed"],(ag (bu (aR dI (aG (show ce _ (bt K) from aB) (pv 2) ai (λ_ _=>rfl)) aC (a_ _)) (aj (aE (au T.HQ (EX T) hr (aa (pv 0) (aa (aG (show ce _ (bt K) from aB) (pv 2) ai (λ_ _=>rfl)) ae))))) aK) (ag (bu (aR dI (aG (show ce _ (bt K) from aB) (pv 2) ai (λ_ _=>rfl)) aC (a_ _)) (aj (aE (au T.HR (EY T) hr (aa (pv 0) (aa (eA (dU hr) (pv 1) (aG (show ce _ (bt K) from aB) (aG (show ce _ (bt K) from aB) (pv 2) ai (λ_ _=>rfl)) ai (λ_ _=>rfl)) (λ_ _=>rfl)) (aa (eA (dU hr) (pv 1) (aG (show ce _ (bt K) from aB) (aG (show ce _ (bt K) from aB) (pv 2) ai (λ_ _=>rfl)) ai (λ_ _=>rfl)) (λ_ _=>rfl)) ae)))))) aK) (aj (aE (au T.Dq (By T) hr (aa (pv 0) (aa (eA (dU hr) (pv 1) (aG (show ce _ (bt K) from aB) (aG (show ce _ (bt K) from aB) (pv 2) ai (λ_ _=>rfl)) ai (λ_ _=>rfl)) (λ_ _=>rfl)) (aa (aG (show ce _ (bt K) from aB) (pv 2) ai (λ_ _=>rfl)) ae))))))))
 rintro vs M q ⟨p,r,R,dd,w,rfl,hp,iA,hR,hD,hO,Gh,k⟩;have p0:0<p:=by omega
 have p1:p<1000:=by omega
 have s1:decide (("tell" :Str)= "tell")=true:=by right
 have s2:decide (("join" :Str)= "tell")=false:=by right
 have s3:decide (("join" :Str)= "join")=true:=by right
 have s4:decide (("back" :Str)= "tell")=false:=by right
 have s5:decide (("back" :Str)= "join")=false:=by right
 have s6:decide (("times" :Str)= "tell")=false:=by right
 have s7:decide (("times" :Str)= "join")=false:=by right
 cases dd with
 | tell n ds=>let⟨c,rfl,hc⟩:=hD;let⟨hn,hds,hw⟩:=hO;dsimp? [s1];show#[c,p,ds,rfl,hc,p0,BW,by omega,eP (k _ rfl (fY p0 _) (ar (iV _ _) (ar (jo _) (by omega))))]
 | join n x y=>
  cases hD;rw[iR] at Gh k;cases hx:cx R x with
  | none=>rw[hx] at Gh;cases Gh
  | some a1=>
  cases hy:cx R y with
  | none=>rw[hx,hy] at Gh;cases Gh
  | some a2=>
  rw[hx,hy] at k;let⟨z,hz,_,rfl⟩:=dZ hx;let⟨z2,Qb,_,rfl⟩:=dZ hy;have l1:=(hR.ok z hz).2.1;have l2:=(hR.ok z2 Qb).2.1;dsimp? [s2,cD,iA,cK,hx,hy,bC];show#[p,z.2,z2.2,rfl,p0,BW,by omega,by omega,k9 (hR.ok z2 Qb).1 p1,eP (k _ rfl (PY p0 _ _) (ar (Ib _ _ _) (by omega)))]
 | back n x=>
  cases hD;rw[iR] at Gh k;cases hx:cx R x with
  | none=>rw[hx] at Gh;cases Gh
  | some a1=>
  rw[hx] at k;let⟨z,hz,_,rfl⟩:=dZ hx;have l1:=(hR.ok z hz).2.1;dsimp? [s4,s5,iA,cK,hx,bC];exact#[p,z.2, -1,rfl,p0,p1,(hR.ok z hz).1,by omega,λ_=>#[by omega,by omega,by change z.2.2.length*1<=100000;omega],λr hr h0 h1=>eP (k _ (by rw[bC,C1 p0 hr]) hr.pt ?_)];by_cases LJ:z.2.1=0;have:=h0 LJ;omega
  .have:=h1 LJ;try simp![Int.natAbs_neg,Int.natAbs_one,Nat.mul_one] at this
   omega
 | times n x j=>
  cases hD;let⟨hn,Uj,j0,j1⟩:=hO;rw[iR] at Gh k;cases hx:cx R x with
  | none=>rw[hx] at Gh;cases Gh
  | some a1=>
  rw[hx] at k;let⟨z,hz,_,rfl⟩:=dZ hx;have l1:=(hR.ok z hz).2.1;have l3:z.2.2.length*j.natAbs<=401*100:=Nat.mul_le_mul l1 (by omega);dsimp? [s6,s7,iA,cK,hx,bC];exact#[p,z.2,j,rfl,p0,p1,(hR.ok z hz).1,by omega,λ_=>#[by omega,by omega,by omega],λr hr h0 h1=>eP (k _ (by rw[bC,C1 p0 hr]) hr.pt ?_)];by_cases LJ:z.2.1=0;have:=h0 LJ;omega
  .have:=h1 LJ;try simp![Int.natAbs_neg,Int.natAbs_one,Nat.mul_one] at this
   omega
 | drop n=>cases Gh
def ua (T:fj K mg A):bE P w K mg base e9 6 A.m_ A.nk ["_law_p_here","_law_stand","_law_deed"] (fD K Tp):=by
 exists T.qT.fn,["_law_p_here","_law_stand","_law_deed","_law_rounds","_law_used","_law_one"],(ag (a8 (i:=3) nd rfl (by trivial) (b_ j5 (by rfl) T.yq Boot.«dict» (aa (aG (show ce _ (bt K) from aB) (pv 1) ai (λ_ _=>rfl)) ae))) (ag (a8 (i:=4) nd rfl (by trivial) (Bq (br (hZ rfl) (by rfl) T.xg Boot.«all» (aa (Dc (dB rfl (cW.of (sc:=_) (N:= ["_law_p_here","_law_stand","_law_deed","_law_rounds","_law_used","_law_one"]) (own:= ["_law_crew"]) (fr:= [2,1]) (N':= ["_law_crew","_law_deed","_law_stand"]) rfl rfl rfl (by right) rfl (by right) (by right) (by right) (by right) (bg rfl)) (K4 (aG (show ce _ (bt K) from aB) (pv 1) ai (λ_ _=>rfl))) (λ_ _ _ _=>(aZ (i:=0) (by change(["_law_crew","_law_deed","_law_stand"]:c_ Str).Nodup;decide+kernel) rfl (by trivial))) d7 (λ_ _ _ _=>dz) (λ_ _ _ _=>(gu (mC (K:=K) rfl) (aG (show ce _ (bt K) from aB) (pv 1) ai (λ_ _=>rfl)) (Ho (dU hr) (aG (show ce _ (bt K) from aB) (pv 2) ai (λ_ _=>rfl)) (pv 0) (λ_ _=>rfl)) (by rfl))))) ae)))) (ag (bu (aR dI (aG (show ce _ (bt K) from aB) (pv 2) ai (λ_ _=>rfl)) aC (a_ _)) (ag (bu (nB (jy (dU hr) (aG (show ce _ (bt K) from aB) (pv 2) ai (λ_ _=>rfl)) (pv 3))) (aj (aE (aN (aa aC (aa (pv 1) ae))))) aK) (ag (bu (dt (pv 4)) (aj (aE (aN (aa aC (aa (pv 1) ae))))) aK) (ag (bN (zr (pv 3) (aG (show ce _ (bt K) from aB) (pv 2) ai (λ_ _=>rfl)) #[by rfl,by rfl,by rfl,by rfl])) (aj (aE (aN (aa aC (aa (aN (aa (pv 3) (aa (aG (show ce _ (bt K) from aB) (pv 1) ai (λ_ _=>rfl)) ae))) ae)))))))) aK) (ag (bu (d9 (dt (au T.p_ (oF T) hr (aa (aG (show ce _ (bt K) from aB) (pv 2) ai (λ_ _=>rfl)) ae)))) (aj (aE (aN (aa aC (aa (pv 1) ae))))) aK) (ag (bu (pS (aR dI (aG (show ce _ (bt K) from aB) (pv 2) ai (λ_ _=>rfl)) aC (a_ _)) (mq (d9 (dt (br (hZ rfl) (by rfl) T.xg Boot.«all» (aa (dB rfl (cW.of (sc:=_) (N:= ["_law_p_here","_law_stand","_law_deed","_law_rounds","_law_used","_law_one"]) (own:= ["_law_word","_law_number"]) (fr:= []) (N':= ["_law_word","_law_number"]) rfl rfl rfl (by right) rfl (by right) (by right) (by right) (by right) (bg rfl)) (Db (K:=K) rfl (aG (show ce _ (bt K) from aB) (pv 2) ai (λ_ _=>rfl))) (λ_ _ _ _=>(d_ (n:=2) rfl (bw (aZ (i:=0) (by change(["_law_word","_law_number"]:c_ Str).Nodup;decide+kernel) rfl (by trivial)) (bw (aZ (i:=1) (by change(["_law_word","_law_number"]:c_ Str).Nodup;decide+kernel) rfl (by trivial)) dA)))) f6 (λ_ _ _ _=>dz) (λ_ _ _ _=>(gu (tX (K:=K) rfl) (pv 0) (aN (aa aC (aa aC ae))) (by rfl)))) ae)))))).pt (aj (aE (aN (aa aC (aa (pv 1) ae))))) aK) (ag (bu (pS (aR oB (aG (show ce _ (bt K) from aB) (pv 2) ai (λ_ _=>rfl)) aC (a_ _)) (mq (d9 (dt (br (hZ rfl) (by rfl) T.xg Boot.«all» (aa (dB rfl (cW.of (sc:=_) (N:= ["_law_p_here","_law_stand","_law_deed","_law_rounds","_law_used","_law_one"]) (own:= ["_law_name"]) (fr:= [3]) (N':= ["_law_name","_law_rounds"]) rfl rfl rfl (by right) rfl (by right) (by right) (by right) (by right) (bg rfl)) (Db (K:=K) rfl (aG (show ce _ (bt K) from aB) (pv 2) ai (λ_ _=>rfl))) (λ_ _ _ _=>(aZ (i:=0) (by change(["_law_name","_law_rounds"]:c_ Str).Nodup;decide+kernel) rfl (by trivial))) d7 (λ_ _ _ _=>dz) (λ_ _ _ _=>(O8 (Br (dU hr) (pv 0) (pv 1))))) ae)))))).pt (aj (aE (aN (aa aC (aa (pv 1) ae))))) aK) (ag (a8 (i:=5) nd rfl (by trivial) (au T.Dp (Bx T) hr (aa (pv 0) (aa (pv 3) (aa (pv 2) ae))))) (ag (bu (kn (dt (au T.Dx (t_ T) hr (aa (pv 5) (aa ai (aa ai ae))))) (ix (pS (dt (pv 4)) (mq (dt (au T.Dx (t_ T) hr (aa (pv 5) (aa ai (aa ai ae))))))).pt)).pt (aj (aE (aN (aa aC (aa (pv 1) ae))))) aK) (ag (mx (dU hr) (pv 3) (aG (show ce _ (bt K) from aB) (pv 2) ai (λ_ _=>rfl)) (pv 5) rfl) (aj (aE (aN (aa aC (aa (aN (aa (pv 3) (aa (aG (show ce _ (bt K) from aB) (pv 1) ai (λ_ _=>rfl)) ae))) ae))))))))))))))
 rintro vs M q ⟨p,r,t,R,T',dd,w,rfl,hp,⟨iA,ht⟩,⟨hR,hT⟩,hD,hO,kq,ke⟩;have p0:0<p:=by omega
 have qG:decide (("tell" :Str)= "drop")=false:=by right
 dsimp? [iA];intro u hu;have hsz:((tQ R).length<sizeLine)=True:=ay (mO (by rw[nZ];have:=hR.len;omega));have zU:um M u (.dK (tQ R)) t=some (.dK (ny T')):=by rw[aQ (cg ht hu)];show ht
 dsimp? [];exact#[t,_,zU,?_];dsimp? [zU];intro o ks;have dv: ∃c7,w= .tup (ws (kdOf dd)::ws (gc dd)::c7):=by
  cases dd with
  | tell n ds=>let⟨c,rfl,hc⟩:=hD;show#[_,rfl]
  | _=>cases hD;show#[_,rfl]
 let⟨c7,ew⟩:=dv;have e1:iF (ws (kdOf dd)::ws (gc dd)::c7) 1=some (ws (gc dd)):=f7 ⋯ rfl;have ek:(ny T').map (λkv=>iN kv.1)=T'.map λz=>ws z.1:=by unfold ny rR;rw[aU];rfl
 rw[ek];exact eQ (λz=>wb (!qW (gc dd) z.2)) (big (by have:=hT.len;omega)) (λM2 s2=>s2 _ _ ao) ?_ λv hv=> ?_;intro z hz M3 N3 s3 jd;have h3:=s3 _ _ ao;dsimp? [ew,e1,h3,cK,yf hT.nd hz,bC];show nH jd;have Yv:t≠v:=cg ao hv;exact#[o,ks,_,by rw[aQ Yv];show ao,v,T'.map λz=> !qW (gc dd) z.2,rfl,by rw[aQ Yv.symm,ao,aU];rfl,?_];have eu:(!(T'.map λz=> !qW (gc dd) z.2).all id)=rQ T' (gc dd):=by rw[List.all_map,List.not_all_eq_any_not];unfold rQ;congr 1;funext z;simp
 have s1:=CD (l:= .lst (T'.map λz=>wb (!qW (gc dd) z.2))) zU hv;generalize um (um (um (um M u (.dK (tQ R))) t (.fz o ks (ny T'))) v (.lst (T'.map λz=>wb (!qW (gc dd) z.2)))) t (.dK (ny T'))=M1 at s1;generalize vE:(T'.map λz=> !qW (gc dd) z.2).all id=FJ at eu;have qo:M1 u=some (.dK (tQ R)):=s1 _ _ ao;have st:Sm M M1:=(bj hu).trans s1;have Km:=hD.sm st;clear hv Yv s1 zU e1 vE ek;by_cases sB:¬Rk dd;cases dd with
 | join n x y=>show absurd trivial sB
 | back n x=>show absurd trivial sB
 | times n x k=>show absurd trivial sB
 | tell n ds=>
  let⟨c,rfl,hc⟩:=Km;let⟨hn,hds,hw⟩:=id hO;have Km:DV M1 (.tell n ds) (.tup [ws "tell",ws n,wr c]):=#[c,rfl,hc]
  dsimp? [qG,hc,aX];exact#[n,rfl,hn,?_];cases jc:ci n with
  | false=>dsimp? [bp];show#[M,st,ke .BadName (Dj jc (λ_ z=>nomatch z))]
  | true=>
  dsimp? [aX,qG,hc,cD,hc];exact eQ (l:=ds) (fW:=fQ) (λz:Str×Int=>wb (decide (z.1= "go") || decide (z.1= "turn"))) (big (by omega)) (λM2 s2=>s2 _ _ hc) ?_ λv hv=> ?_;intro z hz M3 N3 s3 jd;dsimp? [fQ];show#[.str z.1,[.str "go", .str "turn"],rfl, .inl rfl,rfl,rfl,by rw[Ud];show jd];exact#[v,ds.map λz:Str×Int=>(decide (z.1= "go") || decide (z.1= "turn")),rfl,by rw[ao,aU];rfl,?_];have eg:(ds.map λz:Str×Int=>(decide (z.1= "go") || decide (z.1= "turn"))).all id=je ds:=by rw[List.all_map];rfl
  rw[eg];have st:=st.trans (bj hv (o:= .lst (ds.map λz:Str×Int=>wb (decide (z.1= "go") || decide (z.1= "turn")))));have qo:um M1 v (.lst (ds.map λz:Str×Int=>wb (decide (z.1= "go") || decide (z.1= "turn")))) u=some (.dK (tQ R)):=by rw[aQ (cg qo hv)];show qo
  have hc:um M1 v (.lst (ds.map λz:Str×Int=>wb (decide (z.1= "go") || decide (z.1= "turn")))) c=some (.lst (ds.map fQ)):=by rw[aQ (cg hc hv)];show hc
  generalize um M1 v (.lst (ds.map λz:Str×Int=>wb (decide (z.1= "go") || decide (z.1= "turn"))))=M1 at st qo hc;have Km:DV M1 (.tell n ds) (.tup [ws "tell",ws n,wr c]):=#[c,rfl,hc]
  cases Rs:je ds with
  | false=>dsimp? [bp];show#[M,st,ke .NoDeed (by rw[cw,ak (by rw[jc];decide),am Rs])]
  | true=>
  have IH: ∀n' QE,dP.tell n ds= .tell n' QE ->je QE=true:=λ_ _ z=>by cases z;show Rs
  have Iu:(iR p R (.tell n ds)).isSome=true:=rfl;have nt:(("tell" :Str)≠ "tell")=False:=by simp
  dsimp? [aX,nt,decide_false,ne_eq,not_true,not_true_eq_false];exact#[p,u,R,_,_,rfl,hp,qo,hR,Km,hO,Iu,λa ha hP hl=> ?_];have ho:=HF (T:=T') (dd:= .tell n ds) p0 jc IH ha;dsimp? [];exact#[a,200,200,rfl,hl,?_];cases hf:gd a 200 200 with
  | true=>dsimp? [];show#[M,st,ke .TooFar (by rw[ho,iM,am (by unfold dq;rw[hf];rfl)])]
  | false=>
   cases yG:rQ T' n with
   | false=>
    have Ja:(!FJ)=false:=eu.trans yG;have nM:dq T' n a=false:=by unfold dq;rw[hf,yG];rfl
    have yd:=ho.trans (ak (by change ¬dq T' n a=true;rw[nM];decide));dsimp? [Ja,qo,hsz];exact#[_,Sm.refl _,kq _ yd #[hR,λqY=>hR.put qY hP nM] u _ (st.um hu) hu ?_];rw[ao,gr];rfl
   | true=>
    have Ja:(!FJ)=true:=eu.trans yG;dsimp? [Ja];exact#[a,8,24,rfl,hl,?_];cases Kh:gd a 8 24 with
    | true=>dsimp? [];show#[M,st,ke .TooFar (by rw[ho,iM,am (by unfold dq;change(gd a 200 200 || (rQ T' n && gd a 8 24))=true;rw[hf,yG,Kh];rfl)])]
    | false=>
     have nM:dq T' n a=false:=by unfold dq;rw[hf,yG,Kh];rfl
     have yd:=ho.trans (ak (by change ¬dq T' n a=true;rw[nM];decide));dsimp? [qo,hsz];exact#[_,Sm.refl _,kq _ yd #[hR,λqY=>hR.put qY hP nM] u _ (st.um hu) hu ?_];rw[ao,gr];rfl
 | drop n=>
  cases Km;dsimp? [cD,qo,cK,b0];cases hx:cx R n with
  | none=>dsimp? [df,bp];show#[M,st,ke .NoRound (by rw[cw,hx])]
  | some a1=>
   cases yG:rQ T' n with
   | true=>have Ja:(!FJ)=true:=eu.trans yG;dsimp? [cq,aX,Ja];show#[M,st,ke .InUse (by rw[cw,hx];show am yG)]
   | false=>have Ja:(!FJ)=false:=eu.trans yG;dsimp? [cq,aX,Ja,qo,cK,hx,bC];exact#[_,Sm.refl _,kq (nP R n) (by rw[cw,hx];show ak (by rw[yG];decide)) #[hR,λ_=>hR.del] u _ (st.um hu) hu ?_];rw[ao,o6]
 replace sB:=Classical.not_not.mp sB;let⟨k1,k2,k3⟩:=kdn sB;let⟨tail,rfl⟩:=dvn Km sB;dsimp? [k1,k2,k3,aX];exact#[_,rfl,nmn sB hO,?_];cases jc:ci (gc dd) with
 | false=>dsimp? [bp];show#[M,st,ke .BadName (Dj jc (λ_ z=>by subst z;cases sB))]
 | true=>
 dsimp? [aX,k1,k2,k3,cD];exact eQ (l:=jj dd) (fW:=ws) (λz=>wb (cx R z).isSome) (big (by have:=Ot dd;omega)) (λ_ _=>trivial) ?_ λv hv=> ?_;intro z hz M3 N3 s3 jd;dsimp? [s3 _ _ qo,cK,b0];show jd;exact#[v,(jj dd).map λz=>(cx R z).isSome,rfl,by rw[ao,aU];rfl,?_];have st:=st.trans (bj hv (o:= .lst ((jj dd).map λz=>wb (cx R z).isSome)));have qo:um M1 v (.lst ((jj dd).map λz=>wb (cx R z).isSome)) u=some (.dK (tQ R)):=by rw[aQ (cg qo hv)];show qo
 replace Km:=Km.sm (bj hv (o:= .lst ((jj dd).map λz=>wb (cx R z).isSome)));generalize um M1 v (.lst ((jj dd).map λz=>wb (cx R z).isSome))=M1 at st qo Km;clear hv;have ea:((jj dd).map λz=>(cx R z).isSome).all id=(jj dd).all λz=>(cx R z).isSome:=by rw[List.all_map];rfl
 have IH: ∀n' QE,dd= .tell n' QE ->je QE=true:=λ_ _ z=>by subst z;cases sB
 rw[ea];cases vE:(jj dd).all λz=>(cx R z).isSome with
 | false=>dsimp? [bp];show#[M,st,ke .NoRound (TD sB jc vE)]
 | true=>
 have Iu:=KC (p:=p) sB vE;dsimp? [aX];exact#[p,u,R,_,_,rfl,hp,qo,hR,Km,hO,Iu,λa ha hP hl=> ?_];have ho:=HF (T:=T') (dd:=dd) p0 jc IH ha;dsimp? [];exact#[a,200,200,rfl,hl,?_];cases hf:gd a 200 200 with
 | true=>dsimp? [];show#[M,st,ke .TooFar (by rw[ho,iM,am (by unfold dq;rw[hf];rfl)])]
 | false=>
  cases yG:rQ T' (gc dd) with
  | false=>
   have Ja:(!FJ)=false:=eu.trans yG;have nM:dq T' (gc dd) a=false:=by unfold dq;rw[hf,yG];rfl
   have yd:=ho.trans (ak (by change ¬dq T' (gc dd) a=true;rw[nM];decide));dsimp? [Ja,qo,hsz];exact#[_,Sm.refl _,kq _ yd #[hR,λqY=>hR.put qY hP nM] u _ (st.um hu) hu ?_];rw[ao,gr]
  | true=>
   have Ja:(!FJ)=true:=eu.trans yG;dsimp? [Ja];exact#[a,8,24,rfl,hl,?_];cases Kh:gd a 8 24 with
   | true=>dsimp? [];show#[M,st,ke .TooFar (by rw[ho,iM,am (by unfold dq;change(gd a 200 200 || (rQ T' (gc dd) && gd a 8 24))=true;rw[hf,yG,Kh];rfl)])]
   | false=>
    have nM:dq T' (gc dd) a=false:=by unfold dq;rw[hf,yG,Kh];rfl
    have yd:=ho.trans (ak (by change ¬dq T' (gc dd) a=true;rw[nM];decide));dsimp? [qo,hsz];exact#[_,Sm.refl _,kq _ yd #[hR,λqY=>hR.put qY hP nM] u _ (st.um hu) hu ?_];rw[ao,gr]
def g_ (T:fj K mg A):bE P w K mg base (iJ P w) 1 A.rg A.rE ["self","crew"] (rS K (Th A.a4 A.bx A.eR)):=by
 have cl:=ay T.Book.cl;have qv:=ay T.Page.cl;have n2:=ay T.n_Book_now;have n4:=ay T.n_Page_teams;exact AY T.jK.fn oa (by rintro vs M q e ⟨b,la,lu,lh,now,p,pa,un,he,R,T',n,rfl,_⟩;rfl) λcdv A' outer s H E e hr hF hP=> ?_;have nd:=oa.nd;exact#[_,(ag (bu (nB (jy (dU hr) (pv 1) (bP (K:=K) rfl (bP (K:=K) rfl (pv 0) rfl) rfl))) (aj (d5 hF rfl (by rfl) T.yM (aa (eJ (bO aC (bO (gP (pv 1)) fH))) ae))) aK) (aj (aE (eA (dU hr) (bP (K:=K) rfl (bP (K:=K) rfl (pv 0) rfl) rfl) (pv 1) (λ_ _=>rfl))))),?_];try dsimp only[eL]
 exact#[_,inferInstance,?_];rintro vs M q ⟨b,la,lu,lh,now,p,pa,un,he,R,T',n,rfl,hB,hl,kq,ke⟩;let⟨dx,hb⟩:=hB.ob;let⟨mF,r,t,h1,h2,h3⟩:=hB.pg;dsimp? [hb,h1,h3,cl,qv,n2,n4,j7,nC,cK];cases hg:cx T' n with
 | some a=>dsimp? [bC,cq,aX];dsimp? [hb,h1,h3,cl,qv,n2,n4,j7,nC,cK,hg,bC];show eP (kq a hg)
 | none=>dsimp? [Option.map_none,df,bp];(repeat (exact#[by first | decide | decide+kernel | show bf (by omega) | show Oa (by right) hl | show N_ (by right) hl (by right),?_]));show#[M,Sm.refl M,ke hg]
def ku (T:fj K mg A):bE P w K mg base (iJ P w) 2 A.lM A.lY ["self","crew"] (rS K (Hy A.a4 A.bx A.eR)):=by
 exact AY T.j9.fn kc (by rintro vs M q e ⟨b,la,lu,lh,now,p,pa,un,he,R,T',n,rfl,_⟩;rfl) λcdv A' outer s H E e hr hF hP=> ?_;have nd:=kc.nd;exact#[_,(aj (aE (b_ eM (by rfl) T.gR Boot.«list» (aa (cr hP T.jK (g_ T) (hr.mono ⋯) (pv 0) (aa (pv 1) ae)) ae)))),?_];try dsimp only[eL]
 exact#[_,inferInstance,?_];rintro vs M q ⟨b,la,lu,lh,now,p,pa,un,he,R,T',n,rfl,hB,hl,kq,ke⟩;let⟨dx,hb⟩:=hB.ob;dsimp? [hb,tf];exact#[b,la,lu,lh,now,p,pa,un,he,R,T',n,rfl,hB,hl,λa hg=> ?_,λhg=>#[M,Sm.refl M,ke hg]];dsimp? [e_];show λu hu=>eP (kq a hg u hu)
def gl (T:fj K mg A):bE P w K mg base e9 3 A.kG A.kL ["self","crew","team"] (fD K (Hx A.a4 A.bx)):=by
 have cl:=ay T.Book.cl;have qv:=ay T.Page.cl;have n2:=ay T.n_Book_now;have n3:=ay T.n_Page_teams;have n4:=ay T.n_Page_rounds;exists T.gA.fn,["self","crew","team"],(aj (bN (eB T.f9 (fE T) (hr.mono ⋯) (pv 0) (aa (jw T.Page (oH T) (hr.mono ⋯) (by rfl) (aa (bP (K:=K) rfl (bP (K:=K) rfl (pv 0) rfl) rfl) (aa (au T.with_thing (mX T) hr (aa (bP (K:=K) rfl (bP (K:=K) rfl (pv 0) rfl) rfl) (aa (pv 1) (aa (pv 2) ae)))) ae))) ae))))
 rintro vs M q ⟨b,la,lu,lh,now,p,pa,un,he,R,T',c,l,rfl,hB,hPa,hT,k⟩;let⟨dx,hb⟩:=hB.ob;let⟨mF,r,t,h1,h2,h3⟩:=hB.pg;dsimp? [hb,iE];rw[mm];dsimp? [hb,h1,cl,qv,n2,n3,n4,j7,nC,pV];exact#[t,_,c,_,rfl,h3,by rw[nZ];omega,λu hu=> ?_];intro pg yk nI Ki nK;rw[gr] at nI ⊢;exact#[pg,yk,r,u,rfl,ao,rfl,?_];rw[j_];have s2:=(bj hu (o:= .dK (rR e_ (gO T' c l)))).trans (bj nI (o:= .ins A.bx yk (lr r u)));have Lp:=cg ao nI;show#[b,la,lu,lh,now,pg,p,pa,un,he,R,T',R,_,rfl,hB.sm s2,#[yk,r,u,ao,s2 _ _ h2,by rw[aQ Lp];show ao],by omega,λM' eK B' F yH=>eP (k M' eK pg B' (F.sm s2) (s2.free yH) ((bj hu).free nI))]
def vz (T:fj K mg A):bE P w K mg base (iJ P w) 4 A.oZ A.pk ["self","crew"] (rS K (sT A.a4 A.bx (uV A) QA)):=by
 have cl:=ay T.Book.cl;have qv:=ay T.Page.cl;have n2:=ay T.n_Book_now;have n3:=ay T.n_Page_teams;exact AY T.vk.fn mS (by rintro vs M q e ⟨b,la,lu,lh,now,p,pa,un,he,R,T',dd,ys,rfl,⟨c,rfl,_⟩,_⟩;rfl) λcdv A' outer s H E e hr hF hP=> ?_;have nd:=mS.nd;exact#[_,(ag (bN (hU hP T.check_name (fA T) (hr.mono ⋯) (by rfl) (aa (pv 1) ae))) (ag (bu (nB (Br (dU hr) (pv 1) (bP (K:=K) rfl (bP (K:=K) rfl (pv 0) rfl) rfl))) (aj (d5 hF rfl (by rfl) T.xk (aa (eJ (bO aC (bO (gP (pv 1)) fH))) ae))) aK) (aj (bN (eB T.gA (gl T) (hr.mono ⋯) (pv 0) (aa (pv 1) (aa (aN ae) ae))))))),?_];try dsimp only[eL]
 exact#[_,inferInstance,?_];rintro vs M q ⟨b,la,lu,lh,now,p,pa,un,he,R,T',dd,ys,rfl,⟨c,rfl,rfl⟩,hc,hB,hS,hT,kq,ke⟩;let⟨dx,hb⟩:=hB.ob;let⟨mF,r,t,h1,h2,h3⟩:=hB.pg;have kO:=hc.len;have up: ∀C,e C M ->WL.up e C M:=λC h=>#[M,Sm.refl M,h]
 dsimp? [];exact#[c,rfl,hc.as,hc.len,λjc=> ?_,λjc=>up _ (ke .BadName (by rw[cC,am jc]))];have nJ:¬ci c=false:=by rw[jc];decide
 dsimp? [hb,h1,h3,cl,qv,n2,n3,j7,nC,cK,b0];cases hg:cx T' c with
 | some l=>dsimp? [cq];(repeat (exact#[by first | decide | decide+kernel | show bf (by omega) | show Oa (by right) kO | show N_ (by right) kO (by right),?_]));show up _ (ke .Taken (by rw[cC,ak nJ,hg]))
 | none=>dsimp? [df,hb,me];show#[b,la,lu,lh,now,p,pa,un,he,R,T',c,[],rfl,hB,hS.pa,hS.t,λM' eK pg B' F h1 h2=>eP (kq _ (by rw[cC,ak nJ,hg]) M' eK pg B' F h1 h2)]
def rZ (T:fj K mg A):bE P w K mg base (iJ P w) 3 A.lP A.l_ ["self","crew"] (rS K (sT A.a4 A.bx (uV A) IZ)):=by
 have cl:=ay T.Book.cl;have qv:=ay T.Page.cl;have n2:=ay T.n_Book_now;have n3:=ay T.n_Page_teams;have n4:=ay T.n_Page_rounds;exact AY T.pE.fn kh (by rintro vs M q e ⟨b,la,lu,lh,now,p,pa,un,he,R,T',dd,ys,rfl,⟨c,rfl,_⟩,_⟩;rfl) λcdv A' outer s H E e hr hF hP=> ?_;have nd:=kh.nd;exact#[_,(ag (bN (cr hP T.jK (g_ T) (hr.mono ⋯) (pv 0) (aa (pv 1) ae))) (aj (bN (eB T.f9 (fE T) (hr.mono ⋯) (pv 0) (aa (jw T.Page (oH T) (hr.mono ⋯) (by rfl) (aa (bP (K:=K) rfl (bP (K:=K) rfl (pv 0) rfl) rfl) (aa (au T.without (tY T) hr (aa (bP (K:=K) rfl (bP (K:=K) rfl (pv 0) rfl) rfl) (aa (pv 1) ae))) ae))) ae))))),?_];try dsimp only[eL]
 exact#[_,inferInstance,?_];rintro vs M q ⟨b,la,lu,lh,now,p,pa,un,he,R,T',dd,ys,rfl,⟨c,rfl,rfl⟩,hc,hB,hS,hT,kq,ke⟩;let⟨dx,hb⟩:=hB.ob;let⟨mF,r,t,h1,h2,h3⟩:=hB.pg;have hPa:=hS.pa;have up: ∀C,e C M ->WL.up e C M:=λC h=>#[M,Sm.refl M,h]
 dsimp? [hb,tf];exact#[b,la,lu,lh,now,p,pa,un,he,R,T',c,rfl,hB,hc.len,λl hg=> ?_,λhg=>up _ (ke .NoCrew (by rw[cC,hg]))];have ho:cC R T' (.disband c)= .ok (nP T' c):=by rw[cC,hg]
 dsimp? [hb,iE];rw[mm];dsimp? [hb,h1,cl,qv,n2,n3,n4,j7,nC,pV];exact#[t,_,c,rfl,h3,by rw[cK,hg];rfl,λu hu=> ?_];intro pg yk nI Ki nK;rw[o6] at nI ⊢;exact#[pg,yk,r,u,rfl,ao,rfl,?_];rw[j_];have s2:=(bj hu (o:= .dK (rR e_ (nP T' c)))).trans (bj nI (o:= .ins A.bx yk (lr r u)));have Lp:=cg ao nI;show#[b,la,lu,lh,now,pg,p,pa,un,he,R,T',R,_,rfl,hB.sm s2,#[yk,r,u,ao,s2 _ _ h2,by rw[aQ Lp];show ao],by omega,λM' eK B' F yH=>eP (kq _ ho M' eK pg B' (F.sm s2) (s2.free yH) ((bj hu).free nI))]
def uc (T:fj K mg A):bE P w K mg base (iJ P w) 4 A.nh A.nq ["self","crew","name"] (rS K (sT A.a4 A.bx (uV A) L3)):=by
 exact AY T.rN.fn k_ (by rintro vs M q e ⟨b,la,lu,lh,now,p,pa,un,he,R,T',dd,ys,rfl,⟨c,n,rfl,_⟩,_⟩;rfl) λcdv A' outer s H E e hr hF hP=> ?_;have nd:=k_.nd;exact#[_,(ag (a8 (i:=3) nd rfl (by trivial) (cr hP T.jK (g_ T) (hr.mono ⋯) (pv 0) (aa (pv 1) ae))) (ag (a8 (i:=4) nd rfl (by trivial) (cr hP T.dG (cY T) (hr.mono ⋯) (pv 0) (aa (pv 2) ae))) (ag (bu (aR (tX (K:=K) rfl) (pv 2) (pv 3) (by rfl)) (aj (d5 hF rfl (by rfl) T.xk (aa (eJ (bO (gP (pv 2)) (bO aC (bO (gP (pv 1)) fH)))) ae))) aK) (ag (bu (aR zw (br (fL (K:=K) rfl) (by rfl) T.mf Boot.«len» (aa (pv 3) ae)) (fU (by rfl) T.kX.choose_spec (show RelV (.int 6) _ from#[_,rfl])) (a_ _)) (aj (d5 hF rfl (by rfl) T.vP (aa (eJ (bO aC (bO (nD (fU (by rfl) T.kX.choose_spec (show RelV (.int 6) _ from#[_,rfl]))) (bO aC fH)))) ae))) aK) (ag (bu (d9 (dt (au T.fits_crew (oG T) hr (aa (pv 4) ae)))) (aj (d5 hF rfl (by rfl) T.nV (aa (eJ (bO (gP (pv 2)) (bO aC fH))) ae))) aK) (aj (bN (eB T.gA (gl T) (hr.mono ⋯) (pv 0) (aa (pv 1) (aa (bS Di (pv 3) (aN (aa (pv 2) ae))) ae)))))))))),?_];try dsimp only[eL]
 exact#[_,inferInstance,?_];rintro vs M q ⟨b,la,lu,lh,now,p,pa,un,he,R,T',dd,ys,rfl,⟨c,n,rfl,rfl⟩,⟨hc,hn⟩,hB,hS,hT,kq,ke⟩;let⟨dx,hb⟩:=hB.ob;have kO:=hc.len;have hW:=hn.len;have up: ∀C,e C M ->WL.up e C M:=λC h=>#[M,Sm.refl M,h]
 dsimp? [hb,tf];exact#[b,la,lu,lh,now,p,pa,un,he,R,T',c,rfl,hB,hc.len,λl hg=> ?_,λhg=>up _ (ke .NoCrew (by rw[cC,hg]))];dsimp? [hb,eI];exact#[b,la,lu,lh,now,p,pa,un,he,R,T',n,rfl,hB,hn.len,λa A5=> ?_,λA5=>up _ (ke .NoRound (by rw[cC,hg];dsimp only;rw[A5]))];dsimp? [];exact sW ?_;let⟨z,hz,_,rfl⟩:=dZ A5;cases hi:qW n l with
 | true=>dsimp? [];exact#[bf (by omega),Oa (by right) hW,N_ (by right) hW (by right),bf (by omega),WZ (by right) hW (by right) kO,WZ (by right) hW (by right) kO,?_];show up _ (ke .Taken (by rw[cC,hg];dsimp only;rw[A5];dsimp only;rw[am hi]))
 | false=>
 have Fk:¬qW n l=true:=by rw[hi];decide
 dsimp? [e_,af];by_cases h6:6<=l.length
 .have e6:decide ((6:Int) <=(l.length:Int))=true:=bL (by omega);dsimp? [e6];(repeat (exact#[by first | decide | decide+kernel,?_]));show up _ (ke .TooMany (by rw[cC,hg];dsimp only;rw[A5];dsimp only;rw[ak Fk,am h6]))
 .have e6:decide ((6:Int) <=(l.length:Int))=false:=aL (by omega);dsimp? [e6];exact#[z.2,rfl,by have:=(hS.r.ok z hz).2.1;omega,?_];cases hf:gd z.2 8 24 with
  | true=>dsimp? [aX,bp];(repeat (exact#[by first | decide | decide+kernel | show bf (by omega) | show Oa (by right) hW | show N_ (by right) hW (by right),?_]));show up _ (ke .TooFar (by rw[cC,hg];dsimp only;rw[A5];dsimp only;rw[ak Fk,ak h6,am hf]))
  | false=>
   have hsz:((l.map ws).length+ [ws n].length<=sizeLine)=True:=ay (big (by rw[af];simp;omega));dsimp? [aX,bp,hb,me];exact#[big (by rw[af];omega),?_];have el:W.tup (l.map ws++ [ws n])=e_ (l++ [n]):=by unfold e_;rw[a6];rfl
   rw[el];show#[b,la,lu,lh,now,p,pa,un,he,R,T',c,l++ [n],rfl,hB,hS.pa,hS.t,λM' eK pg B' F h1 h2=>eP (kq _ (by rw[cC,hg];dsimp only;rw[A5];dsimp only;rw[ak Fk,ak h6,ak (by rw[hf];decide)]) M' eK pg B' F h1 h2)]
def rY (T:fj K mg A):bE P w K mg base (iJ P w) 4 A.lO A.l7 ["self","crew","name"] (rS K (sT A.a4 A.bx (uV A) IY)):=by
 exact AY T.pD.fn kg (by rintro vs M q e ⟨b,la,lu,lh,now,p,pa,un,he,R,T',dd,ys,rfl,⟨c,n,rfl,_⟩,_⟩;rfl) λcdv A' outer s H E e hr hF hP=> ?_;have nd:=kg.nd;exact#[_,(ag (a8 (i:=3) nd rfl (by trivial) (cr hP T.jK (g_ T) (hr.mono ⋯) (pv 0) (aa (pv 1) ae))) (ag (bu (aR (mC (K:=K) rfl) (pv 2) (pv 3) (by rfl)) (aj (d5 hF rfl (by rfl) T.pH (aa (eJ (bO (gP (pv 2)) (bO aC (bO (gP (pv 1)) fH)))) ae))) aK) (aj (bN (eB T.gA (gl T) (hr.mono ⋯) (pv 0) (aa (pv 1) (aa (b_ gG (by rfl) T.iZ Boot.«tuple» (aa (dB rfl (cW.of (sc:=_) (N:= ["self","crew","name","team"]) (own:= ["member"]) (fr:= [2]) (N':= ["member","name"]) rfl rfl rfl (by right) rfl (by right) (by right) (by right) (by right) (bg rfl)) (jR (K:=K) rfl (pv 3)) (λ_ _ _ _=>(aZ (i:=0) (by change(["member","name"]:c_ Str).Nodup;decide+kernel) rfl (by trivial))) d7 (λ_ _ _ _=>(sQ (aR oB (pv 0) (pv 1) (a_ _)))) (λ_ _ _ _=>(pv 0))) ae)) ae))))))),?_];try dsimp only[eL]
 exact#[_,inferInstance,?_];rintro vs M q ⟨b,la,lu,lh,now,p,pa,un,he,R,T',dd,ys,rfl,⟨c,n,rfl,rfl⟩,⟨hc,hn⟩,hB,hS,hT,kq,ke⟩;let⟨dx,hb⟩:=hB.ob;have kO:=hc.len;have hW:=hn.len;have up: ∀C,e C M ->WL.up e C M:=λC h=>#[M,Sm.refl M,h]
 dsimp? [hb,tf];exact#[b,la,lu,lh,now,p,pa,un,he,R,T',c,rfl,hB,hc.len,λl hg=> ?_,λhg=>up _ (ke .NoCrew (by rw[cC,hg]))];dsimp? [];exact nH ?_;cases hi:qW n l with
 | false=>dsimp? [bp];exact#[bf (by omega),Oa (by right) hW,N_ (by right) hW (by right),bf (by omega),WZ (by right) hW (by right) kO,WZ (by right) hW (by right) kO,?_];show up _ (ke .NoRound (by rw[cC,hg];dsimp only;rw[am hi]))
 | true=>dsimp? [aX,hb,me,e_];let⟨z,hz,_,rfl⟩:=dZ hg;exact uS (λm=>decide (m≠n)) ws (big (by have:=hT.mem z hz;omega)) (λ_ _=>trivial) ?_ λu hu=> ?_;intro m hm M3 N3 s3 jd;dsimp? [];by_cases h:m=n;rw[aL ⇑h] at jd;rw[bL h];show jd;rw[bL h] at jd;rw[aL h];show jd;dsimp? [ao];have s2:=bj hu (o:= .lst ((z.2.filter λm=>decide (m≠n)).map ws));show#[b,la,lu,lh,now,p,pa,un,he,R,T',c,z.2.filter λm=>decide (m≠n),rfl,hB.sm s2,hS.pa,hS.t,λM' eK pg B' F h1 h2=>eP (kq _ (by rw[cC,hg];dsimp only;rw[ak (by rw[hi];decide)]) M' eK pg B' (F.sm s2) (s2.free h1) (s2.free h2))]
def zA (T:fj K mg A):bE P w K mg base e9 4 A.uI A.uO ["_law_p_here","_law_book","_law_stand"] (fD K (K7 A.a4 A.bx)):=by
 have gp:=Es (cY (P:=P) (w:=w) (base:=base) T);have gU:=Es (ku (P:=P) (w:=w) (base:=base) T);exists T.zM.fn,["_law_p_here","_law_book","_law_stand","_law_names_here","_law_crews","_law_name","_law_one","_law_crew","_law_members"],(ag (a8 (i:=3) nd rfl (by trivial) (hJ T.nT (mY T) (hr.mono ⋯) (pv 1))) (ag (a8 (i:=4) nd rfl (by trivial) (hJ T.nU (mZ T) (hr.mono ⋯) (pv 1))) (ag (bu (kn (d9 (dt (br (eT (K:=K) rfl) (by rfl) T.dD Boot.«isinstance» (aa (pv 3) (aa (gv (by rfl) T.gR Boot.«list» (show RelV (.ty "list") _ from rfl)) ae))))) (ix (aR (show iK _ _ (xF K) from nF (by show hr.OG)) (pv 3) (br (fo rfl) (by rfl) T.gH Boot.«sorted» (aa (aG (show ce _ (bt K) from aB) (pv 2) ai (λ_ _=>rfl)) ae)) (a_ _)))).pt (aj (aE gV)) aK) (ag (bu (kn (d9 (dt (br (eT (K:=K) rfl) (by rfl) T.dD Boot.«isinstance» (aa (pv 4) (aa (gv (by rfl) T.gR Boot.«list» (show RelV (.ty "list") _ from rfl)) ae))))) (ix (aR (show iK _ _ (xF K) from nF (by show hr.OG)) (pv 4) (br (fo rfl) (by rfl) T.gH Boot.«sorted» (aa (aG (show ce _ (bt K) from aB) (pv 2) ai (λ_ _=>rfl)) ae)) (a_ _)))).pt (aj (aE gV)) aK) (ag (gj cV rfl (fT (K:=K) rfl (pv 3)) (aZ (i:=5) nd rfl (by trivial)) (ag (a8 (i:=6) nd rfl (by trivial) (eB T.dG gp (hr.mono ⋯) (pv 1) (aa (pv 5) ae))) (aj (bu (kn (d9 (dt (au T.ul (vx T) hr (aa (pv 0) (aa (pv 6) ae))))) (ix (aR (show iK _ _ (xF K) from nF (by show hr.OG)) (pv 6) (eA (dU hr) (aG (show ce _ (bt K) from aB) (pv 2) ai (λ_ _=>rfl)) (pv 5) (λ_ _=>rfl)) (a_ _)))).pt (aj (aE gV)) aK)))) (ag (gj cV rfl (fT (K:=K) rfl (pv 4)) (aZ (i:=7) nd rfl (by trivial)) (ag (a8 (i:=8) nd rfl (by trivial) (eB T.j9 gU (hr.mono ⋯) (pv 1) (aa (pv 7) ae))) (ag (bu (kn (d9 (dt (br (eT (K:=K) rfl) (by rfl) T.dD Boot.«isinstance» (aa (pv 8) (aa (gv (by rfl) T.gR Boot.«list» (show RelV (.ty "list") _ from rfl)) ae))))) (ix (aR (show iK _ _ (xF K) from nF (by show hr.OG)) (pv 8) (b_ eM (by rfl) T.gR Boot.«list» (aa (eA (dU hr) (aG (show ce _ (bt K) from aB) (pv 2) ai (λ_ _=>rfl)) (pv 7) (λ_ _=>rfl)) ae)) (a_ _)))).pt (aj (aE gV)) aK) (aj (bN (e7 aS PySem.F.slot_list_insert PySem.F.type_list_insert wo (pv 8) (aa ai (aa aC ae)))))))) (ag (bN (Hr aS PySem.F.slot_list_clear PySem.F.type_list_clear zF (pv 3))) (ag (bN (Hr aS PySem.F.slot_list_clear PySem.F.type_list_clear zF (pv 4))) (aj (aE gV))))))))))
 rintro vs M q ⟨b,la,lu,lh,now,r,t,p,pa,un,he,R,T',rfl,hB,⟨iA,ht⟩,hR,⟨hT,d4⟩,k⟩;let⟨dx,hb⟩:=hB.ob;have hRl:=hR.len;dsimp? [hb,Ax];exact#[b,la,lu,lh,now,p,pa,un,he,R,T',rfl,hB,hRl,λnl ns hW jB zV=> ?_];have s1:Sm M (um M nl (.lst (ns.map ws))):=bj hW;have US:=hB.sm s1;have N4:um M nl (.lst (ns.map ws)) nl=some (.lst (ns.map ws)):=ao;generalize um M nl (.lst (ns.map ws))=M1 at s1 US N4;have WU:=s1 _ _ hb;dsimp? [WU,Ay];exact#[b,la,lu,lh,now,p,pa,un,he,R,T',rfl,US,by have:=hT.len;omega,λcl cs kO hpc Zb=> ?_];have s2:=s1.trans (bj kO (o:= .lst (cs.map ws)));have hB2:=hB.sm s2;have vo:um M1 cl (.lst (cs.map ws)) nl=some (.lst (ns.map ws)):=bj kO _ _ N4;have Fo:um M1 cl (.lst (cs.map ws)) cl=some (.lst (cs.map ws)):=ao;generalize um M1 cl (.lst (cs.map ws))=M2 at s2 hB2 vo Fo;dsimp? [vo,Fo];exact#[r,_,R.map (·.1),rfl,s2 _ _ iA,jl _ _,by rw[af];show big (by omega),λv A1 hv uC gE=> ?_];have en:=tL uC jB gE zV;subst en;exact ly (DR.list qu (by rw[aQ (cg vo hv)];show vo)) (DR.list qu ao) (BZ _) rfl ?_;have s3:=s2.trans (bj hv (o:= .lst (A1.map ws)));have ZU:=hB.sm s3;have Ql:=bj hv (o:= .lst (A1.map ws)) _ _ vo;have UL:=bj hv (o:= .lst (A1.map ws)) _ _ Fo;generalize um M2 v (.lst (A1.map ws))=M3 at s3 ZU Ql UL;dsimp? [Ql,UL];exact#[t,_,T'.map (·.1),rfl,s3 _ _ ht,jl _ _,by rw[af];show big (by have:=hT.len;omega),λv2 Ry WD Zj DK=> ?_];have ec:=tL Zj hpc DK Zb;subst ec;exact ly (DR.list qu (by rw[aQ (cg UL WD)];show UL)) (DR.list qu ao) (BZ _) rfl ?_;have s4:=s3.trans (bj WD (o:= .lst (Ry.map ws)));have Rw:=hB.sm s4;have Kf:=bj WD (o:= .lst (Ry.map ws)) _ _ Ql;have N7:=bj WD (o:= .lst (Ry.map ws)) _ _ UL;generalize um M3 v2 (.lst (Ry.map ws))=M4 at s4 Rw Kf N7;have Zg:=s4 _ _ iA;have UN:=s4 _ _ hb;dsimp? [Kf];exact jE (λi ρ M'=>cE λ(o1 o2:gC W)=>ρ= [some (wi p),some (wr b),some (.tup [wr r,wr t]),some (wr nl),some (wr cl),o1,o2,none,none] /\ M'=M4) #[none,none,rfl,rfl] (by rintro i ρ M' _ ⟨o1,o2,rfl,rfl⟩;show Kf) ?_ ?_;rintro i x ρ M' hx ⟨o1,o2,rfl,rfl⟩ N hN;let⟨nm,jc,rfl⟩: ∃nm,A1[i]? =some nm /\ x=ws nm:=by
  rw[aI] at hx;cases e:A1[i]? with
  | none=>rw[e] at hx;cases hx
  | some y=>rw[e] at hx;cases hx;show#[y,rfl,rfl]
 have zY:nm∈R.map (·.1):=jB.mem_iff.mp (aT jc);let⟨z,hz,rfl⟩:=b8.mp zY;let⟨a,hg⟩:=yh hz;let⟨z2,Qb,_,rfl⟩:=dZ hg;dsimp? [UN,eI];exact xv ?_;exact#[b,la,lu,lh,now,p,pa,un,he,R,T',z.1,rfl,Rw,d4 z hz,λa' nL=> ?_,λnL=>by rw[hg] at nL;cases nL];have ea:a'=z2.2:=by rw[hg] at nL;show(bq nL).symm
 subst ea;dsimp? [];exact#[p,z2.2,rfl,(hR.ok z2 Qb).1,by have:=(hR.ok z2 Qb).2.1;omega,?_];dsimp? [Zg,cK,hg,bC];exact TM rfl ?_;dsimp? [];show hN _ _ #[_,_,rfl,rfl];rintro ρ M5 ⟨o1,o2,rfl,rfl⟩;dsimp? [N7];have ht4:=s4 _ _ ht;exact jE (λi ρ M'=>cE λ(o3 o4:gC W)=>ρ= [some (wi p),some (wr b),some (.tup [wr r,wr t]),some (wr nl),some (wr cl),o1,o2,o3,o4] /\ Sm M5 M') #[none,none,rfl,Sm.refl M5] (by rintro i ρ M' _ ⟨o3,o4,rfl,s5⟩;show s5 _ _ N7) ?_ ?_;rintro i x ρ M6 hx ⟨o3,o4,rfl,s5⟩ N hN;let⟨nm,jc,rfl⟩: ∃nm,Ry[i]? =some nm /\ x=ws nm:=by
  rw[aI] at hx;cases e:Ry[i]? with
  | none=>rw[e] at hx;cases hx
  | some y=>rw[e] at hx;cases hx;show#[y,rfl,rfl]
 have zY:nm∈T'.map (·.1):=hpc.mem_iff.mp (aT jc);let⟨z,hz,rfl⟩:=b8.mp zY;have hg:=yf hT.nd hz;have ZJ:=s5 _ _ UN;have ht6:=s5 _ _ ht4;dsimp? [ZJ,uZ];exact xv ?_;exact#[b,la,lu,lh,now,p,pa,un,he,R,T',z.1,rfl,Rw.sm s5,hT.key z hz,λa' nL u hu=> ?_,λnL=>by rw[hg] at nL;cases nL];have ea:a'=z.2:=by rw[hg] at nL;show(bq nL).symm
 subst ea;have s6:=s5.trans (bj hu (o:= .lst (z.2.map ws)));have Ul:um M6 u (.lst (z.2.map ws)) u=some (.lst (z.2.map ws)):=ao;have ht7:=s6 _ _ ht4;have ZQ:M5 u=none:=s5.free hu;generalize um M6 u (.lst (z.2.map ws))=M7 at s6 Ul ht7;dsimp? [Ul,ht7,cK,hg,bC,e_];intro v hv;exact ly (DR.list qu (by rw[aQ (cg Ul hv)];show Ul)) (DR.list qu ao) (BZ _) rfl ?_;have s7:=s6.trans (bj hv (o:= .lst (z.2.map ws)));have Y7:=bj hv (o:= .lst (z.2.map ws)) _ _ Ul;generalize um M7 v (.lst (z.2.map ws))=M8 at s7 Y7;dsimp? [Y7];exact#[u,_,ws "zz",0,rfl,rfl,Y7,mO (by rw[af];have:=hT.mem z hz;omega),dh _,?_];show hN _ _ #[_,_,rfl,s7.um ZQ];rintro ρ M6 ⟨o3,o4,rfl,s5⟩;have hn6:=s5 _ _ Kf;have WJ:=s5 _ _ N7;have s6:=s4.trans s5;dsimp? [hn6,WJ];by_cases hcn:cl=nl;subst hcn;dsimp? [ao];show#[M,s6.um (s1.free kO),k];dsimp? [aQ hcn,WJ];show#[M,(s6.um hW).um (s1.free kO),k]
def kr (T:fj K mg A):bE P w K mg base e9 2 A.lK A.lW ["_law_draw"] (fD K Lc):=by
 exists T.jV.fn,["_law_draw","_law_deeds","_law_k","_law_word","_law_way"],(ag (a8 (i:=1) nd rfl (by trivial) (fI ae)) (ag (gj cV rfl (fJ (by rfl) T.i0 (aa (au T.dc (bM T) hr (aa (pv 0) (aa ai ae))) ae)) (aZ (i:=2) nd rfl (by trivial)) (ag (a8 (i:=3) nd rfl (by trivial) (aG (show ce _ (bt K) from aB) (aN (aa aC (aa aC (aa aC ae)))) (au T.dc (bM T) hr (aa (pv 0) (aa ai ae))) (λ_ _=>rfl))) (aj (bN (e7 aS bK bJ dW (pv 1) (aa (aN (aa (pv 3) (aa (bS tV (au T.dc (bM T) hr (aa (pv 0) (aa ai ae))) ai) ae))) ae)))))) (ag (a8 (i:=4) nd rfl (by trivial) (au T.dc (bM T) hr (aa (pv 0) (aa ai ae)))) (ag (bu (aR dI (pv 4) ai (a_ _)) (ag (bN (e7 aS bK bJ dW (pv 1) (aa (aN (aa aC (aa (aG (show ce _ (bt K) from aB) (aN (aa ai (aa ai (aa (gh eV ai) (aa (gh eV ai) (aa ai (aa ai (aa (gh eV ai) (aa (gh eV ai) (aa ai (aa ai (aa (gh eV ai) (aa (gh eV ai) ae))))))))))))) (au T.dc (bM T) hr (aa (pv 0) (aa ai ae))) (λ_ _=>rfl)) ae))) ae))) (ag (bN (e7 aS bK bJ dW (pv 1) (aa (aN (aa aC (aa (au T.dc (bM T) hr (aa (pv 0) (aa ai ae))) ae))) ae))) (aj (bN (e7 aS bK bJ dW (pv 1) (aa (aN (aa aC (aa (aG (show ce _ (bt K) from aB) (aN (aa ai (aa (gh eV ai) (aa ai (aa (gh eV ai) (aa ai ae)))))) (au T.dc (bM T) hr (aa (pv 0) (aa ai ae))) (λ_ _=>rfl)) ae))) ae)))))) aK) (ag (bu (aR dI (pv 4) ai (a_ _)) (aj (bN (e7 aS PySem.F.slot_list_insert PySem.F.type_list_insert wo (pv 1) (aa (au T.dc (bM T) hr (aa (pv 0) (aa (bS eY (br (fL (K:=K) rfl) (by rfl) T.mf Boot.«len» (aa (pv 1) ae)) ai) ae))) (aa (aN (aa (aG (show ce _ (bt K) from aB) (aN (aa aC (aa aC (aa aC ae)))) (au T.dc (bM T) hr (aa (pv 0) (aa ai ae))) (λ_ _=>rfl)) (aa ai ae))) ae))))) aK) (aj (aE (pv 1))))))))
 rintro vs M q ⟨d,l,rfl,hD,k⟩;dsimp? [];intro u hu;let⟨E4,nul⟩:=hD.ne hu;have D0:=hD.put hu (o:= .lst []);have F0:Fs d M (um M u (.lst [])):=λa o h n=>by rw[aQ (cg h hu)];show h
 have Rq:um M u (.lst []) u=some (.lst (([]:c_ (Str×Int)).map fQ)):=ao;generalize um M u (.lst [])=M1 at D0 F0 Rq;dsimp? [];exact#[d,l,5,rfl,D0,⋯,⋯,λm M2 m0 m1 D2 b2=> ?_];have F2:Fs d M M2:=λa o h n=>by rw[b2 a n];show F0 a o h n
 have hu2:M2 u=some (.lst (([]:c_ (Str×Int)).map fQ)):=by rw[b2 u E4];show Rq
 have put: ∀ (M':Mp) (o:MO),Dr M' d l ->Fs d M M' ->Dr (um M' u o) d l /\ Fs d M (um M' u o):=λM' o hD' hF=>#[hD'.O3 E4 nul,λa o' h n=>by rw[aQ (cg h hu)];show hF a o' h n]
 have dr: ∀ (M' Oo:Mp),NB d M' Oo ->Fs d M M' ->Fs d M Oo:=λM' Oo hb hF a o h n=>by rw[hb a n];show hF a o h n
 have wd: ∀ {ds:c_ (Str×Int)} {z:Str×Int},(∀y∈ds,y.1.length<=100) ->z.1.length<=100 -> ∀y∈ds++ [z],y.1.length<=100:=λ{ds z} h hz y hy=>by obtain h' | h':=bh.mp hy;show h y h';rw[bn.mp h'];show hz
 have sz: ∀ {ds:c_ (Str×Int)},ds.length<=50 ->((ds.map fQ).length<sizeLine)=True:=λ{ds} h=>ay (mO (by rw[af];omega));have snoc: ∀ (ds:c_ (Str×Int)) (z:Str×Int),(MO.lst (ds.map fQ++ [fQ z]))= .lst ((ds++ [z]).map fQ):=λds z=>by rw[a6];rfl
 simp? [↓cI];exact#[#[by omega,by omega],jE (λi ρ M'=>eE λ(o1 o2:gC W) (ds:c_ (Str×Int))=>kQ (ρ= [some (wr d),some (wr u),o1,o2,none]) (ds.length=i) (∀y∈ds,y.1.length<=100) (M' u=some (.lst (ds.map fQ))) (Dr M' d l) (Fs d M M')) #[none,none,[],rfl,rfl,by simp,hu2,D2,F2] (λ_ _ _ _ _=>trivial) ?_ ?_]
 .rintro i x ρ M3 hx ⟨o1,o2,ds,rfl,hl,hw,hM,D3,F3⟩ N hN;let⟨hi,rfl⟩:=ju hx;dsimp? [];exact#[d,l,3,rfl,D3,⋯,⋯,λr M4 r0 r1 D4 b4=> ?_];have Qx:M4 u=some (.lst (ds.map fQ)):=by rw[b4 u E4];show hM
  have F4:=dr _ _ b4 F3;have Zh:r=0 \/ r=1 \/ r=2:=by omega
  obtain rfl | rfl | rfl:=Zh;all_goals
   dsimp? [U_,Qx]
   exact#[d,l,7,rfl,D4,⋯,⋯,λx M5 x0 x1 D5 b5=> ?_]
   have Qw:M5 u=some (.lst (ds.map fQ)):=by rw[b5 u E4];show Qx
   have F5:=dr _ _ b5 F4
   dsimp? [Qw,sz (ds:=ds) (by omega)]
   exact hN _ _ #[_,_,ds++ [(_,x - 3)],rfl,by simp[hl],wd hw ?_,by rw[ao];show congrArg some (snoc ds (_,x - 3)),(put _ _ D5 F5).1,(put _ _ D5 F5).2]
   first | show(by right:Str.length "go" <=100) | show(by right:Str.length "turn" <=100)
 rintro ρ M3 ⟨o1,o2,ds,rfl,hl,hw,hM,D3,F3⟩;rw[hG] at hl;have hl4:ds.length<=4:=by omega
 clear hl;simp? [↓cI];exact fg ?_;simp? [↓cI];exact#[d,l,12,rfl,D3,⋯,⋯,λwy M4 w0 w1 D4 b4=> ?_];have Qx:M4 u=some (.lst (ds.map fQ)):=by rw[b4 u E4];show hM
 have F4:=dr _ _ b4 F3;simp? [↓cI];exact fg (uu (λρ M'=> ∃ds:c_ (Str×Int),kQ (ρ= [some (wr d),some (wr u),o1,o2,some (wi wy)]) (ds.length<=7) (∀y∈ds,y.1.length<=100) (M' u=some (.lst (ds.map fQ))) (Dr M' d l) (Fs d M M')) ?_ λN hN=> ?_);clear Qx F4 hM D3 F3 hl4 hw;rintro ρ M5 ⟨ds,rfl,hl,hw,Qw,D5,F5⟩;exact uu (λρ M'=> ∃ds:c_ (Str×Int),kQ (ρ= [some (wr d),some (wr u),o1,o2,some (wi wy)]) (ds.length<=8) (∀y∈ds,y.1.length<=100) (M' u=some (.lst (ds.map fQ))) (Dr M' d l) (Fs d M M')) ?_ λN hN=> ?_;rintro ρ M6 ⟨ds,rfl,hl,hw,LS,D6,F6⟩;dsimp? [];show eP (k u ds M6 hu LS (by omega) hw D6 F6);simp? [↓cI];exact dQ (λh=> ?_) λh=>hN _ _ #[ds,rfl,by omega,hw,Qw,D5,F5];dsimp? [Qw,af];exact#[d,l,_,rfl,D5,by omega,by omega,λj M6 j0 j1 D6 b6=> ?_];have LS:M6 u=some (.lst (ds.map fQ)):=by rw[b6 u E4];show Qw
 have F6:=dr _ _ b6 F5;dsimp? [];exact#[d,l,3,rfl,D6,⋯,⋯,λr M7 r0 r1 D7 b7=> ?_];have ZP:M7 u=some (.lst (ds.map fQ)):=by rw[b7 u E4];show LS
 have F7:=dr _ _ b7 F6;dsimp? [];exact mB (λx=> ∃e:Str,x=ws e /\ e.length<=100) r0 (by change r< ((3:Nat):Int);omega) (λx hx=> ?_) ?_;simp![aP,List.not_mem_nil,or_false] at hx;obtain h | h | h:=hx <;>show#[_,h,by right];rintro _ ⟨v,rfl,hv⟩;let⟨jn,rfl⟩:=Int.eq_ofNat_of_zero_le j0;exact#[u,_,fQ (v,1),jn,rfl,rfl,ZP,mO (by rw[af];omega),by rw[af];omega,?_];have em:(ds.map fQ).take jn++fQ (v,1)::(ds.map fQ).drop jn=(ds.take jn++(v,1)::ds.drop jn).map fQ:=by rw[a6,aH,List.map_take,List.map_drop]
 rw[em];exact hN _ _ #[ds.take jn++(v,1)::ds.drop jn,rfl,by simp;omega,λy hy=> ?_,ao,(put _ _ D7 F7).1,(put _ _ D7 F7).2];obtain h' | h':=bh.mp hy;show hw y (List.mem_of_mem_take h');obtain h' | h':=aP.mp h';rw[h'];show hv;show hw y (List.mem_of_mem_drop h');simp? [↓cI];exact dQ (λh=> ?_) λh=>hN _ _ #[ds,rfl,by omega,hw,Qx,D4,F4];dsimp? [Qx];exact#[⋯,d,l,12,rfl,D4,⋯,⋯,λj M5 j0 j1 D5 b5=> ?_];have Qw:M5 u=some (.lst (ds.map fQ)):=by rw[b5 u E4];show Qx
 have F5:=dr _ _ b5 F4;dsimp? [];exact mB (λx=> ∃e:Int,x=wi e) j0 (by change j< ((12:Nat):Int);omega) (λx hx=> ?_) ?_;simp![aP,List.not_mem_nil,or_false] at hx;obtain h | h | h | h | h | h | h | h | h | h | h | h:=hx <;>show#[_,h];rintro _ ⟨v,rfl⟩;dsimp? [Qw,sz (ds:=ds) (by omega)];have P6:=put M5 (.lst (ds.map fQ++ [fQ ("go",v)])) D5 F5;have LS:um M5 u (.lst (ds.map fQ++ [fQ ("go",v)])) u=some (.lst ((ds++ [(("go" :Str),v)]).map fQ)):=by rw[ao,snoc]
 have w6:=wd (z:=("go",v)) hw (by change Str.length "go" <=100;decide+kernel);have l6:(ds++ [(("go" :Str),v)]).length<=5:=by simp;omega
 change uU _ _ (um M5 u (.lst (ds.map fQ++ [fQ ("go",v)]))) _;generalize um M5 u (.lst (ds.map fQ++ [fQ ("go",v)]))=M6 at P6 LS ⊢;generalize ds++ [(("go" :Str),v)]=d6 at LS w6 l6;let⟨D6,F6⟩:=P6;exact#[d,l,2,rfl,D6,⋯,⋯,λx7 M7 _ _ D7 b7=> ?_];have ZP:M7 u=some (.lst (d6.map fQ)):=by rw[b7 u E4];show LS
 have F7:=dr _ _ b7 F6;dsimp? [ZP,sz (ds:=d6) (by omega)];have P8:=put M7 (.lst (d6.map fQ++ [fQ ("turn",x7)])) D7 F7;have ZO:um M7 u (.lst (d6.map fQ++ [fQ ("turn",x7)])) u=some (.lst ((d6++ [(("turn" :Str),x7)]).map fQ)):=by rw[ao,snoc]
 have w8:=wd (z:=("turn",x7)) w6 (by change Str.length "turn" <=100;decide+kernel);have l8:(d6++ [(("turn" :Str),x7)]).length<=6:=by simp;omega
 change uU _ _ (um M7 u (.lst (d6.map fQ++ [fQ ("turn",x7)]))) _;generalize um M7 u (.lst (d6.map fQ++ [fQ ("turn",x7)]))=M8 at P8 ZO ⊢;generalize d6++ [(("turn" :Str),x7)]=d8 at ZO w8 l8;let⟨D8,F8⟩:=P8;exact#[d,l,5,rfl,D8,⋯,⋯,λx9 M9 x90 x91 D9 b9=> ?_];have hM9:M9 u=some (.lst (d8.map fQ)):=by rw[b9 u E4];show ZO
 have F9:=dr _ _ b9 F8;dsimp? [];exact mB (λx=> ∃e:Int,x=wi e) x90 (by change x9< ((5:Nat):Int);omega) (λx hx=> ?_) ?_;simp![aP,List.not_mem_nil,or_false] at hx;obtain h | h | h | h | h:=hx <;>show#[_,h];rintro _ ⟨v9,rfl⟩;dsimp? [hM9,sz (ds:=d8) (by omega)];show hN _ _ #[d8++ [(("go" :Str),v9)],rfl,by simp;omega,wd (z:=("go",v9)) w8 (by change Str.length "go" <=100;decide+kernel),by rw[ao];show congrArg some (snoc d8 ("go",v9)),(put _ _ D9 F9).1,(put _ _ D9 F9).2]
def gB (T:fj K mg A):bE P w K mg base e9 2 A.uH A.uN ["_law_draw","_law_names_here"] (fD K xN):=by
 exists T.jA.fn,["_law_draw","_law_names_here"],(ag (bu (aR dI (au T.dc (bM T) hr (aa (pv 0) (aa ai ae))) ai (a_ _)) (aj (aE (aG (show ce _ (bt K) from aB) (aN (aa aC (aa aC (aa aC (aa aC (aa aC (aa aC (aa aC (aa aC (aa aC (aa aC ae))))))))))) (au T.dc (bM T) hr (aa (pv 0) (aa ai ae))) (λ_ _=>rfl)))) aK) (aj (aE (aG (show ce _ (i_ K) from dS) (pv 1) (au T.dc (bM T) hr (aa (pv 0) (aa (br (fL (K:=K) rfl) (by rfl) T.mf Boot.«len» (aa (pv 1) ae)) ae))) (λ_ _=>rfl)))))
 rintro vs M q ⟨d,l,nl,ns,rfl,hD,hW,vA,⟨n0,n1⟩,oS,k⟩;dsimp? [];exact#[d,l,15,rfl,hD,⋯,⋯,λm M2 m0 m1 D2 b2=> ?_];dsimp? [];exact dQ (λh=> ?_) λh=> ?_;dsimp? [];exact#[⋯,d,l,10,rfl,D2,⋯,⋯,λj M3 j0 j1 D3 b3=> ?_];dsimp? [];exact mB (λx=> ∃e:Str,x=ws e /\ Nm e) j0 (by change j< ((10:Nat):Int);omega) (λx hx=> ?_) ?_;simp![aP,List.not_mem_nil,or_false] at hx;obtain h | h | h | h | h | h | h | h | h | h:=hx <;>show#[_,h,by right,by right];rintro _ ⟨v,rfl,hv⟩;show eP (k v _ hv D3 (NB.trans b2 b3));have Uw:M2 nl=some (.lst (ns.map ws)):=by rw[b2 nl vA];show hW
 dsimp? [Uw,af];exact#[d,l,_,rfl,D2,by omega,by omega,λj M3 j0 j1 D3 b3=> ?_];have Zo:M3 nl=some (.lst (ns.map ws)):=by rw[b3 nl vA];show Uw
 let⟨z,hz⟩: ∃z,ns[j.toNat]? =some z:=#[_,aF (by omega)]
 have ek:iF (ns.map ws) j=some (ws z):=f7 j0 (by rw[aI,hz];rfl);dsimp? [Zo,ek];show eP (k z _ (oS z (aT hz)) D3 (NB.trans b2 b3))
def rT (T:fj K mg A):bE P w K mg base e9 3 A.lH A.lT ["_law_draw","_law_names_here"] (fD K Pe):=by
 exists T.oK.fn,["_law_draw","_law_names_here","_law_name","_law_one","_law_way"],(ag (a8 (i:=2) nd rfl (by trivial) (au T.jA (gB T) hr (aa (pv 0) (aa (pv 1) ae)))) (ag (a8 (i:=3) nd rfl (by trivial) (au T.jA (gB T) hr (aa (pv 0) (aa (pv 1) ae)))) (ag (a8 (i:=4) nd rfl (by trivial) (au T.dc (bM T) hr (aa (pv 0) (aa ai ae)))) (ag (bu (aR ko (pv 4) ai (a_ _)) (aj (aE (aN (aa aC (aa (pv 2) (aa (au T.jV (kr T) hr (aa (pv 0) ae)) ae)))))) aK) (ag (bu (aR dI (pv 4) ai (a_ _)) (aj (aE (aN (aa aC (aa (pv 2) (aa (aN (aa (pv 3) (aa (au T.jA (gB T) hr (aa (pv 0) (aa (pv 1) ae))) ae))) ae)))))) aK) (ag (bu (aR dI (pv 4) ai (a_ _)) (aj (aE (aN (aa aC (aa (pv 2) (aa (aN (aa (pv 3) ae)) (aa (gh eV ai) ae))))))) aK) (ag (bu (aR dI (pv 4) ai (a_ _)) (aj (aE (aN (aa aC (aa (pv 2) (aa (aN (aa (pv 3) ae)) (aa (aG (show ce _ (bt K) from aB) (aN (aa (bS tV (au T.dc (bM T) hr (aa (pv 0) (aa ai ae))) ai) (aa (bS tV (au T.dc (bM T) hr (aa (pv 0) (aa ai ae))) ai) ae))) (au T.dc (bM T) hr (aa (pv 0) (aa ai ae))) (λ_ _=>rfl)) ae))))))) aK) (aj (aE (aN (aa aC (aa (pv 2) ae))))))))))))
 rintro vs M q ⟨d,l,nl,ns,rfl,hD,hW,vA,n0,oS,k⟩;have tg: ∀ (M':Mp) (q':WK),Dr M' d l ->NB d M M' ->(∀ (n:Str) (M2:Mp),Nm n ->Dr M2 d l ->NB d M M2 ->q' (ws n) M2) ->xN [wr d,wr nl] M' q':=λM' q' D' b' k'=>#[d,l,nl,ns,rfl,D',by rw[b' nl vA];show hW,vA,n0,oS,λn M2 hn D2 b2=>k' n M2 hn D2 (NB.trans b' b2)]
 have fs: ∀M':Mp,NB d M M' ->Fs d M M':=λM' b a o h n=>by rw[b a n];show h
 dsimp? [];exact tg M _ hD (λ_ _=>rfl) λn M1 hn D1 b1=> ?_;dsimp? [];exact tg M1 _ D1 b1 λx M2 hx D2 b2=> ?_;dsimp? [];exact#[d,l,8,rfl,D2,⋯,⋯,λwy M3 w0 w1 D3 b3=> ?_];replace b3:=NB.trans b2 b3;dsimp? [];exact dQ (λh=> ?_) λh=> ?_;dsimp? [];exact#[d,l,rfl,D3,λu ds M4 hu hM hl hw D4 F4=> ?_];dsimp? [];show eP (k (.tell n ds) _ M4 #[u,rfl,hM] #[hn,hl,hw] (λa n' e=>by cases e;rw[<- b3 u (D3.ne hu).1];show hu) D4 (λa o h n=>F4 a o (by rw[b3 a n];show h) n));dsimp? [];exact dQ (λh=> ?_) λh=> ?_;exact tg M3 _ D3 b3 λy M4 hy D4 b4=> ?_;dsimp? [];show eP (k (.join n x y) _ M4 rfl #[hn,hx,hy] (λa n' e=>nomatch e) D4 (fs _ b4));dsimp? [];exact dQ (λh=> ?_) λh=> ?_;dsimp? [];show eP (k (.back n x) _ M3 rfl #[hn,hx] (λa n' e=>nomatch e) D3 (fs _ b3));dsimp? [];exact dQ (λh=> ?_) λh=> ?_;dsimp? [];exact#[d,l,7,rfl,D3,⋯,⋯,λy1 M4 y0 y2 D4 b4=> ?_];dsimp? [];exact#[d,l,101,rfl,D4,⋯,⋯,λz1 M5 z0 z2 D5 b5=> ?_];dsimp? [];exact#[d,l,2,rfl,D5,⋯,⋯,λr M6 r0 r1 D6 b6=> ?_];dsimp? [];exact mB (λx=> ∃e:Int,cS (x=wi e) (-100<=e) (e<=100)) r0 (by change r< ((2:Nat):Int);omega) (λx hx=> ?_) ?_;simp![aP,List.not_mem_nil,or_false] at hx;obtain h | h:=hx <;>show#[_,h,by omega,by omega];rintro _ ⟨v,rfl,v0,v1⟩;dsimp? [];show eP (k (.times n x v) _ M6 rfl #[hn,hx,v0,v1] (λa n' e=>nomatch e) D6 (fs _ (NB.trans (NB.trans (NB.trans b3 b4) b5) b6)));dsimp? [];show eP (k (.drop n) _ M3 rfl hn (λa n' e=>nomatch e) D3 (fs _ b3))
def rW (T:fj K mg A):bE P w K mg base e9 2 A.lJ A.lV ["_law_stand","_law_deed"] (fD K NH):=by
 exists T.oN.fn,["_law_stand","_law_deed","_law_names_here"],(ag (a8 (i:=2) nd rfl (by trivial) (eA (dU hr) (aG (show ce _ (bt K) from aB) (pv 0) ai (λ_ _=>rfl)) (aG (show ce _ (bt K) from aB) (pv 1) ai (λ_ _=>rfl)) (λ_ _=>rfl))) (ag (bu (aR dI (aG (show ce _ (bt K) from aB) (pv 1) ai (λ_ _=>rfl)) aC (a_ _)) (ag (bu (aR (mC (K:=K) rfl) (aG (show ce _ (bt K) from aB) (pv 1) ai (λ_ _=>rfl)) (pv 2) (by rfl)) (aj (aE (aN (aa aC (aa (aN ae) ae))))) aK) (aj (aE (aN (aa aC (aa (b_ gG (by rfl) T.iZ Boot.«tuple» (aa (dB rfl (cW.of (sc:=_) (N:= ["_law_stand","_law_deed","_law_names_here"]) (own:= ["_law_name"]) (fr:= [1]) (N':= ["_law_name","_law_deed"]) rfl rfl rfl (by right) rfl (by right) (by right) (by right) (by right) (bg rfl)) (jR (K:=K) rfl (pv 2)) (λ_ _ _ _=>(aZ (i:=0) (by change(["_law_name","_law_deed"]:c_ Str).Nodup;decide+kernel) rfl (by trivial))) d7 (λ_ _ _ _=>(sQ (aR oB (pv 0) (aG (show ce _ (bt K) from aB) (pv 1) ai (λ_ _=>rfl)) (a_ _)))) (λ_ _ _ _=>(pv 0))) ae)) ae)))))) aK) (ag (bu (nB (jy (dU hr) (aG (show ce _ (bt K) from aB) (pv 1) ai (λ_ _=>rfl)) (aG (show ce _ (bt K) from aB) (pv 0) ai (λ_ _=>rfl)))) (aj (aE (aN (aa aC (aa (aN ae) ae))))) aK) (ag (bu (aR (tX (K:=K) rfl) (aG (show ce _ (bt K) from aB) (pv 1) ai (λ_ _=>rfl)) (pv 2) (by rfl)) (aj (aE (aN (aa aC (aa (aN ae) ae))))) aK) (ag (bu (aR zw (br (fL (K:=K) rfl) (by rfl) T.mf Boot.«len» (aa (pv 2) ae)) ai (a_ _)) (aj (aE (aN (aa aC (aa (aN ae) ae))))) aK) (ag (bu (dt (au T.Dx (t_ T) hr (aa (eA (dU hr) (aG (show ce _ (bt K) from aB) (pv 0) ai (λ_ _=>rfl)) (aG (show ce _ (bt K) from aB) (pv 1) ai (λ_ _=>rfl)) (λ_ _=>rfl)) (aa ai (aa ai ae))))) (aj (aE (aN (aa aC (aa (aN ae) ae))))) aK) (aj (aE (aN (aa aC (aa (bS Di (pv 2) (aN (aa (aG (show ce _ (bt K) from aB) (pv 1) ai (λ_ _=>rfl)) ae))) ae)))))))))))
 rintro vs M q ⟨r,t,R,T',d,w,l,rfl,⟨iA,ht⟩,⟨hm,hc⟩,hD,hg,⟨hl,hR⟩,kq,ke⟩;cases d with
 | found c=>cases hm
 | disband c=>cases hm
 | enlist c n=>
  cases hD;replace hg:cx T' c=some l:=hg;have bad: ∀f,nG R l (.enlist c n)= .bad f -> ∃M0,Sm M0 M /\ q (.tup [ws (CY f), .tup []]) M0:=λf h=>eP (ke f h);dsimp? [ht,cK,hg,bC,k_enlist_dismiss,iA,b0];cases hx:cx R n with
  | none=>dsimp? [df,bp];show bad .NoRound (by rw[nG,hx])
  | some a=>
  dsimp? [cq,aX];exact sW ?_;cases hi:qW n l with
  | true=>dsimp? [];show bad .Taken (by rw[nG,hx];show am hi)
  | false=>
  have Fk:¬qW n l=true:=by rw[hi];decide
  dsimp? [e_,af];by_cases h6:6<=l.length;have e6:decide ((6:Int) <=(l.length:Int))=true:=bL (by omega);dsimp? [e6];show bad .TooMany (by rw[nG,hx];dsimp only;rw[ak Fk,am h6]);have e6:decide ((6:Int) <=(l.length:Int))=false:=aL (by omega);dsimp? [e6,iA,cK,hx,bC];let⟨z,hz,_,rfl⟩:=dZ hx;exact#[z.2,8,24,rfl,by have:=hR z hz;omega,?_];cases hf:gd z.2 8 24 with
  | true=>dsimp? [];show bad .TooFar (by rw[nG,hx];dsimp only;rw[ak Fk,ak h6,am hf])
  | false=>
   dsimp? [];exact#[big (by rw[af];simp;omega),?_];have el:W.tup (l.map ws++ [ws n])=e_ (l++ [n]):=by unfold e_;rw[a6];rfl
   rw[el];show eP (kq _ (by rw[nG,hx];dsimp only;rw[ak Fk,ak h6,ak (by rw[hf];decide)]))
 | dismiss c n=>
  cases hD;replace hg:cx T' c=some l:=hg;dsimp? [ht,cK,hg,bC,cD];exact nH ?_;cases hi:qW n l with
  | false=>dsimp? [bp];show eP (ke .NoRound (by rw[nG];show am hi))
  | true=>dsimp? [aX,e_];exact uS (λm=>decide (m≠n)) ws (big (by omega)) (λ_ _=>trivial) ?_ λu hu=> ?_;intro m hm M3 N3 s3 jd;dsimp? [];by_cases h:m=n;rw[aL ⇑h] at jd;rw[bL h];show jd;rw[bL h] at jd;rw[aL h];show jd;dsimp? [ao];show#[M,bj hu,kq _ (by rw[nG];show ak (by rw[hi];decide))]
def vy (T:fj K mg A):bE P w K mg base e9 3 A.oW A.pf ["_law_stand","_law_deed"] (fD K Tq):=by
 exists T.uo.fn,["_law_stand","_law_deed","_law_crews","_law_told"],(ag (a8 (i:=2) nd rfl (by trivial) (b_ j5 (by rfl) T.yq Boot.«dict» (aa (aG (show ce _ (bt K) from aB) (pv 0) ai (λ_ _=>rfl)) ae))) (ag (bu (aR dI (aG (show ce _ (bt K) from aB) (pv 1) ai (λ_ _=>rfl)) aC (a_ _)) (ag (bu (d9 (dt (au T.p_ (oF T) hr (aa (aG (show ce _ (bt K) from aB) (pv 1) ai (λ_ _=>rfl)) ae)))) (aj (aE (aN (aa aC (aa (pv 0) ae))))) aK) (ag (bu (nB (Br (dU hr) (aG (show ce _ (bt K) from aB) (pv 1) ai (λ_ _=>rfl)) (pv 2))) (aj (aE (aN (aa aC (aa (pv 0) ae))))) aK) (ag (mx (dU hr) (pv 2) (aG (show ce _ (bt K) from aB) (pv 1) ai (λ_ _=>rfl)) (aN ae) rfl) (aj (aE (aN (aa aC (aa (aN (aa (aG (show ce _ (bt K) from aB) (pv 0) ai (λ_ _=>rfl)) (aa (pv 2) ae))) ae)))))))) aK) (ag (bu (nB (jy (dU hr) (aG (show ce _ (bt K) from aB) (pv 1) ai (λ_ _=>rfl)) (pv 2))) (aj (aE (aN (aa aC (aa (pv 0) ae))))) aK) (ag (bu (aR dI (aG (show ce _ (bt K) from aB) (pv 1) ai (λ_ _=>rfl)) aC (a_ _)) (ag (bN (zr (pv 2) (aG (show ce _ (bt K) from aB) (pv 1) ai (λ_ _=>rfl)) #[by rfl,by rfl,by rfl,by rfl])) (aj (aE (aN (aa aC (aa (aN (aa (aG (show ce _ (bt K) from aB) (pv 0) ai (λ_ _=>rfl)) (aa (pv 2) ae))) ae)))))) aK) (ag (a8 (i:=3) nd rfl (by trivial) (au T.oN (rW T) hr (aa (pv 0) (aa (pv 1) ae)))) (ag (bu (aR oB (aG (show ce _ (bt K) from aB) (pv 3) ai (λ_ _=>rfl)) aC (a_ _)) (aj (aE (aN (aa (aG (show ce _ (bt K) from aB) (pv 3) ai (λ_ _=>rfl)) (aa (pv 0) ae))))) aK) (ag (mx (dU hr) (pv 2) (aG (show ce _ (bt K) from aB) (pv 1) ai (λ_ _=>rfl)) (aG (show ce _ (bt K) from aB) (pv 3) ai (λ_ _=>rfl)) rfl) (aj (aE (aN (aa aC (aa (aN (aa (aG (show ce _ (bt K) from aB) (pv 0) ai (λ_ _=>rfl)) (aa (pv 2) ae))) ae))))))))))))
 rintro vs M q ⟨r,t,R,T',d,w,rfl,⟨iA,ht⟩,hc,hD,hT,hR,kq,ke⟩;dsimp? [ht];intro u hu;have st:=bj hu (o:= .dK (ny T'));have qo:um M u (.dK (ny T')) u=some (.dK (ny T')):=ao;have hsz:((ny T').length<sizeLine)=True:=ay (mO (by rw[nZ];have:=hT.len;omega));have mem: ∀ (d:fN) (w:W) (q':WK),Io d ->AW d ->DA M (.c d) w -> ∀l,cx T' (Mg d)=some l ->(∀l',nG R l d= .ok l' ->q' (.tup [ws "",e_ l']) (um M u (.dK (ny T')))) ->(∀f,nG R l d= .bad f ->q' (.tup [ws (CY f), .tup []]) (um M u (.dK (ny T')))) ->NH [.tup [wr r,wr t],w] (um M u (.dK (ny T'))) q':=λd w q' hm hc hD l hg h1 h2=>#[r,t,R,T',d,w,l,rfl,#[st _ _ iA,st _ _ ht],#[hm,hc],hD.sm st,hg,#[yg hT hg,hR],h1,h2]
 change hold _ _ (um M u (.dK (ny T')));generalize um M u (.dK (ny T'))=M1 at st qo mem ⊢;have fin: ∀T2,cC R T' d= .ok T2 -> ∀M2,M2=um M1 u (.dK (ny T2)) -> ∃M0,Sm M0 M2 /\ q (.tup [ws "", .tup [wr r,wr u]]) M0:=λT2 h M2 e=>eP (kq T2 h u M2 (by rw[e];show st.um hu) (by rw[e];show ao));have bad: ∀f,cC R T' d= .bad f -> ∃M0,Sm M0 M1 /\ q (.tup [ws (CY f), .tup [wr r,wr t]]) M0:=λf h=>#[M,st,ke f h]
 cases d with
 | found c=>
  cases hD;dsimp? [cD];exact#[c,rfl,hc,?_];cases jc:ci c with
  | false=>dsimp? [bp];show bad .BadName (by rw[cC];show am jc)
  | true=>
  have nJ:¬ci c=false:=by rw[jc];decide
  dsimp? [aX,qo,cK,b0];cases hg:cx T' c with
  | some l=>dsimp? [cq];show bad .Taken (by rw[cC,ak nJ,hg])
  | none=>dsimp? [df,qo,hsz];exact fin (gO T' c []) (by rw[cC,ak nJ,hg]) _ ?_;show congrArg (λz=>um M1 u (.dK z)) (gr e_ T' c [])
 | disband c=>
  cases hD;dsimp? [k_disband_found,cD,qo,cK,b0];cases hg:cx T' c with
  | none=>dsimp? [df,bp];show bad .NoCrew (by rw[cC,hg])
  | some l=>dsimp? [cq,aX,cD,qo,cK,hg,bC];exact fin (nP T' c) (by rw[cC,hg]) _ ?_;rw[o6]
 | enlist c n=>
  cases hD;dsimp? [k_enlist_found,k_enlist_disband,qo,cK,b0];cases hg:cx T' c with
  | none=>dsimp? [df,bp];show bad .NoCrew (by rw[cC,hg])
  | some l=>
   have ec:=As (R:=R) (d:= .enlist c n) trivial hg;dsimp? [cq,aX,k_enlist_disband];exact mem (.enlist c n) _ _ trivial hc rfl l hg (λl' h=> ?_) λf h=> ?_;have ef:decide (("" :Str)= "")=true:=by right
   dsimp? [ef,cD,qo,hsz];exact fin _ (by rw[ec,h]) _ ?_;rw[gr];rfl;have ZE:decide (CY f=Str.ofString "")=false:=aL (Nv f);dsimp? [ZE,bp];show bad f (by rw[ec,h])
 | dismiss c n=>
  cases hD;dsimp? [k_dismiss_found,k_dismiss_disband,qo,cK,b0];cases hg:cx T' c with
  | none=>dsimp? [df,bp];show bad .NoCrew (by rw[cC,hg])
  | some l=>
   have ec:=As (R:=R) (d:= .dismiss c n) trivial hg;dsimp? [cq,aX,k_dismiss_disband];exact mem (.dismiss c n) _ _ trivial hc rfl l hg (λl' h=> ?_) λf h=> ?_;have ef:decide (("" :Str)= "")=true:=by right
   dsimp? [ef,cD,qo,hsz];exact fin _ (by rw[ec,h]) _ ?_;rw[gr];rfl;have ZE:decide (CY f=Str.ofString "")=false:=aL (Nv f);dsimp? [ZE,bp];show bad f (by rw[ec,h])
def zB (T:fj K mg A):bE P w K mg base e9 7 A.DZ A.Eo ["_law_p_here","_law_stand","_law_deed"] (fD K Tr):=by
 exists T.HU.fn,["_law_p_here","_law_stand","_law_deed"],(ag (bu (aR (tX (K:=K) rfl) (aG (show ce _ (bt K) from aB) (pv 2) ai (λ_ _=>rfl)) (aN (aa aC (aa aC (aa aC (aa aC ae))))) (by rfl)) (aj (aE (au T.uo (vy T) hr (aa (pv 1) (aa (pv 2) ae))))) aK) (aj (aE (au T.qT (ua T) hr (aa (pv 0) (aa (pv 1) (aa (pv 2) ae)))))))
 rintro vs M q ⟨p,r,t,R,T',dd,w,rfl,hp,⟨iA,ht⟩,hS,⟨hD,uB⟩,hO,kq,ke⟩;have inl: ∀ (x:Str) (M:Mp) (q':WK),q' (wb (qW x ["found","disband","enlist","dismiss"])) M ->VT false (ws x) (.tup [ws "found",ws "disband",ws "enlist",ws "dismiss"]) M q':=λx M q' h=>sW (l:= ["found","disband","enlist","dismiss"]) h;cases dd with
 | r d=>
  let⟨c7,rfl⟩:=DV.head hD;have e0:iF (ws (kdOf d)::c7) 0=some (ws (kdOf d)):=f7 ⋯ rfl;have e1:qW (kdOf d) ["found","disband","enlist","dismiss"]=false:=by cases d<;>(simp![kdOf];decide+kernel)
  dsimp? [e0];exact inl _ _ _ ?_;dsimp? [e1];exact#[p,r,t,R,T',d,_,rfl,hp,#[iA,ht],#[hS.r,hS.t],hD,hO,λR' ho hR r' M' s _ Ut=>eP ?_,λf ho=>eP (ke f (by rw[A0,ho]))];let⟨hk,hl⟩:=Lo ho hS.k;show kq R' T' (by rw[A0,ho]) (λh _=>#[hR.2 h,hS.t,hk,hS.m]) #[hl,by omega] r' t M' s Ut (s _ _ ht)
 | c d=>
  let⟨kd,c7,rfl,e1⟩: ∃ (k:Str) (c7:c_ W),w= .tup (ws k::c7) /\ qW k ["found","disband","enlist","dismiss"]=true:=by cases d<;>cases hD<;>show#[_,_,rfl,by right]
  have e0:iF (ws kd::c7) 0=some (ws kd):=f7 ⋯ rfl;dsimp? [e0];exact inl _ _ _ ?_;dsimp? [e1];exact#[r,t,R,T',d,_,rfl,#[iA,ht],hO,hD,hS.t,λz hz=>by have:=(hS.r.ok z hz).2.1;omega,λT2 ho t' M' s Uq=>eP ?_,λf ho=>eP (ke f (by rw[A0,ho]))];let⟨hk,hl⟩:=Me hO hS.t ho;show kq R T2 (by rw[A0,ho]) (λ_ h=>#[hS.r,hk h,hS.k,Mf hO hS.m ho]) #[by omega,hl] r t' M' s (s _ _ iA) Uq
 | _=>cases uB
def HD (T:fj K mg A):bE P w K mg base (iJ P w) 7 A.DW A.El ["_law_book","_law_deed"] (rS K (Tj yb A.a4 A.bx (uV A))):=by
 have AF:bE P w K mg base (iJ P w) 0 A.re A.rC ["self"] (rS K We):=HC;have AG:bE P w K mg base (iJ P w) 0 A.rh A.rF ["self"] (rS K We):=HC;have qB:bE P w K mg base (iJ P w) 0 A.jF A.jH ["self","k"] (rS K We):=HC;have AH:bE P w K mg base e9 0 A.rj A.rG ["self"] (fD K Bu):=z3;exact AY T.NO.fn za (by rintro vs M q e ⟨b,la,lu,lh,now,p,S,dd,w,rfl,_⟩;rfl) λcdv A' outer s H E e hr hF hP=> ?_;have nd:=za.nd;exact#[_,(ag (bu (aR dI (aG (show ce _ (bt K) from aB) (pv 1) ai (λ_ _=>rfl)) aC (a_ _)) (ag (a8 (i:=2) nd rfl (by trivial) (b_ eM (by rfl) T.gR Boot.«list» (aa (aG (show ce _ (bt K) from aB) (pv 1) ai (λ_ _=>rfl)) ae))) (ag (a8 (i:=3) nd rfl (by trivial) (cr hP T.xi (xV T) (hr.mono ⋯) (pv 0) (aa (aG (show ce _ (bt K) from aB) (pv 1) ai (λ_ _=>rfl)) (aa (pv 2) ae)))) (ag (bu (aR (show iK _ _ (xF K) from nF (by show hr.OG)) (pv 2) (b_ eM (by rfl) T.gR Boot.«list» (aa (aG (show ce _ (bt K) from aB) (pv 1) ai (λ_ _=>rfl)) ae)) (a_ _)) (aj (aE aC)) aK) (ag (bN (e7 aS bK bJ dW (pv 2) (aa (aN (aa aC (aa ai ae))) ae))) (aj (aE (pv 3))))))) aK) (ag (bu (aR dI (aG (show ce _ (bt K) from aB) (pv 1) ai (λ_ _=>rfl)) aC (a_ _)) (aj (aE (cr hP T.pC (rX T) (hr.mono ⋯) (pv 0) (aa (aG (show ce _ (bt K) from aB) (pv 1) ai (λ_ _=>rfl)) (aa (aG (show ce _ (bt K) from aB) (aG (show ce _ (bt K) from aB) (pv 1) ai (λ_ _=>rfl)) ai (λ_ _=>rfl)) (aa (aG (show ce _ (bt K) from aB) (aG (show ce _ (bt K) from aB) (pv 1) ai (λ_ _=>rfl)) ai (λ_ _=>rfl)) ae)))))) aK) (ag (bu (aR dI (aG (show ce _ (bt K) from aB) (pv 1) ai (λ_ _=>rfl)) aC (a_ _)) (aj (aE (cr hP T.pF (r_ T) (hr.mono ⋯) (pv 0) (aa (aG (show ce _ (bt K) from aB) (pv 1) ai (λ_ _=>rfl)) (aa (aG (show ce _ (bt K) from aB) (aG (show ce _ (bt K) from aB) (pv 1) ai (λ_ _=>rfl)) ai (λ_ _=>rfl)) ae))))) aK) (ag (bu (aR dI (aG (show ce _ (bt K) from aB) (pv 1) ai (λ_ _=>rfl)) aC (a_ _)) (aj (aE (cr hP T.nu (pX T) (hr.mono ⋯) (pv 0) (aa (aG (show ce _ (bt K) from aB) (pv 1) ai (λ_ _=>rfl)) (aa (aG (show ce _ (bt K) from aB) (aG (show ce _ (bt K) from aB) (pv 1) ai (λ_ _=>rfl)) ai (λ_ _=>rfl)) (aa (aG (show ce _ (bt K) from aB) (pv 1) ai (λ_ _=>rfl)) ae)))))) aK) (ag (bu (aR dI (aG (show ce _ (bt K) from aB) (pv 1) ai (λ_ _=>rfl)) aC (a_ _)) (aj (aE (cr hP T.xj (xW T) (hr.mono ⋯) (pv 0) (aa (aG (show ce _ (bt K) from aB) (pv 1) ai (λ_ _=>rfl)) ae)))) aK) (ag (bu (aR dI (aG (show ce _ (bt K) from aB) (pv 1) ai (λ_ _=>rfl)) aC (a_ _)) (aj (aE (cr hP T.vk (vz T) (hr.mono ⋯) (pv 0) (aa (aG (show ce _ (bt K) from aB) (pv 1) ai (λ_ _=>rfl)) ae)))) aK) (ag (bu (aR dI (aG (show ce _ (bt K) from aB) (pv 1) ai (λ_ _=>rfl)) aC (a_ _)) (aj (aE (cr hP T.pE (rZ T) (hr.mono ⋯) (pv 0) (aa (aG (show ce _ (bt K) from aB) (pv 1) ai (λ_ _=>rfl)) ae)))) aK) (ag (bu (aR dI (aG (show ce _ (bt K) from aB) (pv 1) ai (λ_ _=>rfl)) aC (a_ _)) (aj (aE (cr hP T.rN (uc T) (hr.mono ⋯) (pv 0) (aa (aG (show ce _ (bt K) from aB) (pv 1) ai (λ_ _=>rfl)) (aa (aG (show ce _ (bt K) from aB) (pv 1) ai (λ_ _=>rfl)) ae))))) aK) (ag (bu (aR dI (aG (show ce _ (bt K) from aB) (pv 1) ai (λ_ _=>rfl)) aC (a_ _)) (aj (aE (cr hP T.pD (rY T) (hr.mono ⋯) (pv 0) (aa (aG (show ce _ (bt K) from aB) (pv 1) ai (λ_ _=>rfl)) (aa (aG (show ce _ (bt K) from aB) (pv 1) ai (λ_ _=>rfl)) ae))))) aK) (ag (bu (aR dI (aG (show ce _ (bt K) from aB) (pv 1) ai (λ_ _=>rfl)) aC (a_ _)) (aj (aE (wc hP T.Gb AF (hr.mono ⋯) (pv 0)))) aK) (ag (bu (aR dI (aG (show ce _ (bt K) from aB) (pv 1) ai (λ_ _=>rfl)) aC (a_ _)) (aj (aE (wc hP T.Gc AG (hr.mono ⋯) (pv 0)))) aK) (ag (bu (aR dI (aG (show ce _ (bt K) from aB) (pv 1) ai (λ_ _=>rfl)) aC (a_ _)) (aj (aE (hJ T.Gd AH (hr.mono ⋯) (pv 0)))) aK) (aj (aE (cr hP T.vj qB (hr.mono ⋯) (pv 0) (aa (aG (show ce _ (bt K) from aB) (pv 1) ai (λ_ _=>rfl)) ae)))))))))))))))),?_];try dsimp only[eL]
 exact#[_,inferInstance,?_];rintro vs M q ⟨b,la,lu,lh,now,p,S,dd,w,rfl,⟨hD,uB⟩,ZS,hO,WW,Kk,kq,ke⟩;have hB:=WW.bk;have hS:=Kk.bk;let⟨dx,hb⟩:=hB.ob;have up: ∀C,e C M ->WL.up e C M:=λC h=>#[M,Sm.refl M,h]
 have pg2: ∀z:Rm×Tm,A0 p S.R S.T dd= .ok z ->yb dd ->rO A.a4 A.bx M b la lh p now (S.past.map (·.1)) (S.held.map (·.1)) z.1 z.2 q:=λz h hi=>JD WW (kq _ _ (by rw[kx hi,h]));have pb2: ∀f,A0 p S.R S.T dd= .bad f ->yb dd ->e (uV A f) M:=λf h hi=>ke f (by rw[kx hi,h]);cases dd with
 | r d=>
  have kq: ∀R',cw p S.R S.T d= .ok R' ->rO A.a4 A.bx M b la lh p now (S.past.map (·.1)) (S.held.map (·.1)) R' S.T q:=λR' h=>pg2 (R',S.T) (by rw[A0,h]) trivial;have ke: ∀f,cw p S.R S.T d= .bad f ->e (uV A f) M:=λf h=>pb2 f (by rw[A0,h]) trivial;cases d with
  | tell n ds=>let⟨c,rfl,hc⟩:=hD;exact KJ rfl ?_;dsimp? [hc];intro h hh;have s1:Sm M (um M h (.lst (ds.map fQ))):=bj hh;have nbh:=cg hb hh;dsimp? [aQ nbh,hb,Mi];exact#[b,la,lu,lh,now,p,_,_,_,_,_, .tell n ds,_,rfl,#[n,h,ds,rfl,rfl,ao],hO,hB.sm s1,hS,λR' ho M' eK pg B' F sy uC=> ?_,λr ho=>#[M,s1,ke r ho]];have nah:=cg hB.pa hh;have NK:=cg hB.he hh;have nuh:h≠eK:=cg ao sy;have WN:M' c=some (.lst (ds.map fQ)):=F _ _ (s1 _ _ hc) (λz=>by subst z;rw[hb] at hc;cases hc) (λz=>by subst z;show ZS _ rfl);have UH:M' h=some (.lst (ds.map fQ)):=F _ _ ao nbh.symm nah.symm;dsimp? [WN];intro g hg;exact ly (DR.list Jo (by rw[aQ (cg UH hg)];show UH)) (DR.list Jo ao) (QG ds) rfl ?_;have hsz:((ds.map fQ).length<sizeLine)=True:=ay (mO (by rw[af];have:=hO.2;omega));dsimp? [aQ (cg UH hg),UH,hsz];show#[Hc M' h,KZ (bj hg),kq R' ho _ eK pg (B'.Hc UH nah nuh.symm NK) (F.Hc s1 hh) (s1.free sy) (s1.free uC)]
  | join n x y=>cases hD;exact kS rfl k_join_tell (KJ rfl ?_);dsimp? [hb,B8];exact#[b,la,lu,lh,now,p,_,_,_,_,_, .join n x y,_,rfl,#[n,x,y,rfl,rfl],hO,hB,hS,λR' ho M' eK pg B' F sy uC=> ?_,λr ho=>up _ (ke r ho)];dsimp? [];show eP (kq R' ho M' eK pg B' F sy uC)
  | back n x=>cases hD;exact kS rfl k_back_tell (kS rfl k_back_join (KJ rfl ?_));dsimp? [hb,Ca];exact#[b,la,lu,lh,now,p,_,_,_,_,_, .back n x,_,rfl,#[n,x,rfl,rfl],hO,hB,hS,λR' ho M' eK pg B' F sy uC=> ?_,λr ho=>up _ (ke r ho)];dsimp? [];show eP (kq R' ho M' eK pg B' F sy uC)
  | times n x j=>cases hD;exact kS rfl k_times_tell (kS rfl k_times_join (kS rfl k_times_back (KJ rfl ?_)));dsimp? [hb,Av];exact#[b,la,lu,lh,now,p,_,_,_,_,_, .times n x j,_,rfl,#[n,x,j,rfl,rfl],hO,hB,hS,λR' ho M' eK pg B' F sy uC=> ?_,λr ho=>up _ (ke r ho)];dsimp? [];show eP (kq R' ho M' eK pg B' F sy uC)
  | drop n=>cases hD;exact kS rfl k_drop_tell (kS rfl k_drop_join (kS rfl k_drop_back (kS rfl k_drop_times (KJ rfl ?_))));dsimp? [hb,Mj];exact#[b,la,lu,lh,now,p,_,_,_,_,_, .drop n,_,rfl,#[n,rfl,rfl],hO,hB,hS,λR' ho M' eK pg B' F sy uC=> ?_,λr ho=>up _ (ke r ho)];dsimp? [];show eP (kq R' ho M' eK pg B' F sy uC)
 | c d=>
  have kq: ∀T',cC S.R S.T d= .ok T' ->rO A.a4 A.bx M b la lh p now (S.past.map (·.1)) (S.held.map (·.1)) S.R T' q:=λT' h=>pg2 (S.R,T') (by rw[A0,h]) trivial;have ke: ∀f,cC S.R S.T d= .bad f ->e (uV A f) M:=λf h=>pb2 f (by rw[A0,h]) trivial;have hT:=Kk.s.t;cases d with
  | found c=>cases hD;exact kS rfl k_found_tell (kS rfl k_found_join (kS rfl k_found_back (kS rfl k_found_times (kS rfl k_found_drop (KJ rfl ?_)))));dsimp? [hb,Jy];exact#[b,la,lu,lh,now,p,_,_,_,_,_, .found c,_,rfl,#[c,rfl,rfl],hO,hB,hS,hT,λR' ho M' eK pg B' F sy uC=> ?_,λr ho=>up _ (ke r ho)];dsimp? [];show eP (kq R' ho M' eK pg B' F sy uC)
  | disband c=>cases hD;exact kS rfl k_disband_tell (kS rfl k_disband_join (kS rfl k_disband_back (kS rfl k_disband_times (kS rfl k_disband_drop (kS rfl k_disband_found (KJ rfl ?_))))));dsimp? [hb,B_];exact#[b,la,lu,lh,now,p,_,_,_,_,_, .disband c,_,rfl,#[c,rfl,rfl],hO,hB,hS,hT,λR' ho M' eK pg B' F sy uC=> ?_,λr ho=>up _ (ke r ho)];dsimp? [];show eP (kq R' ho M' eK pg B' F sy uC)
  | enlist c n=>cases hD;exact kS rfl k_enlist_tell (kS rfl k_enlist_join (kS rfl k_enlist_back (kS rfl k_enlist_times (kS rfl k_enlist_drop (kS rfl k_enlist_found (kS rfl k_enlist_disband (KJ rfl ?_)))))));dsimp? [hb,FH];exact#[b,la,lu,lh,now,p,_,_,_,_,_, .enlist c n,_,rfl,#[c,n,rfl,rfl],hO,hB,hS,hT,λR' ho M' eK pg B' F sy uC=> ?_,λr ho=>up _ (ke r ho)];dsimp? [];show eP (kq R' ho M' eK pg B' F sy uC)
  | dismiss c n=>cases hD;exact kS rfl k_dismiss_tell (kS rfl k_dismiss_join (kS rfl k_dismiss_back (kS rfl k_dismiss_times (kS rfl k_dismiss_drop (kS rfl k_dismiss_found (kS rfl k_dismiss_disband (kS rfl k_dismiss_enlist (KJ rfl ?_))))))));dsimp? [hb,B9];exact#[b,la,lu,lh,now,p,_,_,_,_,_, .dismiss c n,_,rfl,#[c,n,rfl,rfl],hO,hB,hS,hT,λR' ho M' eK pg B' F sy uC=> ?_,λr ho=>up _ (ke r ho)];dsimp? [];show eP (kq R' ho M' eK pg B' F sy uC)
 | _=>cases uB
def wg (T:fj K mg A):bE P w K mg base e9 8 A.Aa A.Am ["_law_book","_law_deed"] (fD K (Pm yb A.a4 A.bx)):=by
 exists T.BK.fn,["_law_book","_law_deed","_law_told","_law_value_here"],(ag (a8 (i:=2) nd rfl (by trivial) aC) (ag (a8 (i:=3) nd rfl (by trivial) tT) (ag (K1 (iy:=3) rfl rfl T.NO (HD T) (hr.mono ⋯) (by rfl) (aa (pv 0) (aa (pv 1) ae)) nd rfl (by rfl) (AC.cons (by rfl) T.vQ (λea=>(aj (a8 (i:=2) nd rfl (by trivial) aC))) (AC.cons (by rfl) T.yL (λea=>(aj (a8 (i:=2) nd rfl (by trivial) aC))) (AC.cons (by rfl) T.pH (λea=>(aj (a8 (i:=2) nd rfl (by trivial) aC))) (AC.cons (by rfl) T.yM (λea=>(aj (a8 (i:=2) nd rfl (by trivial) aC))) (AC.cons (by rfl) T.xk (λea=>(aj (a8 (i:=2) nd rfl (by trivial) aC))) (AC.cons (by rfl) T.Ct (λea=>(aj (a8 (i:=2) nd rfl (by trivial) aC))) (AC.cons (by rfl) T.vP (λea=>(aj (a8 (i:=2) nd rfl (by trivial) aC))) (AC.cons (by rfl) T.nV (λea=>(aj (a8 (i:=2) nd rfl (by trivial) aC))) (AC.cons (by rfl) T.Gm (λea=>(aj (a8 (i:=2) nd rfl (by trivial) aC))) (AC.cons (by rfl) T.Ey (λea=>(aj (a8 (i:=2) nd rfl (by trivial) aC))) AC.nil))))))))))) (aj (aE (aN (aa (pv 2) (aa (pv 3) ae))))))))
 rintro vs M q ⟨b,la,lu,lh,now,p,S,dd,w,rfl,hD,ZS,hO,WW,Kk,kq,ke⟩;have hrf: ∀r,oA p now S dd= .bad r ->r≠ .NoMore /\ r≠ .NoState:=λr ho=>TH hD.2 ho;dsimp? [];exact#[b,la,lu,lh,now,p,S,dd,w,rfl,hD,ZS,hO,WW,Kk,λS' v ho M' eK oI B' F sy=> ?_,λr ho ea DL=> ?_];dsimp? [];show eP (kq S' v ho M' eK oI B' F sy);have fin: ∃M0,Sm M0 (um M ea (.exc (uV A r))) /\ q (.tup [ws (CY r),wn]) M0:=#[M,bj DL,ke r ho]
 cases r with
 | NoMore=>show absurd rfl (hrf _ ho).1
 | NoState=>show absurd rfl (hrf _ ho).2
 | BadName=>exact rM ?_;dsimp? [];show fin
 | NoDeed=>exact eh T.qj (rM ?_);dsimp? [];show fin
 | NoRound=>exact eh T.oR (eh T.qi (rM ?_));dsimp? [];show fin
 | NoCrew=>exact eh T.qm (eh T.su (eh T.qk (rM ?_)));dsimp? [];show fin
 | Taken=>exact eh T.sr (eh T.ux (eh T.sq (eh T.uy (rM ?_))));dsimp? [];show fin
 | InUse=>exact eh T.sw (eh T.uz (eh T.sv (eh T.uA (eh T.vC (rM ?_)))));dsimp? [];show fin
 | TooMany=>exact eh T.oQ (eh T.qd (eh T.oP (eh T.qe (eh T.sf (eh T.si (rM ?_))))));dsimp? [];show fin
 | TooFar=>exact eh T.qh (eh T.sj (eh T.qg (eh T.sk (eh T.uv (eh T.uw (eh T.qf (rM ?_)))))));dsimp? [];show fin
def HB (T:fj K mg A):bE P w K mg base e9 1 A.DS A.Ei ["one"] (fD K Hv):=by
 exists T.shown.fn,["one","end","pattern"],(ag (gk (pv 0) (d_ (n:=2) rfl (bw (aZ (i:=1) nd rfl (by trivial)) (bw (aZ (i:=2) nd rfl (by trivial)) dA)))) (aj (aE (bS fV (eJ (bO (nD (pv 1)) (bO aC fH))) (e7 dw c5 dN (show Gj _ _ (oy K) from jU) aC (aa (dB rfl (cW.of (sc:=_) (N:= ["one","end","pattern"]) (own:= ["place","setting"]) (fr:= []) (N':= ["place","setting"]) rfl rfl rfl (by right) rfl (by right) (by right) (by right) (by right) (bg rfl)) (jR (K:=K) rfl (pv 2)) (λ_ _ _ _=>(d_ (n:=2) rfl (bw (aZ (i:=0) (by change(["place","setting"]:c_ Str).Nodup;decide+kernel) rfl (by trivial)) (bw (aZ (i:=1) (by change(["place","setting"]:c_ Str).Nodup;decide+kernel) rfl (by trivial)) dA)))) f6 (λ_ _ _ _=>dz) (λ_ _ _ _=>(eJ (bO aC (bO (nD (pv 0)) (bO aC (bO (nD (pv 1)) fH))))))) ae))))))
 rintro vs M q ⟨a,rfl,hl,⟨hn,hz⟩,k⟩;have l1:=fk hn;have lc:(Str.ofString ":").length=1:=by right
 have lb:(Str.ofString " ").length=1:=by right
 have le:(Str.ofString "=").length=1:=by right
 have l0:(Str.ofString "").length=0:=by right
 dsimp? [gq,gb,ay (fX hn),Eb];exact#[bf (by omega),?_];dsimp? [];exact#[bf (by rw[bB];omega),?_];dsimp? [];exact#[bf (by rw[bB];omega),?_];dsimp? [];exact eQ (λz=>ws (" " ++fK z)) (big (by omega)) (λ_ _=>trivial) ?_ λt ht=> ?_;intro z Gg M3 N3 s3 jd;have Fj:=hz z Gg;have n1:=fk Fj.1;have n2:=fk Fj.2;simp? [↓bz,ca,Eb];exact#[bf (by omega),?_];simp? [↓bz,ca,ay (fX Fj.1),ay (fX Fj.2)];exact#[bf (by rw[bB];omega),?_];simp? [↓bz];exact#[bf (by rw[bB,bB];omega),?_];simp? [↓bz,ay (fX Fj.2)];exact#[bf (by rw[bB,bB,bB];omega),?_];simp? [↓bz];exact#[bf (by rw[bB,bB,bB];omega),?_];rw[show Str.ofString " " ++Str.ofString (toString z.1)++Str.ofString "=" ++Str.ofString (toString z.2)=Str.ofString " " ++fK z by rw[fK,qy,qy,qy]];show jd;have d4: ∀x∈a.2.map (λz=>Str.ofString " " ++fK z),x.length<=124:=λx hx=>by let⟨z,Gg,rfl⟩:=b8.mp hx;have:=uk (hz z Gg);rw[bB];omega
 have hml:(a.2.map λz=>Str.ofString " " ++fK z).length*(124+(Str.ofString "").length) <=200000:=by rw[af,l0];omega
 have hsz:(200000:Nat) <=sizeLine:=by rw[c9];decide
 exact qc (ss:=a.2.map λz=>Str.ofString " " ++fK z) (c:=124) (by rw[ao,aU];rfl) d4 (ar hml hsz) ?_;have hgl:=fZ (Str.ofString "") (a.2.map λz=>Str.ofString " " ++fK z) d4;dsimp? [];exact#[ar (m:=300000) (by rw[bB];omega) (by rw[c9];decide),?_];show#[M,bj ht,k]
def Bz (T:fj K mg A):bE P w K mg base e9 1 A.wL A.wS ["_law_one"] (fD K Hv):=by
 exists T.Du.fn,["_law_one","_law_words"],(ag (a8 (i:=1) nd rfl (by trivial) (fI (aa (bS fV (b_ jI (by rfl) T.u4 Boot.«str» (aa (aG (show ce _ (bt K) from aB) (pv 0) ai (λ_ _=>rfl)) ae)) aC) ae))) (ag (bN (e7 aS PySem.F.slot_list_extend PySem.F.type_list_extend mD (pv 1) (aa (dB rfl (cW.of (sc:=_) (N:= ["_law_one","_law_words"]) (own:= ["_law_place","_law_setting"]) (fr:= []) (N':= ["_law_place","_law_setting"]) rfl rfl rfl (by right) rfl (by right) (by right) (by right) (by right) (bg rfl)) (jR (K:=K) rfl (aG (show ce _ (bt K) from aB) (pv 0) ai (λ_ _=>rfl))) (λ_ _ _ _=>(d_ (n:=2) rfl (bw (aZ (i:=0) (by change(["_law_place","_law_setting"]:c_ Str).Nodup;decide+kernel) rfl (by trivial)) (bw (aZ (i:=1) (by change(["_law_place","_law_setting"]:c_ Str).Nodup;decide+kernel) rfl (by trivial)) dA)))) f6 (λ_ _ _ _=>dz) (λ_ _ _ _=>(bS fV (bS fV (b_ jI (by rfl) T.u4 Boot.«str» (aa (pv 0) ae)) aC) (b_ jI (by rfl) T.u4 Boot.«str» (aa (pv 1) ae))))) ae))) (aj (aE (e7 dw c5 dN (show Gj _ _ (oy K) from jU) aC (aa (pv 1) ae))))))
 rintro vs M q ⟨a,rfl,hl,⟨hn,hz⟩,k⟩;have l1:=fk hn;have lc:(Str.ofString ":").length=1:=by right
 have lb:(Str.ofString " ").length=1:=by right
 have le:(Str.ofString "=").length=1:=by right
 dsimp? [gq,gb,ay (fX hn)];exact#[bf (by omega),?_];intro t ht;dsimp? [];exact eQ (λz=>ws (fK z)) (big (by omega)) (λ_ _=>trivial) ?_ λu hu=> ?_;intro z Gg M3 N3 s3 jd;have Fj:=hz z Gg;have n1:=fk Fj.1;have n2:=fk Fj.2;simp? [↓bz,ca,ay (fX Fj.1),ay (fX Fj.2)];exact#[bf (by omega),?_];simp? [↓bz,ay (fX Fj.2)];exact#[bf (by rw[bB];omega),?_];show jd;have Y8:t≠u:=cg ao hu;have UC:(1+(a.2.map λz=>ws (fK z)).length<=sizeLine)=True:=ay (by rw[af];show big (by omega));dsimp? [aQ Y8,UC];have Y_:Sm M (um (um (um M t (.lst [ws (Str.ofString (toString a.1)++Str.ofString ":")])) u (.lst (a.2.map λz=>ws (fK z)))) t (.lst ([ws (Str.ofString (toString a.1)++Str.ofString ":")]++a.2.map λz=>ws (fK z)))):=λc o e=>by
  have nt:=cg e ht;have h2:um M t (.lst [ws (Str.ofString (toString a.1)++Str.ofString ":")]) c=some o:=by rw[aQ nt];show e
  rw[aQ nt,aQ (cg h2 hu)];show h2
 have d4: ∀x∈((toString a.1:Str)++Str.ofString ":")::a.2.map fK,x.length<=124:=λx hx=>by obtain rfl | hx:=aP.mp hx;rw[bB];omega;let⟨z,Gg,rfl⟩:=b8.mp hx;have:=uk (hz z Gg);omega
 exact qc (ss:=((toString a.1:Str)++Str.ofString ":")::a.2.map fK) (c:=124) ?_ d4 ?_ ?_;rw[ao,aH,aU];rfl;exact ar (m:=200000) ?_ (by rw[c9];decide);rw[az,af,lb];omega;rw[<- y_];show#[M,Y_,k]
def jS (T:fj K mg A):bE P w K mg base e9 3 A.rc A.rB ["book"] (fD K (we A.a4 A.bx)):=by
 have gp:=Es (cY (P:=P) (w:=w) (base:=base) T);have gU:=Es (ku (P:=P) (w:=w) (base:=base) T);exists T.book_text.fn,["book","rows"],(ag (a8 (i:=1) nd rfl (by trivial) (fI (aa (eJ (bO aC (bO (nD (hJ T.nv (pY T) (hr.mono ⋯) (pv 0))) fH))) ae))) (ag (bN (e7 aS PySem.F.slot_list_extend PySem.F.type_list_extend mD (pv 1) (aa (dB rfl (cW.of (sc:=_) (N:= ["book","rows"]) (own:= ["name"]) (fr:= [0]) (N':= ["name","book"]) rfl rfl rfl (by right) rfl (by right) (by right) (by right) (by right) (bg rfl)) (fT (K:=K) rfl (hJ T.nT (mY T) (hr.mono ⋯) (pv 0))) (λ_ _ _ _=>(aZ (i:=0) (by change(["name","book"]:c_ Str).Nodup;decide+kernel) rfl (by trivial))) d7 (λ_ _ _ _=>dz) (λ_ _ _ _=>(eJ (bO aC (bO (gP (pv 0)) (bO aC (bO (gP (au T.shown (HB T) hr (aa (eB T.dG gp (hr.mono ⋯) (pv 1) (aa (pv 0) ae)) ae))) fH))))))) ae))) (ag (bN (e7 aS PySem.F.slot_list_extend PySem.F.type_list_extend mD (pv 1) (aa (dB rfl (cW.of (sc:=_) (N:= ["book","rows"]) (own:= ["crew"]) (fr:= [0]) (N':= ["crew","book"]) rfl rfl rfl (by right) rfl (by right) (by right) (by right) (by right) (bg rfl)) (fT (K:=K) rfl (hJ T.nU (mZ T) (hr.mono ⋯) (pv 0))) (λ_ _ _ _=>(aZ (i:=0) (by change(["crew","book"]:c_ Str).Nodup;decide+kernel) rfl (by trivial))) d7 (λ_ _ _ _=>dz) (λ_ _ _ _=>(O9 (K:=K) rfl dw c5 dN (HL (K:=K) rfl) aC (aa (bS xS (fI (aa aC (aa (pv 0) ae))) (eB T.j9 gU (hr.mono ⋯) (pv 1) (aa (pv 0) ae))) ae)))) ae))) (aj (aE (e7 dw c5 dN (show Gj _ _ (oy K) from jU) aC (aa (pv 1) ae)))))))
 rintro vs M q ⟨b,la,lu,lh,now,p,pa,un,he,R,T',rfl,hB,hp,hS,⟨Zv,UD⟩,k⟩;let⟨dx,hb⟩:=hB.ob;have pn:=fk (i:=p) (by omega);have pl:=fX (i:=p) (by omega);have l9:(Str.ofString "settings ").length=9:=by right
 have l6:(Str.ofString "round ").length=6:=by right
 have l1:(Str.ofString " ").length=1:=by right
 dsimp? [Eb];exact#[bf (by omega),?_];dsimp? [hb,Aw];exact#[b,la,lu,lh,now,p,pa,un,he,R,T',rfl,hB,?_];dsimp? [ay pl];exact#[bf (by rw[bB];omega),bf (by rw[bB];omega),?_];dsimp? [];intro w hw;have s1:Sm M (um M w (.lst [ws (Str.ofString "settings " ++Str.ofString (toString p))])):=bj hw;have N1:um M w (.lst [ws (Str.ofString "settings " ++Str.ofString (toString p))]) w=some (.lst [ws (Str.ofString "settings " ++Str.ofString (toString p))]):=ao;change hold _ _ (um M w (.lst [ws (Str.ofString "settings " ++Str.ofString (toString p))]));generalize um M w (.lst [ws (Str.ofString "settings " ++Str.ofString (toString p))])=M1 at s1 N1 ⊢;have WU:=s1 _ _ hb;have US:=hB.sm s1;dsimp? [N1,WU,Ax];exact#[b,la,lu,lh,now,p,pa,un,he,R,T',rfl,US,by omega,λnl ns hW np Yz=> ?_];have hMw:M w=none:=hw;have s2:Sm M1 (um M1 nl (.lst (ns.map ws))):=bj hW;have vo:um M1 nl (.lst (ns.map ws)) nl=some (.lst (ns.map ws)):=ao;generalize um M1 nl (.lst (ns.map ws))=M2 at s2 vo ⊢;have YC:=np.length_eq;rw[af] at YC;dsimp? [vo];exact eQ (λn=>ws (g0 R n)) (big (by omega)) (λM' s=>s _ _ vo) ?_ λu hu=> ?_;intro n hn M3 N3 s3 jd;let⟨z,hz,rfl⟩:=b8.mp (np.mem_iff.mp hn);have hW:=hS.k z hz;let⟨a,hg⟩:=yh hz;have ZU:=US.sm (s2.trans s3);have hb3:=(s2.trans s3) _ _ WU;let⟨y,hy,_,rfl⟩:=dZ hg;have jc:=xY (by omega) (hS.r.ok y hy).1 (hS.r.ok y hy).2.2;have Za:=pN jc (hS.r.ok y hy).2.1;dsimp? [Eb];exact#[bf (by omega),?_];dsimp? [];exact#[bf (by omega),?_];dsimp? [];exact#[bf (by rw[bB];omega),?_];dsimp? [];exact#[bf (by rw[bB,bB];omega),?_];dsimp? [hb3,eI];exact xv #[b,la,lu,lh,now,p,pa,un,he,R,T',_,rfl,ZU,hW,λa nL=> ?_,λnL=>by rw[hg] at nL;cases nL];rw[hg] at nL;cases nL;dsimp? [];exact#[_,rfl,by have:=(hS.r.ok y hy).2.1;omega,jc,?_];dsimp? [];exact#[j6 (by omega),?_];dsimp? [];exact#[j6 (by rw[bB,bB,bB];omega),?_];dsimp? [];exact#[j6 (by rw[bB,bB,bB];omega),?_];have er:g0 R z.1= "round " ++z.1++ " " ++jN y.2:=by unfold g0;rw[hg]
 rw[er] at jd;show jd;have s3:=s2.trans (bj hu (o:= .lst (ns.map λn=>ws (g0 R n))));have LK:=s3 _ _ N1;have hu3:um M2 u (.lst (ns.map λn=>ws (g0 R n))) u=some (.lst (ns.map λn=>ws (g0 R n))):=ao;generalize um M2 u (.lst (ns.map λn=>ws (g0 R n)))=M3 at s3 LK hu3 ⊢;have z1:(1+(ns.map λn=>ws (g0 R n)).length<=sizeLine)=True:=ay (by rw[af];show big (by omega));dsimp? [LK,hu3,z1];have f4: ∀a o,M a=some o ->um M3 w (.lst (ws (Str.ofString "settings " ++Str.ofString (toString p))::ns.map λn=>ws (g0 R n))) a=some o:=λa o h=>by rw[aQ (cg h hMw)];show s3 _ _ (s1 _ _ h)
 have Rp:um M3 w (.lst (ws (Str.ofString "settings " ++Str.ofString (toString p))::ns.map λn=>ws (g0 R n))) w=some (.lst (ws (Str.ofString "settings " ++Str.ofString (toString p))::ns.map λn=>ws (g0 R n))):=ao;generalize um M3 w (.lst (ws (Str.ofString "settings " ++Str.ofString (toString p))::ns.map λn=>ws (g0 R n)))=M4 at f4 Rp ⊢;have UN:=f4 _ _ hb;have Rw:=hB.sm f4;dsimp? [Rp,UN,Ay];exact#[b,la,lu,lh,now,p,pa,un,he,R,T',rfl,Rw,by omega,λcl cs kO cp csr=> ?_];have s5:Sm M4 (um M4 cl (.lst (cs.map ws))):=bj kO;have Ru:um M4 cl (.lst (cs.map ws)) cl=some (.lst (cs.map ws)):=ao;generalize um M4 cl (.lst (cs.map ws))=M5 at s5 Ru ⊢;have cln:=cp.length_eq;rw[af] at cln;dsimp? [Ru];exact Jp (λn=>ws (pQ T' n)) (big (by omega)) (λM' s=>s _ _ Ru) ?_ λv M7 hv s7 hv7=> ?_;intro n hn M6 N6 s6 hN6;let⟨z,hz,rfl⟩:=b8.mp (cp.mem_iff.mp hn);have hW:=hS.t.key z hz;have hg:=yf hS.t.nd hz;have hB6:=Rw.sm (s5.trans s6);have ZJ:=(s5.trans s6) _ _ UN;have er:pQ T' z.1=Builtin.Str.glued " " ("crew" ::z.1::z.2):=by unfold pQ;rw[hg]
 dsimp? [];intro x1 Ro;have hb7:um M6 x1 (.lst [ws "crew",ws z.1]) b=_:=bj Ro _ _ ZJ;dsimp? [hb7,uZ];exact xv #[b,la,lu,lh,now,p,pa,un,he,R,T',_,rfl,hB6.sm (bj Ro),hW,λa nL x2 Qc=> ?_,λnL=>by rw[hg] at nL;cases nL];rw[hg] at nL;cases nL;have YG:x1≠x2:=cg ao Qc;have zl:=hS.t.mem z hz;have z2:(2+z.2.length<=sizeLine)=True:=ay (big (by omega));dsimp? [ao,aQ YG,af,z2];intro x3 Y5;exact qc (ss:=Str.ofString "crew" ::z.1::z.2) (c:=100) (by rw[ao];rfl) (xB hS.m hW hg) (by rw[az,az,l1];show j6 (by omega)) ?_;rw[er] at hN6;show hN6 _ (((bj Ro).trans (bj Qc)).trans (bj Y5));have hw7:=s7 _ _ (s5 _ _ Rp);have z2:((ns.map λn=>ws (g0 R n)).length+1+(cs.map λn=>ws (pQ T' n)).length<=sizeLine)=True:=ay (by rw[af,af];show big (by omega));dsimp? [hw7,hv7,az,z2];exact w5 hp hS #[Zv,UD] np Yz cp csr ao ?_;show#[M,λa o h=>by rw[aQ (cg h hMw)];show s7 _ _ (s5 _ _ (f4 _ _ h)),k]
def lw (T:fj K mg A):bE P w K mg base e9 2 A.ng A.no ["_law_p_here","_law_stand"] (fD K tU):=by
 exists T.lC.fn,["_law_p_here","_law_stand","_law_rows","_law_name","_law_crew"],(ag (a8 (i:=2) nd rfl (by trivial) (fI (aa (bS fV aC (b_ jI (by rfl) T.u4 Boot.«str» (aa (pv 0) ae))) ae))) (ag (gj cV rfl (fT (K:=K) rfl (br (fo rfl) (by rfl) T.gH Boot.«sorted» (aa (aG (show ce _ (bt K) from aB) (pv 1) ai (λ_ _=>rfl)) ae))) (aZ (i:=3) nd rfl (by trivial)) (aj (bN (e7 aS bK bJ dW (pv 2) (aa (bS fV (bS fV (bS fV aC (pv 3)) aC) (au T.Du (Bz T) hr (aa (eA (dU hr) (aG (show ce _ (bt K) from aB) (pv 1) ai (λ_ _=>rfl)) (pv 3) (λ_ _=>rfl)) ae))) ae))))) (ag (gj cV rfl (fT (K:=K) rfl (br (fo rfl) (by rfl) T.gH Boot.«sorted» (aa (aG (show ce _ (bt K) from aB) (pv 1) ai (λ_ _=>rfl)) ae))) (aZ (i:=4) nd rfl (by trivial)) (aj (bN (e7 aS bK bJ dW (pv 2) (aa (e7 dw c5 dN (show Gj _ _ (oy K) from jU) aC (aa (bS xS (fI (aa aC (aa (pv 4) ae))) (b_ eM (by rfl) T.gR Boot.«list» (aa (eA (dU hr) (aG (show ce _ (bt K) from aB) (pv 1) ai (λ_ _=>rfl)) (pv 4) (λ_ _=>rfl)) ae))) ae)) ae))))) (aj (aE (e7 dw c5 dN (show Gj _ _ (oy K) from jU) aC (aa (pv 2) ae)))))))
 rintro vs M q ⟨p,r,t,R,T',rfl,⟨iA,ht⟩,hp,hS,⟨Zv,UD⟩,k⟩;have pn:=fk (i:=p) (by omega);have pl:=fX (i:=p) (by omega);have l9:(Str.ofString "settings ").length=9:=by right
 have l6:(Str.ofString "round ").length=6:=by right
 have l1:(Str.ofString " ").length=1:=by right
 dsimp? [ay pl];exact#[bf (by omega),?_];intro w hw;have s1:Sm M (um M w (.lst [ws (Str.ofString "settings " ++Str.ofString (toString p))])):=bj hw;have N1:um M w (.lst [ws (Str.ofString "settings " ++Str.ofString (toString p))]) w=some (.lst [ws (Str.ofString "settings " ++Str.ofString (toString p))]):=ao;change hold _ _ (um M w (.lst [ws (Str.ofString "settings " ++Str.ofString (toString p))]));generalize um M w (.lst [ws (Str.ofString "settings " ++Str.ofString (toString p))])=M1 at s1 N1 ⊢;dsimp? [];exact#[r,_,R.map (·.1),rfl,s1 _ _ iA,jl _ _,by rw[af];show big (by omega),λnl ns hW np Yz=> ?_];have YC:=np.length_eq;rw[af] at YC;have nwl:nl≠w:=λz=>by subst z;rw[N1] at hW;cases hW
 have s2:=s1.trans (bj hW (o:= .lst (ns.map ws)));have Qd:=bj hW (o:= .lst (ns.map ws)) _ _ N1;have vo:um M1 nl (.lst (ns.map ws)) nl=some (.lst (ns.map ws)):=ao;generalize um M1 nl (.lst (ns.map ws))=M2 at s2 Qd vo ⊢;dsimp? [vo];exact jE (λi ρ M'=> ∃o1:gC W,fi (ρ= [some (wi p),some (.tup [wr r,wr t]),some (wr w),o1,none]) (M' w=some (.lst (ws (Str.ofString "settings " ++Str.ofString (toString p))::(ns.take i).map λn=>ws (g0 R n)))) (M' nl=some (.lst (ns.map ws))) (Sm M M')) #[none,rfl, ⇑Qd,vo,s2] (by rintro i ρ M' _ ⟨o1,rfl,h1,h2,h3⟩;show h2) ?_ ?_;rintro i x ρ M3 hx ⟨o1,rfl,LK,Ql,s3⟩ N hN;let⟨n,hn,rfl⟩:=p8 hx;let⟨z,hz,rfl⟩:=b8.mp (np.mem_iff.mp (aT hn));have hW:=hS.k z hz;let⟨a,hg⟩:=yh hz;let⟨y,hy,_,rfl⟩:=dZ hg;have jc:=xY (by omega) (hS.r.ok y hy).1 (hS.r.ok y hy).2.2;have Za:=pN jc (hS.r.ok y hy).2.1;have Zh:=s3 _ _ iA;have er:g0 R z.1= "round " ++z.1++ " " ++jN y.2:=by unfold g0;rw[hg]
 have c1:((Str.ofString "round ").length+z.1.length<=sizeLine)=True:=ay (bf (by omega));have c2:((Str.ofString "round " ++z.1).length+(Str.ofString " ").length<=sizeLine)=True:=ay (bf (by rw[bB];omega));dsimp? [c1,c2,Zh,cK,hg,bC,LK];exact#[_,rfl,by have:=(hS.r.ok y hy).2.1;omega,jc,?_];have c3:((Str.ofString "round " ++z.1++Str.ofString " ").length+(jN y.2).length<=sizeLine)=True:=ay (j6 (by rw[bB,bB];omega));have c4:(((ns.take i).map λn=>ws (g0 R n)).length+1<sizeLine)=True:=ay (mO (by rw[af,bU];omega));dsimp? [c3,c4,LK,az];have et:ns.take (i+1)=ns.take i++ [z.1]:=by rw[cG,hn];rfl
 exact hN _ _ #[_,rfl,?_,?_,λa o h=> ?_];rw[ao,et,a6,aH,List.map_nil,er];rw[aQ nwl];show Ql;rw[aQ (cg h hw)];show s3 _ _ h;rintro ρ M3 ⟨o1,rfl,LK,Ql,s3⟩;rw[af,cQ] at LK;clear N1 Qd vo s1 s2 Ql hW;dsimp? [];exact#[t,_,T'.map (·.1),rfl,s3 _ _ ht,jl _ _,by rw[af];show big (by omega),λcl cs kO cp csr=> ?_];have cln:=cp.length_eq;rw[af] at cln;have nwc:cl≠w:=λz=>by subst z;rw[LK] at kO;cases kO
 have s4:=s3.trans (bj kO (o:= .lst (cs.map ws)));have Rp:=bj kO (o:= .lst (cs.map ws)) _ _ LK;have N7:um M3 cl (.lst (cs.map ws)) cl=some (.lst (cs.map ws)):=ao;generalize um M3 cl (.lst (cs.map ws))=M4 at s4 Rp N7 ⊢;dsimp? [N7];exact jE (λi ρ M'=> ∃o2:gC W,fi (ρ= [some (wi p),some (.tup [wr r,wr t]),some (wr w),o1,o2]) (M' w=some (.lst (ws (Str.ofString "settings " ++Str.ofString (toString p))::((ns.map λn=>ws (g0 R n))++(cs.take i).map λn=>ws (pQ T' n))))) (M' cl=some (.lst (cs.map ws))) (Sm M M')) #[none,rfl, ⇑Rp,N7,s4] (by rintro i ρ M' _ ⟨o1,rfl,h1,h2,h3⟩;show h2) ?_ ?_;rintro i x ρ M5 hx ⟨o2,rfl,Uk,Ru,s5⟩ N hN;let⟨n,hn,rfl⟩:=p8 hx;let⟨z,hz,rfl⟩:=b8.mp (cp.mem_iff.mp (aT hn));have hW:=hS.t.key z hz;have hg:=yf hS.t.nd hz;have Up:=s5 _ _ ht;have er:pQ T' z.1=Builtin.Str.glued " " ("crew" ::z.1::z.2):=by unfold pQ;rw[hg]
 have zl:=hS.t.mem z hz;dsimp? [Uk];intro x1 Ro;have ht6:=bj Ro (o:= .lst [ws "crew",ws z.1]) _ _ Up;dsimp? [ht6,cK,hg,bC,e_];intro x2 Qc;have YG:x1≠x2:=cg ao Qc;have z2:(2+z.2.length<=sizeLine)=True:=ay (big (by omega));dsimp? [ao,aQ YG,af,z2];intro x3 Y5;exact qc (ss:=Str.ofString "crew" ::z.1::z.2) (c:=100) (by rw[ao];rfl) (xB hS.m hW hg) (by rw[az,az,l1];show j6 (by omega)) ?_;have sx:=((bj Ro (o:= .lst [ws "crew",ws z.1])).trans (bj Qc (o:= .lst (z.2.map ws)))).trans (bj Y5 (o:= .lst ([ws "crew",ws z.1]++z.2.map ws)));have hw6:=sx _ _ Uk;have WJ:=sx _ _ Ru;have s6:=s5.trans sx;have c4:((ns.map (λn=>ws (g0 R n))++(cs.take i).map λn=>ws (pQ T' n)).length+1<sizeLine)=True:=ay (mO (by rw[aJ,af,af,bU];omega));exact#[_,hw6,?_];dsimp? [c4,az];have et:cs.take (i+1)=cs.take i++ [z.1]:=by rw[cG,hn];rfl
 exact hN _ _ #[_,rfl,?_,?_,λa o h=> ?_];rw[ao,et,a6,aH,List.map_nil,er,bV];rw[aQ nwc];show WJ;rw[aQ (cg h hw)];show s6 _ _ h;rintro ρ M5 ⟨o2,rfl,Uk,Ru,s5⟩;rw[af,cQ] at Uk;dsimp? [];exact w5 hp hS #[Zv,UD] np Yz cp csr Uk ?_;show#[M,s5,k]
def ub (T:fj K mg A):bE P w K mg base e9 3 A.nc A.nn ["_law_draw","_law_names_here"] (fD K Pn):=by
 exists T.qU.fn,["_law_draw","_law_names_here","_law_crew","_law_name","_law_way"],(ag (a8 (i:=2) nd rfl (by trivial) (aG (show ce _ (i_ K) from dS) (pv 1) (au T.dc (bM T) hr (aa (pv 0) (aa ai ae))) (λ_ _=>rfl))) (ag (bu (aR dI (au T.dc (bM T) hr (aa (pv 0) (aa ai ae))) ai (a_ _)) (aj (a8 (i:=2) nd rfl (by trivial) (au T.jA (gB T) hr (aa (pv 0) (aa (pv 1) ae))))) aK) (ag (a8 (i:=3) nd rfl (by trivial) (au T.jA (gB T) hr (aa (pv 0) (aa (pv 1) ae)))) (ag (a8 (i:=4) nd rfl (by trivial) (au T.dc (bM T) hr (aa (pv 0) (aa ai ae)))) (ag (bu (aR ko (pv 4) ai (a_ _)) (aj (aE (aN (aa aC (aa (aG (show ce _ (bt K) from aB) (aN (aa (pv 2) (aa (pv 2) (aa (pv 2) (aa (pv 3) ae))))) (au T.dc (bM T) hr (aa (pv 0) (aa ai ae))) (λ_ _=>rfl)) ae))))) aK) (ag (bu (aR dI (pv 4) ai (a_ _)) (aj (aE (aN (aa aC (aa (pv 2) ae))))) aK) (ag (bu (aR ko (pv 4) ai (a_ _)) (aj (aE (aN (aa aC (aa (pv 2) (aa (pv 3) ae)))))) aK) (aj (aE (aN (aa aC (aa (pv 2) (aa (pv 3) ae)))))))))))))
 rintro vs M q ⟨d,l,nl,ns,rfl,hD,hW,vA,⟨n0,n1⟩,oS,k⟩;have tg: ∀ (M':Mp) (q':WK),Dr M' d l ->NB d M M' ->(∀ (n:Str) (M2:Mp),Nm n ->Dr M2 d l ->NB d M M2 ->q' (ws n) M2) ->xN [wr d,wr nl] M' q':=λM' q' D' b' k'=>#[d,l,nl,ns,rfl,D',by rw[b' nl vA];show hW,vA,#[by omega,by omega],oS,λn M2 hn D2 b2=>k' n M2 hn D2 (NB.trans b' b2)]
 dsimp? [];exact#[d,l,2,rfl,hD,⋯,⋯,λj M1 j0 j1 D1 b1=> ?_];have Iv:M1 nl=some (.lst (ns.map ws)):=by rw[b1 nl vA];show hW
 let⟨z,hz⟩: ∃z,ns[j.toNat]? =some z:=#[_,aF (by omega)]
 have hzn:=oS z (aT hz);have ek:iF (ns.map ws) j=some (ws z):=f7 j0 (by rw[aI,hz];rfl);simp? [↓cI,Iv,ek];exact fg (uu (λρ M'=> ∃c:Str,fi (ρ= [some (wr d),some (wr nl),some (ws c),none,none]) (Nm c) (Dr M' d l) (NB d M M')) ?_ λN hN=> ?_);clear D1 b1 Iv ek hzn hz;rintro ρ M2 ⟨c,rfl,hc,D2,b2⟩;dsimp? [];exact tg M2 _ D2 b2 λn M3 hn D3 b3=> ?_;dsimp? [];exact#[d,l,11,rfl,D3,⋯,⋯,λwy M4 w0 w1 D4 b4=> ?_];replace b4:=NB.trans b3 b4;dsimp? [];exact dQ (λh=> ?_) λh=> ?_;dsimp? [];exact#[d,l,4,rfl,D4,⋯,⋯,λr M5 r0 r1 D5 b5=> ?_];dsimp? [];exact mB (λx=> ∃e:Str,x=ws e /\ Nm e) r0 (by change r< ((4:Nat):Int);omega) (λx hx=> ?_) ?_;simp![aP,List.not_mem_nil,or_false] at hx;obtain h | h | h | h:=hx;show#[c,h,hc];show#[c,h,hc];show#[c,h,hc];show#[n,h,hn];rintro _ ⟨v,rfl,hv⟩;dsimp? [];show eP (k (.found v) _ M5 rfl hv D5 (NB.trans b4 b5));dsimp? [];exact dQ (λh=> ?_) λh=> ?_;dsimp? [];show eP (k (.disband c) _ M4 rfl hc D4 b4);dsimp? [];exact dQ (λh=> ?_) λh=> ?_;dsimp? [];show eP (k (.enlist c n) _ M4 rfl #[hc,hn] D4 b4);dsimp? [];show eP (k (.dismiss c n) _ M4 rfl #[hc,hn] D4 b4);dsimp? [];exact#[d,l,12,rfl,D1,⋯,⋯,λr M2 r0 r1 D2 b2=> ?_];replace b2:=NB.trans b1 b2;dsimp? [];exact dQ (λh=> ?_) λh=>hN _ _ #[z,rfl,hzn,D2,b2];exact tg M2 _ D2 b2 λn M3 hn D3 b3=> ?_;dsimp? [];show hN _ _ #[n,rfl,hn,D3,b3]
def K9:fG:=λxs M q=>sD λ(d l nl:iW) (k:Int) (ns:c_ Str)=>Ks (xs= [wr d,wi k,wr nl]) (Dr M d l) (M nl=some (.lst (ns.map ws)) /\ nl≠d) (ns.length=5) (∀n∈ns,Nm n) (0<=k) (∀ (dd:i5) (w:W) (M':Mp),DA M' dd w ->yb dd ->Vv dd ->(∀a n,w= .tup [ws "tell",n,wr a] ->M a=none) ->Dr M' d l ->Fs d M M' ->q w M')
def xU (T:fj K mg A):bE P w K mg base e9 4 A.q_ A.rn ["_law_draw","_law_k","_law_names_here"] (fD K K9):=by
 exists T.wv.fn,["_law_draw","_law_k","_law_names_here"],(ag (bu (aR ko (pv 1) ai (a_ _)) (aj (aE (aN (aa aC (aa (aG (show ce _ (i_ K) from dS) (pv 2) (pv 1) (λ_ _=>rfl)) (aa (au T.jV (kr T) hr (aa (pv 0) ae)) ae)))))) aK) (ag (bu (aR ko (pv 1) ai (a_ _)) (aj (aE (aN (aa aC (aa (aG (show ce _ (i_ K) from dS) (pv 2) (bS tV (pv 1) ai) (λ_ _=>rfl)) ae))))) aK) (ag (bu (aR dI (au T.dc (bM T) hr (aa (pv 0) (aa ai ae))) ai (a_ _)) (aj (aE (au T.oK (rT T) hr (aa (pv 0) (aa (pv 2) ae))))) aK) (aj (aE (au T.qU (ub T) hr (aa (pv 0) (aa (pv 2) ae))))))))
 rintro vs M q ⟨d,l,nl,k,ns,rfl,hD,⟨hW,vA⟩,n5,oS,k0,kq⟩;have at_: ∀j:Int,0<=j ->j<5 -> ∃z,iF (ns.map ws) j=some (ws z) /\ Nm z:=λj j0 j1=>by
  let⟨z,hz⟩: ∃z,ns[j.toNat]? =some z:=#[_,aF (by omega)]
  show#[z,f7 j0 (by rw[aI,hz];rfl),oS z (aT hz)]
 dsimp? [];exact dQ (λh=> ?_) λh=> ?_;let⟨z,ez,hz⟩:=at_ k k0 h;dsimp? [hW,ez];exact#[d,l,rfl,hD,λu ds M4 hu hM hl hw D4 F4=> ?_];dsimp? [];show eP (kq (.r (.tell z ds)) _ _ #[u,rfl,hM] trivial #[hz,hl,hw] (λa n e=>by cases e;show hu) D4 F4);dsimp? [];exact dQ (λh=> ?_) λh2=> ?_;let⟨z,ez,hz⟩:=at_ (k - 5) (by omega) (by omega);dsimp? [hW,ez];show eP (kq (.c (.found z)) _ _ rfl trivial hz (λa n e=>nomatch e) hD (λ_ _ h _=>h));dsimp? [];exact#[d,l,3,rfl,hD,⋯,⋯,λj M1 j0 j1 D1 b1=> ?_];have Iv:M1 nl=some (.lst (ns.map ws)):=by rw[b1 nl vA];show hW
 have f1:Fs d M M1:=λa o h n=>by rw[b1 a n];show h
 dsimp? [];exact dQ (λh=> ?_) λh2=> ?_;exact#[d,l,nl,ns,rfl,D1,Iv,vA,#[by omega,by omega],oS,λdd w M2 hDV hO hf D2 F2=>eP (kq (.r dd) w M2 hDV trivial hO (λa n e=> ?_) D2 (f1.trans F2))];have h1:=hf a n e;by_cases hn:a=d;subst hn;let⟨x,hx⟩:=Ec D1;rw[hx] at h1;cases h1;show f1.free h1 hn;exact#[d,l,nl,ns,rfl,D1,Iv,vA,#[by omega,by omega],oS,λdd w M2 Kl hO D2 b2=>eP (kq (.c dd) w M2 Kl trivial hO (λa n e=> ?_) D2 (f1.trans λa o h n=>by rw[b2 a n];show h))];cases dd<;>cases Kl<;>cases e
def Tn (B C:iW):fG:=λxs M q=>RB λ(d l nl b:iW) (p:Int) (ns:c_ Str)=>gm λ(la lu lh now:iW)=>AB (xs= [wr d,wi p,wr b,wr nl]) (p=2 \/ p=3 \/ p=5 \/ p=7) (A7 B C M b la lu lh p now #[[],[],[],[],[]]) (Dr M d l) (M nl=some (.lst (ns.map ws)) /\ nl≠d) (ns.length=5 /\ ∀n∈ns,Nm n) (cS (Ap d la lu lh) (Ap l la lu lh) (Ap nl la lu lh)) (∀ (r t eK oI:iW) (S:sF) (M':Mp),Ld B C p d l nl b r t la eK lh oI ns S M' ->cS (Ap d la eK lh) (Ap l la eK lh) (Ap nl la eK lh) ->nr p S.R S.T ->gJ (S.R.length<=50) (S.T.length<=50) (S.past.length<=50) (S.KD.length<=50) (S.held.length<=50) ->q (.tup [wr r,wr t]) M')
def EZ (T:fj K mg A):bE P w K mg base e9 9 A.z_ A.Al ["_law_draw","_law_p_here","_law_book","_law_names_here"] (fD K (Tn A.a4 A.bx)):=by
 exists T.HS.fn,["_law_draw","_law_p_here","_law_book","_law_names_here","_law_stand","_law_k","_law_deed","_law_due_here"],(ag (a8 (i:=4) nd rfl (by trivial) (aN (aa jx (aa jx ae)))) (ag (gj cV rfl (fJ (by rfl) T.i0 (aa (au T.dc (bM T) hr (aa (pv 0) (aa ai ae))) ae)) (aZ (i:=5) nd rfl (by trivial)) (ag (a8 (i:=6) nd rfl (by trivial) (au T.wv (xU T) hr (aa (pv 0) (aa (pv 5) (aa (pv 3) ae))))) (ag (a8 (i:=7) nd rfl (by trivial) (au T.HU (zB T) hr (aa (pv 1) (aa (pv 4) (aa (pv 6) ae))))) (ag (bu (aR (show iK _ _ (xF K) from nF (by show hr.OG)) (au T.BK (wg T) hr (aa (pv 2) (aa (pv 6) ae))) (aN (aa (aG (show ce _ (bt K) from aB) (pv 7) ai (λ_ _=>rfl)) (aa tT ae))) (a_ _)) (aj (aE tT)) aK) (aj (a8 (i:=4) nd rfl (by trivial) (aG (show ce _ (bt K) from aB) (pv 7) ai (λ_ _=>rfl)))))))) (aj (aE (pv 4)))))
 rintro vs M q ⟨d,l,nl,b,p,ns,la,lu,lh,now,rfl,hp,S4,D4,⟨Kf,vA⟩,⟨n5,oS⟩,⟨q1,q2,q3⟩,kq⟩;dsimp? [];intro r iA;dsimp? [];intro t ht;have s5:=(bj iA (o:= .dK (tQ []))).trans (bj ht (o:= .dK (ny [])));have Zf:um (um M r (.dK (tQ []))) t (.dK (ny [])) r=some (.dK (tQ [])):=bj ht _ _ ao;have Up:um (um M r (.dK (tQ []))) t (.dK (ny [])) t=some (.dK (ny [])):=ao;change hold _ _ (um (um M r (.dK (tQ []))) t (.dK (ny [])));generalize um (um M r (.dK (tQ []))) t (.dK (ny []))=M5 at s5 Zf Up ⊢;have L5:Ld A.a4 A.bx p d l nl b r t la lu lh now ns #[[],[],[],[],[]] M5:=#[S4.sm s5,Je D4 s5,s5 _ _ Kf,Zf,Up]
 clear S4 D4 Kf s5 iA ht Zf Up;dsimp? [];exact#[d,l,25,rfl,L5.2,⋯,⋯,λm M6 m0 m1 D6 b6=> ?_];have L6:=L5.fs vA q1 D6 (λa o h n=>by rw[b6 a n];show h);clear L5 b6 D6;dsimp? [];exact#[#[by omega,by omega],jE (λi ρ M'=>eE λ(o1 o2 o3:gC W)=>sD λ(r t lu now:iW) (S:sF)=>kQ (ρ= [some (wr d),some (wi p),some (wr b),some (wr nl),some (.tup [wr r,wr t]),o1,o2,o3]) (Ld A.a4 A.bx p d l nl b r t la lu lh now ns S M') (cS (Ap d la lu lh) (Ap l la lu lh) (Ap nl la lu lh)) (nr p S.R S.T) (S.R.length<=i /\ S.T.length<=i) (cS (S.past.length<=i) (S.KD.length<=i) (S.held.length<=i))) #[none,none,none,r,t,lu,now,_,rfl,L6,#[q1,q2,q3],#[#[List.nodup_nil,by simp,by simp],#[List.nodup_nil,by simp,by simp,by simp],by simp,by simp],#[by simp,by simp],#[by simp,by simp,by simp]] (λ_ _ _ _ _=>trivial) ?_ ?_];clear L6 q1 q2 q3;rintro i x ρ M8 hx ⟨o1,o2,o3,r,t,lu,now,S,rfl,L8,⟨q1,q2,q3⟩,hS,⟨hlR,hlT⟩,⟨l1,l2,l3⟩⟩ N hN;let⟨hi,rfl⟩:=ju hx;have YN:M8 la=some (.lst (S.past.map λz=>wr z.1)):=by have:=L8.1.bk.pa;rw[aU] at this;show this
 dsimp? [];exact#[d,l,nl,_,ns,rfl,L8.2,#[L8.3,vA],n5,oS,by omega,λdd w9 M9 Kl uB hO hf D9 F9=> ?_];have Fn:L1 la w9:=λn e=>by rw[hf la n e] at YN;cases YN
 have L9:=L8.fs vA q1 D9 F9;clear L8 hf D9 F9 YN;have Kk:FN p S:=#[hp,hS,by omega,by omega,by omega]
 dsimp? [];exact#[p,r,t,S.R,S.T,dd,w9,rfl,hp,L9.4,hS,#[Kl,uB],hO,λR' T' ho qp Zu r' t' M10 KU Ut Uq=> ?_,λf ho=> ?_];have yK:=L9.sm KU;have qp:=qp (by omega) (by omega);dsimp? [];exact#[b,la,lu,lh,now,p,S,dd,w9,rfl,#[Kl.sm KU,uB],Fn,hO,yK.1,Kk,λS' v uD M11 eK oI B11 MD sy=> ?_,λf uD=> ?_];rw[kx uB,ho] at uD;cases uD;dsimp? [];exact ly (d:= .tup [.str "", .d0]) (.inl rfl) (.inl rfl) ⋯ rfl ?_;let⟨xd,WC⟩:=Ec yK.2;let⟨xl,WB⟩:=U6 yK.2;have W8:Ld A.a4 A.bx p d l nl b r' t' la eK lh oI ns _ M11:=#[B11,MD.dr yK.1 yK.2 q1 q2,MD.lst yK.1 yK.3 q3,MD.Kq yK.1 Ut,MD.Kq yK.1 Uq]
 dsimp? [];show hN _ _ #[_,_,_,r',t',eK,oI,_,rfl,W8,#[q1.step WC sy,q2.step WB sy,q3.step yK.3 sy],qp,#[by change R'.length<=i+1;omega,by change T'.length<=i+1;omega],#[by change(S.past++ [_]).length<=i+1;rw[aJ];simp;omega,by simp,by change S.held.length<=i+1;omega]];rw[kx uB,ho] at uD;cases uD;dsimp? [];exact#[b,la,lu,lh,now,p,S,dd,w9,rfl,#[Kl,uB],Fn,hO,L9.1,Kk,λS' v uD=> ?_,λf' uD=> ?_];rw[kx uB,ho] at uD;cases uD;rw[kx uB,ho] at uD;cases uD;dsimp? [];exact ly (d:= .tup [.str (CY f), .d0]) (.inl rfl) (.inl rfl) (by simp[sC,jY]) rfl ?_;dsimp? [];show hN _ _ #[_,_,_,r,t,lu,now,S,rfl,L9,#[q1,q2,q3],hS,#[by omega,by omega],#[by omega,by omega,by omega]];rintro ρ M7 ⟨o1,o2,o3,r,t,lu,now,S,rfl,L7,hq,hS,⟨h1,h2⟩,⟨h3,h4,h5⟩⟩;rw[hG] at h1 h2 h3 h4 h5;dsimp? [];show eP (kq r t lu now S M7 L7 hq hS #[by omega,by omega,by omega,by omega,by omega])
def Px (T:fj K mg A):bE P w K mg base e9 10 A.Od A.Og ["_law_script"] (y8 K):=by
 have cl:=ay T.Book.cl;exact Tz T.law.fn G5 ⋯ λcdv A' outer s H E hr=> ?_;have nd:=G5.nd;exact#[_,(ag (a8 (i:=1) nd rfl (by trivial) (au T.Dy (BB T) hr (aa (pv 0) ae))) (ag (a8 (i:=2) nd rfl (by trivial) (au T.l_p (Py T) hr (aa (pv 1) ae))) (ag (a8 (i:=3) nd rfl (by trivial) (au T.Dv (BA T) hr (aa (pv 1) (aa ai ae)))) (ag (a8 (i:=4) nd rfl (by trivial) (jw T.Book (Lm T) (hr.mono ⋯) (by rfl) (aa (pv 2) ae))) (ag (a8 (i:=5) nd rfl (by trivial) (au T.book_text (jS T) hr (aa (pv 4) ae))) (ag (bu (kn (d9 (dt (br (eT (K:=K) rfl) (by rfl) T.dD Boot.«isinstance» (aa (pv 5) (aa (gv (by rfl) T.u4 Boot.«str» (show RelV (.ty "str") _ from rfl)) ae))))) (ix (aR oB (pv 5) (bS fV aC (b_ jI (by rfl) T.u4 Boot.«str» (aa (pv 2) ae))) (a_ _)))).pt (aj (aE gV)) aK) (ag (a8 (i:=6) nd rfl (by trivial) (au T.HS (EZ T) hr (aa (pv 1) (aa (pv 2) (aa (pv 4) (aa (pv 3) ae)))))) (ag (bu (aR Li (pv 6) tT (a_ _)) (aj (aE gV)) aK) (ag (a8 (i:=7) nd rfl (by trivial) (au T.book_text (jS T) hr (aa (pv 4) ae))) (ag (bu (kn (d9 (dt (br (eT (K:=K) rfl) (by rfl) T.dD Boot.«isinstance» (aa (pv 7) (aa (gv (by rfl) T.u4 Boot.«str» (show RelV (.ty "str") _ from rfl)) ae))))) (ix (aR oB (pv 7) (au T.lC (lw T) hr (aa (pv 2) (aa (pv 6) ae))) (a_ _)))).pt (aj (aE gV)) aK) (ag (bu (d9 (dt (au T.zM (zA T) hr (aa (pv 2) (aa (pv 4) (aa (pv 6) ae)))))) (aj (aE gV)) aK) (ag (a8 (i:=8) nd rfl (by trivial) (aN (aa aC (aa (aG (show ce _ (i_ K) from dS) (pv 3) ai (λ_ _=>rfl)) (aa (aN (aa (aG (show ce _ (i_ K) from dS) (pv 3) ai (λ_ _=>rfl)) ae)) (aa (gh eV ai) ae)))))) (ag (a8 (i:=9) nd rfl (by trivial) (au T.HU (zB T) hr (aa (pv 2) (aa (pv 6) (aa (pv 8) ae))))) (ag (bu (aR (show iK _ _ (xF K) from nF (by show hr.OG)) (au T.BK (wg T) hr (aa (pv 4) (aa (pv 8) ae))) (aN (aa (aG (show ce _ (bt K) from aB) (pv 9) ai (λ_ _=>rfl)) (aa tT ae))) (a_ _)) (aj (aE gV)) aK) (aj (aE (gu dI (au T.book_text (jS T) hr (aa (pv 4) ae)) (au T.lC (lw T) hr (aa (pv 2) (aa (aG (show ce _ (bt K) from aB) (pv 9) ai (λ_ _=>rfl)) ae))) (a_ _)))))))))))))))))),?_];try dsimp only[eL]
 exact#[_,inferInstance,?_];intro d l M hD;dsimp? [];exact#[d,l,rfl,hD,λp M1 hp D1 _=> ?_];dsimp? [];exact#[d,l,5,rfl,D1,⋯,⋯,λnl ns M2 hW hln oS vA nnl D2=> ?_];dsimp? [];rw[mm];dsimp? [];intro b dxb Rv ZF nK;exact#[b,dxb,p,rfl,hp,ao,λM4 la lu lh now B4 F4 Kg yH LP HI=>#[rfl,?_]];have F4': ∀a o,M2 a=some o ->M4 a=some o:=λa o h=>F4 a o (by rw[aQ (cg h Rv)];show h) (cg h Rv);have D4:Dr M4 d l:=Je D2 F4';have Kf:=F4' _ _ hW;let⟨xd,WC⟩:=Ec D2;let⟨xl,WB⟩:=U6 D2;have fr: ∀ {a c:iW} {o:MO},um M2 b (.ins A.a4 dxb []) a=none ->M2 c=some o ->a≠c:=λ{a c o} h1 h2 e=>by subst e;rw[aQ (cg h2 Rv),h2] at h1;cases h1
 have ap: ∀ {c:iW} {o:MO},M2 c=some o ->Ap c la lu lh:=λh=>#[fr Kg h,fr yH h,fr LP h]
 have q1:=ap WC;have q2:=ap WB;have q3:=ap hW;have S4:A7 A.a4 A.bx M4 b la lu lh p now #[[],[],[],[],[]]:=#[B4,nofun,nofun,nofun]
 clear fr ap Kg yH LP F4 F4' WC WB Rv ZF hW D2 D1 hD B4;have pl:=fX (i:=p) (by omega);have l9:(Str.ofString "settings ").length=9:=by right
 have pn:=fk (i:=p) (by omega);dsimp? [];exact#[b,la,lu,lh,now,p,_,_,_,[],[],rfl,S4.bk,hp,#[#[List.nodup_nil,by simp,by simp],#[List.nodup_nil,by simp,by simp,by simp],by simp,by simp],#[by simp,by simp],?_];rw[FF];dsimp? [ay pl];exact#[bf (by omega),?_];dsimp? [cD,aX];exact#[d,l,nl,b,p,ns,la,lu,lh,now,rfl,hp,S4,D4,#[Kf,vA],#[by omega,oS],#[q1,q2,q3],λr t eK oI S M5 L5 hq hS hl=> ?_];let⟨q1,q2,q3⟩:=hq;let⟨l1,l2,l3,l4,l5⟩:=hl;clear S4 D4 Kf;have tx: ∀ {r t la lu lh now:iW} {S:sF} {M':Mp} {q':WK},Ld A.a4 A.bx p d l nl b r t la lu lh now ns S M' ->nr p S.R S.T ->S.R.length<=100 ->S.T.length<=100 ->q' (ws (uX p S.R S.T)) M' ->we A.a4 A.bx [wr b] M' q':=λ{r t la lu lh now S M' q'} L hS h1 h2 hq=>#[b,la,lu,lh,now,p,_,_,_,S.R,S.T,rfl,L.1.bk,hp,hS,#[h1,h2],hq]
 have tl: ∀ {r t la lu lh now:iW} {S:sF} {M':Mp} {q':WK},Ld A.a4 A.bx p d l nl b r t la lu lh now ns S M' ->nr p S.R S.T ->S.R.length<=100 ->S.T.length<=100 ->q' (ws (uX p S.R S.T)) M' ->tU [wi p, .tup [wr r,wr t]] M' q':=λ{r t la lu lh now S M' q'} L hS h1 h2 hq=>#[p,r,t,S.R,S.T,rfl,L.4,hp,hS,#[h1,h2],hq]
 dsimp? [];exact#[rfl,?_];dsimp? [TK];exact tx L5 hS (by omega) (by omega) ?_;dsimp? [];exact tl L5 hS (by omega) (by omega) ?_;dsimp? [cD,aX];exact#[b,la,eK,lh,oI,r,t,p,_,_,_,S.R,S.T,rfl,L5.1.bk,L5.4,hS.r,#[hS.t,hS.k],?_];let⟨z0,e0,LJ⟩: ∃z,iF (ns.map ws) 0=some (ws z) /\ Nm z:=by
  let⟨z,hz⟩: ∃z,ns[0]? =some z:=#[_,aF (by omega)]
  show#[z,f7 ⋯ (by rw[aI];change Option.map ws ns[0]? =_;rw[hz];rfl),oS z (aT hz)]
 let⟨z1,e1,Fj⟩: ∃z,iF (ns.map ws) 1=some (ws z) /\ Nm z:=by
  let⟨z,hz⟩: ∃z,ns[1]? =some z:=#[_,aF (by omega)]
  show#[z,f7 ⋯ (by rw[aI];change Option.map ws ns[1]? =_;rw[hz];rfl),oS z (aT hz)]
 have hn5:=L5.3;have Kl:DA M5 (.r (.back z0 z1)) (.tup [ws "back",ws z0, .tup [ws z1],wi (-1)]):=rfl;have hO:Vv (.r (.back z0 z1)):=#[LJ,Fj]
 have uB:yb (.r (.back z0 z1)):=trivial;have Fn:L1 la (.tup [ws "back",ws z0, .tup [ws z1],wi (-1)]):=λn e=>nomatch e
 have Kk:FN p S:=#[hp,hS,by omega,by omega,by omega]
 dsimp? [aX,hn5,e0,e1];exact#[p,r,t,S.R,S.T,_,_,rfl,hp,L5.4,hS,#[Kl,uB],hO,λR' T' ho qp Zu r' t' M10 KU Ut Uq=> ?_,λf ho=> ?_];have yK:=L5.sm KU;have qp:=qp (by omega) (by omega);dsimp? [];exact#[b,la,eK,lh,oI,p,S,_,_,rfl,#[Kl.sm KU,uB],Fn,hO,yK.1,Kk,λS' v uD M11 eK oI B11 MD sy=> ?_,λf uD=> ?_]
 .rw[kx uB,ho] at uD;cases uD;dsimp? [];exact ly (d:= .tup [.str "", .d0]) (.inl rfl) (.inl rfl) ⋯ rfl ?_;have W8:Ld A.a4 A.bx p d l nl b r' t' la eK lh oI ns _ M11:=#[B11,MD.dr yK.1 yK.2 q1 q2,MD.lst yK.1 yK.3 q3,MD.Kq yK.1 Ut,MD.Kq yK.1 Uq]
  dsimp? [];exact tx W8 qp (by change R'.length<=100;omega) (by change T'.length<=100;omega) ?_;dsimp? [];exact tl W8 qp (by change R'.length<=100;omega) (by change T'.length<=100;omega) ?_;dsimp? [cD]
 rw[kx uB,ho] at uD;cases uD
 .dsimp? [];exact#[b,la,eK,lh,oI,p,S,_,_,rfl,#[Kl,uB],Fn,hO,L5.1,Kk,λS' v uD=> ?_,λf' uD=> ?_];rw[kx uB,ho] at uD;cases uD
  .rw[kx uB,ho] at uD;cases uD;dsimp? [];exact ly (d:= .tup [.str (CY f), .d0]) (.inl rfl) (.inl rfl) (by simp[sC,jY]) rfl ?_;dsimp? [];exact tx L5 hS (by omega) (by omega) ?_;dsimp? [];exact tl L5 hS (by omega) (by omega) ?_;dsimp? [cD]
end
end eN
namespace eN
open PySem L2 WL WQ PyProof.Rows
theorem walk {l:W.OpenLaw}{q:Y1}{wq:c_ Str}{XP:(Str ->gC dC) ->ZX ->Prop}{YP:ZW ->ZX ->Prop}{d:DefRec}{K:Params ->Uc}(hn:l.most=some 63)(Qt:d.params.defaults= []) (hY: ∀ (w:ZW) (h:ZX),YP w h ->(K w.params).In h) (nm:d.name= "law") (F: ∀ (w:ZW) (mg:Str ->gC dC) (h:ZX),(K w.params).In h ->h.Ns mainGlobals mg -> ∃A,fj (K w.params) mg A): W.WalkO q wq XP YP l.row.toRowW d [] (λf vs=>PySem.call f vs):=L2.Kx (n:=63) (k:=10) (x:= "_law_script") (CX:=λ_=>e9) (sp:=λw=>y8 (K w.params)) hn ⋯ Qt #[rfl,⋯,⋯] hY (λw mg fa h X G e=>(F w mg h X G).elim λ_ T=>PQ T.law (nm▸e) (λ_ _ _ _ _ _ _=>rfl) λ_=>Px T) (λ_ _ a ns hl _ hS=>#[a,ns,rfl,hS,λ_=>rfl]) λ_ _ _ _ _ z=>z
end eN
end
def PySem.W.Fast.tw9393468676160735765:Nat:=0
def PySem.W.Fast.tw13061748128488305100:Nat:=0
def PySem.W.Fast.tw1557129966111764806:Nat:=0
def PySem.W.Fast.tw15433955676373425693:Nat:=0
def PySem.W.Fast.tw1661409652603751593:Nat:=0
def PySem.W.Fast.tw9147978886793831465:Nat:=0
def PySem.W.Fast.tw6228131771964440885:Nat:=0
def PySem.W.Fast.tw10309377659547618490:Nat:=0
def PySem.W.Fast.tw14019120900091585896:Nat:=0
def PySem.W.Fast.tw7371225517097758839:Nat:=0
def PySem.W.Fast.tw1211371185692879643:Nat:=0
def PySem.W.Fast.tw2770521933153484333:Nat:=0
def PySem.W.Fast.tw6054390073149661005:Nat:=0
def PySem.W.Fast.tw16636708298479502342:Nat:=0
def PySem.W.Fast.tw11724513969470640401:Nat:=0
def PySem.W.Fast.tw2626746050044939258:Nat:=0
def PySem.W.Fast.tw8339371547778262512:Nat:=0
def PySem.W.Fast.tw1519400877901434954:Nat:=0
def PySem.W.Fast.tw2591343748724912988:Nat:=0
def PySem.W.Fast.tw11359269873752433811:Nat:=0
def PySem.W.Fast.tw14941906407396270999:Nat:=0
def PySem.W.Fast.tw5017547856111295797:Nat:=0
def PySem.W.Fast.tw11839777779405282810:Nat:=0
def PySem.W.Fast.tw18142470967126892941:Nat:=0
def PySem.W.Fast.tw9237286006503303327:Nat:=0
def PySem.W.Fast.tw17834049593181741279:Nat:=0
def PySem.W.Fast.tw17547255049636173267:Nat:=0
def PySem.W.Fast.tw3672660751898383028:Nat:=0
def PySem.W.Fast.tw2697900796614626190:Nat:=0
def PySem.W.Fast.tw5977292494075813569:Nat:=0
def PySem.W.Fast.tw18188796977303689184:Nat:=0
def PySem.W.Fast.tw7084533833246841557:Nat:=0
def PySem.W.Fast.tw5771780601383303103:Nat:=0
def PySem.W.Fast.tw2877669499743039315:Nat:=0
def PySem.W.Fast.tw17282819468109493087:Nat:=0
def PySem.W.Fast.tw4571236007802510352:Nat:=0
def PySem.W.Fast.tw6817566912337521274:Nat:=0
def PySem.W.Fast.tw13911250984290292438:Nat:=0
def PySem.W.Fast.tw13692132022525891056:Nat:=0
def PySem.W.Fast.tw1717529412126582641:Nat:=0
def PySem.W.Fast.tw12849001765156454141:Nat:=0
def PySem.W.Fast.tw18032993762695691552:Nat:=0
def PySem.W.Fast.tw14103381715560802596:Nat:=0
def PySem.W.Fast.tw8713118184043904054:Nat:=0
def PySem.W.Fast.tw2192859724810561236:Nat:=0
def PySem.W.Fast.tw11354015899909545971:Nat:=0
def PySem.W.Fast.tw1400063295047358551:Nat:=0
def PySem.W.Fast.tw17718632446231724130:Nat:=0
def PySem.W.Fast.tw790867901273974825:Nat:=0
def PySem.W.Fast.tw9542097717972288776:Nat:=0
def PySem.W.Fast.tw10445173812657160498:Nat:=0
def PySem.W.Fast.tw14391206362997760817:Nat:=0
def PySem.W.Fast.tw15967011230954585121:Nat:=0
def PySem.W.Fast.tw8385510883594381853:Nat:=0
def PySem.W.Fast.tw6554235407115876078:Nat:=0
def PySem.W.Fast.tw14056042927417291689:Nat:=0
def PySem.W.Fast.tw11390132119087505914:Nat:=0
def PySem.W.Fast.tw12571533183133157997:Nat:=0
def PySem.W.Fast.tw13644514000995426714:Nat:=0
def PySem.W.Fast.tw1601939399473565135:Nat:=0
def PySem.W.Fast.tw17802465603345893981:Nat:=0
def PySem.W.Fast.tw16524943538105053133:Nat:=0
def PySem.W.Fast.tw7877152773035653310:Nat:=0
def PySem.W.Fast.tw6914195013636225948:Nat:=0
def PySem.W.Fast.tw11357315610794879993:Nat:=0
def PySem.W.Fast.tw13265590758016570851:Nat:=0
def PySem.W.Fast.tw4281292179913050959:Nat:=0
def PySem.W.Fast.tw3304843940833588438:Nat:=0
def PySem.W.Fast.tw4023889996048772045:Nat:=0
def PySem.W.Fast.tw7222332249489161229:Nat:=0
def PySem.W.Fast.tw1922734721138287094:Nat:=0
def PySem.W.Fast.tw6967401380112826649:Nat:=0
def PySem.W.Fast.tw10774040409504670833:Nat:=0
def PySem.W.Fast.tw12309427483936467318:Nat:=0
def PySem.W.Fast.tw10126227180188755187:Nat:=0
def PySem.W.Fast.tw13928357299808435823:Nat:=0
def PySem.W.Fast.tw18181717140233790867:Nat:=0
def PySem.W.Fast.tw6872670886979307524:Nat:=0
def PySem.W.Fast.tw4519157582464507272:Nat:=0
def PySem.W.Fast.tw1718410164101661493:Nat:=0
def PySem.W.Fast.tw3674256541682413169:Nat:=0
def PySem.W.Fast.tw6539629960752325885:Nat:=0
def PySem.W.Fast.tw15679874971836631763:Nat:=0
def PySem.W.Fast.tw9575003515215962564:Nat:=0
def PySem.W.Fast.tw208190425853996302:Nat:=0
def PySem.W.Fast.tw9675522360795023167:Nat:=0
def PySem.W.Fast.tw2305355801940039064:Nat:=0
def PySem.W.Fast.tw11161324885308906840:Nat:=0
def PySem.W.Fast.tw530516119476151212:Nat:=0
def PySem.W.Fast.tw11157296485856628484:Nat:=0
def PySem.W.Fast.tw4892961224546344310:Nat:=0
def PySem.W.Fast.tw11948180559811650830:Nat:=0
def PySem.W.Fast.tw17468834587954606126:Nat:=0
def PySem.W.Fast.tw9941034732524616813:Nat:=0
def PySem.W.Fast.tw15054441244120290779:Nat:=0
def PySem.W.Fast.tw8944619043868921969:Nat:=0
def PySem.W.Fast.tw5669636953147574795:Nat:=0
def PySem.W.Fast.tw15188811281769254955:Nat:=0
def PySem.W.Fast.tw15788509565183659305:Nat:=0
def PySem.W.Fast.tw17501958638231185917:Nat:=0
def PySem.W.Fast.tw2897260525343711946:Nat:=0
def PySem.W.Fast.tw1382586305913675368:Nat:=0
def PySem.W.Fast.tw2401146251116530876:Nat:=0
def PySem.W.Fast.tw4264913009579535831:Nat:=0
def PySem.W.Fast.tw13151134366254670479:Nat:=0
def PySem.W.Fast.tw3090034769891806008:Nat:=0
def PySem.W.Fast.tw17808699172410303910:Nat:=0
def PySem.W.Fast.tw6377231380021636513:Nat:=0
def PySem.W.Fast.tw2911683026719555785:Nat:=0
def PySem.W.Fast.tw15705921047031728419:Nat:=0
def PySem.W.Fast.tw5586231565599865605:Nat:=0
def PySem.W.Fast.tw3139328667031863007:Nat:=0
def PySem.W.Fast.tw13424629722579308094:Nat:=0
def PySem.W.Fast.tw9569267788557699579:Nat:=0
def PySem.W.Fast.tw3652193429516993823:Nat:=0
def PySem.W.Fast.tw12242012232130359311:Nat:=0
def PySem.W.Fast.tw4152633255804878126:Nat:=0
def PySem.W.Fast.tw6688426281787746546:Nat:=0
def PySem.W.Fast.tw18024225645501966547:Nat:=0
def PySem.W.Fast.tw15524102807361428592:Nat:=0
def PySem.W.Fast.tw7089641910296096599:Nat:=0
def PySem.W.Fast.tw11432972612165770043:Nat:=0
def PySem.W.Fast.tw10443879268289665348:Nat:=0
def PySem.W.Fast.tw11885586304982457275:Nat:=0
def PySem.W.Fast.tw6503828851200831602:Nat:=0
def PySem.W.Fast.tw17534756096705862714:Nat:=0
def PySem.W.Fast.tw12212890577755001036:Nat:=0
def PySem.W.Fast.tw9517110410543481519:Nat:=0
def PySem.W.Fast.tw12400909085813858272:Nat:=0
def PySem.W.Fast.tw17880347938597540222:Nat:=0
def PySem.W.Fast.tw8697657568979311181:Nat:=0
def PySem.W.Fast.tw7602818639516257402:Nat:=0
def PySem.W.Fast.tw6294406184549416446:Nat:=0
def PySem.W.Fast.tw11783474358330805903:Nat:=0
def PySem.W.Fast.tw1364728960961875543:Nat:=0
def PySem.W.Fast.tw2844426832415204487:Nat:=0
def PySem.W.Fast.tw10697384490241229499:Nat:=0
def PySem.W.Fast.tw8504445795845753154:Nat:=0
def PySem.W.Fast.tw10109596396705214635:Nat:=0
def PySem.W.Fast.tw15496396424207268521:Nat:=0
def PySem.W.Fast.tw449556005760871007:Nat:=0
def PySem.W.Fast.tw14963620962677567315:Nat:=0
def PySem.W.Fast.tw4066138298204074674:Nat:=0
def PySem.W.Fast.tw3719252531917958779:Nat:=0
def PySem.W.Fast.tw1640009295240593710:Nat:=0
def PySem.W.Fast.tw9013506891015491150:Nat:=0
def PySem.W.Fast.tw15082281963379929350:Nat:=0
def PySem.W.Fast.tw9660971135093914156:Nat:=0
def PySem.W.Fast.tw11639318796541452303:Nat:=0
def PySem.W.Fast.tw17676303450915751822:Nat:=0
def PySem.W.Fast.tw89151176075976366:Nat:=0
def PySem.W.Fast.tw11464439078302711855:Nat:=0
def PySem.W.Fast.tw2997560656950800713:Nat:=0
def PySem.W.Fast.tw7751412480999759220:Nat:=0
def PySem.W.Fast.tw16575395788244072186:Nat:=0
def PySem.W.Fast.tw2261009049433839661:Nat:=0
def PySem.W.Fast.tw13433410504945041410:Nat:=0
def PySem.W.Fast.tw9112496364297711946:Nat:=0
def PySem.W.Fast.tw2924648815926497411:Nat:=0
def PySem.W.Fast.tw889770569002360502:Nat:=0
def PySem.W.Fast.tw6027611615609813220:Nat:=0
def PySem.W.Fast.tw18318404536012752252:Nat:=0
def PySem.W.Fast.tw11046299571266990103:Nat:=0
def PySem.W.Fast.tw13999532222014063928:Nat:=0
def PySem.W.Fast.tw16721540075161598756:Nat:=0
def PySem.W.Fast.tw9978072659852697296:Nat:=0
def PySem.W.Fast.tw10054234495054446279:Nat:=0
def PySem.W.Fast.tw6488919146026653776:Nat:=0
def PySem.W.Fast.tw11348099140137367149:Nat:=0
def PySem.W.Fast.tw14009404592154358473:Nat:=0
def PySem.W.Fast.tw1590590542947920176:Nat:=0
def PySem.W.Fast.tw7197891312931669161:Nat:=0
def PySem.W.Fast.tw6880184615602042225:Nat:=0
def PySem.W.Fast.tw11547770691145810424:Nat:=0
def PySem.W.Fast.tw4538533926218110063:Nat:=0
def PySem.W.Fast.tw6238974119284477166:Nat:=0
def PySem.W.Fast.tw17835655118544929515:Nat:=0
def PySem.W.Fast.tw10291519551896352878:Nat:=0
def PySem.W.Fast.tw92075505898158339:Nat:=0
def PySem.W.Fast.tw11227014358243349411:Nat:=0
def PySem.W.Fast.tw9646391391210915121:Nat:=0
def PySem.W.Fast.tw16224726399202254344:Nat:=0
def PySem.W.Fast.tw9983760784797679133:Nat:=0
def PySem.W.Fast.tw8702719208434330459:Nat:=0
def PySem.W.Fast.tw902284369321816593:Nat:=0
def PySem.W.Fast.tw9764714116798954549:Nat:=0
def PySem.W.Fast.tw8907348989968185716:Nat:=0
def PySem.W.Fast.tw4929860401938992255:Nat:=0
def PySem.W.Fast.tw15501128935266185741:Nat:=0
def PySem.W.Fast.tw12441242379424856969:Nat:=0
def PySem.W.Fast.tw3691332040327255745:Nat:=0
def PySem.W.Fast.tw14525865617527264526:Nat:=0
def PySem.W.Fast.tw3451102206760355068:Nat:=0
def PySem.W.Fast.tw4719077192061079321:Nat:=0
def PySem.W.Fast.tw14273820642097114397:Nat:=0
def PySem.W.Fast.tw7226004107917031705:Nat:=0
def PySem.W.Fast.tw7225920521860846010:Nat:=0
def PySem.W.Fast.tw17527112569120130410:Nat:=0
def PySem.W.Fast.tw15588536276171720693:Nat:=0
def PySem.W.Fast.tw4176584206877842125:Nat:=0
def PySem.W.Fast.tw12077757233216378242:Nat:=0
def PySem.W.Fast.tw16022607290530566593:Nat:=0
def PySem.W.Fast.tw13494064235490726493:Nat:=0
def PySem.W.Fast.tw8935682578443830152:Nat:=0
def PySem.W.Fast.tw2444826347143346418:Nat:=0
def PySem.W.Fast.tw4121003389618514121:Nat:=0
def PySem.W.Fast.tw16008797672759139066:Nat:=0
def PySem.W.Fast.tw4127510020045332897:Nat:=0
def PySem.W.Fast.tw9510379212589451628:Nat:=0
def PySem.W.Fast.tw10818846187842781161:Nat:=0
def PySem.W.Fast.tw7928692136719725580:Nat:=0
def PySem.W.Fast.tw3423161385627016851:Nat:=0
def PySem.W.Fast.tw478197504379807061:Nat:=0
def PySem.W.Fast.tw8152112933875534945:Nat:=0
def PySem.W.Fast.tw7702071795355167924:Nat:=0
def PySem.W.Fast.tw7178699872542247954:Nat:=0
def PySem.W.Fast.tw14991785544896281601:Nat:=0
def PySem.W.Fast.tw13535382469395188259:Nat:=0
def PySem.W.Fast.tw12503413782890673883:Nat:=0
def PySem.W.Fast.tw16676798406096286566:Nat:=0
def PySem.W.Fast.tw7713996621684373171:Nat:=0
def PySem.W.Fast.tw4609566479390009187:Nat:=0
def PySem.W.Fast.tw12031612564049063762:Nat:=0
def PySem.W.Fast.tw11627893022412455454:Nat:=0
def PySem.W.Fast.tw18163413972920022419:Nat:=0
def PySem.W.Fast.tw15868491283710459129:Nat:=0
def PySem.W.Fast.tw8300998446876242158:Nat:=0
def PySem.W.Fast.tw12279668181918674699:Nat:=0
def PySem.W.Fast.tw16974936028347794347:Nat:=0
def PySem.W.Fast.tw4909066982140206402:Nat:=0
def PySem.W.Fast.tw8183309652246253290:Nat:=0
def PySem.W.Fast.tw16344325400976854716:Nat:=0
def PySem.W.Fast.tw1483323848752849089:Nat:=0
def PySem.W.Fast.tw16299774351027514460:Nat:=0
def PySem.W.Fast.tw5708868085680428894:Nat:=0
def PySem.W.Fast.tw7714298103843819137:Nat:=0
def PySem.W.Fast.tw12527466784681536987:Nat:=0
def PySem.W.Fast.tw13788028943789658443:Nat:=0
def PySem.W.Fast.tw6212411997556805257:Nat:=0
def PySem.W.Fast.tw1816204400332809635:Nat:=0
def PySem.W.Fast.tw7858353453732315725:Nat:=0
def PySem.W.Fast.tw7499999376681953156:Nat:=0
def PySem.W.Fast.tw11270785415912830788:Nat:=0
def PySem.W.Fast.tw10568967843476979485:Nat:=0
def PySem.W.Fast.tw4645360699196639856:Nat:=0
def PySem.W.Fast.tw16866699105431698963:Nat:=0
def PySem.W.Fast.tw11470323439737278095:Nat:=0
def PySem.W.Fast.tw16482769681677918987:Nat:=0
def PySem.W.Fast.tw7205878815673063468:Nat:=0
def PySem.W.Fast.tw10428215005939057250:Nat:=0
def PySem.W.Fast.tw6985075131823673286:Nat:=0
def PySem.W.Fast.tw10569827099266389552:Nat:=0
def PySem.W.Fast.tw4564433211259170854:Nat:=0
def PySem.W.Fast.tw6065907503222211803:Nat:=0
def PySem.W.Fast.tw3168814023111439024:Nat:=0
def PySem.W.Fast.tw9906560309623024280:Nat:=0
def PySem.W.Fast.tw1308275042398170103:Nat:=0
def PySem.W.Fast.tw15263575702312020046:Nat:=0
def PySem.W.Fast.tw6686435916929605643:Nat:=0
def PySem.W.Fast.tw13004749061458251187:Nat:=0
def PySem.W.Fast.tw15354014220503421854:Nat:=0
def PySem.W.Fast.tw5928924602989329715:Nat:=0
def PySem.W.Fast.tw16681315095956493946:Nat:=0
def PySem.W.Fast.tw2390379335821189925:Nat:=0
def PySem.W.Fast.tw3690492197806389631:Nat:=0
def PySem.W.Fast.tw15199244385452519218:Nat:=0
def PySem.W.Fast.tw3757787374147675528:Nat:=0
def PySem.W.Fast.tw13835410039518045803:Nat:=0
def PySem.W.Fast.tw7664750697882000595:Nat:=0
def PySem.W.Fast.tw15707134683860220754:Nat:=0
def PySem.W.Fast.tw9298310264231575658:Nat:=0
def PySem.W.Fast.tw2635851479449365517:Nat:=0
open PySem PySem.W PyProof.Rows L2
set_option maxRecDepth 100000 in
set_option maxHeartbeats 0 in
theorem PySem.Challenge.cw_duskround_k52_books_written_holds : PySem.Challenge.rw_duskround_k52_books_written.Holds := by
 w_on;o_law;k_head;(case hw=>w_witness2)
 k_fill
 refine eN.walk (l:=PySem.Challenge.rw_duskround_k52_books_written) rfl rfl (λw h Y=>PySem.W.kIn_of Y) rfl λw mg h X G=> ?_
 have' QS:=bT (x:= "tidy") (ps:= ["p","pairs"]) (st:=eN.Bj) X G ?g14 ?g15 ?g16 ?g17;(case g14 | g15 | g16 | g17=>k_is);have' MC:=bT (x:= "added") (ps:= ["p","one","other"]) (st:=eN.CV) X G ?g18 ?g19 ?g20 ?g21;(case g18 | g19 | g20 | g21=>k_is);have' Mw:=bT (x:= "moved") (ps:= ["pattern","by"]) (st:=eN.xy) X G ?g22 ?g23 ?g24 ?g25;(case g22 | g23 | g24 | g25=>k_is);have' Mu:=bT (x:= "timed") (ps:= ["p","pattern","n"]) (st:=eN.xx) X G ?g26 ?g27 ?g28 ?g29;(case g26 | g27 | g28 | g29=>k_is);have' QT:=bT (x:= "gone") (ps:= ["p","deeds"]) (st:=eN.Bl) X G ?g30 ?g31 ?g32 ?g33;(case g30 | g31 | g32 | g33=>k_is);have' JW:=bT (x:= "joined") (ps:= ["p","one","other"]) (st:=eN.zi) X G ?g34 ?g35 ?g36 ?g37;(case g34 | g35 | g36 | g37=>k_is);have' Cm:=bT (x:= "backward") (ps:= ["p","one"]) (st:=eN.tP) X G ?g38 ?g39 ?g40 ?g41;(case g38 | g39 | g40 | g41=>k_is);have' Ci:=bT (x:= "repeated") (ps:= ["p","one","n"]) (st:=eN.ik) X G ?g42 ?g43 ?g44 ?g45;(case g42 | g43 | g44 | g45=>k_is);have' vK:=bT (x:= "lies_within") (ps:= ["one","farthest_end","farthest_place"]) (st:=eN.i7) X G ?g46 ?g47 ?g48 ?g49;(case g46 | g47 | g48 | g49=>k_is);have' AL:=bT (x:= "fits_crew") (ps:= ["one"]) (st:=eN.qJ) X G ?g50 ?g51 ?g52 ?g53;(case g50 | g51 | g52 | g53=>k_is);have' yB:=bT (x:= "check_name") (ps:= ["name"]) (st:=eN.jO) X G ?g54 ?g55 ?g56 ?g57;(case g54 | g55 | g56 | g57=>k_is);have' yy:=bT (x:= "with_thing") (ps:= ["things","name","thing"]) (st:=eN.oh) X G ?g58 ?g59 ?g60 ?g61;(case g58 | g59 | g60 | g61=>k_is);have' FS:=bT (x:= "without") (ps:= ["things","name"]) (st:=eN.vZ) X G ?g62 ?g63 ?g64 ?g65;(case g62 | g63 | g64 | g65=>k_is);have' Cn:=Jr (x:= "Page") (ps:= ["self","rounds","teams"]) (st:=eN.G7) X G ?g66 ?g67 ?g68 ?g69 ?g70 ?g71 ?g72 ?g73 ?g74 ?g75 ?g76 ?g77;(case g66 | g67 | g68 | g69 | g70 | g71 | g72 | g73 | g74 | g75 | g76 | g77=>k_is);have' de:=Jr (x:= "Book") (ps:= ["self","p"]) (st:=eN.G8) X G ?g78 ?g79 ?g80 ?g81 ?g82 ?g83 ?g84 ?g85 ?g86 ?g87 ?g88 ?g89;(case g78 | g79 | g80 | g81 | g82 | g83 | g84 | g85 | g86 | g87 | g88 | g89=>k_is);have' sI:=dX (m:= "settings") (ps:= ["self"]) (st:=eN.kj) de ?g90 ?g91 ?g92 ?g93 ?g94;(case g90 | g91 | g92 | g93 | g94=>k_is);have' vc:=dX (m:= "turn_to") (ps:= ["self","page"]) (st:=eN.ll) de ?g95 ?g96 ?g97 ?g98 ?g99;(case g95 | g96 | g97 | g98 | g99=>k_is);have' Co:=dX (m:= "put") (ps:= ["self","name","one"]) (st:=eN.nA) de ?g100 ?g101 ?g102 ?g103 ?g104;(case g100 | g101 | g102 | g103 | g104=>k_is);have' sK:=dX (m:= "put_team") (ps:= ["self","crew","team"]) (st:=eN.kl) de ?g105 ?g106 ?g107 ?g108 ?g109;(case g105 | g106 | g107 | g108 | g109=>k_is);have' sL:=dX (m:= "enlisted") (ps:= ["self","name"]) (st:=eN.km) de ?g110 ?g111 ?g112 ?g113 ?g114;(case g110 | g111 | g112 | g113 | g114=>k_is);have' AQ:=dX (m:= "team") (ps:= ["self","crew"]) (st:=eN.ln) de ?g115 ?g116 ?g117 ?g118 ?g119;(case g115 | g116 | g117 | g118 | g119=>k_is);have' AO:=dX (m:= "tell") (ps:= ["self","name","deeds"]) (st:=eN.lm) de ?g120 ?g121 ?g122 ?g123 ?g124;(case g120 | g121 | g122 | g123 | g124=>k_is);have' ve:=dX (m:= "join_as") (ps:= ["self","name","one","other"]) (st:=eN.io) de ?g125 ?g126 ?g127 ?g128 ?g129;(case g125 | g126 | g127 | g128 | g129=>k_is);have' vh:=dX (m:= "back_as") (ps:= ["self","name","one"]) (st:=eN.iu) de ?g130 ?g131 ?g132 ?g133 ?g134;(case g130 | g131 | g132 | g133 | g134=>k_is);have' sH:=dX (m:= "times_as") (ps:= ["self","name","one","n"]) (st:=eN.gM) de ?g135 ?g136 ?g137 ?g138 ?g139;(case g135 | g136 | g137 | g138 | g139=>k_is);have' AT:=dX (m:= "drop") (ps:= ["self","name"]) (st:=eN.lp) de ?g140 ?g141 ?g142 ?g143 ?g144;(case g140 | g141 | g142 | g143 | g144=>k_is);have' yD:=dX (m:= "found") (ps:= ["self","crew"]) (st:=eN.jP) de ?g145 ?g146 ?g147 ?g148 ?g149;(case g145 | g146 | g147 | g148 | g149=>k_is);have' vg:=dX (m:= "disband") (ps:= ["self","crew"]) (st:=eN.iq) de ?g150 ?g151 ?g152 ?g153 ?g154;(case g150 | g151 | g152 | g153 | g154=>k_is);have' vO:=dX (m:= "enlist") (ps:= ["self","crew","name"]) (st:=eN.i8) de ?g155 ?g156 ?g157 ?g158 ?g159;(case g155 | g156 | g157 | g158 | g159=>k_is);have' vf:=dX (m:= "dismiss") (ps:= ["self","crew","name"]) (st:=eN.ip) de ?g160 ?g161 ?g162 ?g163 ?g164;(case g160 | g161 | g162 | g163 | g164=>k_is);have' AN:=dX (m:= "undo") (ps:= ["self"]) (st:=eN.qL) de ?g165 ?g166 ?g167 ?g168 ?g169;(case g165 | g166 | g167 | g168 | g169=>k_is);have' AR:=dX (m:= "redo") (ps:= ["self"]) (st:=eN.qM) de ?g170 ?g171 ?g172 ?g173 ?g174;(case g170 | g171 | g172 | g173 | g174=>k_is);have' AS:=dX (m:= "hold") (ps:= ["self"]) (st:=eN.qO) de ?g175 ?g176 ?g177 ?g178 ?g179;(case g175 | g176 | g177 | g178 | g179=>k_is);have' qC:=dX (m:= "return_to") (ps:= ["self","k"]) (st:=eN.jt) de ?g180 ?g181 ?g182 ?g183 ?g184;(case g180 | g181 | g182 | g183 | g184=>k_is);have' yC:=dX (m:= "names") (ps:= ["self"]) (st:=eN.ol) de ?g185 ?g186 ?g187 ?g188 ?g189;(case g185 | g186 | g187 | g188 | g189=>k_is);have' yE:=dX (m:= "crews") (ps:= ["self"]) (st:=eN.om) de ?g190 ?g191 ?g192 ?g193 ?g194;(case g190 | g191 | g192 | g193 | g194=>k_is);have' sJ:=dX (m:= "round_of") (ps:= ["self","name"]) (st:=eN.gN) de ?g195 ?g196 ?g197 ?g198 ?g199;(case g195 | g196 | g197 | g198 | g199=>k_is);have' vd:=dX (m:= "members") (ps:= ["self","crew"]) (st:=eN.im) de ?g200 ?g201 ?g202 ?g203 ?g204;(case g200 | g201 | g202 | g203 | g204=>k_is);have' Mv:=bT (x:= "shown") (ps:= ["one"]) (st:=eN.CP) X G ?g205 ?g206 ?g207 ?g208;(case g205 | g206 | g207 | g208=>k_is);have' AM:=bT (x:= "book_text") (ps:= ["book"]) (st:=eN.qK) X G ?g209 ?g210 ?g211 ?g212;(case g209 | g210 | g211 | g212=>k_is);have' FY:=bT (x:= "_law_begin") (ps:= ["_law_script"]) (st:=eN.pO) X G ?g213 ?g214 ?g215 ?g216;(case g213 | g214 | g215 | g216=>k_is);have' JR:=bT (x:= "_law_take") (ps:= ["_law_draw","_law_many"]) (st:=eN.zd) X G ?g217 ?g218 ?g219 ?g220;(case g217 | g218 | g219 | g220=>k_is);have' Vt:=bT (x:= "_law_p") (ps:= ["_law_draw"]) (st:=eN.Np) X G ?g221 ?g222 ?g223 ?g224;(case g221 | g222 | g223 | g224=>k_is);have' FX:=bT (x:= "_law_names") (ps:= ["_law_draw","_law_many"]) (st:=eN.v_) X G ?g225 ?g226 ?g227 ?g228;(case g225 | g226 | g227 | g228=>k_is);have' JQ:=bT (x:= "_law_tidy") (ps:= ["_law_p_here","_law_pairs"]) (st:=eN.zc) X G ?g229 ?g230 ?g231 ?g232;(case g229 | g230 | g231 | g232=>k_is);have' Mx:=bT (x:= "_law_sum") (ps:= ["_law_p_here","_law_one","_law_other","_law_by","_law_many"]) (st:=eN.CQ) X G ?g233 ?g234 ?g235 ?g236;(case g233 | g234 | g235 | g236=>k_is);have' JS:=bT (x:= "_law_join") (ps:= ["_law_p_here","_law_one","_law_other"]) (st:=eN.ze) X G ?g237 ?g238 ?g239 ?g240;(case g237 | g238 | g239 | g240=>k_is);have' JV:=bT (x:= "_law_back") (ps:= ["_law_p_here","_law_one"]) (st:=eN.zh) X G ?g241 ?g242 ?g243 ?g244;(case g241 | g242 | g243 | g244=>k_is);have' FU:=bT (x:= "_law_times") (ps:= ["_law_p_here","_law_one","_law_n"]) (st:=eN.v7) X G ?g245 ?g246 ?g247 ?g248;(case g245 | g246 | g247 | g248=>k_is);have' AK:=bT (x:= "_law_is_name") (ps:= ["_law_name"]) (st:=eN.qI) X G ?g249 ?g250 ?g251 ?g252;(case g249 | g250 | g251 | g252=>k_is);have' MA:=bT (x:= "_law_far") (ps:= ["_law_one","_law_most","_law_reach"]) (st:=eN.CT) X G ?g253 ?g254 ?g255 ?g256;(case g253 | g254 | g255 | g256=>k_is);have' JP:=bT (x:= "_law_walk") (ps:= ["_law_p_here","_law_deeds"]) (st:=eN.zb) X G ?g257 ?g258 ?g259 ?g260;(case g257 | g258 | g259 | g260=>k_is);have' FT:=bT (x:= "_law_value") (ps:= ["_law_p_here","_law_rounds","_law_deed"]) (st:=eN.v6) X G ?g261 ?g262 ?g263 ?g264;(case g261 | g262 | g263 | g264=>k_is);have' vL:=bT (x:= "_law_due_round") (ps:= ["_law_p_here","_law_stand","_law_deed"]) (st:=eN.mT) X G ?g265 ?g266 ?g267 ?g268;(case g265 | g266 | g267 | g268=>k_is);have' va:=bT (x:= "_law_due_member") (ps:= ["_law_stand","_law_deed"]) (st:=eN.li) X G ?g269 ?g270 ?g271 ?g272;(case g269 | g270 | g271 | g272=>k_is);have' yA:=bT (x:= "_law_due_crew") (ps:= ["_law_stand","_law_deed"]) (st:=eN.oj) X G ?g273 ?g274 ?g275 ?g276;(case g273 | g274 | g275 | g276=>k_is);have' MB:=bT (x:= "_law_due") (ps:= ["_law_p_here","_law_stand","_law_deed"]) (st:=eN.CU) X G ?g277 ?g278 ?g279 ?g280;(case g277 | g278 | g279 | g280=>k_is);have' My:=bT (x:= "_law_run") (ps:= ["_law_book","_law_deed"]) (st:=eN.xz) X G ?g281 ?g282 ?g283 ?g284;(case g281 | g282 | g283 | g284=>k_is);have' JU:=bT (x:= "_law_call") (ps:= ["_law_book","_law_deed"]) (st:=eN.zg) X G ?g285 ?g286 ?g287 ?g288;(case g285 | g286 | g287 | g288=>k_is);have' vb:=bT (x:= "_law_draw_deeds") (ps:= ["_law_draw"]) (st:=eN.lj) X G ?g289 ?g290 ?g291 ?g292;(case g289 | g290 | g291 | g292=>k_is);have' Cj:=bT (x:= "_law_target") (ps:= ["_law_draw","_law_names_here"]) (st:=eN.tN) X G ?g293 ?g294 ?g295 ?g296;(case g293 | g294 | g295 | g296=>k_is);have' u9:=bT (x:= "_law_round_deed") (ps:= ["_law_draw","_law_names_here"]) (st:=eN.lf) X G ?g297 ?g298 ?g299 ?g300;(case g297 | g298 | g299 | g300=>k_is);have' vM:=bT (x:= "_law_crew_deed") (ps:= ["_law_draw","_law_names_here"]) (st:=eN.mU) X G ?g301 ?g302 ?g303 ?g304;(case g301 | g302 | g303 | g304=>k_is);have' AJ:=bT (x:= "_law_planned") (ps:= ["_law_draw","_law_k","_law_names_here"]) (st:=eN.qH) X G ?g305 ?g306 ?g307 ?g308;(case g305 | g306 | g307 | g308=>k_is);have' JT:=bT (x:= "_law_grow") (ps:= ["_law_draw","_law_p_here","_law_book","_law_names_here"]) (st:=eN.zf) X G ?g309 ?g310 ?g311 ?g312;(case g309 | g310 | g311 | g312=>k_is);have' Mz:=bT (x:= "_law_int") (ps:= ["_law_thing"]) (st:=eN.CS) X G ?g313 ?g314 ?g315 ?g316;(case g313 | g314 | g315 | g316=>k_is);have' u_:=bT (x:= "_law_is_pattern") (ps:= ["_law_p_here","_law_thing"]) (st:=eN.lg) X G ?g317 ?g318 ?g319 ?g320;(case g317 | g318 | g319 | g320=>k_is);have' yz:=bT (x:= "_law_is_round") (ps:= ["_law_p_here","_law_thing"]) (st:=eN.oi) X G ?g321 ?g322 ?g323 ?g324;(case g321 | g322 | g323 | g324=>k_is);have' Ck:=bT (x:= "_law_stands") (ps:= ["_law_p_here","_law_book","_law_stand"]) (st:=eN.tO) X G ?g325 ?g326 ?g327 ?g328;(case g325 | g326 | g327 | g328=>k_is);have' FW:=bT (x:= "_law_shown") (ps:= ["_law_one"]) (st:=eN.v8) X G ?g329 ?g330 ?g331 ?g332;(case g329 | g330 | g331 | g332=>k_is);have' vN:=bT (x:= "_law_book_text") (ps:= ["_law_p_here","_law_stand"]) (st:=eN.mV) X G ?g333 ?g334 ?g335 ?g336;(case g333 | g334 | g335 | g336=>k_is);have' Vs:=bT (x:= "law") (ps:= ["_law_script"]) (st:=eN.G6) X G ?g337 ?g338 ?g339 ?g340;(case g337 | g338 | g339 | g340=>k_is);have' AE:=uf de "held" ?n_Book_held;(case n_Book_held=>k_is);have' Ce:=uf de "now" ?n_Book_now;(case n_Book_now=>k_is);have' JI:=uf de "p" ?n_Book_p;(case n_Book_p=>k_is);have' AD:=uf de "past" ?n_Book_past;(case n_Book_past=>k_is);have' vJ:=uf de "undone" ?n_Book_undone;(case n_Book_undone=>k_is);have' vI:=uf Cn "rounds" ?n_Page_rounds;(case n_Page_rounds=>k_is);have' yw:=uf Cn "teams" ?n_Page_teams;(case n_Page_teams=>k_is);have' FR:=jg (x:= "BadName") X G ?g349;(case g349=>k_is);have' Ms:=jg (x:= "InUse") X G ?g350;(case g350=>k_is);have' JO:=jg (x:= "NoCrew") X G ?g351;(case g351=>k_is);have' JN:=jg (x:= "NoDeed") X G ?g352;(case g352=>k_is);have' JM:=jg (x:= "NoMore") X G ?g353;(case g353=>k_is);have' FQ:=jg (x:= "NoRound") X G ?g354;(case g354=>k_is);have' FP:=jg (x:= "NoState") X G ?g355;(case g355=>k_is);have' Mr:=jg (x:= "Taken") X G ?g356;(case g356=>k_is);have' JK:=jg (x:= "TooFar") X G ?g357;(case g357=>k_is);have' FO:=jg (x:= "TooMany") X G ?g358;(case g358=>k_is);have' Ga:=i6 (x:= "BadName") X ?g359 ?g360 ?g361 ?g362 ?g363 ?g364 ?g365 ?g366;(case g359=>k_is);(case g360=>k_exc);(case g361 | g362 | g363 | g364 | g365 | g366=>k_is);have' MF:=i6 (x:= "InUse") X ?g367 ?g368 ?g369 ?g370 ?g371 ?g372 ?g373 ?g374;(case g367=>k_is);(case g368=>k_exc);(case g369 | g370 | g371 | g372 | g373 | g374=>k_is);have' J0:=i6 (x:= "NoCrew") X ?g375 ?g376 ?g377 ?g378 ?g379 ?g380 ?g381 ?g382;(case g375=>k_is);(case g376=>k_exc);(case g377 | g378 | g379 | g380 | g381 | g382=>k_is);have' JZ:=i6 (x:= "NoDeed") X ?g383 ?g384 ?g385 ?g386 ?g387 ?g388 ?g389 ?g390;(case g383=>k_is);(case g384=>k_exc);(case g385 | g386 | g387 | g388 | g389 | g390=>k_is);have' JY:=i6 (x:= "NoMore") X ?g391 ?g392 ?g393 ?g394 ?g395 ?g396 ?g397 ?g398;(case g391=>k_is);(case g392=>k_exc);(case g393 | g394 | g395 | g396 | g397 | g398=>k_is);have' F_:=i6 (x:= "NoRound") X ?g399 ?g400 ?g401 ?g402 ?g403 ?g404 ?g405 ?g406;(case g399=>k_is);(case g400=>k_exc);(case g401 | g402 | g403 | g404 | g405 | g406=>k_is);have' F':=i6 (x:= "NoState") X ?g407 ?g408 ?g409 ?g410 ?g411 ?g412 ?g413 ?g414;(case g407=>k_is);(case g408=>k_exc);(case g409 | g410 | g411 | g412 | g413 | g414=>k_is);have' ME:=i6 (x:= "Taken") X ?g415 ?g416 ?g417 ?g418 ?g419 ?g420 ?g421 ?g422;(case g415=>k_is);(case g416=>k_exc);(case g417 | g418 | g419 | g420 | g421 | g422=>k_is);have' JX:=i6 (x:= "TooFar") X ?g423 ?g424 ?g425 ?g426 ?g427 ?g428 ?g429 ?g430;(case g423=>k_is);(case g424=>k_exc);(case g425 | g426 | g427 | g428 | g429 | g430=>k_is);have' FZ:=i6 (x:= "TooMany") X ?g431 ?g432 ?g433 ?g434 ?g435 ?g436 ?g437 ?g438;(case g431=>k_is);(case g432=>k_exc);(case g433 | g434 | g435 | g436 | g437 | g438=>k_is)
 refine' ⟨⟨_,_,_,_,_,_,_,_,_,_,_,_,_,_,_,_,_,_,_,_,_,_,_,_,_,_,_,_,_,_,_,_,_,_,_,_,_,_,_,_,_,_,_,_,_,_,_,_,_,_,_,_,_,_,_,_,_,_,_,_,_,_,_,_,_,_,_,_,_,_,_,_,_,_,_,_,_,_,_,_,_,_,_,_,_,_,_,_,_,_,_,_,_,_,_,_,_,_,_,_,_,_,_,_,_,_,_,_,_,_,_,_,_,_,_,_,_,_,_,_,_,_,_,_,_,_,_,_,_,_,_,_,_,_,_,_,_,_,_,_,_,_,_,_,_,_,_,_,_,_,_,_,_,_,_,_⟩,bW X G ?g1,bW X G ?g2,bW X G ?g3,bW X G ?g4,bW X G ?g5,bW X G ?g6,bW X G ?g7,bW X G ?g8,bW X G ?g9,bW X G ?g10,bW X G ?g11,bW X G ?g12,bW X G ?g13,QS,MC,Mw,Mu,QT,JW,Cm,Ci,vK,AL,yB,yy,FS,Cn,de,sI,vc,Co,sK,sL,AQ,AO,ve,vh,sH,AT,yD,vg,vO,vf,AN,AR,AS,qC,yC,yE,sJ,vd,Mv,AM,FY,JR,Vt,FX,JQ,Mx,JS,JV,FU,AK,MA,JP,FT,vL,va,yA,MB,My,JU,vb,Cj,u9,vM,AJ,JT,Mz,u_,yz,Ck,FW,vN,Vs,AE,Ce,JI,AD,vJ,vI,yw,ut X G ?g341,ut X G ?g342,ut X G ?g343,ut X G ?g344,ut X G ?g345,OR X G ?g346,OJ X G ?g347 ?g348,FR,Ms,JO,JN,JM,FQ,FP,Mr,JK,FO,Ga,MF,J0,JZ,JY,F_,F',ME,JX,FZ,?g439,?g440,?g441,?g442,?g443,?g444,?g445,?g446,?g447,?g448,?g449,?g450,?g451,?g452,?g453,?g454,?g455,?g456,?g457,?g458,?g459,?g460,?g461,?g462,?g463,?g464,?g465,?g466⟩
 (case g1 | g2 | g3 | g4 | g5 | g6 | g7 | g8 | g9 | g10 | g11 | g12 | g13 | g341 | g342 | g343 | g344 | g345 | g346 | g347 | g348=>k_is);(case g439 | g440 | g441 | g442 | g443 | g444 | g445 | g446 | g447 | g448 | g449 | g450 | g451 | g452 | g453 | g454 | g455 | g456 | g457 | g458 | g459 | g460 | g461 | g462 | g463 | g464 | g465 | g466=>kit_is)
