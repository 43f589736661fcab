import PyProof.Rows.All
import Wide.All
import OpenK.AllK
import Wide.FinOn
import Lean
import PyProof.EqAt
import PyProof.EqKinds
import PyProof.TupleCall
import PyProof.NeKinds
import PyProof.SumAny
import PyProof.ConsumeS
import PyProof.WalkInts
import PyProof.Draws
import PyProof.EnumMake
import PyProof.Rows.Range3
import PyProof.MeetsStr
import KE.KDictLaws
import PyProof.Rows.CallKwBuiltin
import PyProof.DictItems
import KE.KPairComp
import PyProof.AttrMissHeap
import KE.KDictOf
import KE.KItemsList
import KE.KTryMore
import PyProof.StrBlockG
import PyProof.StrWalks
import PyProof.Rows.SortStr
import PyProof.Rows.SortKeyStr
import PySem.Challenge.RW_duskround_k45_crews_of_a_book
set_option linter.all false
set_option genSizeOf false
set_option genInjectivity false
abbrev cV:=@List
abbrev cW:=@PySem.Value
abbrev df:=@PySem.Shared
abbrev fP:=@Option
abbrev gL:=@PySem.Addr
abbrev kB:=@PyProof.Rows.Keyed
abbrev RQ:=@Array
abbrev RS:=@PySem.W.Frag
abbrev RV:=@PySem.Program
abbrev W4:=@PySem.World
abbrev X4:=@PySem.Heap
abbrev X5:=@PyProof.Rows.SortSt
abbrev X6:=@PySem.FuncData
abbrev X7:=@PySem.Around
def ai:=@List.length_map
def ak:=@if_neg
def am:=@if_pos
def ao:=@Nat.le_refl
def ar:=@PySem.Heap.get?_push_of_some
def au:=@PyProof.Rows.wpS_bind
def av:=@Nat.le_trans
def aw:=@PySem.wpAny_bind
def ay:=@Bool.false_eq_true
def aA:=@PyProof.Rows.wpS_pure
def aC:=@eq_true
def aF:=@decide_eq_false
def aG:=@List.getElem?_eq_getElem
def aH:=@List.getElem?_map
def aI:=@List.size_toArray
def aK:=@List.length_append
def aL:=@List.length_cons
def aN:=@List.map_cons
def aO:=@PySem.Heap.lt_size
def aR:=@List.mem_append_right
def aS:=@List.mem_cons
def aT:=@PySem.Heap.get?_push_size
def aV:=@Bool.not_true
def aX:=@PySem.wpAny_pure
def aZ:=@List.getElem?_append_right
def a4:=@List.map_map
def a5:=@Bool.false_ne_true
def a7:=@List.getElem?_append_left
def a_:=@List.mem_singleton
def be:=@List.mem_of_getElem?
def bf:=@Bool.not_false
def bg:=@Option.some.inj
def bh:=@List.mem_append
def bi:=@List.getElem?_eq_some_iff
def bj:=@PySem.F.plainAttrs_list
def bn:=@List.map_append
def bu:=@Nat.ne_of_lt
def bv:=@if_false
def bz:=@PySem.wpAny_mono
def bC:=@decide_eq_true
def bD:=@List.take_append_drop
def bF:=@Nat.lt_of_lt_of_le
def bG:=@Option.map_some
def bI:=@of_decide_eq_true
def bM:=@Array.toList_append
def bR:=@Option.isSome_map
def bT:=@PySem.W.mg_none_of
def bU:=@PySem.F.type_list_append
def bV:=@PySem.F.slot_list_append
def bW:=@List.pairwise_cons
def bX:=@if_true
def b0:=@List.append_assoc
def ca:=@Option.isSome_some
def cf:=@PyProof.Rows.wpS_forRange
def ci:=@PySem.W.kia_one
def cj:=@List.length_take
def cD:=@PySem.wpAny_truthy_bool
def cE:=@List.find?_cons
def cI:=@Bool.and_eq_true
def cX:=@Option.isSome_none
def cZ:=@Nat.zero_le
def c4:=@List.pairwise_append
def c5:=@List.mem_cons_of_mem
def c6:=@List.getElem?_replicate
def dc:=@decide_eq_true_eq
def de:=@Ne.symm
def dg:=@PySem.mem_of_lookup
def dh:=@Array.length_toList
def dm:=@decide_true
def dn:=@List.append_nil
def du:=@List.perm_append_comm
inductive cx {T0 T1:Type}(P:T0 ->T1 ->Prop):Prop | mk (x0:T0) (x1:T1) (h:P x0 x1):cx P
inductive dQ {T0 T1 T2:Type}(P:T0 ->T1 ->T2 ->Prop):Prop | mk (x0:T0) (x1:T1) (x2:T2) (h:P x0 x1 x2):dQ P
inductive gb {T0 T1 T2 T3:Type}(P:T0 ->T1 ->T2 ->T3 ->Prop):Prop | mk (x0:T0) (x1:T1) (x2:T2) (x3:T3) (h:P x0 x1 x2 x3):gb P
inductive vx {T0 T1 T2 T3 T4:Type}(P:T0 ->T1 ->T2 ->T3 ->T4 ->Prop):Prop | mk (x0:T0) (x1:T1) (x2:T2) (x3:T3) (x4:T4) (h:P x0 x1 x2 x3 x4):vx P
inductive Td {T0 T1 T2 T3 T4 T5:Type}(P:T0 ->T1 ->T2 ->T3 ->T4 ->T5 ->Prop):Prop | mk (x0:T0) (x1:T1) (x2:T2) (x3:T3) (x4:T4) (x5:T5) (h:P x0 x1 x2 x3 x4 x5):Td P
inductive Tc {T0 T1 T2 T3 T4 T5 T6:Type}(P:T0 ->T1 ->T2 ->T3 ->T4 ->T5 ->T6 ->Prop):Prop | mk (x0:T0) (x1:T1) (x2:T2) (x3:T3) (x4:T4) (x5:T5) (x6:T6) (h:P x0 x1 x2 x3 x4 x5 x6):Tc P
inductive XE8 {T0 T1 T2 T3 T4 T5 T6 T7:Type}(P:T0 ->T1 ->T2 ->T3 ->T4 ->T5 ->T6 ->T7 ->Prop):Prop | mk (x0:T0) (x1:T1) (x2:T2) (x3:T3) (x4:T4) (x5:T5) (x6:T6) (x7:T7) (h:P x0 x1 x2 x3 x4 x5 x6 x7):XE8 P
inductive cT (P0 P1 P2:Prop):Prop | mk (Sy:P0) (Sx:P1) (Sw:P2):cT P0 P1 P2
inductive eT (P0 P1 P2 P3:Prop):Prop | mk (Sy:P0) (Sx:P1) (Sw:P2) (UT:P3):eT P0 P1 P2 P3
inductive fS (P0 P1 P2 P3 P4:Prop):Prop | mk (Sy:P0) (Sx:P1) (Sw:P2) (UT:P3) (XT:P4):fS P0 P1 P2 P3 P4
inductive jX (P0 P1 P2 P3 P4 P5:Prop):Prop | mk (Sy:P0) (Sx:P1) (Sw:P2) (UT:P3) (XT:P4) (hP5:P5):jX P0 P1 P2 P3 P4 P5
inductive Kz (P0 P1 P2 P3 P4 P5 P6:Prop):Prop | mk (Sy:P0) (Sx:P1) (Sw:P2) (UT:P3) (XT:P4) (hP5:P5) (hP6:P6):Kz P0 P1 P2 P3 P4 P5 P6
inductive zy (P0 P1 P2 P3 P4 P5 P6 P7:Prop):Prop | mk (Sy:P0) (Sx:P1) (Sw:P2) (UT:P3) (XT:P4) (hP5:P5) (hP6:P6) (hP7:P7):zy P0 P1 P2 P3 P4 P5 P6 P7
set_option Elab.async false
set_option maxRecDepth 100000
set_option genSizeOf false
set_option genInjectivity false
local macro_rules | `(∅) => `(by lia)
local macro_rules | `(⇑$x) => `(by simpa using $x)
set_option compiler.extract_closed false
noncomputable section
local macro_rules|`(⋯)=>`(by decide)
local macro_rules|`(tactic|symm)=>`(tactic|constructor)
local macro_rules|`(tactic|exact $e)=>`(tactic|refine $e)
local macro_rules|`(tactic|show $e)=>`(tactic|refine $e)
local macro_rules|`(def $i $s:optDeclSig:=by $v)=>do let d:=Lean.mkNode ``Lean.Parser.Command.declSig #[s.raw[0],s.raw[1][0]];`(theorem $i $(⟨d⟩):declSig:=by $v)|`(def $i $s:optDeclSig $v:declVal)=>`(noncomputable def $i $s:optDeclSig $v:declVal)|`(abbrev $i $s:optDeclSig $v:declVal)=>`(noncomputable abbrev $i $s:optDeclSig $v:declVal)
local macro_rules|`(tactic|let $p:term$[:$t]?:=$e)=>do let r:=p.raw.rewriteBottomUp (λs=>let k:=s.getKind;if s.isIdent then Lean.mkNode `Lean.Parser.Tactic.rcasesPat.one #[s] else if k==`Lean.Parser.Term.hole then Lean.mkNode `Lean.Parser.Tactic.rcasesPat.ignore s.getArgs else if k==`Lean.Parser.Term.anonymousCtor then Lean.mkNode `Lean.Parser.Tactic.rcasesPat.tuple (s.getArgs.modify 1 λa=>.node .none `null (a.getArgs.map λq=>if q.isAtom then q else Lean.mkNode `Lean.Parser.Tactic.rcasesPatLo #[Lean.mkNode `Lean.Parser.Tactic.rcasesPatMed #[Lean.mkNullNode #[q]],Lean.mkNullNode])) else s);`(tactic|obtain $(⟨Lean.mkNode `Lean.Parser.Tactic.rcasesPatMed #[Lean.mkNullNode #[r]]⟩):rcasesPatMed$[:$t]?:=$e)
local macro_rules|`(tactic|simp![$x,*]$[$l]?)=>`(tactic|simp only[$x,*]$[$l]?)
local macro_rules|`(#[$x,$y])=>`(⟨$x,$y⟩)|`(#[$x,$y,$z,*])=>`(⟨$x,$y,$z,*⟩)
namespace TS
open PySem PyProof.Rows
def LE (less:kB ->kB ->Bool)(x y:kB):Prop:=less y x=false
structure Ord (less:Keyed ->Keyed ->Bool):Prop where
 S_: ∀x y,less x y=true ->less y x=false
 trans: ∀x y z,LE less x y ->LE less y z ->LE less x z
section
variable {less:kB ->kB ->Bool}
def Ord.refl (O:Ord less)(x:kB):LE less x x:=by
 unfold LE;cases h:less x x with
 | false=>rfl
 | true=>show(O.S_ x x h).symm.trans h▸rfl
theorem Ord.le (O:Ord less){x y:kB}(h:less x y=true):LE less x y:=O.S_ x y h
def Ord.RL (O:Ord less){x y z:kB}(h:LE less x y)(h':less y z=true):less x z=true:=by
 cases e:less x z with
 | true=>rfl
 | false=>have:=O.trans z x y e h;unfold LE at this;rw[h'] at this;cases this
end
def cy (xs:RQ kB)(i:Nat):kB:=(xs[i]?).getD (.none, .none)
def Hw {xs:RQ kB}{i:Nat}(h:i<xs.size):xs[i]? =some (cy xs i):=by unfold cy;rw[getElem?_pos xs i h];rfl
def jf {xs ys:RQ kB}{i j:Nat}(h:xs[i]? =ys[j]?):cy xs i=cy ys j:=by unfold cy;rw[h]
def wJ {xs:RQ kB}{i:Nat}(h:i<xs.size):cy xs i∈xs.toList:=by unfold cy;rw[getElem?_pos xs i h];simp
def Sg (less:kB ->kB ->Bool)(xs:RQ kB)(lo hi:Nat):Prop:= ∀i j,lo<=i ->i<=j ->j<hi ->LE less (cy xs i) (cy xs j)
def Ng (less:kB ->kB ->Bool)(xs:RQ kB)(lo hi:Nat):Prop:= ∀i j,lo<=i ->i<=j ->j<hi ->LE less (cy xs j) (cy xs i)
structure SB (kd:SortKind)(a₀:Array Keyed)(st:SortSt):Prop where
 perm:(arrOf st).Perm a₀
 kd:kindOf st=kd
 fl:failedOf st=none
theorem SB.size {kd:SortKind}{a₀:RQ kB}{st:X5}(h:SB kd a₀ st):(arrOf st).size=a₀.size:=h.perm.size_eq
theorem SB.mem {kd:SortKind}{a₀:RQ kB}{st:X5}(h:SB kd a₀ st){i:Nat}(hi:i<a₀.size):cy (arrOf st) i∈a₀.toList:=(Array.perm_iff_toList_perm.mp h.perm).mem_iff.mp (wJ (by rw[h.size];show hi))
theorem SB.arr {kd:SortKind}{a₀:RQ kB}{st:X5}(h:SB kd a₀ st){xs:RQ kB}(hp:xs.Perm (arrOf st)):SB kd a₀ (setArr st xs):=#[hp.trans h.perm,h.kd,h.fl]
def gU (prog:RV)(w:W4)(A:X7)(E:cW ->df ->Prop)(s:df)(kd:SortKind)(a₀:RQ kB)(less:kB ->kB ->Bool):Prop:=∀ (x y:kB) (st:X5) (Q:fP Bool ->X5 ->Prop),x∈a₀.toList ->y∈a₀.toList ->kindOf st=kd ->Q (some (less x y)) st ->wpS (model prog w) A E s (lt' x y) Q st
section
variable {prog:RV}{w:W4}{A:X7}{E:cW ->df ->Prop}{s:df}{kd:SortKind}{a₀:RQ kB}{less:kB ->kB ->Bool}
def wp_elem {xs:RQ kB}{i:Nat}{Q:kB ->X5 ->Prop}{st:X5}(hi:i<xs.size)(h:Q (cy xs i) st):wpS (model prog w) A E s (elem' xs i) Q st:=by rw[elem'_eq,Hw hi];show aA h
def wp_lt (L:gU prog w A E s kd a₀ less){st:X5}{i j:Nat}{Q:fP Bool ->X5 ->Prop}(B:SB kd a₀ st)(hi:i<a₀.size)(hj:j<a₀.size) (h:Q (some (less (cy (arrOf st) i) (cy (arrOf st) j))) st):wpS (model prog w) A E s (ltAt' i j) Q st:=by rw[ltAt'_eq];exact au (wpS_get ?_);show au (wp_elem (by rw[B.size];show hi) (au (wp_elem (by rw[B.size];show hj) (L _ _ _ _ (B.mem hi) (B.mem hj) B.kd h))))
def wp_rev {st:X5}{i j:Nat}{Q:Unit ->X5 ->Prop}(h:Q () (setArr st (mirror (arrOf st) i j ((j - i) / 2)))):wpS (model prog w) A E s (reverseSlice' i j) Q st:=by rw[reverseSlice'_eq];show wpS_modify h
def dN {xs:RQ kB}{i j:Nat}(hj:j<=xs.size)(k:Nat):cy (mirror xs i j ((j - i) / 2)) k=if i<=k /\ k<j then cy xs (i+j - 1 - k) else cy xs k:=by have e:=getElem?_mirror_all (i:=i) hj k;by_cases c:i<=k /\ k<j;rw[am c] at e ⊢;show jf e;rw[ak c] at e ⊢;show jf e
def mq {xs:RQ kB}{H_ d:Nat}(hs:H_<xs.size)(hd:d<=H_)(k:Nat):cy (bubble xs H_ d) k=if k=H_ - d then cy xs H_ else if H_ - d<k /\ k<=H_ then cy xs (k - 1) else cy xs k:=by have e:=getElem?_bubble hs d hd k;by_cases c:k=H_ - d;rw[am c] at e ⊢;show jf e;rw[ak c] at e ⊢;by_cases c':H_ - d<k /\ k<=H_;rw[am c'] at e ⊢;show jf e;rw[ak c'] at e ⊢;show jf e
def Hx (lo a dj:Nat):StateT X5 Sem AscSt:=forIn [a:dj] ((none,a):AscSt) λ_ c=>do
 let x <- ltAt' (lo+c.snd) (lo+c.snd - 1)
 match x with
 | some b=>if b=true then pure (ForInStep.done (none,c.snd)) else pure (ForInStep.yield (none,c.snd+1))
 | _=>pure (ForInStep.done (some none,c.snd))
def xm (lo n dj:Nat):StateT X5 Sem (fP Nat):=do
 reverseSlice' lo (lo+n)
 let c <- Hx lo n dj
 match c.fst with
 | some r=>pure r
 | none=>pure (some c.snd)
def Ct (lo n dj:Nat):StateT X5 Sem DescSt:=forIn [n:dj] ((none,n,0):DescSt) λ_ c=>do
 let x <- ltAt' (lo+c.snd.fst) (lo+c.snd.fst - 1)
 match x with
 | some b=>
  if b=true then
   if c.snd.snd >0 then do
    reverseSlice' (lo+c.snd.fst - (c.snd.snd+1)) (lo+c.snd.fst)
    pure (ForInStep.yield (none,c.snd.fst+1,0))
   else pure (ForInStep.yield (none,c.snd.fst+1,0))
  else do
   let y <- ltAt' (lo+c.snd.fst - 1) (lo+c.snd.fst)
   match y with
   | some d=>
    if d=true then pure (ForInStep.done (none,c.snd.fst,c.snd.snd))
    else pure (ForInStep.yield (none,c.snd.fst+1,c.snd.snd+1))
   | _=>pure (ForInStep.done (some none,c.snd.fst,c.snd.snd))
 | _=>pure (ForInStep.done (some none,c.snd.fst,c.snd.snd))
def xO (lo n dj:Nat):StateT X5 Sem (fP Nat):=do
 liftM (rule "list.sort.descending-run")
 let c <- Ct lo (n+1) dj
 match c.fst with
 | some r=>pure r
 | none=>
  if c.snd.snd >0 then do
   reverseSlice' (lo+c.snd.fst - (c.snd.snd+1)) (lo+c.snd.fst)
   xm lo c.snd.fst dj
  else xm lo c.snd.fst dj
theorem Jd (lo dj:Nat):countRun' lo dj=(do
  let c <- Hx lo 1 dj
  match c.fst with
  | some r=>pure r
  | none =>
   if(c.snd==dj)=true then pure (some c.snd)
   else if c.snd >1 then do
    let x <- ltAt' lo (lo+c.snd - 1)
    match x with
    | some b=>if b=true then pure (some c.snd) else do
     reverseSlice' lo (lo+c.snd)
     xO lo c.snd dj
    | _=>pure none
   else xO lo c.snd dj):=by
 rw[countRun'_eq]
 dsimp only
 unfold xO xm Ct Hx
 congr 1
 funext c
 let⟨r,n⟩:=c
 cases r with
 | some r=>rfl
 | none =>
  dsimp only;split;rfl;split;congr 1;funext x;cases x with
  | none=>rfl
  | some b=>
   dsimp only;split;rfl;congr 1;funext _r;congr 1;funext _u;congr 1;congr 1;funext s2;let⟨r2,n2,q2⟩:=s2;cases r2 with
   | some r2=>rfl
   | none=>dsimp only;split;congr 1;funext _v;congr 1;funext _w;congr 1;funext s3;let⟨r3,n3⟩:=s3;cases r3<;>rfl;congr 1;funext _w;congr 1;funext s3;let⟨r3,n3⟩:=s3;cases r3<;>rfl
  congr 1;funext _u;congr 1;congr 1;funext s2;let⟨r2,n2,q2⟩:=s2;cases r2 with
  | some r2=>rfl
  | none=>dsimp only;split;congr 1;funext _v;congr 1;funext _w;congr 1;funext s3;let⟨r3,n3⟩:=s3;cases r3<;>rfl;congr 1;funext _w;congr 1;funext s3;let⟨r3,n3⟩:=s3;cases r3<;>rfl
def qP (lo hi:Nat)(xs ys:RQ kB):Prop:= ∀k,k<lo \/ hi<=k ->cy ys k=cy xs k
theorem qP.refl {lo hi:Nat}{xs:RQ kB}:qP lo hi xs xs:=λ_ _=>rfl
theorem qP.trans {lo hi:Nat}{xs ys zs:RQ kB}(a:qP lo hi xs ys)(b:qP lo hi ys zs):qP lo hi xs zs:=λk h=>(b k h).trans (a k h)
def wp_ascL (O:Ord less)(L:gU prog w A E s kd a₀ less){st:X5}{lo a dj:Nat}{Q:AscSt ->X5 ->Prop}(hn:lo+dj<=a₀.size)(ha:1<=a)(han:a<=dj)(B:SB kd a₀ st) (hs:Sg less (arrOf st) lo (lo+a)) (h: ∀n,a<=n ->n<=dj ->Sg less (arrOf st) lo (lo+n) ->(n=dj \/ less (cy (arrOf st) (lo+n)) (cy (arrOf st) (lo+n - 1))=true) ->Q (none,n) st): wpS (model prog w) A E s (Hx lo a dj) Q st:=by
 unfold Hx;exact cf (I:=λx c bE=>bE=st /\ c=(none,x) /\ Sg less (arrOf st) lo (lo+x)) ?step ?fin #[rfl,rfl,hs];case fin=>
  rintro c bE ⟨rfl,rfl,fZ⟩
  rw[show max a dj=dj by lia] at fZ ⊢
  show h dj han (ao _) fZ (.inl rfl)
 case step=>
  rintro x c bE XQ hxn ⟨rfl,rfl,fZ⟩
  dsimp only
  exact au (wp_lt L B ∅ ∅ ?_)
  cases e:less (cy (arrOf bE) (lo+x)) (cy (arrOf bE) (lo+x - 1)) with
  | true=>simp![bX];show aA (h x XQ ∅ fZ (.inr e))
  | false=>simp![ay,bv];exact aA #[rfl,rfl,λi j hi jF hj=> ?_];by_cases c:j<lo+x;show fZ i j hi jF c;have:j=lo+x:= ∅;subst this;by_cases c2:i=lo+x;subst c2;show O.refl _;show O.trans _ _ _ (fZ i (lo+x - 1) hi ∅ ∅) e
def wp_tailL (O:Ord less)(L:gU prog w A E s kd a₀ less){st:X5}{lo n dj:Nat}{Q:fP Nat ->X5 ->Prop}(hn:lo+dj<=a₀.size)(h1:1<=n)(mh:n<=dj)(B:SB kd a₀ st) (hs:Ng less (arrOf st) lo (lo+n)) (h: ∀m bE,SB kd a₀ bE ->1<=m ->m<=dj ->Sg less (arrOf bE) lo (lo+m) ->pendingOf bE=pendingOf st ->qP lo (lo+dj) (arrOf st) (arrOf bE) ->Q (some m) bE): wpS (model prog w) A E s (xm lo n dj) Q st:=by
 unfold xm;have hsz:lo+n<=(arrOf st).size:=by rw[B.size];lia
 exact au (wp_rev ?_);have B':SB kd a₀ (setArr st (mirror (arrOf st) lo (lo+n) ((lo+n - lo) / 2))):=B.arr (mirror_perm _ _ _ _);exact au (wp_ascL O L hn h1 mh B' ?_ λm hm1 UQ hsm _=>aA (h m _ B' ∅ UQ hsm rfl ?_));intro i j hi jF hj;change LE less (cy (mirror (arrOf st) lo (lo+n) ((lo+n - lo) / 2)) i) (cy (mirror (arrOf st) lo (lo+n) ((lo+n - lo) / 2)) j);rw[dN hsz,dN hsz,am ∅,am ∅];show hs _ _ ∅ ∅ ∅;intro k hk;change cy (mirror (arrOf st) lo (lo+n) ((lo+n - lo) / 2)) k=_;rw[dN hsz,ak ∅]
def oH (O:Ord less){xs:RQ kB}{lo i m:Nat}(hj:m<=xs.size)(hli:lo<=i)(hs:Ng less xs lo m)(he: ∀k,i<=k ->k<m ->LE less (cy xs k) (cy xs (m - 1))):Ng less (mirror xs i m ((m - i) / 2)) lo m:=by intro a b ha Ce hb;rw[dN hj,dN hj];by_cases c1:i<=a;rw[am ∅,am ∅];exact O.trans _ _ _ (he (i+m - 1 - b) ∅ ∅) (hs _ _ ∅ ∅ ∅);rw[ak (show ¬(i<=a /\ a<m) by lia)];by_cases c2:i<=b;rw[am ∅];show hs _ _ ∅ ∅ ∅;rw[ak ∅];show hs _ _ ∅ ∅ ∅
theorem l9 {xs:RQ kB}{lo hi i j:Nat}(hj:j<=xs.size)(h1:lo<=i)(h2:j<=hi):qP lo hi xs (mirror xs i j ((j - i) / 2)):=λk hk=>by rw[dN hj,ak ∅]
def wp_descL (O:Ord less)(L:gU prog w A E s kd a₀ less){st:X5}{lo n dj:Nat}{Q:DescSt ->X5 ->Prop}(hn:lo+dj<=a₀.size)(h1:1<=n)(mh:n<=dj)(B:SB kd a₀ st) (hs:Ng less (arrOf st) lo (lo+n)) (h: ∀m uN bE,SB kd a₀ bE ->n<=m ->m<=dj ->Ng less (arrOf bE) lo (lo+m) ->uN+1<=m ->(∀i,lo+m - (uN+1) <=i ->i<lo+m ->LE less (cy (arrOf bE) i) (cy (arrOf bE) (lo+m - 1))) ->pendingOf bE=pendingOf st ->qP lo (lo+dj) (arrOf st) (arrOf bE) ->Q (none,m,uN) bE): wpS (model prog w) A E s (Ct lo n dj) Q st:=by
 unfold Ct;exact cf (I:=λx c bE=> ∃uN,Kz (c=(none,x,uN)) (SB kd a₀ bE) (Ng less (arrOf bE) lo (lo+x)) (uN+1<=x) (∀i,lo+x - (uN+1) <=i ->i<lo+x ->LE less (cy (arrOf bE) i) (cy (arrOf bE) (lo+x - 1))) (pendingOf bE=pendingOf st) (qP lo (lo+dj) (arrOf st) (arrOf bE))) ?step ?fin #[0,rfl,B,hs, ∅,λi h1 h2=>by rw[show i=lo+n - 1 by lia];show O.refl _,rfl,qP.refl];case fin=>
  rintro c bE ⟨uN,rfl,B',fZ,hq,he,hp,ho⟩
  rw[show max n dj=dj by lia] at fZ hq he ⊢
  show h dj uN bE B' mh (ao _) fZ hq he hp ho
 case step =>
  rintro x c bE XQ hxn ⟨uN,rfl,B',fZ,hq,he,hp,ho⟩
  dsimp only
  have hsz:lo+x<=(arrOf bE).size:=by rw[B'.size];lia
  exact au (wp_lt L B' ∅ ∅ ?_)
  cases e:less (cy (arrOf bE) (lo+x)) (cy (arrOf bE) (lo+x - 1)) with
  | true =>simp![bX];by_cases GI:uN >0;rw [am GI];exact au (wp_rev (aA #[0,rfl,B'.arr (mirror_perm _ _ _ _),?_, ∅,λi h1 h2=>by rw[show i=lo+(x+1) - 1 by lia];show O.refl _,hp,ho.trans (l9 hsz ∅ ∅)]));have hm:=oH O (i:=lo+x - (uN+1)) hsz ∅ fZ he;intro i j hi jF hj;by_cases c:j<lo+x;show hm i j hi jF c;have:j=lo+x:= ∅;subst this;by_cases c2:i=lo+x;subst c2;show O.refl _;exact O.trans _ _ _ ?_ (hm i (lo+x - 1) hi ∅ ∅);change LE less (cy (mirror (arrOf bE) (lo+x - (uN+1)) (lo+x) ((lo+x - (lo+x - (uN+1))) / 2)) (lo+x)) (cy (mirror (arrOf bE) (lo+x - (uN+1)) (lo+x) ((lo+x - (lo+x - (uN+1))) / 2)) (lo+x - 1));rw[dN hsz,dN hsz,ak ∅,am ∅];show O.trans _ _ _ (O.le e) (fZ _ _ ∅ ∅ ∅);rw[ak GI];exact aA #[0,rfl,B',λi j hi jF hj=> ?_, ∅,λi h1 h2=>by rw[show i=lo+(x+1) - 1 by lia];show O.refl _,hp,ho];by_cases c:j<lo+x;show fZ i j hi jF c;have:j=lo+x:= ∅;subst this;by_cases c2:i=lo+x;subst c2;show O.refl _;show O.trans _ _ _ (O.le e) (fZ i (lo+x - 1) hi ∅ ∅)
  | false =>
   simp![ay,bv];exact au (wp_lt L B' ∅ ∅ ?_);cases e2:less (cy (arrOf bE) (lo+x - 1)) (cy (arrOf bE) (lo+x)) with
   | true=>simp![bX];show aA (h x uN bE B' XQ ∅ fZ hq he hp ho)
   | false=>simp![ay,bv];exact aA #[uN+1,rfl,B',λi j hi jF hj=> ?_, ∅,λi h1 h2=> ?_,hp,ho];by_cases c:j<lo+x;show fZ i j hi jF c;have:j=lo+x:= ∅;subst this;by_cases c2:i=lo+x;subst c2;show O.refl _;show O.trans _ _ _ e2 (fZ i (lo+x - 1) hi ∅ ∅);rw[show lo+(x+1) - 1=lo+x by lia];by_cases c:i=lo+x;subst c;show O.refl _;show O.trans _ _ _ (he i ∅ ∅) e
def wp_partL (O:Ord less)(L:gU prog w A E s kd a₀ less){st:X5}{lo n dj:Nat}{Q:fP Nat ->X5 ->Prop}(hn:lo+dj<=a₀.size)(mh:n+1<=dj)(B:SB kd a₀ st) (hs:Ng less (arrOf st) lo (lo+(n+1))) (h: ∀m bE,SB kd a₀ bE ->1<=m ->m<=dj ->Sg less (arrOf bE) lo (lo+m) ->pendingOf bE=pendingOf st ->qP lo (lo+dj) (arrOf st) (arrOf bE) ->Q (some m) bE): wpS (model prog w) A E s (xO lo n dj) Q st:=by
 unfold xO;exact au (wpS_lift (wpAny_rule #[rfl,?_]));exact au (wp_descL O L hn ∅ mh B hs λm uN bE B' hm1 UQ fZ hq he hp ho=> ?_);dsimp only;have hsz:lo+m<=(arrOf bE).size:=by rw[B'.size];lia
 by_cases GI:uN >0;rw[am GI];exact au (wp_rev (wp_tailL O L hn ∅ UQ (B'.arr (mirror_perm _ _ _ _)) (oH O hsz ∅ fZ he) λm2 mK b1 b2 b3 b4 b5 b6=>h m2 mK b1 b2 b3 b4 (b5.trans hp) (ho.trans ((l9 hsz ∅ ∅).trans b6))));rw[ak GI];show wp_tailL O L hn ∅ UQ B' fZ λm2 mK b1 b2 b3 b4 b5 b6=>h m2 mK b1 b2 b3 b4 (b5.trans hp) (ho.trans b6)
def wp_run (O:Ord less)(L:gU prog w A E s kd a₀ less){st:X5}{lo dj:Nat}{Q:fP Nat ->X5 ->Prop}(hn:lo+dj<=a₀.size)(h1:1<=dj)(B:SB kd a₀ st) (h: ∀m bE,SB kd a₀ bE ->1<=m ->m<=dj ->Sg less (arrOf bE) lo (lo+m) ->pendingOf bE=pendingOf st ->qP lo (lo+dj) (arrOf st) (arrOf bE) ->Q (some m) bE): wpS (model prog w) A E s (countRun' lo dj) Q st:=by
 rw[Jd];exact au (wp_ascL O L hn (ao 1) h1 B (λi j hi jF hj=>by rw[show i=j by lia];show O.refl _) λn L' DG R8 hor=> ?_);dsimp only;by_cases mh:n=dj;rw[am ⇑mh];show aA (h n st B L' DG R8 rfl qP.refl);rw [ak ⇑mh];have lD:=hor.resolve_left mh;have hsz:lo+n<=(arrOf st).size:=by rw[B.size];lia
 by_cases hgt:n >1;rw [am hgt];exact au (wp_lt L B ∅ ∅ ?_);cases e:less (cy (arrOf st) lo) (cy (arrOf st) (lo+n - 1)) with
 | true=>simp![bX];show aA (h n st B L' DG R8 rfl qP.refl)
 | false=>simp![ay,bv];have hng:Ng less (arrOf st) lo (lo+n):=λi j hi jF hj=>O.trans _ _ _ (O.trans _ _ _ (R8 j (lo+n - 1) ∅ ∅ ∅) e) (R8 lo i (ao _) hi ∅);exact au (wp_rev (wp_partL O L hn ∅ (B.arr (mirror_perm _ _ _ _)) ?_ λm2 mK b1 b2 b3 b4 b5 b6=>h m2 mK b1 b2 b3 b4 b5 ((l9 hsz ∅ ∅).trans b6)));have hm:=oH O (i:=lo) hsz (ao _) hng λk _ _=>R8 k (lo+n - 1) ∅ ∅ ∅;intro i j hi jF hj;by_cases c:j<lo+n;show hm i j hi jF c;have:j=lo+n:= ∅;subst this;by_cases c2:i=lo+n;subst c2;show O.refl _;exact O.trans _ _ _ ?_ (hm i (lo+n - 1) hi ∅ ∅);change LE less (cy (mirror (arrOf st) lo (lo+n) ((lo+n - lo) / 2)) (lo+n)) (cy (mirror (arrOf st) lo (lo+n) ((lo+n - lo) / 2)) (lo+n - 1));rw[dN hsz,dN hsz,ak ∅,am ∅];show O.trans _ _ _ (O.le lD) (hng _ _ ∅ ∅ ∅)
 rw[ak hgt];have Xv:n=1:= ∅;subst Xv;exact wp_partL O L hn ∅ B (λi j hi jF hj=> ?_) h;by_cases c:i=j;subst c;show O.refl _;rw[show i=lo+1 - 1 by lia,show j=lo+1 by lia];show O.le lD
def wp_bin (O:Ord less)(L:gU prog w A E s kd a₀ less){st:X5}{lo n ok:Nat}{Q:Bool ->X5 ->Prop}(hn:lo+n<=a₀.size)(cS:ok<=n)(B:SB kd a₀ st)(hs:Sg less (arrOf st) lo (lo+ok)) (h: ∀bE,SB kd a₀ bE ->Sg less (arrOf bE) lo (lo+n) ->pendingOf bE=pendingOf st ->qP lo (lo+n) (arrOf st) (arrOf bE) ->Q true bE):wpS (model prog w) A E s (binarySort' lo n ok) Q st:=by
 rw[binarySort'_eq];exact au (wpS_mono (cf (I:=λk c bE=>c=(none,()) /\ SB kd a₀ bE /\ Sg less (arrOf bE) lo (lo+min k n) /\ pendingOf bE=pendingOf st /\ qP lo (lo+n) (arrOf st) (arrOf bE)) (Q:=λc bE=>c=(none,()) /\ SB kd a₀ bE /\ Sg less (arrOf bE) lo (lo+n) /\ pendingOf bE=pendingOf st /\ qP lo (lo+n) (arrOf st) (arrOf bE)) ?step ?fin ?init) ?post);case post=>
  rintro c bE ⟨rfl,B',fZ,hp,ho⟩
  show aA (h bE B' fZ hp ho)
 case init=>
  exact#[rfl,B,λi j hi jF hj=> ?_,rfl,qP.refl]
  by_cases c:ok=0
  rw[show i=j by lia];show O.refl _
  show hs i j hi jF ∅
 case fin=>
  rintro c bE ⟨hc,B',fZ,hp,ho⟩
  exact#[hc,B',?_,hp,ho]
  rwa [show min (max (max ok 1) n) n=n by lia] at fZ
 case step=>
  rintro k c bE hak hkn ⟨rfl,B',fZ,hp,ho⟩
  rw[show min k n=k by lia] at fZ
  have hk:lo+k<a₀.size:= ∅
  exact au (wpS_mono (cf (I:=λx c fk=>fk=bE /\ cx λl r=>jX (c=(none,l,r)) (l<=r) (r<=k) (r - l<=k - x) (∀i,i<l ->LE less (cy (arrOf bE) (lo+i)) (cy (arrOf bE) (lo+k))) (∀i,r<=i ->i<k ->LE less (cy (arrOf bE) (lo+k)) (cy (arrOf bE) (lo+i)))) (Q:=λc fk=>fk=bE /\ cx λl r=>eT (c=(none,l,r)) (l<=k) (∀i,i<l ->LE less (cy (arrOf bE) (lo+i)) (cy (arrOf bE) (lo+k))) (∀i,l<=i ->i<k ->LE less (cy (arrOf bE) (lo+k)) (cy (arrOf bE) (lo+i)))) ?istep ?ifin ?iinit) ?ipost)
  case iinit=>show#[rfl,0,k,rfl, ∅, ∅, ∅,λi hi=> ∅,λi h1 h2=> ∅]
  case ifin=>
   rintro c fk ⟨rfl,l,r,rfl,Sh,Xg,hm,Oj,Po⟩
   have:l=r:= ∅
   subst this
   show#[rfl,l,l,rfl,Xg,Oj,Po]
  case istep=>
   rintro x c fk _ hxk ⟨rfl,l,r,rfl,Sh,Xg,hm,Oj,Po⟩
   dsimp only
   by_cases XF:l≥r
   rw[am XF]
   have:l=r:= ∅
   subst this
   show aA #[rfl,l,l,rfl,Xg,Oj,Po]
   rw[ak XF]
   exact au (wp_lt L B' hk ∅ ?_)
   cases e:less (cy (arrOf fk) (lo+k)) (cy (arrOf fk) (lo+(l+r) / 2)) with
   | true=>simp![bX];exact aA #[rfl,l,(l+r) / 2,rfl, ∅, ∅, ∅,Oj,λi h1 h2=> ?_];show O.trans _ _ _ (O.le e) (fZ _ _ ∅ ∅ ∅)
   | false=>simp![ay,bv];exact aA #[rfl,(l+r) / 2+1,r,rfl, ∅, ∅, ∅,λi h1=> ?_,Po];show O.trans _ _ _ (fZ (lo+i) (lo+(l+r) / 2) ∅ ∅ ∅) e
  case ipost=>
   rintro c fk ⟨rfl,l,r,rfl,hlk,Oj,Po⟩
   change wpS _ _ _ _ (do moveDown' (lo+k) (lo+l);pure (ForInStep.yield (none,()))) _ _
   rw[moveDown'_eq]
   have Xz:lo+k< (arrOf fk).size:=by rw[B'.size];show hk
   exact au (wpS_modify (aA #[rfl,B'.arr (bubble_perm _ _ _),?_,hp,ho.trans λj hj=> ?_]))
   .rw[show min (k+1) n=k+1 by lia];intro i j hi jF hj;change LE less (cy (bubble (arrOf fk) (lo+k) (lo+k - (lo+l))) i) (cy (bubble (arrOf fk) (lo+k) (lo+k - (lo+l))) j);rw[mq Xz ∅,mq Xz ∅,show lo+k - (lo+k - (lo+l))=lo+l by lia];have Xx: ∀i,lo<=i ->i<lo+l ->LE less (cy (arrOf fk) i) (cy (arrOf fk) (lo+k)):=λi h1 h2=>by have:=Oj (i - lo) ∅;rwa [show lo+(i - lo)=i by lia] at this
    have XE: ∀i,lo+l<=i ->i<lo+k ->LE less (cy (arrOf fk) (lo+k)) (cy (arrOf fk) i):=λi h1 h2=>by have:=Po (i - lo) ∅ ∅;rwa [show lo+(i - lo)=i by lia] at this
    repeat' split
    all_goals first
    | (exfalso;lia)
    | show O.refl _
    | show Xx _ ∅ ∅
    | show XE _ ∅ ∅
    | show fZ _ _ ∅ ∅ ∅
   change cy (bubble (arrOf fk) (lo+k) (lo+k - (lo+l))) j=_
   rw[mq Xz ∅,ak ∅,ak ∅]
end
def Kd:Bool ->kB ->RQ kB ->Nat ->Nat ->Nat ->StateT X5 Sem (fP Nat):=sortPriv% PySem.Builtin.gallop
def Wz:RQ kB ->RQ kB ->StateT X5 Sem (RQ kB):=sortPriv% PySem.Builtin.mergeLo
def WB:RQ kB ->RQ kB ->StateT X5 Sem (RQ kB):=sortPriv% PySem.Builtin.mergeHi
abbrev cK (st:X5)(g:Nat):X5:=SortSt.mk' (kindOf st) (arrOf st) (pendingOf st) g (failedOf st)
def bey (left:Bool)(key:kB)(arr:RQ kB)(base i:Nat):StateT X5 Sem (fP Bool):=do
 let x <- elem' arr (base+i)
 if left then lt' x key else return(<- lt' key x).map (!·)
section
variable {prog:RV}{w:W4}{A:X7}{E:cW ->df ->Prop}{s:df}{kd:SortKind}{a₀:RQ kB}{less:kB ->kB ->Bool}
def wp_gal0 {st:X5}{left:Bool}{key:kB}{arr:RQ kB}{base n e7:Nat}{Q:fP Nat ->X5 ->Prop}(Bf:Nat ->Bool)(hh:e7<n) (hb: ∀i,i<n -> ∀Q':fP Bool ->X5 ->Prop,Q' (some (Bf i)) st ->wpS (model prog w) A E s (bey left key arr base i) Q' st) (mono: ∀i j,i<=j ->j<n ->Bf j=true ->Bf i=true) (h: ∀k,k<=n ->(∀i,i<k ->Bf i=true) ->(∀i,k<=i ->i<n ->Bf i=false) ->Q (some k) st): wpS (model prog w) A E s (Kd left key arr base n e7) Q st:=by
 have BN: ∀i j,i<=j ->j<n ->Bf i=false ->Bf j=false:=λi j jF hj e=>by
  cases e2:Bf j with
  | false=>rfl
  | true=>rw[mono i j jF hj e2] at e;cases e
 exact au (hb e7 hh _ ?_);dsimp only;cases hB:Bf e7 with
 | true =>
  simp![bX];exact au (wpS_mono (cf (I:=λi c bE=>bE=st /\ cx λla f=>fS (c=(none,la,f)) (i+1<=f) (la<f) (e7+la<n) (Bf (e7+la)=true)) (Q:=λc bE=>bE=st /\ cx λla f=>fS (c=(none,la,f)) (la<f) (e7+la<n) (Bf (e7+la)=true) (n - e7<=f \/ (e7+f<n /\ Bf (e7+f)=false))) ?_ ?_ #[rfl,0,1,rfl,by omega,by omega,by omega,hB]) ?_);rintro i c bE _ hi ⟨rfl,la,f,rfl,h1,h2,h3,h4⟩;dsimp only;by_cases c1:f≥n - e7;rw[am c1];show aA #[rfl,la,f,rfl,h2,h3,h4, .inl c1];rw[ak c1];exact au (hb _ (by omega) _ ?_);cases e:Bf (e7+f) with
  | true=>simp![aV,ay,bv];show aA #[rfl,f,2*f+1,rfl,by omega,by omega,by omega,e]
  | false=>simp![bf,bX];show aA #[rfl,la,f,rfl,h2,h3,h4, .inr #[by omega,e]]
  rintro c bE ⟨rfl,la,f,rfl,h1,h2,h3,h4⟩;show#[rfl,la,f,rfl,h2,h3,h4, .inl (by omega)];rintro c bE ⟨rfl,la,f,rfl,h2,h3,h4,h5⟩;dsimp only;exact au (wpS_mono (cf (I:=λi c fk=>fk=bE /\ cx λlo hi=>jX (c=(none,lo,hi)) (lo<=hi) (hi<=n) (hi - lo<=n - i) (∀i,i<lo ->Bf i=true) (∀i,hi<=i ->i<n ->Bf i=false)) (Q:=λc fk=>fk=bE /\ cx λlo hi=>eT (c=(none,lo,hi)) (hi<=n) (∀i,i<hi ->Bf i=true) (∀i,hi<=i ->i<n ->Bf i=false)) ?_ ?_ #[rfl,_,_,rfl,by omega,by omega,by omega,λi hi=>mono i (e7+la) (by omega) h3 h4,λi hi yq=> ?_]) ?_);rintro i c fk _ hi ⟨rfl,lo,pQ,rfl,g1,g2,g3,g4,g5⟩;dsimp only;by_cases c1:lo≥pQ;rw[am c1];have:lo=pQ:=by omega
  subst this;show aA #[rfl,_,_,rfl,g2,g4,g5];rw[ak c1];exact au (hb _ (by omega) _ ?_);cases e:Bf (lo+(pQ - lo) / 2) with
  | true=>simp![bX];show aA #[rfl,_,_,rfl,by omega,g2,by omega,λj hj=>mono j _ (by omega) (by omega) e,g5]
  | false=>simp![ay,bv];show aA #[rfl,_,_,rfl,by omega,by omega,by omega,g4,λj hj XB=>BN _ j hj XB e]
  rintro c fk ⟨rfl,lo,pQ,rfl,g1,g2,g3,g4,g5⟩;have:lo=pQ:=by omega
  subst this;show#[rfl,_,_,rfl,g2,g4,g5];obtain h5 | ⟨h5,h6⟩:=h5;omega;show BN (e7+f) i (by omega) yq h6;rintro c fk ⟨rfl,lo,pQ,rfl,g2,g4,g5⟩;show aA (h _ g2 g4 g5)
 | false =>
  simp![ay,bv];exact au (wpS_mono (cf (I:=λi c bE=>bE=st /\ cx λla f=>fS (c=(none,la,f)) (i+1<=f) (la<f) (la<=e7) (Bf (e7 - la)=false)) (Q:=λc bE=>bE=st /\ cx λla f=>fS (c=(none,la,f)) (la<f) (la<=e7) (Bf (e7 - la)=false) (e7+1<=f \/ (f<=e7 /\ Bf (e7 - f)=true))) ?_ ?_ #[rfl,0,1,rfl,by omega,by omega,by omega,hB]) ?_);rintro i c bE _ hi ⟨rfl,la,f,rfl,h1,h2,h3,h4⟩;dsimp only;by_cases c1:f≥e7+1;rw[am c1];show aA #[rfl,la,f,rfl,h2,h3,h4, .inl c1];rw[ak c1];exact au (hb _ (by omega) _ ?_);cases e:Bf (e7 - f) with
  | false=>simp![ay,bv];show aA #[rfl,f,2*f+1,rfl,by omega,by omega,by omega,e]
  | true=>simp![bX];show aA #[rfl,la,f,rfl,h2,h3,h4, .inr #[by omega,e]]
  rintro c bE ⟨rfl,la,f,rfl,h1,h2,h3,h4⟩;show#[rfl,la,f,rfl,h2,h3,h4, .inl (by omega)];rintro c bE ⟨rfl,la,f,rfl,h2,h3,h4,h5⟩;dsimp only;exact au (wpS_mono (cf (I:=λi c fk=>fk=bE /\ cx λlo hi=>jX (c=(none,lo,hi)) (lo<=hi) (hi<=n) (hi - lo<=n - i) (∀i,i<lo ->Bf i=true) (∀i,hi<=i ->i<n ->Bf i=false)) (Q:=λc fk=>fk=bE /\ cx λlo hi=>eT (c=(none,lo,hi)) (hi<=n) (∀i,i<hi ->Bf i=true) (∀i,hi<=i ->i<n ->Bf i=false)) ?_ ?_ #[rfl,_,_,rfl,by omega,by omega,by omega,λi hi=> ?_,λi hi yq=>BN (e7 - la) i (by omega) yq h4]) ?_);rintro i c fk _ hi ⟨rfl,lo,pQ,rfl,g1,g2,g3,g4,g5⟩;dsimp only;by_cases c1:lo≥pQ;rw[am c1];have:lo=pQ:=by omega
  subst this;show aA #[rfl,_,_,rfl,g2,g4,g5];rw[ak c1];exact au (hb _ (by omega) _ ?_);cases e:Bf (lo+(pQ - lo) / 2) with
  | true=>simp![bX];show aA #[rfl,_,_,rfl,by omega,g2,by omega,λj hj=>mono j _ (by omega) (by omega) e,g5]
  | false=>simp![ay,bv];show aA #[rfl,_,_,rfl,by omega,by omega,by omega,g4,λj hj XB=>BN _ j hj XB e]
  rintro c fk ⟨rfl,lo,pQ,rfl,g1,g2,g3,g4,g5⟩;have:lo=pQ:=by omega
  subst this;show#[rfl,_,_,rfl,g2,g4,g5];obtain h5 | ⟨h5,h6⟩:=h5;omega;show mono i (e7 - f) (by omega) (by omega) h6;rintro c fk ⟨rfl,lo,pQ,rfl,g2,g4,g5⟩;show aA (h _ g2 g4 g5)
def wp_galL (O:Ord less)(L:gU prog w A E s kd a₀ less){st:X5}{key:kB}{arr:RQ kB}{base n e7:Nat}{Q:fP Nat ->X5 ->Prop}(B:kindOf st=kd)(hk:key∈a₀.toList) (hm: ∀i,i<n ->base+i<arr.size /\ cy arr (base+i)∈a₀.toList) (hh:e7<n) (hs:Sg less arr base (base+n)) (h: ∀k,k<=n ->(∀i,i<k ->less (cy arr (base+i)) key=true) ->(∀i,k<=i ->i<n ->LE less key (cy arr (base+i))) ->Q (some k) st): wpS (model prog w) A E s (Kd true key arr base n e7) Q st:=by exact wp_gal0 (λi=>less (cy arr (base+i)) key) hh (λi hi Q' hq=> ?_) (λi j jF hj e=>O.RL (hs (base+i) (base+j) (by omega) (by omega) (by omega)) e) h;unfold bey;exact au (wp_elem (hm i hi).1 ?_);simp![bX];show L _ _ _ _ (hm i hi).2 hk B hq
def wp_galR (O:Ord less)(L:gU prog w A E s kd a₀ less){st:X5}{key:kB}{arr:RQ kB}{base n e7:Nat}{Q:fP Nat ->X5 ->Prop}(B:kindOf st=kd)(hk:key∈a₀.toList) (hm: ∀i,i<n ->base+i<arr.size /\ cy arr (base+i)∈a₀.toList) (hh:e7<n) (hs:Sg less arr base (base+n)) (h: ∀k,k<=n ->(∀i,i<k ->LE less (cy arr (base+i)) key) ->(∀i,k<=i ->i<n ->less key (cy arr (base+i))=true) ->Q (some k) st): wpS (model prog w) A E s (Kd false key arr base n e7) Q st:=by exact wp_gal0 (λi=> !less key (cy arr (base+i))) hh (λi hi Q' hq=> ?_) (λi j jF hj e=> ?_) (λk h1 h2 h3=>h k h1 (λi hi=> ?_) λi h4 h5=> ?_);unfold bey;exact au (wp_elem (hm i hi).1 ?_);simp![ay,bv];show au (L _ _ _ _ hk (hm i hi).2 B (aA hq));simp![Bool.not_eq_true'] at e ⊢;show O.trans _ _ _ (hs (base+i) (base+j) (by omega) (by omega) (by omega)) e;have:=h2 i hi;simp![Bool.not_eq_true'] at this;show this;have:=h3 i h4 h5;simpa using this
end
structure MI (less:Keyed ->Keyed ->Bool)(al bl o:List Keyed)(i j:Nat):Prop where
 pm:o.Perm (al.take i++bl.take j)
 so:o.Pairwise (LE less)
 ba: ∀x∈o, ∀y∈al.drop i,LE less x y
 bb: ∀x∈o, ∀y∈bl.drop j,LE less x y
section
variable {less:kB ->kB ->Bool}{al bl o:cV kB}{i j:Nat}
theorem MI.swap (h:MI less al bl o i j):MI less bl al o j i:=#[h.pm.trans du,h.so,h.bb,h.ba]
def take_add {α:Type}(l:cV α)(i k:Nat):l.take (i+k)=l.take i++(l.drop i).take k:=by rw[List.take_add]
def MI.Kw (h:MI less al bl o i j)(sa:al.Pairwise (LE less))(k:Nat)(hk: ∀x∈(al.drop i).take k, ∀y∈bl.drop j,LE less x y):MI less al bl (o++(al.drop i).take k) (i+k) j:=by
 have sd:(al.drop i).Pairwise (LE less):=sa.sublist (List.drop_sublist _ _);have e:(al.drop i).take k++al.drop (i+k)=al.drop i:=by rw[<- List.drop_drop,bD]
 have M_:=sd;rw[<- e,c4] at M_;exact#[?_,?_,?_,?_];rw[take_add,b0];exact(h.pm.append_right _).trans ?_;rw[b0];show List.Perm.append_left _ du;rw[c4];show#[h.so,M_.1,λx hx y hy=>h.ba x hx y (List.mem_of_mem_take hy)];intro x hx y hy;obtain hx | hx:=bh.mp hx;show h.ba x hx y (by rw[<- e];show aR _ hy);show M_.2.2 x hx y hy;intro x hx y hy;obtain hx | hx:=bh.mp hx;show h.bb x hx y hy;show hk x hx y hy
def MI.fin (h:MI less al bl o i j)(sa:al.Pairwise (LE less))(sb:bl.Pairwise (LE less))(hk: ∀x∈bl.drop j, ∀y∈al.drop i,LE less x y):(o++bl.drop j++al.drop i).Perm (al++bl) /\ (o++bl.drop j++al.drop i).Pairwise (LE less):=by
 symm;rw[b0];exact(h.pm.append_right _).trans ?_;have e1:(al++bl).Perm ((al.take i++al.drop i)++(bl.take j++bl.drop j)):=by rw[bD,bD]
 exact List.Perm.trans ?_ e1.symm;rw[b0,b0];exact List.Perm.append_left _ ?_;rw[<- b0];show du;rw[c4,c4];exact#[#[h.so,sb.sublist (List.drop_sublist _ _),h.bb],sa.sublist (List.drop_sublist _ _),λx hx y hy=> ?_];obtain hx | hx:=bh.mp hx;show h.ba x hx y hy;show hk x hx y hy
structure MH (less:Keyed ->Keyed ->Bool)(al bl t:List Keyed)(i j:Nat):Prop where
 pm:t.Perm (al.drop i++bl.drop j)
 so:t.Pairwise (LE less)
 ba: ∀x∈t, ∀y∈al.take i,LE less y x
 bb: ∀x∈t, ∀y∈bl.take j,LE less y x
theorem MH.swap {t:cV kB}(h:MH less al bl t i j):MH less bl al t j i:=#[h.pm.trans du,h.so,h.bb,h.ba]
def MH.Kw {t:cV kB}(h:MH less al bl t i j)(sa:al.Pairwise (LE less)){k:Nat}(Sk:k<=i)(hk: ∀x∈(al.take i).drop k, ∀y∈bl.take j,LE less y x):MH less al bl ((al.take i).drop k++t) k j:=by
 have sd:(al.take i).Pairwise (LE less):=sa.sublist (List.take_sublist _ _);have e0:(al.take i).take k=al.take k:=by rw[List.take_take,Nat.min_eq_left Sk]
 have e:al.take k++(al.take i).drop k=al.take i:=by rw[<- e0,bD]
 have M_:=sd;rw[<- e,c4] at M_;have e3:al.drop k=(al.take i).drop k++al.drop i:=by
  have:=bD i al;have e4:al.drop k=(al.take i++al.drop i).drop k:=by rw[this]
  rw[e4];by_cases c:i<=al.length;rw[List.drop_append_of_le_length (by rw[cj];lia)];have z:al.drop i= []:=List.drop_eq_nil_of_le ∅;rw[z,dn,dn]
 exact#[?_,?_,?_,?_];rw[e3,b0];show List.Perm.append_left _ h.pm;rw[c4];show#[M_.2.1,h.so,λx hx y hy=>h.ba y hy x (by rw[<- e];show aR _ hx)];intro x hx y hy;obtain hx | hx:=bh.mp hx;show M_.2.2 y hy x hx;show h.ba x hx y (by rw[<- e];show List.mem_append_left _ hy);intro x hx y hy;obtain hx | hx:=bh.mp hx;show hk x hx y hy;show h.bb x hx y hy
def MH.fin {t:cV kB}(h:MH less al bl t i j)(sa:al.Pairwise (LE less))(sb:bl.Pairwise (LE less))(hk: ∀x∈al.take i, ∀y∈bl.take j,LE less x y):(al.take i++bl.take j++t).Perm (al++bl) /\ (al.take i++bl.take j++t).Pairwise (LE less):=by
 symm;exact(List.Perm.append_left _ h.pm).trans ?_;have e1:(al++bl).Perm ((al.take i++al.drop i)++(bl.take j++bl.drop j)):=by rw[bD,bD]
 exact List.Perm.trans ?_ e1.symm;rw[b0,b0];exact List.Perm.append_left _ ?_;rw[<- b0, <- b0];show List.Perm.append_right _ du;rw[c4,c4];exact#[#[sa.sublist (List.take_sublist _ _),sb.sublist (List.take_sublist _ _),hk],h.so,λx hx y hy=> ?_];obtain hx | hx:=bh.mp hx;show h.ba y hy x hx;show h.bb y hy x hx
end
abbrev R5:=fP (RQ kB)×RQ kB×Nat×Nat×Nat
abbrev R6:=fP (RQ kB)×RQ kB×Nat×Nat×Nat×Nat
abbrev R7:=fP (RQ kB)×RQ kB×Nat×Nat×Nat×Nat×Nat
section
variable (a b:RQ kB)
abbrev Iv (o:RQ kB)(i j:Nat):RQ kB:=o++a.extract i a.size++b.extract j b.size
abbrev Pk (o:RQ kB)(i j:Nat):RQ kB:=o++b.extract j b.size++a.extract i a.size
def NI (mg:Nat)(o:RQ kB)(i j ac bc:Nat):StateT X5 Sem (ForInStep R6):=do
 let x <- elem' b j
 let y <- elem' a i
 let g <- lt' x y
 match g with
 | some g=>
  if g=true then do
   let x <- elem' b j
   if(j+1==b.size)=true then pure (.done (some (Iv a b (o.push x) i (j+1)),o.push x,i,j+1,0,bc+1))
   else if bc+1≥mg then pure (.done (none,o.push x,i,j+1,0,bc+1))
   else pure (.yield (none,o.push x,i,j+1,0,bc+1))
  else do
   let x <- elem' a i
   if(i+1+1==a.size)=true then pure (.done (some (Pk a b (o.push x) (i+1) j),o.push x,i+1,j,ac+1,0))
   else if ac+1≥mg then pure (.done (none,o.push x,i+1,j,ac+1,0))
   else pure (.yield (none,o.push x,i+1,j,ac+1,0))
 | _=>pure (.done (some (Iv a b o i j),o,i,j,ac,bc))
def Us (mg ac bc:Nat)(o:RQ kB)(i j:Nat):StateT X5 Sem (ForInStep R7):=do
 let x <- elem' a i
 if(i+1+1==a.size)=true then pure (.done (some (Pk a b (o.push x) (i+1) j),o.push x,i+1,j,mg,ac,bc))
 else if(decide (ac<7) && decide (bc<7))=true then pure (.done (none,o.push x,i+1,j,mg,ac,bc))
 else pure (.yield (none,o.push x,i+1,j,mg,ac,bc))
def Uu (mg ac bc:Nat)(o:RQ kB)(i j:Nat):StateT X5 Sem (ForInStep R7):=do
 let x <- elem' b j
 if(j+1==b.size)=true then pure (.done (some (Iv a b (o.push x) i (j+1)),o.push x,i,j+1,mg,ac,bc))
 else do
  let y <- elem' a i
  let r <- Kd true y b (j+1) (b.size - (j+1)) 0
  match r with
  | some k=>
   if k >0 then
    if(j+1+k==b.size)=true then pure (.done (some (Iv a b (o.push x++b.extract (j+1) (j+1+k)) i (j+1+k)),o.push x++b.extract (j+1) (j+1+k),i,j+1+k,mg,ac,k))
    else Us a b mg ac k (o.push x++b.extract (j+1) (j+1+k)) i (j+1+k)
   else Us a b mg ac k (o.push x) i (j+1)
  | _=>pure (.done (some (Iv a b (o.push x) i (j+1)),o.push x,i,j+1,mg,ac,bc))
def Uw (mg ac bc:Nat)(o:RQ kB)(i j:Nat):StateT X5 Sem (ForInStep R7):=do
 modify λs=>cK s mg
 let x <- elem' b j
 let r <- Kd false x a i (a.size - i) 0
 match r with
 | some k=>
  if k >0 then
   if(i+k+1==a.size)=true then pure (.done (some (Pk a b (o++a.extract i (i+k)) (i+k) j),o++a.extract i (i+k),i+k,j,mg,k,bc))
   else if(i+k==a.size)=true then pure (.done (some (Iv a b (o++a.extract i (i+k)) (i+k) j),o++a.extract i (i+k),i+k,j,mg,k,bc))
   else Uu a b mg k bc (o++a.extract i (i+k)) (i+k) j
  else Uu a b mg k bc o i j
 | _=>pure (.done (some (Iv a b o i j),o,i,j,mg,ac,bc))
def Rr (c:R5):StateT X5 Sem (ForInStep R5):=do
 let d <- forIn [:a.size+b.size] ((none,c.2.1,c.2.2.1,c.2.2.2.1,0,0):R6) λ_ d=>NI a b c.2.2.2.2 d.2.1 d.2.2.1 d.2.2.2.1 d.2.2.2.2.1 d.2.2.2.2.2
 match d.1 with
 | some r=>pure (.done (some r,d.2.1,d.2.2.1,d.2.2.2.1,c.2.2.2.2))
 | none=>do
  liftM (rule "list.sort.gallop")
  let e <- forIn [:a.size+b.size] ((none,d.2.1,d.2.2.1,d.2.2.2.1,c.2.2.2.2+1,d.2.2.2.2.1,d.2.2.2.2.2):R7) λ_ e=>if e.2.2.2.2.1 >1 then Uw a b (e.2.2.2.2.1 - 1) e.2.2.2.2.2.1 e.2.2.2.2.2.2 e.2.1 e.2.2.1 e.2.2.2.1 else Uw a b e.2.2.2.2.1 e.2.2.2.2.2.1 e.2.2.2.2.2.2 e.2.1 e.2.2.1 e.2.2.2.1
  match e.1 with
  | some r=>pure (.done (some r,e.2.1,e.2.2.1,e.2.2.2.1,e.2.2.2.2.1))
  | none=>do
   modify λs=>cK s (e.2.2.2.2.1+1)
   pure (.yield (none,e.2.1,e.2.2.1,e.2.2.2.1,e.2.2.2.2.1+1))
end
def vo {σ α β:Type}{m:StateT σ Sem α}{f g:α ->StateT σ Sem β}(h: ∀x,f x=g x):(m >>=f)=(m >>=g):=by rw[funext h]
def Ea {σ α β:Type}{m m':StateT σ Sem α}{f g:α ->StateT σ Sem β}(e:m=m')(h: ∀x,f x=g x):(m >>=f)=(m' >>=g):=by rw[e,funext h]
def DE {α:Sort _}{c:Prop} [Decidable c]{x y x' y':α}(h:x=x')(h':y=y'):(if c then x else y)=(if c then x' else y'):=by rw[h,h']
def DM {σ β:Type}{r:Std.Legacy.Range}{c:β}{f g:Nat ->β ->StateT σ Sem (ForInStep β)}(h: ∀i c,f i c=g i c):forIn r c f=forIn r c g:=by rw[funext λi=>funext (h i)]
section
variable (a b:RQ kB)
theorem Dp:Wz a b=(do
  liftM (rule "list.sort.merge-lo")
  let x <- elem' b 0
  if(1==b.size)=true then pure (Iv a b #[x] 0 1)
  else if(0+1==a.size)=true then pure (Pk a b #[x] 0 1)
  else do
   let g <- get
   let c <- forIn [:a.size+b.size] ((none, #[x],0,1,gallopOf g):R5) λ_ c=>Rr a b c
   match c.1 with
   | some r=>pure r
   | none=>unsupported "internal:list.sort.merge-bound"):=by
 exact vo λ_=>vo λx=> ?_
 exact DE rfl (DE rfl (vo λg=>Ea (DM λ_ c=> ?_) λc=> ?_))
 exact Ea (DM λ_ d=>rfl) λd=> ?_
 let⟨r,d⟩:=d
 cases r with
 | some r=>rfl
 | none =>
  exact vo λ_=>Ea (DM λ_ e=> ?_) λe=> ?_;exact DE ?_ ?_<;>
  .refine vo λ_=>vo λx=>vo λr=> ?_;cases r with
   | none=>rfl
   | some k=>
    exact DE (DE rfl (DE rfl ?_)) ?_<;>
    .exact vo λy=>DE rfl (vo λz=>vo λr=> ?_);cases r<;>rfl
  let⟨r,e⟩:=e;cases r<;>rfl
 let⟨r,c⟩:=c
 cases r<;>rfl
abbrev Iw (o:RQ kB)(i j:Nat):RQ kB:=a.extract 0 i++b.extract 0 j++o.reverse
abbrev Ps (o:RQ kB)(i j:Nat):RQ kB:=b.extract 0 j++a.extract 0 i++o.reverse
def ML (mg:Nat)(i j:Nat)(o:RQ kB)(ac bc:Nat):StateT X5 Sem (ForInStep (fP (RQ kB)×Nat×Nat×RQ kB×Nat×Nat)):=do
 let x <- elem' b (j - 1)
 let y <- elem' a (i - 1)
 let g <- lt' x y
 match g with
 | some g=>
  if g=true then do
   let x <- elem' a (i - 1)
   if(i - 1==0)=true then pure (.done (some (Iw a b (o.push x) (i - 1) j),i - 1,j,o.push x,ac+1,0))
   else if ac+1≥mg then pure (.done (none,i - 1,j,o.push x,ac+1,0))
   else pure (.yield (none,i - 1,j,o.push x,ac+1,0))
  else do
   let x <- elem' b (j - 1)
   if(j - 1==1)=true then pure (.done (some (Ps a b (o.push x) i (j - 1)),i,j - 1,o.push x,0,bc+1))
   else if bc+1≥mg then pure (.done (none,i,j - 1,o.push x,0,bc+1))
   else pure (.yield (none,i,j - 1,o.push x,0,bc+1))
 | _=>pure (.done (some (Iw a b o i j),i,j,o,ac,bc))
abbrev S7:=fP (RQ kB)×Nat×Nat×RQ kB×Nat×Nat×Nat
def Ut (mg ac bc:Nat)(i j:Nat)(o:RQ kB):StateT X5 Sem (ForInStep S7):=do
 let x <- elem' a (i - 1)
 if(i - 1==0)=true then pure (.done (some (Iw a b (o.push x) (i - 1) j),i - 1,j,o.push x,mg,ac,bc))
 else if(decide (ac<7) && decide (bc<7))=true then pure (.done (none,i - 1,j,o.push x,mg,ac,bc))
 else pure (.yield (none,i - 1,j,o.push x,mg,ac,bc))
def Uv (mg ac bc:Nat)(i j:Nat)(o:RQ kB):StateT X5 Sem (ForInStep S7):=do
 let x <- elem' b (j - 1)
 if(j - 1==1)=true then pure (.done (some (Ps a b (o.push x) i (j - 1)),i,j - 1,o.push x,mg,ac,bc))
 else do
  let y <- elem' a (i - 1)
  let r <- Kd true y b 0 (j - 1) (j - 1 - 1)
  match r with
  | some k=>
   if j - 1 - k >0 then
    if(k==1)=true then pure (.done (some (Ps a b (o.push x++(b.extract k (j - 1)).reverse) i k),i,k,o.push x++(b.extract k (j - 1)).reverse,mg,ac,j - 1 - k))
    else if(k==0)=true then pure (.done (some (Iw a b (o.push x++(b.extract k (j - 1)).reverse) i k),i,k,o.push x++(b.extract k (j - 1)).reverse,mg,ac,j - 1 - k))
    else Ut a b mg ac (j - 1 - k) i k (o.push x++(b.extract k (j - 1)).reverse)
   else Ut a b mg ac (j - 1 - k) i (j - 1) (o.push x)
  | _=>pure (.done (some (Iw a b (o.push x) i (j - 1)),i,j - 1,o.push x,mg,ac,bc))
def Ux (mg ac bc:Nat)(i j:Nat)(o:RQ kB):StateT X5 Sem (ForInStep S7):=do
 modify λs=>cK s mg
 let x <- elem' b (j - 1)
 let r <- Kd false x a 0 i (i - 1)
 match r with
 | some k=>
  if i - k >0 then
   if(k==0)=true then pure (.done (some (Iw a b (o++(a.extract k i).reverse) k j),k,j,o++(a.extract k i).reverse,mg,i - k,bc))
   else Uv a b mg (i - k) bc k j (o++(a.extract k i).reverse)
  else Uv a b mg (i - k) bc i j o
 | _=>pure (.done (some (Iw a b o i j),i,j,o,mg,ac,bc))
abbrev S5:=fP (RQ kB)×Nat×Nat×RQ kB×Nat
def Rs (c:S5):StateT X5 Sem (ForInStep S5):=do
 let d <- forIn [:a.size+b.size] ((none,c.2.1,c.2.2.1,c.2.2.2.1,0,0):fP (RQ kB)×Nat×Nat×RQ kB×Nat×Nat) λ_ d=>ML a b c.2.2.2.2 d.2.1 d.2.2.1 d.2.2.2.1 d.2.2.2.2.1 d.2.2.2.2.2
 match d.1 with
 | some r=>pure (.done (some r,d.2.1,d.2.2.1,d.2.2.2.1,c.2.2.2.2))
 | none=>do
  liftM (rule "list.sort.gallop")
  let e <- forIn [:a.size+b.size] ((none,d.2.1,d.2.2.1,d.2.2.2.1,c.2.2.2.2+1,d.2.2.2.2.1,d.2.2.2.2.2):S7) λ_ e=>if e.2.2.2.2.1 >1 then Ux a b (e.2.2.2.2.1 - 1) e.2.2.2.2.2.1 e.2.2.2.2.2.2 e.2.1 e.2.2.1 e.2.2.2.1 else Ux a b e.2.2.2.2.1 e.2.2.2.2.2.1 e.2.2.2.2.2.2 e.2.1 e.2.2.1 e.2.2.2.1
  match e.1 with
  | some r=>pure (.done (some r,e.2.1,e.2.2.1,e.2.2.2.1,e.2.2.2.2.1))
  | none=>do
   modify λs=>cK s (e.2.2.2.2.1+1)
   pure (.yield (none,e.2.1,e.2.2.1,e.2.2.2.1,e.2.2.2.2.1+1))
theorem Dq:WB a b=(do
  liftM (rule "list.sort.merge-hi")
  let x <- elem' a (a.size - 1)
  if(a.size - 1==0)=true then pure (Iw a b #[x] (a.size - 1) b.size)
  else if(b.size==1)=true then pure (Ps a b #[x] (a.size - 1) b.size)
  else do
   let g <- get
   let c <- forIn [:a.size+b.size] ((none,a.size - 1,b.size, #[x],gallopOf g):S5) λ_ c=>Rs a b c
   match c.1 with
   | some r=>pure r
   | none=>unsupported "internal:list.sort.merge-bound"):=by
 exact vo λ_=>vo λx=> ?_
 exact DE rfl (DE rfl (vo λg=>Ea (DM λ_ c=> ?_) λc=> ?_))
 exact Ea (DM λ_ d=>rfl) λd=> ?_
 let⟨r,d⟩:=d
 cases r with
 | some r=>rfl
 | none =>
  exact vo λ_=>Ea (DM λ_ e=> ?_) λe=> ?_;exact DE ?_ ?_<;>
  .refine vo λ_=>vo λx=>vo λr=> ?_;cases r with
   | none=>rfl
   | some k=>
    exact DE (DE rfl ?_) ?_<;>
    .exact vo λy=>DE rfl (vo λz=>vo λr=> ?_);cases r<;>rfl
  let⟨r,e⟩:=e;cases r<;>rfl
 let⟨r,c⟩:=c
 cases r<;>rfl
end
def f9 {xs:RQ kB}{i:Nat}(h:i<xs.size):xs.toList[i]? =some (cy xs i):=by rw[<- Hw h];simp
def DO {xs:RQ kB}{i:Nat}(h:i<xs.size):xs.toList.drop i=cy xs i::xs.toList.drop (i+1):=by have h':i<xs.toList.length:= ⇑h;have e:=f9 h;rw[aG h'] at e;rw[List.drop_eq_getElem_cons h',bg e]
def xk {xs:RQ kB}{i:Nat}(h:i<xs.size):(xs.toList.drop i).take 1= [cy xs i]:=by rw[DO h];rfl
def iu {xs:RQ kB}{i:Nat}{y:kB}(h:y∈xs.toList.drop i): ∃k,cT (i<=k) (k<xs.size) (y=cy xs k):=by let⟨n,hn⟩:=List.mem_iff_getElem?.mp h;rw[List.getElem?_drop] at hn;have hl:=(bi.mp hn).1;have pO:i+n<xs.size:= ⇑hl;rw[f9 pO] at hn;show#[i+n, ∅,pO,(bg hn).symm]
def vF {xs:RQ kB}{i k:Nat}{y:kB}(h:y∈(xs.toList.drop i).take k): ∃n,eT (i<=n) (n<i+k) (n<xs.size) (y=cy xs n):=by let⟨n,hn⟩:=List.mem_iff_getElem?.mp h;rw[List.getElem?_take] at hn;split at hn;rename_i hk;rw[List.getElem?_drop] at hn;have hl:=(bi.mp hn).1;have pO:i+n<xs.size:= ⇑hl;rw[f9 pO] at hn;show#[i+n, ∅, ∅,pO,(bg hn).symm];cases hn
def lM {less:kB ->kB ->Bool}(O:Ord less){xs:RQ kB}(h:xs.toList.Pairwise (LE less)){i j:Nat}(jF:i<=j)(hj:j<xs.size):LE less (cy xs i) (cy xs j):=by
 by_cases c:i=j;subst c;show O.refl _;rw[List.pairwise_iff_getElem] at h;have pQ:i<xs.toList.length:=by simp;lia
 have Oo:j<xs.toList.length:= ⇑hj;have:=h i j pQ Oo ∅;have e1:=f9 (xs:=xs) (i:=i) ∅;have e2:=f9 hj;rw[aG pQ] at e1;rw[aG Oo] at e2;rwa [bg e1,bg e2] at this
theorem vJ {less:kB ->kB ->Bool}(O:Ord less){xs:RQ kB}(h:xs.toList.Pairwise (LE less)){i n:Nat}(hn:i+n<=xs.size):Sg less xs i (i+n):=λx y _ UL hy=>lM O h UL ∅
def yD (xs:RQ kB)(i k:Nat):(xs.extract i (i+k)).toList=(xs.toList.drop i).take k:=by rw[Array.toList_extract,List.extract_eq_take_drop];congr 1;lia
def rh (xs:RQ kB)(i:Nat):(xs.extract i xs.size).toList=xs.toList.drop i:=by rw[Array.toList_extract,List.extract_eq_take_drop];show List.take_of_length_le (by simp)
section
variable {prog:RV}{w:W4}{A:X7}{E:cW ->df ->Prop}{s:df}{kd:SortKind}{a₀:RQ kB}{less:kB ->kB ->Bool}
structure vy (less:Keyed ->Keyed ->Bool)(a₀ a b:Array Keyed):Prop where
 sa:a.toList.Pairwise (LE less)
 sb:b.toList.Pairwise (LE less)
 ma: ∀i,i<a.size ->cy a i∈a₀.toList
 mb: ∀i,i<b.size ->cy b i∈a₀.toList
 na:1<=a.size
 nb:1<=b.size
 h0:less (cy b 0) (cy a 0)=true
 hl: ∀j,j<b.size ->less (cy b j) (cy a (a.size - 1))=true
def tG (less:kB ->kB ->Bool)(a b r:RQ kB):Prop:=r.toList.Perm (a.toList++b.toList) /\ r.toList.Pairwise (LE less)
structure JL (less:Keyed ->Keyed ->Bool)(a b o:Array Keyed)(i j:Nat):Prop where
 mi:MI less a.toList b.toList o.toList i j
 hi:i+1<a.size
 hj:j<b.size
variable {a b:RQ kB}
def vP (T:vy less a₀ a b){o:RQ kB}{i j:Nat}(h:MI less a.toList b.toList o.toList i j)(hj:b.size<=j \/ a.size<=i):tG less a b (Iv a b o i j):=by
 unfold tG Iv;rw[bM,bM,rh,rh];have:=h.swap.fin T.sb T.sa λx hx y hy=>by obtain hj | hj:=hj;let⟨k,h1,h2,_⟩:=iu hy;lia;let⟨k,h1,h2,_⟩:=iu hx;lia
 show#[this.1.trans du,this.2]
def vO (O:Ord less)(T:vy less a₀ a b){o:RQ kB}{i j:Nat}(h:MI less a.toList b.toList o.toList i j)(hi:i+1=a.size):tG less a b (Pk a b o i j):=by unfold tG Pk;rw[bM,bM,rh,rh];exact h.fin T.sa T.sb λx hx y hy=> ?_;let⟨k,h1,h2,rfl⟩:=iu hx;let⟨k',UV,Mb,rfl⟩:=iu hy;rw[show k'=a.size - 1 by lia];show O.le (T.hl k h2)
def zQ (O:Ord less)(T:vy less a₀ a b){o:RQ kB}{i j:Nat}(h:MI less a.toList b.toList o.toList i j)(hj:j<b.size)(hc:i<a.size ->LE less (cy b j) (cy a i)):MI less a.toList b.toList (o.push (cy b j)).toList i (j+1):=by have:=(h.swap.Kw T.sb 1 λx hx y hy=>by rw[xk hj] at hx;rw[a_.mp hx];let⟨k,h1,h2,rfl⟩:=iu hy;show O.trans _ _ _ (hc ∅) (lM O T.sa h1 h2)).swap;rw[xk hj] at this;rwa [Array.toList_push]
def FC (O:Ord less)(T:vy less a₀ a b){o:RQ kB}{i j:Nat}(h:MI less a.toList b.toList o.toList i j)(hi:i<a.size)(hc:j<b.size ->LE less (cy a i) (cy b j)):MI less a.toList b.toList (o.push (cy a i)).toList (i+1) j:=by
 have:=h.Kw T.sa 1 λx hx y hy=>by rw[xk hi] at hx;rw[a_.mp hx];let⟨k,h1,h2,rfl⟩:=iu hy;show O.trans _ _ _ (hc ∅) (lM O T.sb h1 h2)
 rw[xk hi] at this;rwa [Array.toList_push]
def OV (less:kB ->kB ->Bool)(a b:RQ kB)(st:X5)(N:Nat)(r:ForInStep R7)(bE:X5):Prop:=(∃g,bE=cK st g) /\ ((cx λx c=>r= .done (some x,c) /\ tG less a b x) \/ (gb λo i j c=>cT (r= .done (none,o,i,j,c) \/ r= .yield (none,o,i,j,c)) (JL less a b o i j) (N<=i+j)))
def wp_p3L (O:Ord less)(T:vy less a₀ a b){st bE:X5}{mg ac bc N:Nat}{o:RQ kB}{i j:Nat}(hg: ∃g,bE=cK st g)(J:JL less a b o i j)(hc:LE less (cy a i) (cy b j))(hN:N<=i+j):wpS (model prog w) A E s (Us a b mg ac bc o i j) (OV less a b st N) bE:=by
 unfold Us;have hi:=J.hi;exact au (wp_elem ∅ ?_);have m:=FC O T J.mi ∅ λ_=>hc;by_cases c:i+1+1=a.size;rw[am ⇑c];show aA #[hg, .inl #[_,_,rfl,vO O T m c]];rw[ak ⇑c];have J':JL less a b (o.push (cy a i)) (i+1) j:=#[m, ∅,J.hj]
 split;show aA #[hg, .inr #[_,_,_,_, .inl rfl,J', ∅]];show aA #[hg, .inr #[_,_,_,_, .inr rfl,J', ∅]]
def wp_p2L (O:Ord less)(L:gU prog w A E s kd a₀ less)(T:vy less a₀ a b){st bE:X5}{mg ac bc N:Nat}{o:RQ kB}{i j:Nat}(hk:kindOf bE=kd)(hg: ∃g,bE=cK st g)(J:JL less a b o i j)(hc:less (cy b j) (cy a i)=true)(hN:N<=i+j):wpS (model prog w) A E s (Uu a b mg ac bc o i j) (OV less a b st N) bE:=by
 unfold Uu;have hi:=J.hi;have hj:=J.hj;exact au (wp_elem hj ?_);have m:=zQ O T J.mi hj λ_=>O.le hc;by_cases c:j+1=b.size;rw[am ⇑c];show aA #[hg, .inl #[_,_,rfl,vP T m (.inl ∅)]];rw [ak ⇑c];exact au (wp_elem ∅ ?_);exact au (wp_galL O L hk (T.ma i ∅) (λk hk=>#[∅,T.mb _ ∅]) ∅ (vJ O T.sb ∅) λk h1 h2 h3=> ?_);dsimp only;by_cases ck:k >0;rw[am ck];have m2:MI less a.toList b.toList (o.push (cy b j)++b.extract (j+1) (j+1+k)).toList i (j+1+k):=by rw[bM,yD];exact(m.swap.Kw T.sb k λx hx y hy=> ?_).swap;let⟨n,n1,n2,n3,rfl⟩:=vF hx;let⟨k',k1,k2,rfl⟩:=iu hy;have:=h2 (n - (j+1)) ∅;rw[show j+1+(n - (j+1))=n by lia] at this;show O.trans _ _ _ (O.le this) (lM O T.sa k1 k2)
 by_cases c2:j+1+k=b.size;rw[am ⇑c2];show aA #[hg, .inl #[_,_,rfl,vP T m2 (.inl ∅)]];rw[ak ⇑c2];show wp_p3L O T hg #[m2,hi, ∅] (h3 k (ao _) ∅) ∅;rw[ak ck];have:k=0:= ∅;subst this;show wp_p3L O T hg #[m,hi, ∅] (h3 0 (ao _) ∅) ∅
def wp_p1L (O:Ord less)(L:gU prog w A E s kd a₀ less)(T:vy less a₀ a b){st bE:X5}{mg ac bc N:Nat}{o:RQ kB}{i j:Nat}(hk:kindOf st=kd)(hg: ∃g,bE=cK st g)(J:JL less a b o i j)(hN:N<=i+j):wpS (model prog w) A E s (Uw a b mg ac bc o i j) (OV less a b st N) bE:=by
 unfold Uw;have hi:=J.hi;have hj:=J.hj;exact au (wpS_modify ?_);have wz: ∃g,cK bE mg=cK st g:=by let⟨g,rfl⟩:=hg;show#[mg,rfl]
 have zw:kindOf (cK bE mg)=kd:=by let⟨g,rfl⟩:=hg;show hk
 exact au (wp_elem hj ?_);exact au (wp_galR O L zw (T.mb j hj) (λk hk=>#[∅,T.ma _ ∅]) ∅ (vJ O T.sa ∅) λk h1 h2 h3=> ?_);dsimp only;have hkl:i+k<a.size:=by by_cases c:i+k<a.size;show c;have:=h2 (a.size - 1 - i) ∅;rw[show i+(a.size - 1 - i)=a.size - 1 by lia] at this;unfold LE at this;rw[T.hl j hj] at this;cases this
 have L4:=h3 k (ao _) ∅;by_cases ck:k >0;rw[am ck];have m2:MI less a.toList b.toList (o++a.extract i (i+k)).toList (i+k) j:=by rw[bM,yD];exact J.mi.Kw T.sa k λx hx y hy=> ?_;let⟨n,n1,n2,n3,rfl⟩:=vF hx;let⟨k',k1,k2,rfl⟩:=iu hy;have:=h2 (n - i) ∅;rw[show i+(n - i)=n by lia] at this;show O.trans _ _ _ this (lM O T.sb k1 k2)
 by_cases c2:i+k+1=a.size;rw[am ⇑c2];show aA #[wz, .inl #[_,_,rfl,vO O T m2 c2]];rw[ak ⇑c2,ak (by simp;lia)];show wp_p2L O L T zw wz #[m2, ∅,hj] L4 ∅;rw[ak ck];have:k=0:= ∅;subst this;show wp_p2L O L T zw wz J L4 hN
def wp_one1 (O:Ord less)(L:gU prog w A E s kd a₀ less)(T:vy less a₀ a b){bE:X5}{mg ac bc:Nat}{o:RQ kB}{i j:Nat}{Q:ForInStep R6 ->X5 ->Prop}(hk:kindOf bE=kd)(J:JL less a b o i j) (h1: ∀x c,tG less a b x ->Q (.done (some x,c)) bE) (h2: ∀o i' j' c,JL less a b o i' j' ->i'+j'=i+j+1 ->Q (.done (none,o,i',j',c)) bE /\ Q (.yield (none,o,i',j',c)) bE): wpS (model prog w) A E s (NI a b mg o i j ac bc) Q bE:=by
 unfold NI;have hi:=J.hi;have hj:=J.hj;exact au (wp_elem hj (au (wp_elem ∅ (au (L _ _ _ _ (T.mb j hj) (T.ma i ∅) hk ?_)))));dsimp only;cases e:less (cy b j) (cy a i) with
 | true=>simp![bX];exact au (wp_elem hj ?_);have m:=zQ O T J.mi hj λ_=>O.le e;by_cases c:j+1=b.size;rw[am ⇑c];show aA (h1 _ _ (vP T m (.inl ∅)));rw[ak ⇑c];have:=h2 _ i (j+1) (0,bc+1) #[m,hi, ∅] ∅;split;show aA this.1;show aA this.2
 | false=>simp![ay,bv];exact au (wp_elem ∅ ?_);have m:=FC O T J.mi ∅ λ_=>e;by_cases c:i+1+1=a.size;rw[am ⇑c];show aA (h1 _ _ (vO O T m c));rw[ak ⇑c];have:=h2 _ (i+1) j (ac+1,0) #[m, ∅,hj] ∅;split;show aA this.1;show aA this.2
def wp_mLo (O:Ord less)(L:gU prog w A E s kd a₀ less)(T:vy less a₀ a b){st:X5}{Q:RQ kB ->X5 ->Prop}(hk:kindOf st=kd)(h: ∀r g,tG less a b r ->Q r (cK st g)):wpS (model prog w) A E s (Wz a b) Q st:=by
 rw[Dp];have na:=T.na;have nb:=T.nb;exact au (wpS_lift (wpAny_rule #[rfl,?_]));exact au (wp_elem ∅ ?_);have h': ∀r,tG less a b r ->Q r st:=λr hr=>h r (gallopOf st) hr;have m:MI less a.toList b.toList (#[cy b 0]:RQ kB).toList 0 1:=by
  have m0:MI less a.toList b.toList (#[]:RQ kB).toList 0 0:=#[by simp,by simp,by simp,by simp]
  show zQ O T m0 ∅ λ_=>O.le T.h0
 by_cases c:1=b.size;rw[am ⇑c];show aA (h' _ (vP T m (.inl ∅)));rw[ak ⇑c];by_cases c2:0+1=a.size;rw[am ⇑c2];show aA (h' _ (vO O T m c2));rw[ak ⇑c2];exact au (wpS_get ?_);exact au (wpS_mono (cf (I:=λn c bE=>(∃g,bE=cK st g) /\ gb λo i j mg=>cT (c=(none,o,i,j,mg)) (JL less a b o i j) (n+1<=i+j)) (Q:=λc bE=>(∃g,bE=cK st g) /\ cx λx d=>c=(some x,d) /\ tG less a b x) ?_ ?_ #[#[gallopOf st,rfl],_,0,1,_,rfl,#[m, ∅, ∅], ∅]) ?_)
 .rintro n c bE _ hn ⟨hg,o,i,j,mg,rfl,J,hN⟩;unfold Rr;dsimp only;have zw:kindOf bE=kd:=by let⟨g,rfl⟩:=hg;show hk
  exact au (wpS_mono (cf (I:=λx c mK=>mK=bE /\ gb λo' i' j' d=>cT (c=(none,o',i',j',d)) (JL less a b o' i' j') (i'+j'=i+j+x)) (Q:=λc mK=>mK=bE /\ ((cx λx d=>c=(some x,d) /\ tG less a b x) \/ gb λo' i' j' d=>cT (c=(none,o',i',j',d)) (JL less a b o' i' j') (i+j+1<=i'+j'))) ?_ ?_ #[rfl,o,i,j,_,rfl,J,rfl]) ?_);rintro x c mK _ hx ⟨rfl,o',i',j',⟨ac,bc⟩,rfl,J',Ma⟩;dsimp only;exact wp_one1 O L T zw J' (λx c hr=>#[rfl, .inl #[x,c,rfl,hr]]) λo2 i2 j2 c J2 h2=>#[#[rfl, .inr #[o2,i2,j2,c,rfl,J2, ∅]],#[rfl,o2,i2,j2,c,rfl,J2, ∅]]
  rintro c mK ⟨rfl,o',i',j',d,rfl,J',Ma⟩;show#[rfl, .inr #[o',i',j',d,rfl,J', ∅]]
  .rintro c mK ⟨rfl,⟨x,d,rfl,hr⟩ | ⟨o',i',j',⟨ac,bc⟩,rfl,J',Ma⟩⟩;show aA #[hg,x,_,rfl,hr]
   .dsimp only;exact au (wpS_lift (wpAny_rule #[rfl,?_]));exact au (wpS_mono (cf (I:=λx c tW=>(∃g,tW=cK st g) /\ gb λo' i' j' d=>cT (c=(none,o',i',j',d)) (JL less a b o' i' j') (i+j+1<=i'+j')) (Q:=λc tW=>(∃g,tW=cK st g) /\ ((cx λx d=>c=(some x,d) /\ tG less a b x) \/ gb λo' i' j' d=>cT (c=(none,o',i',j',d)) (JL less a b o' i' j') (i+j+1<=i'+j'))) ?_ ?_ #[hg,o',i',j',_,rfl,J',Ma]) ?_)
    .rintro x c tW _ hx ⟨DI,o3,i3,j3,⟨Wy,ac3,bc3⟩,rfl,J3,jU⟩;dsimp only;split;all_goals
      exact wpS_mono (wp_p1L O L T hk DI J3 jU) ?_
      rintro r fm ⟨Op,⟨x,c,rfl,hr⟩ | ⟨o,i,j,c,rfl | rfl,J4,h4⟩⟩
      show#[Op, .inl #[x,c,rfl,hr]]
      show#[Op, .inr #[o,i,j,c,rfl,J4,h4]]
      show#[Op,o,i,j,c,rfl,J4,h4]
    rintro c tW ⟨DI,o3,i3,j3,d,rfl,J3,jU⟩;show#[DI, .inr #[o3,i3,j3,d,rfl,J3,jU]];rintro c tW ⟨DI,⟨x,d,rfl,hr⟩ | ⟨o3,i3,j3,⟨Wy,ac3,bc3⟩,rfl,J3,jU⟩⟩;show aA #[DI,x,_,rfl,hr];dsimp only;exact au (wpS_modify (aA #[?_,o3,i3,j3,_,rfl,J3, ∅]));let⟨g,rfl⟩:=DI;show#[_,rfl]
 rintro c bE ⟨hg,o,i,j,mg,rfl,J,hN⟩;have:=J.hi;have:=J.hj;lia;rintro c bE ⟨⟨g,rfl⟩,x,d,rfl,hr⟩;show aA (h x g hr)
end
def uE {xs:RQ kB}{i:Nat}{y:kB}(h:y∈xs.toList.take i): ∃n,cT (n<i) (n<xs.size) (y=cy xs n):=by let⟨n,hn⟩:=List.mem_iff_getElem?.mp h;rw[List.getElem?_take] at hn;split at hn;have hl:=(bi.mp hn).1;have pO:n<xs.size:= ⇑hl;rw[f9 pO] at hn;show#[n, ∅,pO,(bg hn).symm];cases hn
def A6 {xs:RQ kB}{i k:Nat}{y:kB}(h:y∈(xs.toList.take i).drop k): ∃n,eT (k<=n) (n<i) (n<xs.size) (y=cy xs n):=by rw[List.drop_take] at h;let⟨n,h1,h2,h3,e⟩:=vF h;show#[n,h1, ∅,h3,e]
def Ui {xs:RQ kB}{i:Nat}(h0:1<=i)(h:i<=xs.size):(xs.toList.take i).drop (i - 1)= [cy xs (i - 1)]:=by rw[List.drop_take,show i - (i - 1)=1 by lia,xk ∅]
def mm (xs:RQ kB)(k i:Nat):(xs.extract k i).toList=(xs.toList.take i).drop k:=by rw[Array.toList_extract,List.extract_eq_take_drop,List.drop_take]
def Cs (xs:RQ kB)(i:Nat):(xs.extract 0 i).toList=xs.toList.take i:=by rw[mm,List.drop_zero]
section
variable {prog:RV}{w:W4}{A:X7}{E:cW ->df ->Prop}{s:df}{kd:SortKind}{a₀:RQ kB}{less:kB ->kB ->Bool}
structure JH (less:Keyed ->Keyed ->Bool)(a b o:Array Keyed)(i j:Nat):Prop where
 mi:MH less a.toList b.toList o.toList.reverse i j
 hi:1<=i
 hj:2<=j
 ia:i<=a.size
 jb:j<=b.size
variable {a b:RQ kB}
def mV (T:vy less a₀ a b){o:RQ kB}{i j:Nat}(h:MH less a.toList b.toList o.toList.reverse i j)(hj:i=0 \/ j=0):tG less a b (Iw a b o i j):=by unfold tG Iw;rw[bM,bM,Cs,Cs,Array.toList_reverse];exact h.fin T.sa T.sb λx hx y hy=> ?_;obtain hj | hj:=hj;subst hj;simp at hx;subst hj;simp at hy
def qX (O:Ord less)(T:vy less a₀ a b){o:RQ kB}{i j:Nat}(h:MH less a.toList b.toList o.toList.reverse i j)(hj:j=1):tG less a b (Ps a b o i j):=by
 unfold tG Ps;rw[bM,bM,Cs,Cs,Array.toList_reverse];have:=h.swap.fin T.sb T.sa λx hx y hy=>by let⟨n,n1,n2,rfl⟩:=uE hx;let⟨k,k1,k2,rfl⟩:=uE hy;rw[show n=0 by lia];show O.trans _ _ _ (O.le T.h0) (lM O T.sa (cZ _) k2)
 show#[this.1.trans du,this.2]
def vT (O:Ord less)(T:vy less a₀ a b){o:RQ kB}{i j:Nat}(h:MH less a.toList b.toList o.toList.reverse i j)(h1:1<=i)(hi:i<=a.size)(hj:j<=b.size)(hc:1<=j ->LE less (cy b (j - 1)) (cy a (i - 1))):MH less a.toList b.toList (o.push (cy a (i - 1))).toList.reverse (i - 1) j:=by
 have:=h.Kw T.sa (k:=i - 1) ∅ λx hx y hy=>by rw[Ui h1 hi] at hx;rw[a_.mp hx];let⟨k,k1,k2,rfl⟩:=uE hy;show O.trans _ _ _ (lM O T.sb (show k<=j - 1 by lia) ∅) (hc ∅)
 rw[Ui h1 hi] at this;rw[Array.toList_push,List.reverse_append];show this
def Bw (O:Ord less)(T:vy less a₀ a b){o:RQ kB}{i j:Nat}(h:MH less a.toList b.toList o.toList.reverse i j)(h1:1<=j)(hi:i<=a.size)(hj:j<=b.size)(hc:1<=i ->LE less (cy a (i - 1)) (cy b (j - 1))):MH less a.toList b.toList (o.push (cy b (j - 1))).toList.reverse i (j - 1):=by have:=(h.swap.Kw T.sb (k:=j - 1) ∅ λx hx y hy=>by rw[Ui h1 hj] at hx;rw[a_.mp hx];let⟨k,k1,k2,rfl⟩:=uE hy;show O.trans _ _ _ (lM O T.sa (show k<=i - 1 by lia) ∅) (hc ∅)).swap;rw[Ui h1 hj] at this;rw[Array.toList_push,List.reverse_append];show this
def Bn (o x:RQ kB):(o++x.reverse).toList.reverse=x.toList++o.toList.reverse:=by rw[bM,Array.toList_reverse,List.reverse_append,List.reverse_reverse]
def OU (less:kB ->kB ->Bool)(a b:RQ kB)(st:X5)(N:Nat)(r:ForInStep S7)(bE:X5):Prop:=(∃g,bE=cK st g) /\ ((cx λx c=>r= .done (some x,c) /\ tG less a b x) \/ (gb λi j o c=>cT (r= .done (none,i,j,o,c) \/ r= .yield (none,i,j,o,c)) (JH less a b o i j) (i+j<=N)))
def wp_p3H (O:Ord less)(T:vy less a₀ a b){st bE:X5}{mg ac bc N:Nat}{o:RQ kB}{i j:Nat}(hg: ∃g,bE=cK st g)(J:JH less a b o i j)(hc:LE less (cy b (j - 1)) (cy a (i - 1)))(hN:i+j<=N):wpS (model prog w) A E s (Ut a b mg ac bc i j o) (OU less a b st N) bE:=by
 unfold Ut;have hi:=J.hi;have ia:=J.ia;exact au (wp_elem ∅ ?_);have m:=vT O T J.mi J.hi J.ia J.jb λ_=>hc;by_cases c:i - 1=0;rw[am ⇑c];show aA #[hg, .inl #[_,_,rfl,mV T m (.inl c)]];rw[ak ⇑c];have J':JH less a b (o.push (cy a (i - 1))) (i - 1) j:=#[m, ∅,J.hj, ∅,J.jb]
 split;show aA #[hg, .inr #[_,_,_,_, .inl rfl,J', ∅]];show aA #[hg, .inr #[_,_,_,_, .inr rfl,J', ∅]]
def wp_p2H (O:Ord less)(L:gU prog w A E s kd a₀ less)(T:vy less a₀ a b){st bE:X5}{mg ac bc N:Nat}{o:RQ kB}{i j:Nat}(hk:kindOf bE=kd)(hg: ∃g,bE=cK st g)(J:JH less a b o i j)(hc:LE less (cy a (i - 1)) (cy b (j - 1)))(hN:i+j<=N):wpS (model prog w) A E s (Uv a b mg ac bc i j o) (OU less a b st N) bE:=by
 unfold Uv;have hi:=J.hi;have hj:=J.hj;have ia:=J.ia;have jb:=J.jb;exact au (wp_elem ∅ ?_);have m:=Bw O T J.mi ∅ ia jb λ_=>hc;by_cases c:j - 1=1;rw[am ⇑c];show aA #[hg, .inl #[_,_,rfl,qX O T m c]];rw [ak ⇑c];exact au (wp_elem ∅ ?_);have sg:=vJ O T.sb (i:=0) (n:=j - 1) ∅;exact au (wp_galL O L hk (T.ma (i - 1) ∅) (λk hk=>#[∅,T.mb _ ∅]) ∅ sg λk h1 h2 h3=> ?_);dsimp only;simp![Nat.zero_add] at h2 h3;by_cases ck:j - 1 - k >0;rw[am ck];have m2:MH less a.toList b.toList (o.push (cy b (j - 1))++(b.extract k (j - 1)).reverse).toList.reverse i k:=by rw[Bn,mm];exact(m.swap.Kw T.sb ∅ λx hx y hy=> ?_).swap;let⟨n,n1,n2,n3,rfl⟩:=A6 hx;let⟨k',k1,k2,rfl⟩:=uE hy;show O.trans _ _ _ (lM O T.sa (show k'<=i - 1 by lia) ∅) (h3 n n1 n2)
 by_cases c2:k=1;rw[am ⇑c2];show aA #[hg, .inl #[_,_,rfl,qX O T m2 c2]];rw[ak ⇑c2];by_cases c3:k=0;rw[am ⇑c3];show aA #[hg, .inl #[_,_,rfl,mV T m2 (.inr c3)]];rw[ak ⇑c3];show wp_p3H O T hg #[m2,hi, ∅,ia, ∅] (O.le (h2 (k - 1) ∅)) ∅;rw[ak ck];show wp_p3H O T hg #[m,hi, ∅,ia, ∅] (O.le (h2 (j - 1 - 1) ∅)) ∅
def wp_p1H (O:Ord less)(L:gU prog w A E s kd a₀ less)(T:vy less a₀ a b){st bE:X5}{mg ac bc N:Nat}{o:RQ kB}{i j:Nat}(hk:kindOf st=kd)(hg: ∃g,bE=cK st g)(J:JH less a b o i j)(hN:i+j<=N):wpS (model prog w) A E s (Ux a b mg ac bc i j o) (OU less a b st N) bE:=by
 unfold Ux;have hi:=J.hi;have hj:=J.hj;have ia:=J.ia;have jb:=J.jb;exact au (wpS_modify ?_);have wz: ∃g,cK bE mg=cK st g:=by let⟨g,rfl⟩:=hg;show#[mg,rfl]
 have zw:kindOf (cK bE mg)=kd:=by let⟨g,rfl⟩:=hg;show hk
 exact au (wp_elem ∅ ?_);have sg:=vJ O T.sa (i:=0) (n:=i) ∅;exact au (wp_galR O L zw (T.mb (j - 1) ∅) (λk hk=>#[∅,T.ma _ ∅]) ∅ sg λk h1 h2 h3=> ?_);dsimp only;simp![Nat.zero_add] at h2 h3;by_cases ck:i - k >0;rw[am ck];have m2:MH less a.toList b.toList (o++(a.extract k i).reverse).toList.reverse k j:=by rw[Bn,mm];exact J.mi.Kw T.sa ∅ λx hx y hy=> ?_;let⟨n,n1,n2,n3,rfl⟩:=A6 hx;let⟨k',k1,k2,rfl⟩:=uE hy;show O.trans _ _ _ (lM O T.sb (show k'<=j - 1 by lia) ∅) (O.le (h3 n n1 n2))
 by_cases c2:k=0;rw[am ⇑c2];show aA #[wz, .inl #[_,_,rfl,mV T m2 (.inl c2)]];rw[ak ⇑c2];show wp_p2H O L T zw wz #[m2, ∅,hj, ∅,jb] (h2 (k - 1) ∅) ∅;rw[ak ck];show wp_p2H O L T zw wz J (h2 (i - 1) ∅) hN
def wp_two1 (O:Ord less)(L:gU prog w A E s kd a₀ less)(T:vy less a₀ a b){bE:X5}{mg ac bc:Nat}{o:RQ kB}{i j:Nat}{Q:ForInStep (fP (RQ kB)×Nat×Nat×RQ kB×Nat×Nat) ->X5 ->Prop}(hk:kindOf bE=kd)(J:JH less a b o i j) (h1: ∀x c,tG less a b x ->Q (.done (some x,c)) bE) (h2: ∀i' j' o c,JH less a b o i' j' ->i'+j'+1=i+j ->Q (.done (none,i',j',o,c)) bE /\ Q (.yield (none,i',j',o,c)) bE): wpS (model prog w) A E s (ML a b mg i j o ac bc) Q bE:=by
 unfold ML;have hi:=J.hi;have hj:=J.hj;have ia:=J.ia;have jb:=J.jb;exact au (wp_elem ∅ (au (wp_elem ∅ (au (L _ _ _ _ (T.mb (j - 1) ∅) (T.ma (i - 1) ∅) hk ?_)))));dsimp only;cases e:less (cy b (j - 1)) (cy a (i - 1)) with
 | true=>simp![bX];exact au (wp_elem ∅ ?_);have m:=vT O T J.mi hi ia jb λ_=>O.le e;by_cases c:i - 1=0;rw[am ⇑c];show aA (h1 _ _ (mV T m (.inl c)));rw[ak ⇑c];have:=h2 (i - 1) j _ (ac+1,0) #[m, ∅,hj, ∅,jb] ∅;split;show aA this.1;show aA this.2
 | false=>simp![ay,bv];exact au (wp_elem ∅ ?_);have m:=Bw O T J.mi ∅ ia jb λ_=>e;by_cases c:j - 1=1;rw[am ⇑c];show aA (h1 _ _ (qX O T m c));rw[ak ⇑c];have:=h2 i (j - 1) _ (0,bc+1) #[m,hi, ∅,ia, ∅] ∅;split;show aA this.1;show aA this.2
def wp_mHi (O:Ord less)(L:gU prog w A E s kd a₀ less)(T:vy less a₀ a b){st:X5}{Q:RQ kB ->X5 ->Prop}(hk:kindOf st=kd)(h: ∀r g,tG less a b r ->Q r (cK st g)):wpS (model prog w) A E s (WB a b) Q st:=by
 rw[Dq];have na:=T.na;have nb:=T.nb;exact au (wpS_lift (wpAny_rule #[rfl,?_]));exact au (wp_elem ∅ ?_);have h': ∀r,tG less a b r ->Q r st:=λr hr=>h r (gallopOf st) hr;have m:MH less a.toList b.toList (#[cy a (a.size - 1)]:RQ kB).toList.reverse (a.size - 1) b.size:=by
  have m0:MH less a.toList b.toList (#[]:RQ kB).toList.reverse a.size b.size:=#[by simp,by simp,by simp,by simp]
  show vT O T m0 ∅ (ao _) (ao _) λ_=>O.le (T.hl _ ∅)
 by_cases c:a.size - 1=0;rw[am ⇑c];show aA (h' _ (mV T m (.inl c)));rw[ak ⇑c];by_cases c2:b.size=1;rw[am ⇑c2];show aA (h' _ (qX O T m c2));rw[ak ⇑c2];exact au (wpS_get ?_);exact au (wpS_mono (cf (I:=λn c bE=>(∃g,bE=cK st g) /\ gb λi j o mg=>cT (c=(none,i,j,o,mg)) (JH less a b o i j) (i+j+n<a.size+b.size)) (Q:=λc bE=>(∃g,bE=cK st g) /\ cx λx d=>c=(some x,d) /\ tG less a b x) ?_ ?_ #[#[gallopOf st,rfl],_,_,_,_,rfl,#[m, ∅, ∅, ∅, ∅], ∅]) ?_)
 .rintro n c bE _ hn ⟨hg,i,j,o,mg,rfl,J,hN⟩;unfold Rs;dsimp only;have zw:kindOf bE=kd:=by let⟨g,rfl⟩:=hg;show hk
  exact au (wpS_mono (cf (I:=λx c mK=>mK=bE /\ gb λi' j' o' d=>cT (c=(none,i',j',o',d)) (JH less a b o' i' j') (i'+j'+x=i+j)) (Q:=λc mK=>mK=bE /\ ((cx λx d=>c=(some x,d) /\ tG less a b x) \/ gb λi' j' o' d=>cT (c=(none,i',j',o',d)) (JH less a b o' i' j') (i'+j'+1<=i+j))) ?_ ?_ #[rfl,i,j,o,_,rfl,J,rfl]) ?_);rintro x c mK _ hx ⟨rfl,i',j',o',⟨ac,bc⟩,rfl,J',Ma⟩;dsimp only;exact wp_two1 O L T zw J' (λx c hr=>#[rfl, .inl #[x,c,rfl,hr]]) λi2 j2 o2 c J2 h2=>#[#[rfl, .inr #[i2,j2,o2,c,rfl,J2, ∅]],#[rfl,i2,j2,o2,c,rfl,J2, ∅]]
  rintro c mK ⟨rfl,i',j',o',d,rfl,J',Ma⟩;show#[rfl, .inr #[i',j',o',d,rfl,J', ∅]]
  .rintro c mK ⟨rfl,⟨x,d,rfl,hr⟩ | ⟨i',j',o',⟨ac,bc⟩,rfl,J',Ma⟩⟩;show aA #[hg,x,_,rfl,hr]
   .dsimp only;exact au (wpS_lift (wpAny_rule #[rfl,?_]));exact au (wpS_mono (cf (I:=λx c tW=>(∃g,tW=cK st g) /\ gb λi' j' o' d=>cT (c=(none,i',j',o',d)) (JH less a b o' i' j') (i'+j'+1<=i+j)) (Q:=λc tW=>(∃g,tW=cK st g) /\ ((cx λx d=>c=(some x,d) /\ tG less a b x) \/ gb λi' j' o' d=>cT (c=(none,i',j',o',d)) (JH less a b o' i' j') (i'+j'+1<=i+j))) ?_ ?_ #[hg,i',j',o',_,rfl,J',Ma]) ?_)
    .rintro x c tW _ hx ⟨DI,i3,j3,o3,⟨Wy,ac3,bc3⟩,rfl,J3,jU⟩;dsimp only;split;all_goals
      exact wpS_mono (wp_p1H O L T (N:=i+j - 1) hk DI J3 ∅) ?_
      rintro r fm ⟨Op,⟨x,c,rfl,hr⟩ | ⟨i4,j4,o4,c,rfl | rfl,J4,h4⟩⟩
      show#[Op, .inl #[x,c,rfl,hr]]
      show#[Op, .inr #[i4,j4,o4,c,rfl,J4, ∅]]
      show#[Op,i4,j4,o4,c,rfl,J4, ∅]
    rintro c tW ⟨DI,i3,j3,o3,d,rfl,J3,jU⟩;show#[DI, .inr #[i3,j3,o3,d,rfl,J3,jU]];rintro c tW ⟨DI,⟨x,d,rfl,hr⟩ | ⟨i3,j3,o3,⟨Wy,ac3,bc3⟩,rfl,J3,jU⟩⟩;show aA #[DI,x,_,rfl,hr];dsimp only;exact au (wpS_modify (aA #[?_,i3,j3,o3,_,rfl,J3, ∅]));let⟨g,rfl⟩:=DI;show#[_,rfl]
 rintro c bE ⟨hg,i,j,o,mg,rfl,J,hN⟩;have:=J.hi;have:=J.hj;lia;rintro c bE ⟨⟨g,rfl⟩,x,d,rfl,hr⟩;show aA (h x g hr)
end
def AX (xs:RQ kB)(at_:Nat)(l:cV (kB×Nat)):RQ kB:=l.foldl (λa (p,j)=>a.setIfInBounds (at_+j) p) xs
theorem zB (at_ n:Nat): ∀ (ms:cV kB) (k:Nat) (xs:RQ kB),at_+k+ms.length<=xs.size ->(AX xs at_ (ms.zipIdx k))[n]? =if at_+k<=n /\ n<at_+k+ms.length then ms[n - (at_+k)]? else xs[n]?
 | [],k,xs,h=>by rw[ak (by simp)];rfl
 | p ::ms,k,xs,h=>by rw[aL] at h;change(AX (xs.setIfInBounds (at_+k) p) at_ (ms.zipIdx (k+1)))[n]? =_;rw[zB at_ n ms (k+1) _ (by rw[Array.size_setIfInBounds];lia)];rw[aL];by_cases c:n=at_+k;subst c;rw[ak ∅,am ∅,Array.getElem?_setIfInBounds_self_of_lt ∅];simp;rw[Array.getElem?_setIfInBounds_ne (de c)];by_cases c2:at_+(k+1) <=n /\ n<at_+(k+1)+ms.length;rw[am c2,am ∅,show n - (at_+k)=(n - (at_+(k+1)))+1 by lia,List.getElem?_cons_succ];rw[ak c2,ak ∅]
def EF {xs:RQ kB}{at_:Nat}{ms:cV kB}(h:at_+ms.length<=xs.size):(AX xs at_ ms.zipIdx).toList=xs.toList.take at_++(ms++xs.toList.drop (at_+ms.length)):=by
 apply List.ext_getElem?;intro n;have e:=zB at_ n ms 0 xs ∅;rw[Nat.add_zero] at e;have e':(AX xs at_ ms.zipIdx).toList[n]? =(AX xs at_ ms.zipIdx)[n]? :=by simp
 rw[e',e];have hx: ∀k:Nat,xs.toList[k]? =xs[k]? :=λk=>Array.getElem?_toList ..;by_cases c1:n<at_;rw[ak ∅,a7 (by rw[cj];simp;lia),List.getElem?_take,am c1,hx];have lt:(xs.toList.take at_).length=at_:=by rw[cj];simp;lia
 rw[aZ ∅,lt];by_cases c2:n<at_+ms.length;rw[am ∅,a7 ∅];rw[ak ∅,aZ ∅,List.getElem?_drop,hx];congr 1;lia
def Qu (l:cV kB)(i j k:Nat)(jF:i<=j)(hjk:j<=k)(hk:k<=l.length):l=l.take i++((l.take j).drop i++((l.take k).drop j++l.drop k)):=by
 have e1:(l.take k).drop j++l.drop k=l.drop j:=by rw[List.drop_take];have:=bD (k - j) (l.drop j);rw[List.drop_drop,show j+(k - j)=k by lia] at this;show this
 have e2:(l.take j).drop i++l.drop j=l.drop i:=by rw[List.drop_take];have:=bD (j - i) (l.drop i);rw[List.drop_drop,show i+(j - i)=j by lia] at this;show this
 rw[e1,e2,bD]
def G4 {less:kB ->kB ->Bool}(O:Ord less){xs:RQ kB}{i j lo hi:Nat}(h:Sg less xs lo hi)(h1:lo<=i)(h2:j<=hi)(h3:hi<=xs.size):(xs.extract i j).toList.Pairwise (LE less):=by
 rw[List.pairwise_iff_getElem];intro x y hx hy UL;have e: ∀n (hn:n< (xs.extract i j).toList.length),(xs.extract i j).toList[n]=cy xs (i+n):=λn hn=>by
  have ym:n< (xs.extract i j).size:=by rw[dh] at hn;show hn
  rw[Array.size_extract] at ym;unfold cy;rw[getElem?_pos xs (i+n) ∅];simp
 rw[e x hx,e y hy];have hy':y< (xs.extract i j).size:=by rw[dh] at hy;show hy
 rw[Array.size_extract] at hy';show h _ _ ∅ ∅ ∅
def lz {xs:RQ kB}{i j n:Nat}(h:n< (xs.extract i j).size):cy (xs.extract i j) n=cy xs (i+n):=by unfold cy;rw[Array.size_extract] at h;rw[Array.getElem?_extract,am ∅]
section
variable {prog:RV}{w:W4}{A:X7}{E:cW ->df ->Prop}{s:df}{kd:SortKind}{a₀:RQ kB}{less:kB ->kB ->Bool}
abbrev Rn:=Nat×Nat×Nat
theorem NS (i:Nat):mergeAt' i=(do
 let s <- get
 let (some (sa,na,pw),some (sb,nb,_)):=((pendingOf s)[i]?,(pendingOf s)[i+1]?) | unsupported "internal:list.sort.pending"
 set (setPending s (((pendingOf s).setIfInBounds i (sa,na+nb,pw)).eraseIdxIfInBounds (i+1)))
 let some k <- Kd false (<- elem' (arrOf s) sb) (arrOf s) sa na 0 | return false
 let (sa,na):=(sa+k,na - k)
 if na==0 then return true
 let some nb <- Kd true (<- elem' (arrOf s) (sa+na - 1)) (arrOf s) sb nb (nb - 1) | return false
 if nb==0 then return true
 let x:=(arrOf s).extract sa sb
 let y:=(arrOf s).extract sb (sb+nb)
 let r <- if na<=nb then Wz x y else WB x y
 modify λs=>setArr s (AX (arrOf s) sa r.toList.zipIdx)
 return(failedOf (<- get)).isNone):=rfl
def ID {σ:Type}{M:Model}{v:σ}{Q:PUnit ->σ ->Prop}{st:σ}(h:Q ⟨⟩ v):wpS M A E s (set v:StateT σ Sem PUnit) Q st:=by unfold wpS;rw[StateT.run_set];show aX #[rfl,h]
def wp_mAt (O:Ord less)(L:gU prog w A E s kd a₀ less){st:X5}{Q:Bool ->X5 ->Prop}{l1 l2:cV Rn}{sa na pw sb nb Wf i:Nat}(B:SB kd a₀ st)(hp:pendingOf st=(l1++(sa,na,pw)::(sb,nb,Wf)::l2).toArray)(hi:i=l1.length) (R9:sb=sa+na) (h1:1<=na) (h2:1<=nb) (hz:sb+nb<=a₀.size) (s1:Sg less (arrOf st) sa sb) (s2:Sg less (arrOf st) sb (sb+nb)) (h: ∀bE,SB kd a₀ bE ->pendingOf bE=(l1++(sa,na+nb,pw)::l2).toArray ->Sg less (arrOf bE) sa (sb+nb) ->qP sa (sb+nb) (arrOf st) (arrOf bE) ->Q true bE):wpS (model prog w) A E s (mergeAt' i) Q st:=by
 subst hi;rw[NS];exact au (wpS_get ?_);have p1:(pendingOf st)[l1.length]? =some (sa,na,pw):=by rw[hp];simp
 have p2:(pendingOf st)[l1.length+1]? =some (sb,nb,Wf):=by rw[hp];simp[aZ]
 rw[p1,p2];dsimp only;exact au (ID ?_);have hpd:((pendingOf st).setIfInBounds l1.length (sa,na+nb,pw)).eraseIdxIfInBounds (l1.length+1)=(l1++(sa,na+nb,pw)::l2).toArray:=by rw[hp];simp![List.setIfInBounds_toArray,List.eraseIdxIfInBounds_toArray];congr 1;rw[List.set_append_right _ _ (ao _),Nat.sub_self,List.set_cons_zero];rw[List.eraseIdx_append_of_length_le ∅,show l1.length+1 - l1.length=1 by lia];rfl
 rw[hpd];let CY:X5:=setPending st (l1++(sa,na+nb,pw)::l2).toArray
 have B1:SB kd a₀ CY:=#[B.perm,B.kd,B.fl]
 have hsz:=B.size;change wpS _ _ _ _ _ Q CY;exact au (wp_elem ∅ ?_);exact au (wp_galR O L B.kd (B.mem ∅) (λk hk=>#[∅,B.mem ∅]) ∅ (by rw[<- R9];show s1) λk g1 g2 g3=> ?_);dsimp only;by_cases c1:na - k=0;rw [am ⇑c1];exact aA (h CY B1 rfl (λi j hi jF hj=> ?_) qP.refl);change LE less (cy (arrOf st) i) (cy (arrOf st) j);by_cases c2:j<sb;show s1 i j hi jF c2;by_cases c3:sb<=i;show s2 i j c3 jF hj;have:=g2 (i - sa) ∅;rw[show sa+(i - sa)=i by lia] at this;show O.trans _ _ _ this (s2 sb j (ao _) ∅ hj);rw [ak ⇑c1];exact au (wp_elem ∅ ?_);rw[show sa+k+(na - k) - 1=sb - 1 by lia];exact au (wp_galL O L B.kd (B.mem ∅) (λk hk=>#[∅,B.mem ∅]) ∅ s2 λm f1 f2 f3=> ?_);dsimp only;by_cases c2:m=0;rw [am ⇑c2];exact aA (h CY B1 rfl (λi j hi jF hj=> ?_) qP.refl);change LE less (cy (arrOf st) i) (cy (arrOf st) j);by_cases c2:j<sb;show s1 i j hi jF c2;by_cases c3:sb<=i;show s2 i j c3 jF hj;have:=f3 (j - sb) ∅ ∅;rw[show sb+(j - sb)=j by lia] at this;show O.trans _ _ _ (s1 i (sb - 1) hi ∅ ∅) this;rw [ak ⇑c2];have W7:((arrOf st).extract (sa+k) sb).size=na - k:=by rw[Array.size_extract];lia
 have W6:((arrOf st).extract sb (sb+m)).size=m:=by rw[Array.size_extract];lia
 have T:vy less a₀ ((arrOf st).extract (sa+k) sb) ((arrOf st).extract sb (sb+m)):=by exact#[G4 O s1 ∅ (ao _) ∅,G4 O s2 (ao _) ∅ ∅,λi hi=> ?_,λi hi=> ?_, ∅, ∅,?_,λj hj=> ?_];rw[lz hi];rw[W7] at hi;show B.mem ∅;rw[lz hi];rw[W6] at hi;show B.mem ∅;rw[lz ∅,lz ∅];show g3 k (ao _) ∅;rw[lz hj,lz ∅];rw[W6] at hj;rw[W7,show sa+k+(na - k - 1)=sb - 1 by lia];show f2 j hj
 have fin : ∀ (r:RQ kB) (g:Nat),tG less ((arrOf st).extract (sa+k) sb) ((arrOf st).extract sb (sb+m)) r ->wpS (model prog w) A E s (do modify λs=>setArr s (AX (arrOf s) (sa+k) r.toList.zipIdx);return(failedOf (<- get)).isNone) Q (cK CY g):=by
  rintro r g ⟨rp,rs⟩;have rl:r.toList.length=sb+m - (sa+k):=by
   rw[rp.length_eq,aK];have e1:((arrOf st).extract (sa+k) sb).toList.length=na - k:=by rw[dh];show W7
   have e2:((arrOf st).extract sb (sb+m)).toList.length=m:=by rw[dh];show W6
   rw[e1,e2];lia
  have wl:=EF (xs:=arrOf st) (at_:=sa+k) (ms:=r.toList) (by rw[rl,hsz];lia);rw[rl,show sa+k+(sb+m - (sa+k))=sb+m by lia] at wl;have wa: ∀n,cy (AX (arrOf st) (sa+k) r.toList.zipIdx) n=if sa+k<=n /\ n<sb+m then(r.toList[n - (sa+k)]?).getD (.none, .none) else cy (arrOf st) n:=λn=>by have e:=zB (sa+k) n r.toList 0 (arrOf st) (by rw[rl,hsz];lia);rw[Nat.add_zero,rl,show sa+k+(sb+m - (sa+k))=sb+m by lia] at e;unfold cy;rw[e];split<;>rfl
  have wm: ∀n,sa+k<=n ->n<sb+m -> ∃n',cT (sa+k<=n') (n'<sb+m) (cy (AX (arrOf st) (sa+k) r.toList.zipIdx) n=cy (arrOf st) n'):=λn n1 n2=>by rw[wa,am #[n1,n2],aG ∅];have hm:=rp.mem_iff.mp (List.getElem_mem (l:=r.toList) (n:=n - (sa+k)) ∅);obtain hm | hm:=bh.mp hm;rw[mm] at hm;let⟨q,q1,q2,q3,e⟩:=A6 hm;show#[q,q1, ∅,e];rw[mm] at hm;let⟨q,q1,q2,q3,e⟩:=A6 hm;show#[q, ∅,q2,e]
  exact au (wpS_modify ?_);exact au (wpS_get (aA ?_));have ef:(failedOf (setArr (cK CY g) (AX (arrOf (cK CY g)) (sa+k) r.toList.zipIdx))).isNone=true:=by change(failedOf st).isNone=true;rw[B.fl];rfl
  rw[ef];exact h _ #[?_,B.kd,B.fl] rfl (λi j hi jF hj=> ?_) (λn hn=> ?_);change(AX (arrOf st) (sa+k) r.toList.zipIdx).Perm a₀;exact Array.Perm.trans ?_ B.perm;rw[Array.perm_iff_toList_perm,wl];have e3:=Qu (arrOf st).toList (sa+k) sb (sb+m) ∅ ∅ (by simp;lia);exact List.Perm.trans ?_ (List.Perm.of_eq e3.symm);exact List.Perm.append_left _ ?_;rw[<- b0];exact List.Perm.append_right _ ?_;rw[mm,mm] at rp;show rp;change LE less (cy (AX (arrOf st) (sa+k) r.toList.zipIdx) i) (cy (AX (arrOf st) (sa+k) r.toList.zipIdx) j);have RM: ∀x y,sa<=x ->x<sa+k ->sa+k<=y ->y<sb+nb ->LE less (cy (arrOf st) x) (cy (arrOf st) y):=λx y x1 x2 y1 y2=>by by_cases c:y<sb;show s1 x y x1 ∅ c;have:=g2 (x - sa) ∅;rw[show sa+(x - sa)=x by lia] at this;show O.trans _ _ _ this (s2 sb y (ao _) ∅ y2)
  have WU: ∀x y,sa+k<=x ->x<sb+m ->sb+m<=y ->y<sb+nb ->LE less (cy (arrOf st) x) (cy (arrOf st) y):=λx y x1 x2 y1 y2=>by by_cases c:x<sb;have:=f3 (y - sb) ∅ ∅;rw[show sb+(y - sb)=y by lia] at this;show O.trans _ _ _ (s1 x (sb - 1) ∅ ∅ ∅) this;show s2 x y ∅ ∅ y2
  by_cases i1:i<sa+k;have ei:=wa i;rw[ak ∅] at ei;rw[ei];by_cases j1:j<sa+k;have ej:=wa j;rw[ak ∅] at ej;rw[ej];show s1 i j hi jF ∅;by_cases j2:j<sb+m;let⟨n',n1,n2,e⟩:=wm j ∅ j2;rw[e];show RM i n' hi i1 n1 ∅;have ej:=wa j;rw[ak ∅] at ej;rw[ej];show RM i j hi i1 ∅ hj;by_cases i2:i<sb+m;by_cases j2:j<sb+m;rw[wa i,wa j,am ∅,am ∅,aG ∅,aG ∅];by_cases cij:i=j;subst cij;show O.refl _;show List.pairwise_iff_getElem.mp rs _ _ ∅ ∅ ∅;let⟨n',n1,n2,e⟩:=wm i ∅ i2;have ej:=wa j;rw[ak ∅] at ej;rw[e,ej];show WU n' j n1 n2 ∅ hj;have ei:=wa i;have ej:=wa j;rw[ak ∅] at ei ej;rw[ei,ej];show s2 i j ∅ jF hj;change cy (AX (arrOf st) (sa+k) r.toList.zipIdx) n=_;rw[wa n,ak ∅]
 by_cases c3:na - k<=m;rw[am c3];show au (wp_mLo O L T B.kd λr g hr=>fin r g hr);rw[ak c3];show au (wp_mHi O L T B.kd λr g hr=>fin r g hr)
end
def Runs (less:kB ->kB ->Bool)(xs:RQ kB):cV Rn ->Nat ->Nat ->Prop
 | [],lo,hi=>lo=hi
 | (a,n,_)::r,lo,hi=>a=lo /\ 1<=n /\ Sg less xs lo (lo+n) /\ Runs less xs r (lo+n) hi
section
variable {less:kB ->kB ->Bool}{xs ys:RQ kB}
theorem Runs.le: ∀ {l:cV Rn} {lo hi:Nat},Runs less xs l lo hi ->lo+l.length<=hi
 | [],lo,hi,h=>Nat.le_of_eq h
 | (a,n,p)::r,lo,hi,h=>by have:=Runs.le h.2.2.2;have:=h.2.1;rw[aL];lia
theorem Runs.app: ∀ {l1 l2:cV Rn} {lo hi:Nat},Runs less xs (l1++l2) lo hi↔ ∃m,Runs less xs l1 lo m /\ Runs less xs l2 m hi
 | [],l2,lo,hi=>#[λh=>#[lo,rfl,h],λ⟨m,e,h⟩=>by cases e;show h]
 | (a,n,p)::r,l2,lo,hi=>by symm;rintro⟨h1,h2,h3,h4⟩;let⟨m,a1,a2⟩:=Runs.app.mp h4;show#[m,#[h1,h2,h3,a1],a2];rintro⟨m,⟨h1,h2,h3,a1⟩,a2⟩;show#[h1,h2,h3,Runs.app.mpr #[m,a1,a2]]
theorem Runs.out {e1 e2:Nat}(o:qP e1 e2 xs ys): ∀ {l:cV Rn} {lo hi:Nat},(hi<=e1 \/ e2<=lo) ->Runs less xs l lo hi ->Runs less ys l lo hi
 | [],lo,hi,_,h=>h
 | (a,n,p)::r,lo,hi,hc,⟨h1,h2,h3,h4⟩=>by have:=Runs.le h4;exact#[h1,h2,λi j hi jF hj=> ?_,Runs.out o ∅ h4];rw[o i ∅,o j ∅];show h3 i j hi jF hj
theorem Fi {e1 e2 lo hi:Nat}(o:qP e1 e2 xs ys)(hc:hi<=e1 \/ e2<=lo)(h:Sg less xs lo hi):Sg less ys lo hi:=λi j hi jF hj=>by rw[o i ∅,o j ∅];show h i j hi jF hj
def EX {α:Type}{l:cV α}(h:2<=l.length):dQ λl1 x y=>l=l1++ [x,y]:=by exact#[l.take (l.length - 2),l[l.length - 2],l[l.length - 1],?_];have:=bD (l.length - 2) l;rw[List.drop_eq_getElem_cons ∅,List.drop_eq_getElem_cons ∅,List.drop_eq_nil_of_le ∅] at this;have e:l.length - 2+1=l.length - 1:= ∅;simp![e] at this;show this.symm
theorem Bc {α:Type}{l:cV α}(h:l≠ []): ∃l1 x,l=l1++ [x]:=#[l.dropLast,l.getLast h,(List.dropLast_concat_getLast h).symm]
end
section
variable {prog:RV}{w:W4}{A:X7}{E:cW ->df ->Prop}{s:df}{kd:SortKind}{a₀:RQ kB}{less:kB ->kB ->Bool}
def xX (l1:cV Rn)(x:Rn)(f:Rn ->Rn):(l1++ [x]).modify l1.length f=l1++ [f x]:=by
 induction l1 with
 | nil=>rfl
 | cons a l ih=>rw[List.cons_append,aL,List.modify_succ_cons,ih];rfl
def wp_mR (O:Ord less)(L:gU prog w A E s kd a₀ less){st:X5}{Q:Bool ->X5 ->Prop}{l1 l2:cV Rn}{x y:Rn}{i lo:Nat}(B:SB kd a₀ st)(hp:pendingOf st=(l1++x::y::l2).toArray)(hi:i=l1.length)(hz:lo<=a₀.size)(R:Runs less (arrOf st) (l1++x::y::l2) 0 lo) (h: ∀bE z,SB kd a₀ bE ->pendingOf bE=(l1++z::l2).toArray ->Runs less (arrOf bE) (l1++z::l2) 0 lo ->qP 0 lo (arrOf st) (arrOf bE) ->Q true bE):wpS (model prog w) A E s (mergeAt' i) Q st:=by let⟨sa,na,pw⟩:=x;let⟨sb,nb,Wf⟩:=y;let⟨m,r1,rfl,h1,s1,rfl,h2,s2,r2⟩:=Runs.app.mp R;have hle:=r2.le;exact wp_mAt O L B hp hi rfl h1 h2 ∅ s1 s2 λbE B' sO s' o'=>h bE _ B' sO ?_ λk hk=>o' k ∅;exact Runs.app.mpr #[_,r1.out o' (.inl (ao _)),rfl, ∅,?_,?_];rw[<- Nat.add_assoc];show s';rw[<- Nat.add_assoc];show r2.out o' (.inr (ao _))
def xE {xs:RQ kB}{l1:cV Rn}{a n p q lo hi:Nat}(h:Runs less xs (l1++ [(a,n,p)]) lo hi):Runs less xs (l1++ [(a,n,q)]) lo hi:=by let⟨m,r1,h1,h2,h3,h4⟩:=Runs.app.mp h;show Runs.app.mpr #[m,r1,h1,h2,h3,h4]
def wp_sort (O:Ord less)(L:gU prog w A E s kd a₀ less){st:X5}{Q:Unit ->X5 ->Prop}(B:SB kd a₀ st)(hp0:pendingOf st= #[])(h2:2<=a₀.size) (h: ∀bE,(arrOf bE).Perm a₀ ->failedOf bE=none ->Sg less (arrOf bE) 0 a₀.size ->Q () bE):wpS (model prog w) A E s sortRuns' Q st:=by
 rw[sortRuns'_eq];exact au (wpS_get ?_);dsimp only;simp![B.size];generalize minRun' a₀.size a₀.size 0=mr;exact au (wpS_mono (cf (I:=λx c bE=>cx λlo pl=>jX (c=(none,lo)) (x<=lo) (lo<=a₀.size) (SB kd a₀ bE) (pendingOf bE=pl.toArray) (Runs less (arrOf bE) pl 0 lo)) (Q:=λc bE=> ∃pl,eT (c=(none,a₀.size)) (SB kd a₀ bE) (pendingOf bE=pl.toArray) (Runs less (arrOf bE) pl 0 a₀.size)) ?step ?fin #[0,[],rfl,ao _,cZ _,B,hp0,rfl]) ?post);case fin=>
  rintro c bE ⟨lo,pl,rfl,h1,Mb,B',hp,R⟩
  have:lo=a₀.size:= ∅
  subst this
  show#[pl,rfl,B',hp,R]
 case step =>
  rintro x c bE _ hx ⟨lo,pl,rfl,h1,Mb,B',hp,R⟩
  dsimp only
  by_cases c1:lo≥a₀.size
  rw[am c1]
  have:lo=a₀.size:= ∅
  subst this
  show aA #[pl,rfl,B',hp,R]
  rw[ak c1]
  exact au (wp_run O L ∅ ∅ B' λm mK B2 m1 m2 s2 p2 o2=> ?_)
  dsimp only
  have R2:Runs less (arrOf mK) pl 0 lo:=R.out o2 (.inl (ao _))
  by_cases c2:m<mr
  rw [am c2]
  exact au (wpS_lift (wpAny_rule #[rfl,?_]))
  exact au (wp_bin O L ∅ ∅ B2 s2 λtW B3 s3 p3 o3=> ?_)
  simp![aV,ay,bv]
  have R3:=R2.out o3 (.inl (ao _))
  have n1:1<=min (a₀.size - lo) mr:= ∅
  have n2:lo+min (a₀.size - lo) mr<=a₀.size:= ∅
  rw[p2,hp] at p3
  clear o3
  revert s3 n1 n2
  generalize min (a₀.size - lo) mr=n
  intro s3 n1 n2
  exact au (wpS_get ?_)
  cases hb:(pendingOf tW).back? with
  | none=>dsimp only;exact au (wpS_modify (aA #[lo+n,pl++ [(lo,n,0)],rfl, ∅,n2,#[B3.perm,B3.kd,B3.fl],?_,Runs.app.mpr #[lo,R3,rfl,n1,s3,rfl]]));change(pendingOf tW).push (lo,n,0)=_;rw[p3];simp
  | some q=>
   let⟨s1,NP,p1⟩:=q;dsimp only;have mB:pl≠ []:=λe=>by subst e;rw[p3] at hb;simp at hb
   exact au (wpS_mono (cf (I:=λ_ c fm=>c=(none,()) /\ ∃pl,fS (pl≠ []) (SB kd a₀ fm) (Sg less (arrOf fm) lo (lo+n)) (pendingOf fm=pl.toArray) (Runs less (arrOf fm) pl 0 lo)) (Q:=λc fm=>c=(none,()) /\ ∃pl,fS (pl≠ []) (SB kd a₀ fm) (Sg less (arrOf fm) lo (lo+n)) (pendingOf fm=pl.toArray) (Runs less (arrOf fm) pl 0 lo)) ?_ (λc fm h=>h) #[rfl,pl,mB,B3,s3,p3,R3]) ?_);rintro y c fm _ hy ⟨rfl,vW,ne4,B4,s4,p4,R4⟩;exact au (wpS_get ?_);by_cases c2:(pendingOf fm).size >1;rw[am c2];have hl:2<=vW.length:=by rw[p4] at c2;simp at c2;lia
   let⟨l1,u,v,e4⟩:=EX hl;have e5:(pendingOf fm).size - 2=l1.length:=by rw[p4,e4];simp
   have e6:(pendingOf fm)[(pendingOf fm).size - 2]? =some u:=by rw[e5,p4,e4];simp
   rw[e6];let⟨u1,u2,u3⟩:=u;dsimp only;split;show aA #[rfl,vW,ne4,B4,s4,p4,R4];subst e4;exact au (wp_mR O L (l2:= []) B4 p4 e5 ∅ R4 λO8 z B5 p5 R5 o5=> ?_);simp![aV,ay,bv];show aA #[rfl,_,by simp,B5,Fi o5 (.inr (ao _)) s4,p5,R5];rw[ak c2];show aA #[rfl,vW,ne4,B4,s4,p4,R4];rintro c fm ⟨rfl,vW,ne4,B4,s4,p4,R4⟩;dsimp only;exact au (wpS_modify (au (wpS_modify (aA ?_))));let⟨l1,⟨u1,u2,u3⟩,rfl⟩:=Bc ne4;exact#[lo+n,(l1++ [(u1,u2,power' a₀.size (2*s1+NP) (2*s1+NP+NP+n) a₀.size)])++ [(lo,n,0)],rfl, ∅,n2,#[B4.perm,B4.kd,B4.fl],?_,Runs.app.mpr #[lo,xE R4,rfl,n1,s4,rfl]];change((pendingOf fm).modify ((pendingOf fm).size - 1) _).push (lo,n,0)=_;rw[p4];simp![List.modify_toArray,List.push_toArray,aI];congr 2;rw[aK,List.length_singleton,Nat.add_sub_cancel];show xX l1 _ _
  rw [ak c2]
  have s3:=s2
  have n1:=m1
  have n2:lo+m<=a₀.size:= ∅
  have p3:pendingOf mK=pl.toArray:=by rw[p2,hp]
  have B3:=B2
  have R3:=R2
  clear p2 o2 B2 R2 s2 m1 m2 c2
  revert s3 n1 n2
  generalize m=n
  intro s3 n1 n2
  revert p3 B3 R3 s3
  generalize mK=tW
  intro p3 B3 R3 s3
  exact au (wpS_get ?_)
  cases hb:(pendingOf tW).back? with
  | none=>dsimp only;exact au (wpS_modify (aA #[lo+n,pl++ [(lo,n,0)],rfl, ∅,n2,#[B3.perm,B3.kd,B3.fl],?_,Runs.app.mpr #[lo,R3,rfl,n1,s3,rfl]]));change(pendingOf tW).push (lo,n,0)=_;rw[p3];simp
  | some q=>
   let⟨s1,NP,p1⟩:=q;dsimp only;have mB:pl≠ []:=λe=>by subst e;rw[p3] at hb;simp at hb
   exact au (wpS_mono (cf (I:=λ_ c fm=>c=(none,()) /\ ∃pl,fS (pl≠ []) (SB kd a₀ fm) (Sg less (arrOf fm) lo (lo+n)) (pendingOf fm=pl.toArray) (Runs less (arrOf fm) pl 0 lo)) (Q:=λc fm=>c=(none,()) /\ ∃pl,fS (pl≠ []) (SB kd a₀ fm) (Sg less (arrOf fm) lo (lo+n)) (pendingOf fm=pl.toArray) (Runs less (arrOf fm) pl 0 lo)) ?_ (λc fm h=>h) #[rfl,pl,mB,B3,s3,p3,R3]) ?_);rintro y c fm _ hy ⟨rfl,vW,ne4,B4,s4,p4,R4⟩;exact au (wpS_get ?_);by_cases c2:(pendingOf fm).size >1;rw[am c2];have hl:2<=vW.length:=by rw[p4] at c2;simp at c2;lia
   let⟨l1,u,v,e4⟩:=EX hl;have e5:(pendingOf fm).size - 2=l1.length:=by rw[p4,e4];simp
   have e6:(pendingOf fm)[(pendingOf fm).size - 2]? =some u:=by rw[e5,p4,e4];simp
   rw[e6];let⟨u1,u2,u3⟩:=u;dsimp only;split;show aA #[rfl,vW,ne4,B4,s4,p4,R4];subst e4;exact au (wp_mR O L (l2:= []) B4 p4 e5 ∅ R4 λO8 z B5 p5 R5 o5=> ?_);simp![aV,ay,bv];show aA #[rfl,_,by simp,B5,Fi o5 (.inr (ao _)) s4,p5,R5];rw[ak c2];show aA #[rfl,vW,ne4,B4,s4,p4,R4];rintro c fm ⟨rfl,vW,ne4,B4,s4,p4,R4⟩;dsimp only;exact au (wpS_modify (au (wpS_modify (aA ?_))));let⟨l1,⟨u1,u2,u3⟩,rfl⟩:=Bc ne4;exact#[lo+n,(l1++ [(u1,u2,power' a₀.size (2*s1+NP) (2*s1+NP+NP+n) a₀.size)])++ [(lo,n,0)],rfl, ∅,n2,#[B4.perm,B4.kd,B4.fl],?_,Runs.app.mpr #[lo,xE R4,rfl,n1,s4,rfl]];change((pendingOf fm).modify ((pendingOf fm).size - 1) _).push (lo,n,0)=_;rw[p4];simp![List.modify_toArray,List.push_toArray,aI];congr 2;rw[aK,List.length_singleton,Nat.add_sub_cancel];show xX l1 _ _
 case post =>
  rintro c bE ⟨pl,rfl,B',hp,R⟩
  dsimp only
  have hle:=R.le
  exact au (wpS_mono (cf (I:=λx c fm=>c=(none,()) /\ ∃pl,eT (SB kd a₀ fm) (pendingOf fm=pl.toArray) (Runs less (arrOf fm) pl 0 a₀.size) (pl.length<=1 \/ pl.length+x<=a₀.size)) (Q:=λc fm=>c=(none,()) /\ ∃pl,cT (SB kd a₀ fm) (Runs less (arrOf fm) pl 0 a₀.size) (pl.length<=1)) ?_ ?_ #[rfl,pl,B',hp,R, .inr ∅]) ?_)
  rintro x c fm _ hx ⟨rfl,vW,B4,p4,R4,hl⟩
  exact au (wpS_get ?_)
  have esz:(pendingOf fm).size=vW.length:=by rw[p4];simp
  by_cases c1:(pendingOf fm).size<=1
  rw[am c1]
  show aA #[rfl,vW,B4,R4, ∅]
  rw [ak c1]
  generalize ado:Option.any _ _=cnd
  have mk: ∀k,k+2<=vW.length -> ∀ (Q':ForInStep (fP Unit×Unit) ->X5 ->Prop),(∀bE pl,SB kd a₀ bE ->pendingOf bE=pl.toArray ->Runs less (arrOf bE) pl 0 a₀.size ->(pl.length<=1 \/ pl.length+(x+1) <=a₀.size) ->Q' (.yield (none,())) bE) ->wpS (model prog w) A E s (do
    let b <- mergeAt' k
    if(!b)=true then pure (ForInStep.done ((some (),()):fP Unit×Unit)) else pure (ForInStep.yield (none,()))) Q' fm:=by
   intro k hk Q' hQ
   have e:=bD k vW
   rw[List.drop_eq_getElem_cons ∅,List.drop_eq_getElem_cons ∅] at e
   have zw:(vW.take k).length=k:=by rw[cj];lia
   rw[<- e] at p4 R4
   exact au (wp_mR O L B4 p4 zw.symm (ao _) R4 λO8 z B5 p5 R5 o5=> ?_)
   simp![aV,ay,bv]
   exact aA (hQ _ _ B5 p5 R5 (.inr ?_))
   rw[aK,zw,aL,List.length_drop]
   lia
  cases cnd with
  | true=>simp![bX];show mk ((pendingOf fm).size - 2 - 1) ∅ _ λbE pl b1 b2 b3 b4=>#[rfl,pl,b1,b2,b3,b4]
  | false=>simp![ay,bv];show mk ((pendingOf fm).size - 2) ∅ _ λbE pl b1 b2 b3 b4=>#[rfl,pl,b1,b2,b3,b4]
  rintro c fm ⟨rfl,vW,B4,p4,R4,hl⟩
  show#[rfl,vW,B4,R4, ∅]
  rintro c fm ⟨rfl,vW,B4,R4,hl⟩
  exact aA (h _ B4.perm B4.fl ?_)
  match vW,R4,hl with
  | [],R4,_=>show absurd R4 (by change ¬(0=a₀.size);lia)
  | [(u1,u2,u3)],⟨_,_,h3,h4⟩,_=>have h4:0+u2=a₀.size:=h4;rw[h4] at h3;show h3
  | _::_::_,_,hl=>simp at hl
end
def Dn (h:X4)(a:gL)(vs:cV cW):X4:=((h.update a (Obj.mapSeq λ_=> #[])).push (seqObj "tuple" vs.toArray 0)).push (seqObj "list" #[] 0)
def JN {h:X4}{a:gL}{vs:cV cW}{n:Nat}(ho:h.get? a=some (seqObj "list" vs.toArray n)):(Dn h a vs).get? a=some (seqObj "list" #[] (if((#[]:RQ cW)).size==vs.toArray.size then n else n+1)):=by have ha:=aO ho;unfold Dn;rw[Heap.get?_push_ne _ _ _ (by rw[size_push',Heap.size_update];show bu (Nat.lt_succ_of_lt ha)),Heap.get?_push_ne _ _ _ (by rw[Heap.size_update];show bu ha)];show get?_update_seq ho (λ_=> #[])
section
variable {prog:RV}{w:W4}{A:X7}{E:cW ->df ->Prop}{s:df}
def xv {a:gL}{vs:cV cW}{n:Nat}{P:Fin ->df ->Prop}{kd:SortKind}{less:kB ->kB ->Bool}(O:Ord less)(ho:s.heap.get? a=some (seqObj "list" vs.toArray n))(hsz:vs.length<=sizeLine) (hk:2<=vs.length -> ∀ (Q:SortKind ->df ->Prop),Q kd {s with heap:=Dn s.heap a vs} ->wpAny (model prog w) A (keyKind' vs.toArray) Q E {s with heap:=Dn s.heap a vs}) (L:gU prog w A E {s with heap:=Dn s.heap a vs} kd (pairsOf vs) less) (h: ∀ (us:cV cW),us.Perm vs ->us.Pairwise (λx y=>less (y,y) (x,x)=false) ->P (.done (.ret .none)) {s with heap:=sortedHeap s.heap a vs us.toArray}): wpAny (model prog w) A (Builtin.«list.sort» #[[.ref a],[]]) P E s:=by
 rw[list_sort_plain];exact aw (listItems_at ho rfl ?_);exact aw (listUpdate_at ho rfl ?_ (hsz:= ⇑hsz));exact aw (seqEpoch_at (get?_update_seq ho (λ_=> #[])) rfl ?_);exact aw (wpAny_newTuple ?_);exact aw (wpAny_newList ?_);exact wpAny_holding ?_;have UP:=JN ho;change wpAny (model prog w) A _ P E {s with heap:=Dn s.heap a vs};dsimp only;have fin: ∀xs:RQ kB,xs.Perm (pairsOf vs) ->Sg less xs 0 (pairsOf vs).size ->P (.done (.ret .none)) {s with heap:=sortedHeap s.heap a vs (xs.map (·.2))}:=by
  intro xs hp hs;have hl:xs.toList.Perm (vs.zip vs):=by rw[<- pairsOf_toList];show Array.perm_iff_toList_perm.mp hp
  have Sf: ∀p,p∈xs.toList ->p.1=p.2 /\ p.1∈vs:=λp sO=>mem_zip_self (hl.mem_iff.mp sO);have:=h (xs.toList.map (·.2)) ?_ ?_;have e:(xs.toList.map (·.2)).toArray=xs.map (·.2):=by apply Array.toList_inj.mp;simp
  rwa [e] at this;have h1:=hl.map (λp:kB=>p.2);rwa [List.map_snd_zip (ao _)] at h1;rw[List.pairwise_iff_getElem];intro i j hi hj jF;have pQ:i<xs.size:= ⇑hi;have Oo:j<xs.size:= ⇑hj;have h1:=hs i j (cZ _) (Nat.le_of_lt jF) (by rw[<- hp.size_eq];show Oo);have e1:cy xs i=((xs.toList.map (·.2))[i],(xs.toList.map (·.2))[i]):=by rw[List.getElem_map];have hm:=wJ pQ;have e:=f9 pQ;rw[aG ⇑pQ] at e;have e:=bg e;rw[e];show Prod.ext (Sf _ hm).1 rfl
  have e2:cy xs j=((xs.toList.map (·.2))[j],(xs.toList.map (·.2))[j]):=by rw[List.getElem_map];have hm:=wJ Oo;have e:=f9 Oo;rw[aG ⇑Oo] at e;have e:=bg e;rw[e];show Prod.ext (Sf _ hm).1 rfl
  rw[e1,e2] at h1;show h1
 have adA:vs.toArray.size=vs.length:=by simp
 by_cases h2:vs.toArray.size<2;rw[am h2,am h2];exact aw (aX ?_);rw[StateT.run_pure];exact aw (aX ?_);dsimp only;exact aw (seqEpoch_at UP rfl ?_);exact aw (listUpdate_at UP rfl ?_ (hsz2:=by rw[Array.size_map];change(pairsOf vs).size<=_;rw[pairsOf_size];lia));simp![bne_self_eq_false,ay,bv];exact aX (fin (pairsOf vs) (Array.Perm.refl _) ?_);intro i j _ jF hj;have:i=j:=by rw[pairsOf_size] at hj;lia
 subst this;show O.refl _;rw[ak h2,ak h2];exact aw (hk ∅ _ ?_);exact aw (bz (wp_sort O L (st:=SortSt.mk' kd (vs.toArray.zip vs.toArray) #[] 7 none) (Q:=λ_ bE=>(arrOf bE).Perm (pairsOf vs) /\ failedOf bE=none /\ Sg less (arrOf bE) 0 (pairsOf vs).size) #[Array.Perm.refl _,rfl,rfl] rfl (by rw[pairsOf_size];lia) λbE a1 a2 a3=>#[a1,a2,a3]) ?_ λ_ _ e=>e);rintro⟨⟨⟩,bE⟩ s' ⟨rfl,hp,hf,hs⟩;dsimp only;exact aw (seqEpoch_at UP rfl ?_);exact aw (listUpdate_at UP rfl ?_ (hsz2:=by exact av (Nat.le_of_eq ((Array.size_map ..).trans (hp.size_eq.trans (pairsOf_size _)))) ?_;lia));rw[hf];simp![bne_self_eq_false,ay,bv];show aX (fin _ hp hs)
def sy (x y:kB):Bool:=decide (numOf x.1<numOf y.1)
def Wj:Ord sy:=by exact#[λx y h=> ?_,λx y z h1 h2=> ?_];unfold sy at*;rw[dc] at h;show aF ∅;unfold LE sy at*;rw[decide_eq_false_iff_not] at*;lia
def ltI {a₀:RQ kB}(h0:IntKeys a₀):gU prog w A E s oneType' a₀ sy:=by
 intro x y st Q hx hy hk hq;let⟨n,t,e1⟩:=h0 x hx;let⟨m,u,e2⟩:=h0 y hy;rw[lt'_eq];exact au (wpS_get ?_);rw[hk,keyLt'_oneType,e1,e2];exact au (wpS_lift (wpAny_attempt (oneLt_int #[rfl,?_])));have e:sy x y=decide (n<m):=by unfold sy;rw[e1,e2];rfl
 rw[e] at hq;show aA hq
def C0 {a:gL}{vs:cV cW}{ns:cV Int}{n:Nat}{P:Fin ->df ->Prop}(ho:s.heap.get? a=some (seqObj "list" vs.toArray n)) (hI:IntsAre vs ns) (hsz:vs.length<=sizeLine) (h: ∀ (out:RQ cW) (zr:cV Int),IntsAre out.toList zr ->zr.Perm ns ->zr.Pairwise (· <= ·) ->P (.done (.ret .none)) {s with heap:=sortedHeap s.heap a vs out}): wpAny (model prog w) A (Builtin.«list.sort» #[[.ref a],[]]) P E s:=by
 exact xv Wj ho hsz (kd:=oneType') (λh2 Q hq=> ?_) (ltI hI.intKeys) λus hp hs=> ?_;let⟨v₁,v₂,cU,rfl⟩:dQ λv₁ v₂ cU=>vs=v₁::v₂::cU:=by
  match vs,h2 with
  | [],h2=>simp at h2
  | [_],h2=>simp at h2
  | v₁::v₂::cU,_=>show#[v₁,v₂,cU,rfl]
 rw[keyKind_ints hI];show aX hq;have uk: ∀v,v∈us -> ∃n t,v= .int n t:=λv hv=>hI.all v (hp.mem_iff.mp hv);exact h us.toArray (us.map numOf) ⇑(intsAre_map us uk) ?_ ?_;have:=hp.map numOf;rwa [hI.nums] at this;rw[List.pairwise_map];exact hs.imp λ{x y} e=> ?_;unfold sy at e;rw[decide_eq_false_iff_not] at e;simp only at e;lia
end
end TS
namespace L2
open PySem PySem.Spec PyProof.Rows
abbrev cg:=Sum Int Str
def nq:cg ->cW ->Bool
 | .inl k,v=>Value.isInt k v
 | .inr x,v=>Value.isStrOf x v
def WN (w:W4):cg ->Int
 | .inl k=>hashInt k
 | .inr x=>hashStr w x
theorem cY: ∀ {k:cg} {v:cW},nq k v=true ->(cx λi t=>k=Sum.inl i /\ v=Value.int i t) \/ (cx λx t=>k=Sum.inr x /\ v=Value.str x t)
 | .inl i,v,h=>by let⟨t,e⟩:=Value.isInt_shape (k:=i) (v:=v) h;show .inl #[i,t,rfl,e]
 | .inr x,v,h=>by let⟨t,e⟩:=Value.isStrOf_shape (x:=x) (v:=v) h;show .inr #[x,t,rfl,e]
def Dx (i:Int)(t:Tok):nq (.inl i) (.int i t)=true:=by simp[nq,Value.isInt]
def Dw (x:Str)(t:Tok):nq (.inr x) (.str x t)=true:=by simp[nq,Value.isStrOf]
def NZ (a b:Int):decide ((Sum.inl a:cg)=Sum.inl b)=(a==b):=by by_cases e:a=b;subst e;simp;have h:¬(Sum.inl a:cg)=Sum.inl b:=λq=>e (Sum.inl.inj q);rw[aF h];show(beq_eq_false_iff_ne.mpr e).symm
def NW (a b:Str):decide ((Sum.inr a:cg)=Sum.inr b)=decide (a=b):=by by_cases e:a=b;subst e;simp;have h:¬(Sum.inr a:cg)=Sum.inr b:=λq=>e (Sum.inr.inj q);rw[aF h,aF e]
theorem NY (a:Int)(b:Str):decide ((Sum.inl a:cg)=Sum.inr b)=false:=aF (λq=>nomatch q)
theorem NX (a:Str)(b:Int):decide ((Sum.inr a:cg)=Sum.inl b)=false:=aF (λq=>nomatch q)
def cJ (prog:RV)(w:W4):PySem.KeyKind prog w cg where
 is:=nq
 hash:=WN w
 inj :=λv a b ha hb=>by
  rcases cY ha with⟨i,t,rfl,rfl⟩ | ⟨x,t,rfl,rfl⟩
  rcases cY hb with⟨j,u,rfl,e⟩ | ⟨y,u,rfl,e⟩
  injection e with e1 _;rw[e1];show nomatch e
  rcases cY hb with⟨j,u,rfl,e⟩ | ⟨y,u,rfl,e⟩
  show nomatch e
  injection e with e1 _;rw[e1]
 byValue:=λk v h=>by rcases cY h with⟨i,t,rfl,rfl⟩ | ⟨x,t,rfl,rfl⟩ <;>rfl
 pyHash:=λhv h=>by
  rcases cY hv with⟨i,t,rfl,rfl⟩ | ⟨x,t,rfl,rfl⟩
  show wpAny_pyHash_int h;show wpAny_pyHash_str h
 eqBool:=λhu hv h=>by
  rcases cY hu with⟨i,t,rfl,rfl⟩ | ⟨x,t,rfl,rfl⟩
  rcases cY hv with⟨j,u,rfl,rfl⟩ | ⟨y,u,rfl,rfl⟩
  rw[NZ] at h;show wpAny_eqBool_int h;rw[NY] at h;show SeqAt.EqAt.int_str i t y u _ _ _ _ h;rcases cY hv with⟨j,u,rfl,rfl⟩ | ⟨y,u,rfl,rfl⟩
  rw[NX] at h;show SeqAt.EqAt.str_int x t j u _ _ _ _ h;rw[NW] at h;show wpAny_eqBool_str h
 «strs» :=λk x t v h=>by
  rcases cY h with⟨i,u,rfl,e⟩ | ⟨y,u,rfl,e⟩
  show nomatch e
  injection e with e1 _;subst e1;cases v<;>rfl
theorem xZ (prog:RV)(w:W4)(i:Int)(t:Tok):(cJ prog w).is (.inl i) (.int i t)=true:=Dx i t
theorem xY (prog:RV)(w:W4)(x:Str)(t:Tok):(cJ prog w).is (.inr x) (.str x t)=true:=Dw x t
set_option genInjectivity true in
inductive V where
  | dO | bl (b:Bool) | int (i:Int) | str (x:Str) | D_ (b:Array UInt8) | Kg (b:UInt64) | ref (a:Addr) | ty (n:String)
 deriving DecidableEq
def RelV:V ->cW ->Prop
 | .dO,u=>u=Value.none
 | .bl b,u=>u=Value.bool b
 | .int i,u=> ∃t,u=Value.int i t
 | .str x,u=> ∃t,u=Value.str x t
 | .D_ b,u=> ∃t,u=Value.bytes b t
 | .Kg b,u=> ∃t,u=Value.float b t
 | .ref a,u=>u=Value.ref a
 | .ty n,u=>u=Value.type n
abbrev b_:cV V ->cV cW ->Prop:=Paired RelV
theorem b_.length {xs:cV V}{us:cV cW}(r:b_ xs us):xs.length=us.length:=Paired.length r
theorem b_.get: ∀ {xs:cV V} {us:cV cW} {i:Nat} {x:V},b_ xs us ->xs[i]? =some x -> ∃u,us[i]? =some u /\ RelV x u
 | _,_,_,_, .nil,e=>by simp at e
 | _,_,0,_, .cons r _,e=>by simp at e;subst e;show#[_,rfl,r]
 | _,_,i+1,x, .cons _ t,e=>by let⟨u,h1,h2⟩:=b_.get (i:=i) (x:=x) t ⇑e;show#[u, ⇑h1,h2]
theorem b_.set {x:V}{u:cW}(r:RelV x u): ∀ {xs:cV V} {us:cV cW} (i:Nat),b_ xs us ->b_ (xs.set i x) (us.set i u)
 | _,_,_, .nil=> .nil
 | _,_,0, .cons _ t=> .cons r t
 | _,_,i+1, .cons q t=> .cons q (b_.set r i t)
theorem b_.append: ∀ {xs ys:cV V} {us ws:cV cW},b_ xs us ->b_ ys ws ->b_ (xs++ys) (us++ws)
 | _,_,_,_, .nil,s=>s
 | _,_,_,_, .cons r t,s=> .cons r (b_.append t s)
theorem b_.take: ∀ {xs:cV V} {us:cV cW} (n:Nat),b_ xs us ->b_ (xs.take n) (us.take n)
 | _,_,0,_=> .nil
 | _,_,_+1, .nil=> .nil
 | _,_,n+1, .cons r t=> .cons r (b_.take n t)
theorem b_.drop: ∀ {xs:cV V} {us:cV cW} (n:Nat),b_ xs us ->b_ (xs.drop n) (us.drop n)
 | _,_,0,r=>r
 | _,_,_+1, .nil=> .nil
 | _,_,n+1, .cons _ t=>b_.drop n t
def ju:fP V ->fP cW ->Prop
 | some v,some u=>RelV v u
 | none,none=>True
 | _,_=>False
def KV {κ:Type}:cV (κ×V) ->cV (κ×cW) ->Prop:=Paired λ(p:κ×V) (q:κ×cW)=>p.1=q.1 /\ RelV p.2 q.2
def kV:cg ->V
 | .inl i=> .int i
 | .inr x=> .str x
set_option genInjectivity true in
inductive HO where
 /-- a list -/
 | lst (xs:List V)
 /-- a tuple (never changes) -/
 | tup (xs:List V)
 /-- a dict PL keys are ints and texts;one PL keys are tuples of ints and texts (O7 empty one is both) -/
 | dK (kvs:List (cg×V)) | dT (kvs:List (List cg×V))
 /-- a set of ints:bJ members,bJ size -/
 | set (S:Int ->Bool) (n:Nat)
 /-- an instance of O7 class at C,bJ dict at dx,bJ attributes -/
 | ins (C dx:Addr) (fs:List (Str×V))
 /-- O7 dict of O7 instance at x -/
 | own (x:Addr)
 /-- O7 dict of an exception -/
 | xd (fs:List (Str×V))
 /-- a bound method,f of x -/
 | met (f x:Addr)
 /-- a range object lo,lo+1, .. below hi -/
 | Up (lo hi:Int)
 /-- a thing ady is known to O7 object (O7 V7;a dict while a loop walks it):read,never written while it is so -/
 | jV (o:Obj) (u:HO)
 /-- a code Rz table -/
 | IQ (ps:Array Value)
 /-- any other thing,by adu is true of bJ one object (a def of adi own:adE a S n:=HO.ext λh=> ..) -/
 | ext (φ:Heap ->Prop)
abbrev Hp:=gL ->fP HO
def cF (H:Hp)(a:gL)(o:HO):Hp:=λb=>if b=a then some o else H b
def bP {H:Hp}{a:gL}{o:HO}:cF H a o a=some o:=by unfold cF;rw[am rfl]
def bK {H:Hp}{a b:gL}{o:HO}(h:b≠a):cF H a o b=H b:=by unfold cF;rw[ak h]
def RD {H:Hp}{a b:gL}{o u:HO}(h:H a=some o)(h':H b=some u)(d:o≠u):a≠b:=by intro e;subst e;rw[h] at h';show d (bg h')
def eK {H:Hp}{a b:gL}{o:HO}(h:H a=some o)(h':H b=none):a≠b:=by intro e;subst e;rw[h] at h';cases h'
def wN (h:X4)(a:gL)(bJ:RQ cW):Prop:= ∃o,h.get? a=some o /\ o.cls= .type "tuple" /\ ∃n,o.data= .seq bJ n /\ o.dict=none
theorem wN.t {h:X4}{a:gL}{bJ:RQ cW}(x:wN h a bJ):IsTup h a bJ:=let ⟨o,e,c,n,d,_⟩:=x;#[o,e,c,n,d]
theorem wN.lt {h:X4}{a:gL}{bJ:RQ cW}(x:wN h a bJ):a<h.objs.size:=let ⟨_,e,_⟩:=x;aO e
theorem wN.new (h:X4)(bJ:RQ cW):wN (h.push {cls:= .type "tuple",data:= .seq bJ}) h.objs.size bJ:=#[_,aT _ rfl,rfl,_,rfl,rfl]
section
variable (P:RV)(w:W4)
def dG (H:Hp)(h:X4)(a:gL):HO ->Prop
 | .lst xs=>xs.length<=sizeLine /\ cx λ(bJ:cV cW) (n:Nat)=>b_ xs bJ /\ h.get? a=some {cls:= .type "list",data:= .seq bJ.toArray n}
 | .tup xs=>xs.length<=sizeLine /\ ∃bJ:cV cW,b_ xs bJ /\ wN h a bJ.toArray
 | .dK kvs=>kvs.length<=sizeLine /\ (a==sysModules)=false /\ ∃vs,KV kvs vs /\ h.DictOf (cJ P w) a vs
 | .dT kvs=>kvs.length<=sizeLine /\ (a==sysModules)=false /\ ∃xs:cV (cV cg×gL×cW),Paired (λ(p:cV cg×V) (q:cV cg×gL×cW)=>p.1=q.1 /\ H q.2.1=some (.tup (p.1.map kV)) /\ RelV p.2 q.2.2) kvs xs /\∃o es ep,h.get? a=some o /\ o.ExactDict /\ o.data= .dict es ep /\ es.toList=xs.map (entryOfKey (tupleKind (cJ P w))) /\ (xs.map (·.1)).Nodup
 | .set S n=>h.SetOf (intKind P w) a S n
 | .ins C dx fs=>H dx=some (.own a) /\ fs.length<=1000 /\ dx≠a /\ h.get? a=some (W.instObj C dx) /\∃mA,h.Ns1 dx mA /\ (∀f,ju (fs.lookup f) (mA f)) /\ PySem.Within mA (fs.map (·.1))
 | .own _=> ∃o,h.get? a=some o
 | .xd fs=> ∃mA,h.Ns1 a mA /\ ∀f,ju (fs.lookup f) (mA f)
 | .Up lo hi=>dQ λt u v=>h.get? a=some {cls:= .type "range",data:= .fields (List.toArray [.int lo t, .int hi u, .int 1 v])}
 | .jV o u=>h.get? a=some o /\ dG H h a u
 | .IQ ps=>h.get? a=some {cls:= .none,data:= .fields ps}
 | .met f x=>h.get? a=some (W.methodObj (.ref f) (.ref x))
 | .ext φ=>φ h /\ (∃o,h.get? a=some o) /\ ∀h1 h2:X4,φ h1 ->(∀o,h1.get? a=some o ->h2.get? a=some o) ->φ h2
def lA (H:Hp)(h:X4):Prop:= ∀a o,H a=some o ->dG P w H h a o
end
section
variable {P:RV}{w:W4}{H H':Hp}{h h':X4}{a:gL}{o:HO}
def dG.lt (x:dG P w H h a o):a<h.objs.size:=by
 cases o with
 | lst xs=>let⟨_,_,_,_,e⟩:=x;show aO e
 | tup xs=>let⟨_,_,_,p⟩:=x;show p.lt
 | dK kvs=>let⟨_,_,_,_,o,_,_,e,_⟩:=x;show aO e
 | dT kvs=>let⟨_,_,_,_,o,_,_,e,_⟩:=x;show aO e
 | set S n=>let⟨o,_,_,_,e,_⟩:=x;show aO e
 | ins C dx fs=>let⟨_,_,_,e,_⟩:=x;show aO e
 | own y=>let⟨_,e⟩:=x;show aO e
 | xd fs=>let⟨_,⟨_,_,_,e,_⟩,_⟩:=x;show aO e
 | Up lo hi=>let⟨_,_,_,e⟩:=x;show aO e
 | jV ob u=>let⟨e,_⟩:=x;show aO e
 | IQ ps=>show aO (show h.get? a=some _ from x)
 | met f y=>show aO (show h.get? a=some _ from x)
 | ext φ=>let⟨_,⟨_,e⟩,_⟩:=x;show aO e
theorem Paired.NR {α β:Type}{F G:α ->β ->Prop}: ∀ {l₁:cV α} {l₂:cV β},Paired F l₁ l₂ ->(∀a b,F a b ->G a b) ->Paired G l₁ l₂
 | _,_, .nil,_=> .nil
 | _,_, .cons r t,f=> .cons (f _ _ r) (Paired.NR t f)
def dG.rL (x:dG P w H h a o)(k: ∀b u,(b=a \/ H b=some (.own a)) ->h.get? b=some u ->h'.get? b=some u) (ho: ∀b,H b=some (.own a) ->H' b=some (.own a)) (ht: ∀b xs,H b=some (.tup xs) ->H' b=some (.tup xs)):dG P w H' h' a o:=by
 induction o with
 | lst xs=>let⟨z,bJ,n,r,e⟩:=x;show#[z,bJ,n,r,k _ _ (.inl rfl) e]
 | tup xs=>let⟨z,bJ,r,ob,e,c⟩:=x;show#[z,bJ,r,ob,k _ _ (.inl rfl) e,c]
 | dK kvs=>let⟨z,y,vs,r,ob,es,ep,e,c⟩:=x;show#[z,y,vs,r,ob,es,ep,k _ _ (.inl rfl) e,c]
 | dT kvs=>let⟨z,y,xs,r,ob,es,ep,e,c⟩:=x;show#[z,y,xs,Paired.NR r λp q z=>#[z.1,ht _ _ z.2.1,z.2.2],ob,es,ep,k _ _ (.inl rfl) e,c]
 | set S n=>let⟨ob,es,ep,t,e,c⟩:=x;show#[ob,es,ep,t,k _ _ (.inl rfl) e,c]
 | ins C dx fs=>let⟨d,z,ne,e,mA,⟨od,es,ep,e2,c⟩,r⟩:=x;show#[ho _ d,z,ne,k _ _ (.inl rfl) e,mA,#[od,es,ep,k _ _ (.inr d) e2,c],r]
 | own y=>let⟨ob,e⟩:=x;show#[ob,k _ _ (.inl rfl) e]
 | xd fs=>let⟨mA,⟨od,es,ep,e,c⟩,r⟩:=x;show#[mA,#[od,es,ep,k _ _ (.inl rfl) e,c],r]
 | Up lo hi=>let⟨t,u,v,e⟩:=x;show#[t,u,v,k _ _ (.inl rfl) e]
 | jV ob u ih=>let⟨e,q⟩:=x;show#[k _ _ (.inl rfl) e,ih q]
 | IQ ps=>have e:h.get? a=some {cls:= .none,data:= .fields ps}:=x;change h'.get? a=some {cls:= .none,data:= .fields ps};show k a _ (.inl rfl) e
 | met f y=>have e:h.get? a=some (W.methodObj (.ref f) (.ref y)):=x;change h'.get? a=some (W.methodObj (.ref f) (.ref y));show k a _ (.inl rfl) e
 | ext φ=>let⟨p,⟨o,e⟩,st⟩:=x;show#[st _ _ p λo q=>k _ _ (.inl rfl) q,#[o,k _ _ (.inl rfl) e],st]
theorem lA.lt (x:lA P w H h)(e:H a=some o):a<h.objs.size:=(x a o e).lt
def lA.fresh (x:lA P w H h)(e:h.objs.size<=a):H a=none:=by
 cases q:H a with
 | none=>rfl
 | some u=>show absurd (bF (x.lt q) e) (Nat.lt_irrefl _)
theorem lA.kept (x:lA P w H h)(k: ∀b u,h.get? b=some u ->h'.get? b=some u):lA P w H h':=λa o e=>(x a o e).rL (λb u _ q=>k b u q) (λ_ q=>q) λ_ _ q=>q
theorem lA.laid (x:lA P w H h)(k: ∀b u,h.get? b=some u ->h'.get? b=some u)(hp:h.objs.size<=a)(new:dG P w (cF H a o) h' a o):lA P w (cF H a o) h':=λb u e=>by have hn:=x.fresh hp;by_cases hb:b=a;subst hb;rw[bP] at e;cases e;show new;rw[bK hb] at e;show(x b u e).rL (λc v _ q=>k c v q) (λc q=>by rw[bK (eK q hn)];show q) λc xs q=>by rw[bK (eK q hn)];show q
end
def Rd (H:Hp)(a:gL)(u:HO):Prop:=H a=some u \/ ∃o,H a=some (.jV o u)
def Rd.ok {P:RV}{w:W4}{H:Hp}{h:X4}{a:gL}{u:HO}(r:Rd H a u)(x:lA P w H h):dG P w H h a u:=by obtain r | ⟨o,r⟩:=r;show x a u r;let⟨_,q⟩:=x a _ r;show q
def Tj:fP HO ->Prop
 | some (.lst _)=>True
 | some (.dK _)=>True
 | some (.dT _)=>True
 | some (.set _ _)=>True
 | some (.ins _ _ _)=>True
 | some (.ext _)=>True
 | _=>False
section
variable {P:RV}{w:W4}{H:Hp}{h h':X4}{x e:gL}{o':HO}
theorem lA.write (ok:lA P w H h)(mu:Tj (H x))(he:e=x \/ H e=some (.own x))(k: ∀b u,b≠e ->h.get? b=some u ->h'.get? b=some u)(Pq: ∃u,h'.get? e=some u) (new:dG P w (cF H x o') h' x o'):lA P w (cF H x o') h':=λb u q=>by
 have RB: ∀c y,H c=some (.own y) ->c≠x:=λc y r z=>by subst z;rw[r] at mu;show mu
 have Wr: ∀c xs,H c=some (.tup xs) ->c≠x:=λc xs r z=>by subst z;rw[r] at mu;show mu
 by_cases hb:b=x;subst hb;rw[bP] at q;cases q;show new;rw [bK hb] at q;by_cases Ou:b=e;have q':H b=some (.own x):=by obtain z | z:=he;show absurd (Ou.trans z) hb;rw[Ou];show z
 rw[q] at q';cases q';let⟨v,hv⟩:=Pq;show#[v,by rw[Ou];show hv];exact(ok b u q).rL (λc v hc r=>k c v ?_ r) (λc r=>by rw[bK (RB c b r)];show r) λc xs r=>by rw[bK (Wr c xs r)];show r
 obtain rfl | hc:=hc;show Ou;rintro rfl;obtain z | z:=he;show RB c b hc z;rw[hc] at z;cases z;show hb rfl
end
structure Un (fs ex:List Addr)(H H':Hp)(h h':Heap):Prop where
 keep: ∀b o,h.get? b=some o ->H b=none ->b∉fs ->b∉ex ->h'.get? b=some o
 slot: ∀b o,h.get? b=some o ->H b=none ->b∈fs ->b∉ex -> ∃sl,h'.get? b=some {o with slots:=sl}
 free: ∀b o,h.get? b=some o ->H b=none ->b∉ex ->H' b=none
 there: ∀b o,h.get? b=some o ->b∉ex -> ∃o',h'.get? b=some o'
 mF: ∀b xs,H b=some (.tup xs) ->H' b=some (.tup xs)
 lE: ∀b o u,H b=some (.jV o u) ->H' b=some (.jV o u)
 ol: ∀b ps,H b=some (.IQ ps) -> ∃more,H' b=some (.IQ (ps++more))
section
variable {fs fs' ex ex':cV gL}{H H1 H2:Hp}{h h1 h2 h':X4}{a x e:gL}{o:HO}
def Un.any (u:Un fs ex H H1 h h1){b:gL}{ob:Obj}(q:h.get? b=some ob)(n:H b=none)(hx:b∉ex): ∃sl,h1.get? b=some {ob with slots:=sl}:=by by_cases hb:b∈fs;show u.slot b ob q n hb hx;show#[ob.slots,u.keep b ob q n hb hx]
theorem Un.kept (k: ∀b u,h.get? b=some u ->h'.get? b=some u):Un fs ex H H h h':=#[λb ob q _ _ _=>k b ob q,λb ob q _ _ _=>#[ob.slots,k b ob q],λ_ _ _ n _=>n,λb ob q _=>#[ob,k b ob q],λ_ _ q=>q,λ_ _ _ q=>q,λ_ ps q=>#[#[],by rw[q];simp]]
theorem Un.refl:Un fs ex H H h h:=Un.kept λ_ _ q=>q
theorem Un.laid (k: ∀b u,h.get? b=some u ->h'.get? b=some u)(hp:h.objs.size<=a)(hn:H a=none):Un fs ex H (cF H a o) h h' where
 keep:=λb u q _ _ _=>k b u q
 slot:=λb u q _ _ _=>#[u.slots,k b u q]
 free:=λb u q n _=>by rw[bK (bu (bF (aO q) hp))];show n
 there:=λb u q _=>#[u,k b u q]
 mF:=λb xs q=>by rw[bK (eK q hn)];show q
 lE:=λb u xs q=>by rw[bK (eK q hn)];show q
 ol:=λb ps q=>#[#[],by rw[bK (eK q hn),q];simp]
def Un.write (mu:Tj (H x))(he:e=x \/ H e=some (.own x))(k: ∀b u,b≠e ->h.get? b=some u ->h'.get? b=some u)(Pq: ∃u,h'.get? e=some u):Un fs ex H (cF H x o) h h':=by
 have hx: ∀b,H b=none ->b≠x:=λb n z=>by subst z;rw[n] at mu;show mu
 have hb: ∀b,H b=none ->b≠e:=λb n z=>by subst z;obtain r | r:=he;show hx b n r;rw[n] at r;cases r
 have hm: ∀b u,H b=some u ->¬Tj (some u) ->b≠x:=λb u q nm z=>by subst z;rw[q] at mu;show nm mu
 exact#[λb u q n _ _=>k b u (hb b n) q,λb u q n _ _=>#[u.slots,k b u (hb b n) q],λb u q n _=>by rw[bK (hx b n)];show n,λb u q _=> ?_,λb xs q=>by rw[bK (hm b _ q λz=>z)];show q,λb u xs q=>by rw[bK (hm b _ q λz=>z)];show q,λb ps q=>#[#[],by rw[bK (hm b _ q λz=>z),q];simp]];by_cases Ou:b=e;subst Ou;show Pq;show#[u,k b u Ou q]
end
def Uh (h:X4)(H:Hp):cV gL:=(List.range h.objs.size).filter λa=>(H a).isSome
def wx (h:X4)(H:Hp):X4:=W.hideAll h (Uh h H)
theorem DH (h:X4)(H:Hp):(wx h H).objs.size=h.objs.size:=W.hideAll_size _ _
theorem GP {h:X4}{H:Hp}{b:gL}{o:Obj}(e:h.get? b=some o)(n:H b=none):(wx h H).get? b=some o:=W.hideAll_get _ e λhm=>by have q:(H b).isSome=true:=(List.mem_filter.mp hm).2;rw[n] at q;simp at q
def JC {h:X4}{H:Hp}{b:gL}{o:Obj}(e:(wx h H).get? b=some o):h.get? b=some o /\ H b=none:=by
 have e':h.get? b=some o:=W.of_hideAll (Uh h H) e;exact#[e',?_];cases q:H b with
 | none=>rfl
 | some x=>have hm:b∈Uh h H:=List.mem_filter.mpr #[List.mem_range.mpr (aO e'),by simp[q]];have z:(wx h H).get? b=none:=W.hideAll_none (Uh h H) hm;rw[z] at e;cases e
def Ky (g h:X4)(L:gL):cV (gL×Obj):=(List.range h.objs.size).filterMap λa=>if a=L \/ (g.get? a).isSome=true then none else(h.get? a).map λo=>(a,o)
def cU (g h:X4)(L d:gL):cV (gL×Obj):=(Ky g h L).filter λp=>decide (p.1≠d)
structure Mod (K:PySem.W.Frag)(mg:Str ->Option Value)(base:Heap):Prop where
 LY:K.In base
 glob:base.Ns mainGlobals mg
 blt: ∃mb,base.Ns builtinsNs mb /\ ∀x:Str,x≠ "__name__" ->mb x=bootBuiltins x
 nolimit:base.NoLimit
structure Cx where
 prog:Program
 w:World
 K:PySem.W.Frag
 mg:Str ->Option Value
 base:Heap
 A:Around
 N:List Str
 s₀:Shared
 H₀:Hp
 env:Env
 outer:List Env
 stack:List Env
 ex:List Addr
 fn:Str ->Bool
 calm:Bool
 pn:List (Addr×Obj)
 xe:Value ->Shared ->Prop
def jW (l:cV Env):cV gL:=l.filterMap (·.frame)
abbrev Cx.fs (X:Cx):cV gL:=jW X.outer
def Tf (sc:Scope)(x:Str):Prop:=sc.names.lookup x=some .local \/ sc.names.lookup x=some .cell \/ sc.names.lookup x=some .free
def Loc (sc:Scope)(x:Str):Prop:=sc.names.lookup x=some .local \/ sc.names.lookup x=some .cell
def Look (env:Env)(h:X4)(m:Str ->fP cW)(x:Str)(u:cW):Prop:=(env.kindOf x=some .local /\ m x=some u) \/ ((env.kindOf x=some .cell \/ env.kindOf x=some .free) /\ ∃c,env.cells.lookup x=some c /\ h.IsCell c (some u))
structure Cx.Ok (X:Cx):Prop where
 mod:Mod X.K X.mg X.base
 kind:X.env.scope.kind= .function
 glob:X.env.globals=mainGlobals
 blt:X.env.builtins=builtinsNs
 above:X.s₀.heap.objs.size<=X.env.locals
 inj: ∀x y c,X.env.cells.lookup x=some c ->X.env.cells.lookup y=some c ->x=y
 has: ∀x,(X.env.kindOf x=some .cell \/ X.env.kindOf x=some .free) -> ∃c,X.env.cells.lookup x=some c
 Px: ∀x c,X.fn x=true ->X.env.cells.lookup x=some c ->X.s₀.heap.objs.size<=c
 hd:X.calm=true ->X.A.handled=none
 frames:X.A.frames=some X.stack
 MX:X.stack=X.outer \/ (X.stack=X.env::X.outer /\ X.env.frame=some X.env.locals)
 exf: ∀b∈X.ex,b≠X.env.locals /\ ∀x c,X.env.cells.lookup x=some c ->c≠b
 bs: ∀b o,X.base.get? b=some o ->X.s₀.heap.get? b=some o /\ X.H₀ b=none
 Hr:X.base.objs.size<=X.s₀.heap.objs.size
 Dl: ∀b o,X.base.get? b=some o ->b∉X.ex
 As: ∀b∈X.ex,b∉X.fs
 ml:X.s₀.heap.FunFrames X.base X.outer
 Iu: ∀b∈X.fs,X.H₀ b=none
structure Inv (X:Cx)(af:List (Addr×Obj))(σ:List (Option V))(H:Hp)(s:Shared):Prop where
 ok:X.Ok
 os:s.os=X.s₀.os
 bare:AllBare s.gens
 base:Un X.fs X.ex X.H₀ H X.s₀.heap s.heap
 loc: ∃m,s.heap.Ns X.env.locals m /\ ∀ (i:Nat) (x:Str) (v:V),X.N[i]? =some x ->σ[i]? =some (some v) ->Tf X.env.scope x -> ∃u,RelV v u /\ Look X.env s.heap m x u
 cell: ∀x c,X.env.cells.lookup x=some c -> ∃v,s.heap.IsCell c v
 free:H X.env.locals=none
 f6: ∀x c,X.env.cells.lookup x=some c ->H c=none
 pin: ∀p∈X.pn++af,s.heap.get? p.1=some p.2 /\ H p.1=none /\ p.1≠X.env.locals /\ p.1∉X.fs /\ ∀v,p.2.data≠ .cell v
 cS:lA X.prog X.w H s.heap
 len:σ.length=X.N.length
section
variable {X:Cx}{af:cV (gL×Obj)}{σ:cV (fP V)}{H H':Hp}{s:df}{h':X4}
theorem Cx.Ok.Wu (ok:X.Ok){b:gL}{o:Obj}(e:X.base.get? b=some o):b∉X.fs:=λhb=>by have:=(ok.ml.mem hb).1;rw[e] at this;cases this
theorem Inv.bs (I:Inv X af σ H s): ∀b o,X.base.get? b=some o ->s.heap.get? b=some o /\ H b=none:=λb o e=>#[I.base.keep b o (I.ok.bs b o e).1 (I.ok.bs b o e).2 (I.ok.Wu e) (I.ok.Dl b o e),I.base.free b o (I.ok.bs b o e).1 (I.ok.bs b o e).2 (I.ok.Dl b o e)]
theorem Inv.bk (I:Inv X af σ H s): ∀b o,X.base.get? b=some o ->s.heap.get? b=some o:=λb o e=>(I.bs b o e).1
theorem Inv.mod (I:Inv X af σ H s):Mod X.K X.mg X.base:=I.ok.mod
theorem Inv.lO (I:Inv X af σ H s):X.K.In s.heap:=I.ok.mod.LY.keeps I.bk
theorem Inv.fr (I:Inv X af σ H s): ∃m,Fr X.base X.env.locals s.heap m:=
 let ⟨m,hn,_⟩:=I.loc
 #[m,hn,I.bk,av I.ok.Hr I.ok.above]
theorem Inv.lt (I:Inv X af σ H s):X.env.locals<s.heap.objs.size:=let ⟨_,hn,_⟩:=I.loc;hn.lt
theorem Inv.sz (I:Inv X af σ H s):X.s₀.heap.objs.size<=s.heap.objs.size:=av I.ok.above (Nat.le_of_lt I.lt)
theorem Inv.Wt (I:Inv X af σ H s){a:gL}(h:s.heap.objs.size<=a):a∉X.fs:=λhb=>by let⟨_,o,ho,_⟩:=I.ok.ml.mem hb;show absurd (bF (aO ho) (av I.sz h)) (Nat.lt_irrefl _)
theorem Inv.OK (I:Inv X af σ H s): ∀x c,X.env.cells.lookup x=some c ->c≠X.env.locals:=λx c e z=>by let⟨v,o,ho,hd⟩:=I.cell x c e;let⟨m,⟨o',es,ep,ww,Sr,_⟩,_⟩:=I.loc;rw[z,ww] at ho;cases ho;rw[Sr] at hd;cases hd
def Inv.ml (I:Inv X af σ H s):s.heap.FunFrames X.base X.outer:=by
 have all: ∀ (l:cV Env),(∀b∈jW l,b∈X.fs) ->X.s₀.heap.FunFrames X.base l ->s.heap.FunFrames X.base l:=by
  intro l;induction l with
  | nil=>intro _ _;trivial
  | cons env r ih=>intro hs hl;let⟨hk,⟨L,o,hf,hn,ho,hd⟩,hr⟩:=hl;have hL:L∈X.fs:=hs L (by unfold jW;rw[List.filterMap_cons,hf];show List.mem_cons_self);let⟨sl,e⟩:=I.base.slot L o ho (I.ok.Iu L hL) hL λz=>I.ok.As L z hL;show#[hk,#[L,_,hf,hn,e,hd],ih (λb hb=>hs b (by unfold jW;rw[List.filterMap_cons,hf];show c5 _ hb)) hr]
 show all X.outer (λ_ hb=>hb) I.ok.ml
def Inv.stack (I:Inv X af σ H s):s.heap.FunFrames X.base X.stack:=by obtain e | ⟨e,hf⟩:=I.ok.MX;rw[e];show I.ml;rw[e];let⟨m,hn,_⟩:=I.loc;exact .cons (by rw[I.ok.kind];decide) hf hn ?_ I.ml;show Heap.get?_none_of_le (av I.ok.Hr I.ok.above)
theorem Inv.vH (I:Inv X af σ H s): ∀b∈jW X.stack,b∈X.env.locals::X.fs:=λb hb=>by obtain e | ⟨e,hf⟩:=I.ok.MX;rw[e] at hb;show c5 _ hb;rw[e] at hb;unfold jW at hb;rw[List.filterMap_cons,hf] at hb;show hb
theorem Inv.qV (I:Inv X af σ H s): ∀b∈jW X.stack,H b=none:=λb hb=>by obtain e | hb:=aS.mp (I.vH b hb);rw[e];show I.free;let⟨_,o,ho,_⟩:=I.ok.ml.mem hb;show I.base.free b o ho (I.ok.Iu b hb) λz=>I.ok.As b z hb
def Inv.step {g':RQ GenState}{t':Nat}{d':Drawn}{ch:cV gL}(I:Inv X af σ H s) (Iq: ∀b∈ch,(b∈X.ex \/ X.s₀.heap.objs.size<=b) /\ b≠X.env.locals /\ (∀x c,X.env.cells.lookup x=some c ->c≠b) /\ ∀p∈X.pn++af,p.1≠b) (keep: ∀b o,b≠X.env.locals ->b∉X.fs ->b∉ch ->s.heap.get? b=some o ->H b=none ->h'.get? b=some o) (slot: ∀b o,b≠X.env.locals ->b∈X.fs ->b∉ch ->s.heap.get? b=some o ->H b=none -> ∃sl,h'.get? b=some {o with slots:=sl}) (free: ∀b o,b∉ch ->s.heap.get? b=some o ->H b=none ->H' b=none) (there: ∀b o,b∉ch ->s.heap.get? b=some o -> ∃o',h'.get? b=some o') (mF: ∀b xs,H b=some (.tup xs) ->H' b=some (.tup xs)) (lE: ∀b o u,H b=some (.jV o u) ->H' b=some (.jV o u)) (ol: ∀b ps,H b=some (.IQ ps) -> ∃more,H' b=some (.IQ (ps++more))) (ns: ∀m,s.heap.Ns X.env.locals m ->h'.Ns X.env.locals m) (cS:lA X.prog X.w H' h') (hg:AllBare g'): Inv X af σ H' {s with heap:=h',gens:=g',drawn:=d',toks:=t'}:=by
 have neL: ∀b o,X.s₀.heap.get? b=some o ->b≠X.env.locals:=λb o e=>bu (bF (aO e) I.ok.above);have UC: ∀b o,X.s₀.heap.get? b=some o ->b∉X.ex ->b∉ch:=λb o e hx hb=>by obtain z | z:=(Iq b hb).1;show hx z;show absurd (bF (aO e) z) (Nat.lt_irrefl _)
 have cellK: ∀x c,X.env.cells.lookup x=some c -> ∀v,s.heap.IsCell c v ->h'.IsCell c v:=λx c e v ⟨o,ho,hd⟩=>by have RE:c∉ch:=λz=>(Iq c z).2.2.1 x c e rfl;by_cases hc:c∈X.fs;let⟨sl,q⟩:=slot c o (I.OK x c e) hc RE ho (I.f6 x c e);show#[_,q,hd];show#[o,keep c o (I.OK x c e) hc RE ho (I.f6 x c e),hd]
 exact#[I.ok,I.os,hg,#[λb o e n hb hx=> ?_,λb o e n hb hx=> ?_,λb o e n hx=> ?_,λb o e hx=> ?_,λb xs e=>mF b xs (I.base.mF b xs e),λb o xs e=>lE b o xs (I.base.lE b o xs e),λb ps e=> ?_],?_,λx c e=> ?_,?_,λx c e=> ?_,λp hp=> ?_,cS,I.len];show keep b o (neL b o e) hb (UC b o e hx) (I.base.keep b o e n hb hx) (I.base.free b o e n hx);let⟨sl,e1⟩:=I.base.slot b o e n hb hx;let⟨sl',e2⟩:=slot b _ (neL b o e) hb (UC b o e hx) e1 (I.base.free b o e n hx);show#[sl',e2];let⟨o',e1⟩:=I.base.there b o e hx;show free b o' (UC b o e hx) e1 (I.base.free b o e n hx);let⟨o',e1⟩:=I.base.there b o e hx;show there b o' (UC b o e hx) e1;let⟨m1,e1⟩:=I.base.ol b ps e;let⟨m2,e2⟩:=ol b _ e1;show#[m1++m2,by rw[e2,Array.append_assoc]];let⟨m,hn,hl⟩:=I.loc;exact#[m,ns m hn,λi x v e1 e2 e3=> ?_];let⟨u,r,l⟩:=hl i x v e1 e2 e3;exact#[u,r,?_];obtain l | ⟨k,c,e,z⟩:=l;show .inl l;show .inr #[k,c,e,cellK x c e _ z];let⟨v,z⟩:=I.cell x c e;show#[v,cellK x c e v z];let⟨m,⟨o,_,_,ho,_⟩,_⟩:=I.loc;show free _ o (λz=>(Iq _ z).2.1 rfl) ho I.free;let⟨v,o,ho,hd⟩:=I.cell x c e;show free c o (λz=>(Iq c z).2.2.1 x c e rfl) ho (I.f6 x c e);let⟨e,n,ne,nf,d⟩:=I.pin p hp;have RE:p.1∉ch:=λz=>(Iq p.1 z).2.2.2 p hp rfl;show#[keep p.1 p.2 ne nf RE e n,free p.1 p.2 RE e n,ne,nf,d]
def Inv.un {t':Nat}(I:Inv X af σ H s)(u:Un X.fs [] H H' s.heap h')(cS:lA X.prog X.w H' h'):Inv X af σ H' {s with heap:=h',toks:=t'}:=by let⟨m,⟨o,es,ep,ho,r⟩,_⟩:=id I.loc;let⟨sl,hL⟩:=u.any ho I.free (by simp);show I.step (g':=s.gens) (d':=s.drawn) (ch:= []) (λ_ z=>nomatch z) (λb o _ hb _ e n=>u.keep b o e n hb (by simp)) (λb o _ hb _ e n=>u.slot b o e n hb (by simp)) (λb o _ e n=>u.free b o e n (by simp)) (λb o _ e=>u.there b o e (by simp)) u.mF u.lE u.ol (λm' hm=>by let⟨o',UY,UZ,ww,r'⟩:=hm;rw[ho] at ww;cases ww;show#[_,UY,UZ,hL,r']) cS I.bare
def Inv.call {g':RQ GenState}{t':Nat}{d':Drawn}{ch:cV gL}(I:Inv X af σ H s)(u:Un (jW X.stack) ch H H' s.heap h')(cS:lA X.prog X.w H' h')(hg:AllBare g') (Iq: ∀b∈ch,(b∈X.ex \/ X.s₀.heap.objs.size<=b) /\ b≠X.env.locals /\ (∀x c,X.env.cells.lookup x=some c ->c≠b) /\ ∀p∈X.pn++af,p.1≠b): Inv X af σ H' {s with heap:=h',gens:=g',drawn:=d',toks:=t'}:=by let⟨m,⟨o,es,ep,ho,r⟩,_⟩:=id I.loc;let⟨sl,hL⟩:=u.any ho I.free λz=>(Iq _ z).2.1 rfl;show I.step (ch:=ch) Iq (λb o hL hb hc e n=>u.keep b o e n (λz=>(aS.mp (I.vH b z)).elim hL hb) hc) (λb o _ _ hc e n=>u.any e n hc) (λb o hc e n=>u.free b o e n hc) (λb o hc e=>u.there b o e hc) u.mF u.lE u.ol (λm' hm=>by let⟨o',UY,UZ,ww,r'⟩:=hm;rw[ho] at ww;cases ww;show#[_,UY,UZ,hL,r']) cS hg
def Inv.turned {t':Nat}{it:gL}(I:Inv X af σ H s)(k: ∀b o,b≠it ->s.heap.get? b=some o ->h'.get? b=some o)(hn:H it=none)(hL:it≠X.env.locals) (h1:it∈X.ex \/ X.s₀.heap.objs.size<=it) (h2: ∀x c,X.env.cells.lookup x=some c ->c≠it) (h3: ∀p∈X.pn++af,p.1≠it):Inv X af σ H {s with heap:=h',toks:=t'}:=by
 have nit: ∀b u,H b=some u ->b≠it:=λb u e z=>by rw[z,hn] at e;cases e
 exact I.step (g':=s.gens) (d':=s.drawn) (ch:= [it]) (λb hb=> ?_) (λb o _ _ hc e _=>k b o (λz=>hc (by simp[z])) e) (λb o _ _ hc e _=>#[o.slots,k b o (λz=>hc (by simp[z])) e]) (λ_ _ _ _ n=>n) (λb o hc e=>#[o,k b o (λz=>hc (by simp[z])) e]) (λ_ _ e=>e) (λ_ _ _ e=>e) (λb ps e=>#[#[],by rw[e];simp]) (λm hm=> ?_) (λb u e=> ?_) I.bare;have e:b=it:=by simpa using hb
 subst e;show#[h1,hL,h2,h3];let⟨o,es,ep,ho,r⟩:=hm;show#[o,es,ep,k _ o (de hL) ho,r];exact(I.cS b u e).rL (λc v hc q=>k c v ?_ q) (λ_ q=>q) λ_ _ q=>q;obtain z | z:=hc;rw[z];show nit b u e;show nit c _ z
theorem Inv.tok (I:Inv X af σ H s)(t:Nat):Inv X af σ H {s with toks:=t}:=I.un (h':=s.heap) (t':=t) Un.refl I.cS
theorem Inv.kept {t':Nat}(I:Inv X af σ H s)(k: ∀b u,s.heap.get? b=some u ->h'.get? b=some u):Inv X af σ H {s with heap:=h',toks:=t'}:=I.un (Un.kept k) (I.cS.kept k)
theorem Inv.laid {a:gL}{o:HO}{t':Nat}(I:Inv X af σ H s)(k: ∀b u,s.heap.get? b=some u ->h'.get? b=some u)(hp:s.heap.objs.size<=a)(new:dG X.prog X.w (cF H a o) h' a o): Inv X af σ (cF H a o) {s with heap:=h',toks:=t'}:=I.un (Un.laid k hp (I.cS.fresh hp)) (I.cS.laid k hp new)
theorem Inv.write {x e:gL}{o:HO}{t':Nat}(I:Inv X af σ H s)(mu:Tj (H x))(he:e=x \/ H e=some (.own x))(k: ∀b u,b≠e ->s.heap.get? b=some u ->h'.get? b=some u)(Pq: ∃u,h'.get? e=some u) (new:dG X.prog X.w (cF H x o) h' x o):Inv X af σ (cF H x o) {s with heap:=h',toks:=t'}:=I.un (Un.write mu he k Pq) (I.cS.write mu he k Pq new)
theorem Inv.weak {σ':cV (fP V)}(I:Inv X af σ H s)(hl:σ'.length=σ.length)(w: ∀ (i:Nat) v,σ'[i]? =some (some v) ->σ[i]? =some (some v)):Inv X af σ' H s:=#[I.ok,I.os,I.bare,I.base,let ⟨m,hn,pO⟩:=I.loc;#[m,hn,λi x v e1 e2 e3=>pO i x v e1 (w i v e2) e3],I.cell,I.free,I.f6,I.pin,I.cS,hl.trans I.len]
theorem Inv.Bx {By:cV (gL×Obj)}(I:Inv X af σ H s)(h: ∀p∈By,s.heap.get? p.1=some p.2 /\ H p.1=none /\ p.1≠X.env.locals /\ p.1∉X.fs /\ ∀v,p.2.data≠ .cell v):Inv X By σ H s:=#[I.ok,I.os,I.bare,I.base,I.loc,I.cell,I.free,I.f6,λp hp=>(bh.mp hp).elim (λz=>I.pin p (List.mem_append_left _ z)) (h p),I.cS,I.len]
def xT {N:cV Str}(hN:N.Nodup){i j:Nat}{x:Str}(a:N[i]? =some x)(b:N[j]? =some x):i=j:=by let⟨h1,e1⟩:=bi.mp a;let⟨h2,e2⟩:=bi.mp b;show(List.getElem_inj hN).mp (e1.trans e2.symm)
def uH {M:Model}{A:X7}{E:cW ->df ->Prop}{i:Nat}{x:Str}{v:V}{u:cW}{Q:Unit ->df ->Prop}(I:Inv X af σ H s)(hN:X.N.Nodup)(hi:X.N[i]? =some x)(hx:Loc X.env.scope x)(r:RelV v u) (h: ∀s',Inv X af (σ.set i (some v)) H s' ->(∃a,Heap.SameBut a s.heap s'.heap /\ (a=X.env.locals \/ X.env.cells.lookup x=some a)) ->Q () s') (hf:X.fn x=true \/ X.env.scope.names.lookup x=some .local:=by first | show .inl rfl | show .inr rfl | assumption):wpAny M A (storeName X.env x u) Q E s:=by
 let⟨m,hn,hl⟩:=id I.loc;have XN:(X.env.scope.kind== .class || (X.env.scope.kind== .module && X.env.locals !=X.env.globals))=false:=by rw[I.ok.kind];rfl
 have hiσ:i<σ.length:=by rw[I.len];show(bi.mp hi).1
 have OK:=I.OK;have tracked: ∀ {a:gL} {h':X4},(∃o,s.heap.get? a=some o /\ H a=none) ->Heap.SameBut a s.heap h' ->lA X.prog X.w H h':=λ{a h'} ha hs b ob e=>by let⟨_,_,L_⟩:=ha;exact(I.cS b ob e).rL (λc w' hc q=>(hs.2 c ?_).trans q) (λ_ q=>q) λ_ _ q=>q;rintro rfl;obtain rfl | hc:=hc;rw[L_] at e;cases e;rw[L_] at hc;cases hc
 obtain hk | hk:=hx;exact wpAny_storeName_local hk hn (λh' ym hs=> ?_) XN;let⟨oL,_,_,hoL,_⟩:=id hn;exact h _ #[I.ok,I.os,I.bare,#[λb o e n hb hx=> ?_,λb o e n hb hx=> ?_,I.base.free,λb o e hx=> ?_,I.base.mF,I.base.lE,I.base.ol],#[_,ym,λj y v' e1 e2 e3=> ?_],λy c e=> ?_,I.free,I.f6,λp hp=> ?_,tracked #[oL,hoL,I.free] hs, ⇑I.len] #[_,hs, .inl rfl];show(hs.2 b (bu (bF (aO e) I.ok.above))).trans (I.base.keep b o e n hb hx);let⟨sl,e1⟩:=I.base.slot b o e n hb hx;show#[sl,(hs.2 b (bu (bF (aO e) I.ok.above))).trans e1];let⟨o',e1⟩:=I.base.there b o e hx;show#[o',(hs.2 b (bu (bF (aO e) I.ok.above))).trans e1];by_cases hj:j=i;subst hj;rw[hi] at e1;cases e1;rw[List.getElem?_set_self hiσ] at e2;cases e2;show#[u,r, .inl #[hk,by simp]];rw[List.getElem?_set_ne (de hj)] at e2;let⟨u',r',q⟩:=hl j y v' e1 e2 e3;exact#[u',r',?_];rcases q with⟨k,e⟩ | ⟨k,c,e,z⟩
 exact .inl #[k,?_];have:y≠x:=λe=>hj (xT hN e1 (e▸hi));simp[this,e];show .inr #[k,c,e,z.sameBut hs (OK y c e)];let⟨w',z⟩:=I.cell y c e;show#[w',z.sameBut hs (OK y c e)];let⟨e,n,ne,nf,d⟩:=I.pin p hp;show#[(hs.2 p.1 ne).trans e,n,ne,nf,d];have XG:X.fn x=true:=by obtain z | z:=hf;show z;rw[z] at hk;cases hk
 let⟨c,hc⟩:=I.ok.has x (.inl hk);let⟨w',z⟩:=I.cell x c hc;exact wpAny_storeName_cell I.ok.kind hk hc z (λh' US hs=> ?_);let⟨oc,hoc,Xr⟩:=id z;exact h {s with heap:=h'} #[I.ok,I.os,I.bare,#[λb o e n hb hx=> ?_,λb o e n hb hx=> ?_,I.base.free,λb o e hx=> ?_,I.base.mF,I.base.lE,I.base.ol],#[m,hn.sameBut hs (de (OK x c hc)),λj y v' e1 e2 e3=> ?_],λy c' e=> ?_,I.free,I.f6,λp hp=> ?_,tracked #[oc,hoc,I.f6 x c hc] hs, ⇑I.len] #[c,hs, .inr hc];show(hs.2 b (bu (bF (aO e) (I.ok.Px x c XG hc)))).trans (I.base.keep b o e n hb hx);let⟨sl,e1⟩:=I.base.slot b o e n hb hx;show#[sl,(hs.2 b (bu (bF (aO e) (I.ok.Px x c XG hc)))).trans e1];let⟨o',e1⟩:=I.base.there b o e hx;show#[o',(hs.2 b (bu (bF (aO e) (I.ok.Px x c XG hc)))).trans e1];by_cases hj:j=i;subst hj;rw[hi] at e1;cases e1;rw[List.getElem?_set_self hiσ] at e2;cases e2;show#[u,r, .inr #[.inl hk,c,hc,US]];rw[List.getElem?_set_ne (de hj)] at e2;let⟨u',r',q⟩:=hl j y v' e1 e2 e3;exact#[u',r',?_];obtain q | ⟨k,c',e,z'⟩:=q;show .inl q;exact .inr #[k,c',e,z'.sameBut hs ?_];rintro rfl;show hj (xT hN e1 (I.ok.inj _ _ _ e hc▸hi));by_cases hcc:c'=c;subst hcc;show#[_,US];let⟨w2,z2⟩:=I.cell y c' e;show#[w2,z2.sameBut hs hcc];let⟨e,n,ne,nf,d⟩:=I.pin p hp;exact#[(hs.2 p.1 ?_).trans e,n,ne,nf,d];intro q;rw[q,hoc] at e;have q':oc=p.2:=bg e;show d w' (by rw[<- q'];show Xr)
theorem mJ {M:Model}{A:X7}{E:cW ->df ->Prop}{i:Nat}{x:Str}{v:V}{u:cW}{Q:Unit ->df ->Prop}(I:Inv X af σ H s)(hN:X.N.Nodup)(hi:X.N[i]? =some x)(hx:Loc X.env.scope x)(r:RelV v u) (h: ∀s',Inv X af (σ.set i (some v)) H s' ->Q () s') (hf:X.fn x=true \/ X.env.scope.names.lookup x=some .local:=by first | show .inl rfl | show .inr rfl | assumption):wpAny M A (storeName X.env x u) Q E s:=uH I hN hi hx r (λs' I' _=>h s' I') hf
def Inv.Hq {s':df}{ch:cV gL}(I:Inv X af σ H s)(ho:s'.os=s.os)(u:Un (jW X.stack) ch H H' s.heap s'.heap)(cS:lA X.prog X.w H' s'.heap)(hg:AllBare s'.gens) (Iq: ∀b∈ch,(b∈X.ex \/ X.s₀.heap.objs.size<=b) /\ b≠X.env.locals /\ (∀x c,X.env.cells.lookup x=some c ->c≠b) /\ ∀p∈X.pn++af,p.1≠b):Inv X af σ H' s':=by let⟨h',g',d',t',o'⟩:=s';have e:o'=s.os:=ho;subst e;show I.call (g':=g') (t':=t') (d':=d') u cS hg Iq
end
abbrev XK:=cW ->fP gL ->Hp ->Prop
abbrev St:=cV (fP V)
abbrev VK:=V ->Hp ->Prop
abbrev TE:=St ->Hp ->VK ->Prop
abbrev TT:=St ->Hp ->(Bool ->Hp ->Prop) ->Prop
abbrev TA:=St ->Hp ->(cV V ->Hp ->Prop) ->Prop
structure tR where
 nx:St ->Hp ->Prop
 rt:VK
 bk:St ->Hp ->Prop:=λ_ _=>False
 ct:St ->Hp ->Prop:=λ_ _=>False
abbrev TS:=tR ->St ->Hp ->Prop
def EP (X:Cx)(af:cV (gL×Obj))(σ:St)(Q:VK)(u:cW)(s':df):Prop:=cx λv H'=>cT (Inv X af σ H' s') (RelV v u) (Q v H')
def TP (X:Cx)(af:cV (gL×Obj))(σ:St)(Q:Bool ->Hp ->Prop)(b:Bool)(s':df):Prop:= ∃H',Inv X af σ H' s' /\ Q b H'
def AP (X:Cx)(af:cV (gL×Obj))(σ:St)(Q:cV V ->Hp ->Prop)(us:cV cW)(s':df):Prop:=cx λvs H'=>cT (Inv X af σ H' s') (b_ vs us) (Q vs H')
def SP (X:Cx)(af:cV (gL×Obj))(D:tR)(f:Flow)(s':df):Prop:=
 match f with
 | .next=>cx λσ' H'=>Inv X af σ' H' s' /\ D.nx σ' H'
 | .brk=>cx λσ' H'=>Inv X af σ' H' s' /\ D.bk σ' H'
 | .cont=>cx λσ' H'=>Inv X af σ' H' s' /\ D.ct σ' H'
 | .ret u=>dQ λv σ' H'=>cT (Inv X af σ' H' s') (RelV v u) (D.rt v H')
def PE (X:Cx)(e:Expr)(t:TE):Prop:=∀ (af:cV (gL×Obj)) (s:df) (σ:St) (H:Hp) (Q:VK),Inv X af σ H s ->t σ H Q ->wpAny (model X.prog X.w) X.A (eval e X.env) (EP X af σ Q) X.xe s
def PT (X:Cx)(e:Expr)(t:TT):Prop:=∀ (af:cV (gL×Obj)) (s:df) (σ:St) (H:Hp) (Q:Bool ->Hp ->Prop),Inv X af σ H s ->t σ H Q ->wpAny (model X.prog X.w) X.A (isTrue e X.env (eval e X.env)) (TP X af σ Q) X.xe s
def PW (X:Cx)(e:Expr)(t:TT):Prop:=∀ (AY:Sem cW) (af:cV (gL×Obj)) (s:df) (σ:St) (H:Hp) (Q:Bool ->Hp ->Prop),Inv X af σ H s ->t σ H Q ->wpAny (model X.prog X.w) X.A (isTrue e X.env AY) (TP X af σ Q) X.xe s
theorem PW.pt {X:Cx}{e:Expr}{t:TT}(h:PW X e t):PT X e t:=h _
def PA (X:Cx)(es:cV Expr)(t:TA):Prop:=∀ (pos:Pos) (af:cV (gL×Obj)) (s:df) (σ:St) (H:Hp) (Q:cV V ->Hp ->Prop),Inv X af σ H s ->t σ H Q ->wpAny (model X.prog X.w) X.A (spliced (backTo pos (starEach es X.env))) (AP X af σ Q) X.xe s
def PS (X:Cx)(st:Stmt)(t:TS):Prop:=∀ (af:cV (gL×Obj)) (s:df) (σ:St) (H:Hp) (D:tR),Inv X af σ H s ->t D σ H ->wpAny (model X.prog X.w) X.A (exec st X.env) (SP X af D) X.xe s
def wZ (X:Cx)(st:cV Stmt)(t:TS):Prop:=∀ (af:cV (gL×Obj)) (s:df) (σ:St) (H:Hp) (D:tR),Inv X af σ H s ->t D σ H ->wpAny (model X.prog X.w) X.A (execs st X.env) (SP X af D) X.xe s
theorem cN {α:Type}{t:Sem α}{Q Q':α ->df ->Prop}{M:Model}{A:X7}{E:cW ->df ->Prop}{s:df}(h:wpAny M A t Q E s)(hQ: ∀a s,Q a s ->Q' a s):wpAny M A t Q' E s:=bz h hQ λ_ _ x=>x
section
variable {X:Cx}
def bin {a b:Expr}{ta tb:TE}(ha:PE X a ta)(hb:PE X b tb){af:cV (gL×Obj)}{s:df}{σ:St}{H:Hp}{R:V ->V ->Hp ->Prop}(I:Inv X af σ H s)(h:ta σ H λx H1=>tb σ H1 λy H2=>R x y H2) {α:Type} {Q:α ->df ->Prop} {f:cW ->cW ->Sem α} (hf: ∀v u s2 x y H2,Inv X af σ H2 s2 ->RelV x v ->RelV y u ->R x y H2 ->wpAny (model X.prog X.w) X.A (f v u) Q X.xe s2): wpAny (model X.prog X.w) X.A (eval a X.env) (λv s₁=>wpAny (model X.prog X.w) X.A (eval b X.env) (λu s₂=>wpAny (model X.prog X.w) X.A (f v u) Q X.xe s₂) X.xe s₁) X.xe s:=by exact cN (ha af s σ H _ I h) λv s1 ⟨x,H1,I1,r1,q1⟩=> ?_;exact cN (hb af s1 σ H1 _ I1 q1) λu s2 ⟨y,H2,I2,r2,q2⟩=> ?_;show hf v u s2 x y H2 I2 r1 r2 q2
def IW (i:Nat):TE:=λσ H Q=> ∃v,σ[i]? =some (some v) /\ Q v H
def tC (v:V):TE:=λ_ H Q=>Q v H
def Nl {i:Nat}{x:Str}{pos:Pos}(hN:X.N[i]? =some x)(hv:Tf X.env.scope x)(hd:(x==("__debug__" :Str))=false:=by decide)(Cd:(x==("__classdict__" :Str))=false:=by decide):PE X (.Name x pos) (IW i):=by
 intro af s σ H Q I h;let⟨v,e,h⟩:=h;let⟨m,hn,hl⟩:=I.loc;let⟨u,r,l⟩:=hl i x v hN e hv;have fin:EP X af σ Q u s:=#[v,H,I,r,h]
 rcases l with⟨hk,hm⟩ | ⟨hk,c,hc,Cc⟩
 show wpAny_Name (wpAny_loadName_local I.ok.kind hk hn hm fin) hd;obtain hk | hk:=hk;show wpAny_Name (wpAny_loadName_cell I.ok.kind hk hc Cc fin) hd;show wpAny_Name (wpAny_loadName_free I.ok.kind hk hc Cc fin Cd) hd
theorem ah {i j pos}:PE X (.Constant (.int i) j pos) (tC (.int i)):=λ_ _ _ H _ I h=>wpAny_Constant_int #[.int i,H,I.tok _,#[_,rfl],h]
theorem ij {b j pos}:PE X (.Constant (.bool b) j pos) (tC (.bl b)):=λ_ _ _ H _ I h=>Constant_bool #[.bl b,H,I,rfl,h]
theorem FG {j pos}:PE X (.Constant .none j pos) (tC .dO):=λ_ _ _ H _ I h=>Constant_none #[.dO,H,I,rfl,h]
theorem aB {x j pos}:PE X (.Constant (.str x) j pos) (tC (.str x)):=λ_ _ _ H _ I h=>Calls.Constant_str #[.str x,H,I.tok _,#[_,rfl],h]
def Gl (X:Cx)(x:Str):Prop:=X.env.kindOf x=some .globalImplicit
theorem nh {E:cW ->df ->Prop}{af:cV (gL×Obj)}{s:df}{σ:St}{H:Hp}{x:Str}{u:cW}{pos:Pos}{Q:cW ->df ->Prop}(I:Inv X af σ H s)(hg:Gl X x)(hm:X.mg x=some u)(h:Q u s) (hd:(x==("__debug__" :Str))=false:=by decide):wpAny (model X.prog X.w) X.A (eval (.Name x pos) X.env) Q E s:=Calls.Name_function_global I.ok.kind hg (Calls.loadGlobal_global (by rw[I.ok.glob];show I.mod.glob.keeps I.bk) hm h) hd
def wq {E:cW ->df ->Prop}{af:cV (gL×Obj)}{s:df}{σ:St}{H:Hp}{x:Str}{u:cW}{pos:Pos}{Q:cW ->df ->Prop}(I:Inv X af σ H s)(hg:Gl X x)(hm:X.mg x=none)(hv:bootBuiltins x=some u)(h:Q u s) (hn:x≠ "__name__" :=by decide) (hd:(x==("__debug__" :Str))=false:=by decide):wpAny (model X.prog X.w) X.A (eval (.Name x pos) X.env) Q E s:=by let⟨mb,h1,h2⟩:=I.mod.blt;show Calls.Name_function_global I.ok.kind hg (Calls.loadGlobal_builtin (by rw[I.ok.glob];show I.mod.glob.keeps I.bk) hm (by rw[I.ok.blt];show h1.keeps I.bk) ((h2 x hn).trans hv) h) hd
theorem fu {x:Str}{v:V}{u:cW}{pos:Pos}(hg:Gl X x)(hm:X.mg x=some u)(r:RelV v u)(hd:(x==("__debug__" :Str))=false:=by decide):PE X (.Name x pos) (tC v):=λ_ _ _ H _ I h=>nh I hg hm #[v,H,I,r,h] hd
theorem h_ {x:Str}{v:V}{u:cW}{pos:Pos}(hg:Gl X x)(hm:X.mg x=none)(hv:bootBuiltins x=some u)(r:RelV v u)(hn:x≠ "__name__" :=by decide)(hd:(x==("__debug__" :Str))=false:=by decide):PE X (.Name x pos) (tC v):=λ_ _ _ H _ I h=>wq I hg hm hv #[v,H,I,r,h] hn hd
variable {a b:Expr}{ta tb:TE}{pos:Pos}
def PC (X:Cx)(op:CmpOp)(a b:Expr)(t:TE):Prop:=∀ (af:cV (gL×Obj)) (s:df) (σ:St) (H:Hp) (Q:VK),Inv X af σ H s ->t σ H Q ->wpAny (model X.prog X.w) X.A (eval a X.env) (λv s₁=>wpAny (model X.prog X.w) X.A (eval b X.env) (λu s₂=>wpAny (model X.prog X.w) X.A (compareOp op v u) (EP X af σ Q) X.xe s₂) X.xe s₁) X.xe s
def xU (b:Expr){op:CmpOp}(h:op≠ .In)(h2:op≠ .NotIn):behindInMarks op b=false:=by
 have e1:(op==CmpOp.In)=false:=by cases op<;>first | rfl | show absurd rfl h
 have e2:(op==CmpOp.NotIn)=false:=by cases op<;>first | rfl | show absurd rfl h2
 cases b<;>simp[behindInMarks,e1,e2]
def tB (t:TE):TT:=λσ H Q=>t σ H λx H1=> ∃c,x= .bl c /\ Q c H1
theorem No {op:CmpOp}{t:TE}(h:PC X op a b t)(h1:behindInMarks op b=false:=by first | show xU _ ⋯ ⋯ | rfl):PE X (.Compare a [op] [b] pos) t:=λaf s σ H Q I hw=>wpAny_Compare1 (h af s σ H Q I hw) h1
def l5 {op:CmpOp}{t:TE}(h:PC X op a b t)(h1:behindInMarks op b=false:=by first | show xU _ ⋯ ⋯ | rfl):PT X (.Compare a [op] [b] pos) (tB t):=by intro af s σ H Q I hw;exact wpAny_isTrue_Compare1 (cN (h af s σ H _ I hw) λv s1 h1=>cN h1 λu s2 h2=>cN h2 λc s3 ⟨x,H1,I1,r1,q1⟩=> ?_) h1;let⟨d,rfl,q⟩:=q1;cases r1;show cD #[H1,I1,q]
def dw {e:Expr}{t:TE}(h:PE X e t)(he: ∀AY,isTrue e X.env AY=(do let v <- AY;standAt e.pos;holding [v] (truthy v)):=by intro _;rfl):PT X e (tB t):=by intro af s σ H Q I hw;exact isTrue_plain (cN (h af s σ H _ I hw) λv s1 ⟨x,H1,I1,r1,q1⟩=> ?_) (he _);let⟨d,rfl,q⟩:=q1;cases r1;show cD #[H1,I1,q]
variable {tA Uj:TT}{cU:cV Expr}
def QL (t u:TT):TT:=λσ H Q=>t σ H λc H1=>if c=true then u σ H1 Q else Q false H1
def tOr (t u:TT):TT:=λσ H Q=>t σ H λc H1=>if c=true then Q true H1 else u σ H1 Q
def QC (t:TT):TT:=λσ H Q=>t σ H λc H1=>Q (!c) H1
def lq (ha:PT X a tA):PW X (.BoolOp .And [a] pos) tA:=by
 intro wh af s σ H Q I h;exact isTrue_and (cN (ha af s σ H Q I h) λc s1 e=> ?_);cases c with
 | true=>show isTrue_and_nil e
 | false=>show e
def iE (ha:PT X a tA):PW X (.BoolOp .Or [a] pos) tA:=by
 intro wh af s σ H Q I h;exact isTrue_or (cN (ha af s σ H Q I h) λc s1 e=> ?_);cases c with
 | false=>show isTrue_or_nil e
 | true=>show e
def ou (ha:PT X a tA)(hb:PW X (.BoolOp .And (b::cU) pos) Uj):PW X (.BoolOp .And (a::b::cU) pos) (QL tA Uj):=by
 intro wh af s σ H Q I h;exact isTrue_and (cN (ha af s σ H _ I h) λc s1 ⟨H1,I1,q1⟩=> ?_);cases c with
 | true=>show hb wh af s1 σ H1 Q I1 q1
 | false=>show#[H1,I1,q1]
def kn (ha:PT X a tA)(hb:PW X (.BoolOp .Or (b::cU) pos) Uj):PW X (.BoolOp .Or (a::b::cU) pos) (tOr tA Uj):=by
 intro wh af s σ H Q I h;exact isTrue_or (cN (ha af s σ H _ I h) λc s1 ⟨H1,I1,q1⟩=> ?_);cases c with
 | true=>show#[H1,I1,q1]
 | false=>show hb wh af s1 σ H1 Q I1 q1
def dY (ha:PT X a tA):PT X (.UnaryOp .Not a pos) (QC tA):=by intro af s σ H Q I h;show isTrue_not (ha af s σ H (λc H1=>Q (!c) H1) I h)
def Lo (ta tb:TE):TE:=λσ H Q=>ta σ H λx H1=> ∃c,x= .bl c /\ if c=true then tb σ H1 Q else Q (.bl false) H1
def QA (ta tb:TE):TE:=λσ H Q=>ta σ H λx H1=> ∃c,x= .bl c /\ if c=true then Q (.bl true) H1 else tb σ H1 Q
def Lk (ta:TE):TE:=λσ H Q=>ta σ H λx H1=> ∃c,x= .bl c /\ Q (.bl (!c)) H1
theorem rS {op}{t:TE}(h:PE X a t):PE X (.BoolOp op [a] pos) t:=λaf s σ H Q I hw=>BoolOp_one (h af s σ H Q I hw)
def vX (ha:PE X a ta)(hb:PE X (.BoolOp .And (b::cU) pos) tb):PE X (.BoolOp .And (a::b::cU) pos) (Lo ta tb):=by
 intro af s σ H Q I h;exact BoolOp_and (cN (ha af s σ H _ I h) λv s1 ⟨x,H1,I1,r1,q1⟩=> ?_);let⟨c,rfl,q1⟩:=q1;cases r1;exact cD ?_;cases c with
 | true=>show hb af s1 σ H1 Q I1 q1
 | false=>show#[.bl false,H1,I1,rfl,q1]
def Q_ (ha:PE X a ta)(hb:PE X (.BoolOp .Or (b::cU) pos) tb):PE X (.BoolOp .Or (a::b::cU) pos) (QA ta tb):=by
 intro af s σ H Q I h;exact BoolOp_or (cN (ha af s σ H _ I h) λv s1 ⟨x,H1,I1,r1,q1⟩=> ?_);let⟨c,rfl,q1⟩:=q1;cases r1;exact cD ?_;cases c with
 | false=>show hb af s1 σ H1 Q I1 q1
 | true=>show#[.bl true,H1,I1,rfl,q1]
def zR (ha:PE X a ta):PE X (.UnaryOp .Not a pos) (Lk ta):=by intro af s σ H Q I h;exact UnaryOp_ (cN (ha af s σ H _ I h) λv s1 ⟨x,H1,I1,r1,q1⟩=> ?_);let⟨c,rfl,q1⟩:=q1;cases r1;show not_of (cD #[.bl (!c),H1,I1,rfl,q1])
end
def gT (K:RS)(H:Hp)(a:gL)(xs:cV V):Prop:=Rd H a (.lst xs) \/dQ λ(o:Obj) (bJ:RQ cW) (n:Nat)=>jX (K.lookup a=some o) (o.cls= .type "list") (o.dict=none) (o.data= .seq bJ n) (bJ.size<=sizeLine) (b_ xs bJ.toList)
def jY (K:RS)(H:Hp)(a:gL)(xs:cV V):Prop:=Rd H a (.tup xs) \/dQ λ(o:Obj) (bJ:RQ cW) (n:Nat)=>jX (K.lookup a=some o) (o.cls= .type "tuple") (o.dict=none) (o.data= .seq bJ n) (bJ.size<=sizeLine) (b_ xs bJ.toList)
def acY:cW ->fP V
 | .none=>some .dO
 | .bool b=>some (.bl b)
 | .int i _=>some (.int i)
 | .str x _=>some (.str x)
 | .bytes b _=>some (.D_ b)
 | .float b _=>some (.Kg b)
 | .ref a=>some (.ref a)
 | .type n=>some (.ty n)
 | _=>none
def RelV.abs {x:V}{u:cW}(r:RelV x u):acY u=some x:=by
 cases x with
 | dO=>cases r;rfl
 | bl _=>cases r;rfl
 | int _=>let⟨t,rfl⟩:=r;rfl
 | str _=>let⟨t,rfl⟩:=r;rfl
 | D_ _=>let⟨t,rfl⟩:=r;rfl
 | Kg _=>let⟨t,rfl⟩:=r;rfl
 | ref _=>cases r;rfl
 | ty _=>cases r;rfl
theorem RelV.inj {x y:V}{u:cW}(r:RelV x u)(q:RelV y u):x=y:=bg (r.abs.symm.trans q.abs)
theorem b_.inj: ∀ {xs ys:cV V} {us:cV cW},b_ xs us ->b_ ys us ->xs=ys
 | _,_,_, .nil, .nil=>rfl
 | _,_,_, .cons r t, .cons r' t'=>by rw[r.inj r',b_.inj t t']
section
variable {X:Cx}{af:cV (gL×Obj)}{σ:St}{H:Hp}{s:df}{a:gL}{xs ys:cV V}
theorem gT.of {K:RS}(h:H a=some (.lst xs)):gT K H a xs:= .inl (.inl h)
theorem jY.of {K:RS}(h:H a=some (.tup xs)):jY K H a xs:= .inl (.inl h)
def Inv.list (I:Inv X af σ H s)(h:gT X.K H a xs): ∃bJ:cV cW,cT (b_ xs bJ) (PlainL s.heap a bJ.toArray) (xs.length<=sizeLine):=by obtain h | ⟨o,bJ,n,hk,hc,hd,hs,hz,r⟩:=h;let⟨z,bJ,n,r,e⟩:=h.ok I.cS;show#[bJ,r,#[_,n,e,rfl,rfl,rfl],z];exact#[bJ.toList,r,#[o,n,I.lO a o hk,hc,hd, ⇑hs],?_];have e:=r.length;simp![dh] at e;lia
def Inv.tuple (I:Inv X af σ H s)(h:jY X.K H a xs): ∃bJ:cV cW,cT (b_ xs bJ) (IsTup s.heap a bJ.toArray) (xs.length<=sizeLine):=by obtain h | ⟨o,bJ,n,hk,hc,_,hs,hz,r⟩:=h;let⟨z,bJ,r,p⟩:=h.ok I.cS;show#[bJ,r,p.t,z];exact#[bJ.toList,r,#[o,I.lO a o hk,hc,n, ⇑hs],?_];have e:=r.length;simp![dh] at e;lia
def Inv.list_inj (I:Inv X af σ H s)(h:gT X.K H a xs)(h':gT X.K H a ys):xs=ys:=by let⟨bJ,r,⟨o,n,e,_,_,d⟩,_⟩:=I.list h;let⟨its',r',⟨o',n',e',_,_,d'⟩,_⟩:=I.list h';rw[e] at e';cases e';rw[d] at d';injection d' with d1 _;have:bJ=its':= ⇑(congrArg Array.toList d1);subst this;show r.inj r'
def Inv.uC (I:Inv X af σ H s)(h:jY X.K H a xs)(h':jY X.K H a ys):xs=ys:=by let⟨bJ,r,⟨o,e,_,n,d⟩,_⟩:=I.tuple h;let⟨its',r',⟨o',e',_,n',d'⟩,_⟩:=I.tuple h';rw[e] at e';cases e';rw[d] at d';injection d' with d1 _;have:bJ=its':= ⇑(congrArg Array.toList d1);subst this;show r.inj r'
end
abbrev Cx.oh (X:Cx)(E:cW ->df ->Prop):Cx:= {X with xe:=E}
abbrev Cx.Ia (X:Cx):Cx:=X.oh λ_ _=>False
theorem Cx.Ok.oh {X:Cx}(ok:X.Ok)(E:cW ->df ->Prop):(X.oh E).Ok:=#[ok.mod,ok.kind,ok.glob,ok.blt,ok.above,ok.inj,ok.has,ok.Px,ok.hd,ok.frames,ok.MX,ok.exf,ok.bs,ok.Hr,ok.Dl,ok.As,ok.ml,ok.Iu]
theorem Cx.Ok.gy {X:Cx}{E:cW ->df ->Prop}(ok:(X.oh E).Ok):X.Ok:=#[ok.mod,ok.kind,ok.glob,ok.blt,ok.above,ok.inj,ok.has,ok.Px,ok.hd,ok.frames,ok.MX,ok.exf,ok.bs,ok.Hr,ok.Dl,ok.As,ok.ml,ok.Iu]
section
variable {X:Cx}{af:cV (gL×Obj)}{σ:St}{H:Hp}{s:df}{E:cW ->df ->Prop}
theorem Inv.oh (I:Inv X af σ H s)(E:cW ->df ->Prop):Inv (X.oh E) af σ H s:=#[I.ok.oh E,I.os,I.bare,I.base,I.loc,I.cell,I.free,I.f6,I.pin,I.cS,I.len]
theorem Inv.gy (I:Inv (X.oh E) af σ H s):Inv X af σ H s:=#[I.ok.gy,I.os,I.bare,I.base,I.loc,I.cell,I.free,I.f6,I.pin,I.cS,I.len]
def SP.gy {D:tR}{f:Flow}{s':df}(h:SP (X.oh E) af D f s'):SP X af D f s':=by
 cases f with
 | next=>let⟨σ',H',I,q⟩:=h;show#[σ',H',I.gy,q]
 | brk=>let⟨σ',H',I,q⟩:=h;show#[σ',H',I.gy,q]
 | cont=>let⟨σ',H',I,q⟩:=h;show#[σ',H',I.gy,q]
 | ret u=>let⟨v,σ',H',I,r,q⟩:=h;show#[v,σ',H',I.gy,r,q]
theorem wZ.Ia {st:cV Stmt}{t:TS}(h:wZ X.Ia st t):wZ X st t:=λaf s σ H D I hw=>bz (h af s σ H D (I.oh _) hw) (λ_ _ q=>q.gy) λ_ _ z=>False.elim z
end
section
variable {X:Cx}{st:Stmt}{cU:cV Stmt}{t u:TS}{e:Expr}{te:TE}{pos:Pos}
def Ll:TS:=λD σ H=>D.nx σ H
def MT (t u:TS):TS:=λD σ H=>t {D with nx:=u D} σ H
theorem aJ:wZ X [] Ll:=λ_ _ σ H _ I h=>wpAny_execs_nil #[σ,H,I,h]
def ag (h1:PS X st t)(h2:wZ X cU u):wZ X (st::cU) (MT t u):=by
 intro af s σ H D I h;exact wpAny_execs_cons (cN (h1 af s σ H {D with nx:=u D} I h) λf s1 q=> ?_);cases f with
 | next=>let⟨σ',H',I',q⟩:=q;show h2 af s1 σ' H' D I' q
 | ret v=>show q
 | brk=>show q
 | cont=>show q
def aj (h1:PS X st t):wZ X [st] t:=by
 intro af s σ H D I h;exact wpAny_execs_cons (cN (h1 af s σ H D I h) λf s1 q=> ?_);cases f with
 | next=>show wpAny_execs_nil q
 | ret v=>show q
 | brk=>show q
 | cont=>show q
def Inv.quiet {af:cV (gL×Obj)}{σ:St}{H:Hp}{s:df}(I:Inv X af σ H s):interactive X.env=false:=by simp[interactive,I.ok.kind]
def Lm (te:TE):TS:=λD σ H=>te σ H λ_ H1=>D.nx σ H1
def bO (he:PE X e te)(hs:swapsWith e none pos.line X.env=pure false:=by rfl):PS X (.Expr e pos) (Lm te):=by intro af s σ H D I h;show wpAny_Expr_any (cN (he af s σ H _ I h) λv s1 ⟨x,H1,I1,r1,q1⟩=>#[σ,H1,I1,q1]) I.quiet hs
def Qz (te:TE):TS:=λD σ H=>te σ H D.rt
def aE (he:PE X e te):PS X (.Return (some e) pos) (Qz te):=by intro af s σ H D I h;show wpAny_Return_some (cN (he af s σ H _ I h) λv s1 ⟨x,H1,I1,r1,q1⟩=>#[x,σ,H1,I1,r1,q1])
def QE (c:TT)(t u:TS):TS:=λD σ H=>c σ H λb H1=>if b=true then t D σ H1 else u D σ H1
def bp {c:Expr}{a b:cV Stmt}{tc:TT}(hc:PT X c tc)(ha:wZ X a t)(hb:wZ X b u):PS X (.If c a b pos) (QE tc t u):=by
 intro af s σ H D I h;exact wpAny_If (cN (hc af s σ H _ I h) λd s1 ⟨H1,I1,q1⟩=> ?_);cases d with
 | true=>show ha af s1 σ H1 D I1 q1
 | false=>show hb af s1 σ H1 D I1 q1
def E4:TS:=λ_ _ _=>False
theorem FE:PS X st E4:=λ_ _ _ _ _ _ h=>h.elim
end
abbrev TG:=V ->St ->Hp ->(St ->Hp ->Prop) ->Prop
abbrev Iz:=cV V ->St ->Hp ->(St ->Hp ->Prop) ->Prop
def PG (X:Cx)(om:Expr)(t:TG):Prop:=∀ (af:cV (gL×Obj)) (s:df) (σ:St) (H:Hp) (v:V) (u:cW) (Q:St ->Hp ->Prop),Inv X af σ H s ->RelV v u ->t v σ H Q ->wpAny (model X.prog X.w) X.A (assign om X.env u) (λ_ s'=>cx λσ' H'=>Inv X af σ' H' s' /\ Q σ' H') X.xe s
def U2 (X:Cx)(ts:cV Expr)(t:Iz):Prop:=∀ (af:cV (gL×Obj)) (s:df) (σ:St) (H:Hp) (vs:cV V) (us:cV cW) (Q:St ->Hp ->Prop),Inv X af σ H s ->b_ vs us ->t vs σ H Q ->wpAny (model X.prog X.w) X.A (assignInOrder ((assignEach ts X.env).map (·.2)) us) (λ_ s'=>cx λσ' H'=>Inv X af σ' H' s' /\ Q σ' H') X.xe s
abbrev HC:=V ->V ->V ->Hp ->(Hp ->Prop) ->Prop
def Ti (X:Cx)(t:HC):Prop:=∀ (af:cV (gL×Obj)) (s:df) (σ:St) (H:Hp) (o i v:V) (ov iv u:cW) (Q:Hp ->Prop),Inv X af σ H s ->RelV o ov ->RelV i iv ->RelV v u ->t o i v H Q ->wpAny (model X.prog X.w) X.A (setItem ov iv u) (λ_ s'=> ∃H',Inv X af σ H' s' /\ Q H') X.xe s
abbrev Py:=V ->V ->Hp ->VK ->Prop
def PIp (X:Cx)(op:Operator)(t:Py):Prop:=∀ (af:cV (gL×Obj)) (s:df) (σ:St) (H:Hp) (x y:V) (v u:cW) (Q:VK),Inv X af σ H s ->RelV x v ->RelV y u ->t x y H Q ->wpAny (model X.prog X.w) X.A (inplaceOp op v u) (EP X af σ Q) X.xe s
section
variable {X:Cx}{pos:Pos}
def kH (i:Nat):TG:=λv σ H Q=>Q (σ.set i (some v)) H
def a8 {i:Nat}{x:Str}(hN:X.N.Nodup)(hi:X.N[i]? =some x)(hx:Loc X.env.scope x)(hf:X.fn x=true \/ X.env.scope.names.lookup x=some .local:=by first | show .inl rfl | show .inr rfl | assumption):PG X (.Name x pos) (kH i):=by intro af s σ H v u Q I r h;show wpAny_assign_Name (mJ I hN hi hx r (λs' I'=>#[_,H,I',h]) hf)
def Kf:Iz:=λvs σ H Q=>vs= [] /\ Q σ H
def u4 (t:TG)(u:Iz):Iz:=λvs σ H Q=>cx λv r=>vs=v::r /\ t v σ H λσ' H'=>u r σ' H' Q
def dE:U2 X [] Kf:=by intro af s σ H vs us Q I r h;let⟨e,h⟩:=h;subst e;cases r;show assignInOrder_nil #[σ,H,I,h]
def bB {e:Expr}{es:cV Expr}{t:TG}{u:Iz}(h1:PG X e t)(h2:U2 X es u) (hs:(assignEach (e::es) X.env).map (·.2)=assign e X.env::(assignEach es X.env).map (·.2):=by rfl):U2 X (e::es) (u4 t u):=by
 intro af s σ H vs us Q I r h;let⟨v,vr,e1,h⟩:=h;subst e1;cases r with
 | cons r rr=>rw[hs];exact assignInOrder_cons (cN (h1 af s σ H _ _ _ I r h) λ_ s1 ⟨σ1,H1,I1,q1⟩=> ?_);show h2 af s1 σ1 H1 _ _ Q I1 rr q1
def Ke (K:RS)(n:Nat)(t:Iz):TG:=λv σ H Q=>cx λa xs=>eT (v= .ref a) (jY K H a xs) (xs.length=n) (t xs σ H Q)
def d_ {es:cV Expr}{k:Nat}{t:Iz}{n:Nat}(hc:X.calm=true)(h:U2 X es t) (hn:(assignEach es X.env).length=n:=by rfl) (sN:(assignEach es X.env).findIdx? (·.1)=none:=by rfl):PG X (.Tuple es k pos) (Ke X.K n t):=by intro af s σ H v u Q I r hw;let⟨a,xs,e1,hq,hl,hw⟩:=hw;subst e1;cases r;let⟨bJ,rv,ht,hz⟩:=I.tuple hq;exact assign_Tuple_tuple (I.ok.hd hc) ht (by simp[hn, <- hl,rv.length]) sN λh' hx=> ?_;have I1:Inv X af σ H {s with heap:=h'}:=I.kept (t':=s.toks) λb o e=>hx b o (bu (aO e)) e;show h af _ σ H xs _ Q I1 ⇑rv hw
def SE (to ti:TE)(t:HC):TG:=λv σ H Q=>to σ H λo H1=>ti σ H1 λi H2=>t o i v H2 λH3=>Q σ H3
theorem oy {o i:Expr}{to ti:TE}{t:HC}(ho:PE X o to)(hi:PE X i ti)(hs:Ti X t) (ha: ∀v,assign (.Subscript o i pos) X.env v=(do
  let ov <- holding [v] (eval o X.env)
  let iv <- holding [v,ov] (eval i X.env)
  standAt pos
  holding [v,ov,iv] (setItem ov iv v)
  release [v,ov,iv] []):=by intro _;rfl):PG X (.Subscript o i pos) (SE to ti t):=by
 intro af s σ H v u Q I r h
 rw[ha]
 exact aw (wpAny_holding (cN (ho af s σ H _ I h) λov s1 ⟨x,H1,I1,r1,q1⟩=> ?_))
 exact aw (wpAny_holding (cN (hi af s1 σ H1 _ I1 q1) λiv s2 ⟨y,H2,I2,r2,q2⟩=> ?_))
 exact aw (wpAny_standAt (aw (wpAny_holding (cN (hs af s2 σ H2 x y v ov iv u _ I2 r1 r2 r q2) λ_ s3 ⟨H3,I3,q3⟩=> ?_))))
 show wpAny_release #[σ,H3,I3,q3]
def Fc (te:TE)(g:TG):TS:=λD σ H=>te σ H λx H1=>g x σ H1 D.nx
def gg {tg e:Expr}{te:TE}{g:TG}(he:PE X e te)(hg:PG X tg g)(hs:swapsWithSole [tg] e pos.line X.env=pure false:=by rfl)(hw:swappedStores [tg] e X.env=pure none:=by rfl) (h1:(assignEach [tg] X.env).map (·.2)= [assign tg X.env]:=by rfl):PS X (.Assign [tg] e pos) (Fc te g):=by intro af s σ H D I h;exact wpAny_Assign_stores (cN (he af s σ H _ I h) λv s1 ⟨x,H1,I1,r1,q1⟩=> ?_) hs hw;rw[h1];show cN (hg af s1 σ H1 x v _ I1 r1 q1) λ_ s2 q=>q
def a6 {i:Nat}{x:Str}{e:Expr}{te:TE}{ko:Pos}(hN:X.N.Nodup)(hi:X.N[i]? =some x)(hx:Loc X.env.scope x)(he:PE X e te)(hs:swapsWith e (some (.Name x ko)) pos.line X.env=pure false:=by rfl)(hf:X.fn x=true \/ X.env.scope.names.lookup x=some .local:=by first | show .inl rfl | show .inr rfl | assumption): PS X (.Assign [.Name x ko] e pos) (Fc te (kH i)):=by intro af s σ H D I h;exact wpAny_Assign_Name (cN (he af s σ H _ I h) λv s1 ⟨y,H1,I1,r1,q1⟩=> ?_) hs;show mJ I1 hN hi hx r1 (λs2 I2=>#[_,H1,I2,q1]) hf
def QK (i:Nat)(te:TE)(ti:Py):TS:=λD σ H=> ∃x,σ[i]? =some (some x) /\ te σ H λy H1=>ti x y H1 λz H2=>D.nx (σ.set i (some z)) H2
def Nj {i:Nat}{x:Str}{e:Expr}{te:TE}{op:Operator}{ti:Py}{ko:Pos}(hN:X.N.Nodup)(hi:X.N[i]? =some x)(hx:Loc X.env.scope x)(he:PE X e te)(ho:PIp X op ti)(hf:X.fn x=true \/ X.env.scope.names.lookup x=some .local:=by first | show .inl rfl | show .inr rfl | assumption): PS X (.AugAssign (.Name x ko) op e pos) (QK i te ti):=by
 intro af s σ H D I h;let⟨v,e1,h⟩:=h;let⟨m,hn,hl⟩:=I.loc;have VQ:Tf X.env.scope x:=by obtain k | k:=hx;show .inl k;show .inr (.inl k)
 let⟨u,r,l⟩:=hl i x v hi e1 VQ;exact wpAny_AugAssign_Name ?_;have go:wpAny (model X.prog X.w) X.A (eval e X.env) (λw s₂=>wpAny (model X.prog X.w) X.A (inplaceOp op u w) (λr s₃=>wpAny (model X.prog X.w) X.A (storeName X.env x r) (λ_=>SP X af D .next) X.xe s₃) X.xe s₂) X.xe s:=by exact cN (he af s σ H _ I h) λw s1 ⟨y,H1,I1,r1,q1⟩=> ?_;exact cN (ho af s1 σ H1 v y u w _ I1 r r1 q1) λz s2 ⟨zv,H2,I2,r2,q2⟩=> ?_;show mJ I2 hN hi hx r2 (λs3 I3=>#[_,H2,I3,q2]) hf
 rcases l with⟨hk,hm⟩ | ⟨hk,c,hc,Cc⟩
 show wpAny_loadName_local I.ok.kind hk hn hm go;obtain hk | hk:=hk;show wpAny_loadName_cell I.ok.kind hk hc Cc go;obtain k | k:=hx;have:X.env.scope.names.lookup x=some .free:=hk;rw[k] at this;cases this;have:X.env.scope.names.lookup x=some .free:=hk;rw[k] at this;cases this
def ipI (f:Int ->Int ->Int):Py:=λx y H Q=>cx λi j=>cT (x= .int i) (y= .int j) (Q (.int (f i j)) H)
def N6:PIp X .Add (ipI λi j=>i+j):=by intro af s σ H x y v u Q I r1 r2 h;let⟨i,j,e1,e2,q⟩:=h;subst e1;subst e2;let⟨t,rfl⟩:=r1;let⟨t',rfl⟩:=r2;show iadd_int #[.int _,H,I.tok _,#[_,rfl],q]
end
structure It where
 go:Nat ->Hp ->Prop
 OX:Nat ->Hp ->V ->Hp ->Prop
 stop:Nat ->Hp ->Prop
def jS (X:Cx)(af:cV (gL×Obj))(H:Hp)(b:gL):Prop:=H b=none /\ b≠X.env.locals /\ b∉X.fs /\ (b∈X.ex \/ X.s₀.heap.objs.size<=b) /\ (∀x c,X.env.cells.lookup x=some c ->c≠b) /\ ∀p∈X.pn++af,p.1≠b
def Inv.Aq {X:Cx}{af:cV (gL×Obj)}{σ:St}{H H':Hp}{s:df}{b:gL}(I:Inv X af σ H s)(hb:s.heap.objs.size<=b)(hn:H' b=none):jS X af H' b:=by exact#[hn,Nat.ne_of_gt (bF I.lt hb),I.Wt hb, .inr (av I.sz hb),λx c e z=> ?_,λp hp z=> ?_];let⟨v,q⟩:=I.cell x c e;show absurd (bF q.lt (by rw[z];show hb)) (Nat.lt_irrefl _);show absurd (bF (aO (I.pin p hp).1) (by rw[z];show hb)) (Nat.lt_irrefl _)
structure wL (P:Program)(w:World)(K:PySem.W.Frag)(tg:Expr)(J:It)(fp:List Addr)(it:Addr)(tn:Nat ->Heap ->Prop):Prop where
 mem:it∈fp
 obj: ∀i h,tn i h -> ∀b∈fp, ∃o,h.get? b=some o /\ ∀v,o.data≠ .cell v
 keep: ∀i h h',tn i h ->(∀b∈fp, ∀o,h.get? b=some o ->h'.get? b=some o) ->tn i h'
 item: ∀ (X:Cx),X.prog=P ->X.w=w ->X.K=K ->X.calm=true -> ∀ (i:Nat) (af:List (Addr×Obj)) (s:Shared) (σ:St) (H:Hp) (E:Value ->Shared ->Prop),Inv X af σ H s ->(∀b∈fp,jS X af H b) ->tn i s.heap ->J.go i H ->wpAny (model P w) X.A (pyNext (.ref it)) (λr s1=> ∃u,r=some u /\wpAny (model P w) X.A (letOwnedTupleGo tg (.ref it) u) (λ_ s2=>cx λx H'=>fS (Inv X af σ H' s2) (RelV x u) (J.OX i H x H') (tn (i+1) s2.heap) (∀b∈fp,H' b=none)) E s1) E s
 done: ∀ (X:Cx),X.prog=P ->X.w=w ->X.K=K ->X.calm=true -> ∀ (i:Nat) (af:List (Addr×Obj)) (s:Shared) (σ:St) (H:Hp) (E:Value ->Shared ->Prop),Inv X af σ H s ->(∀b∈fp,jS X af H b) ->tn i s.heap ->J.stop i H ->wpAny (model P w) X.A (pyNext (.ref it)) (λr s1=>r=none /\ Inv X af σ H s1) E s
 self: ∀ (A:Around) (i:Nat) (s:Shared) (Q:Value ->Shared ->Prop) (E:Value ->Shared ->Prop),tn i s.heap ->Q (.ref it) s ->wpAny (model P w) A (pyIter (.ref it)) Q E s
abbrev TI:=St ->Hp ->(It ->Hp ->Prop) ->Prop
def PIE (X:Cx)(af:cV (gL×Obj))(σ:St)(tg:Expr)(R:It ->Hp ->Prop)(RP:cW)(s2:df):Prop:=vx λ(it:gL) (fp:cV gL) (tn:Nat ->X4 ->Prop) (J:It) (H':Hp)=>jX (RP= .ref it) (Inv X af σ H' s2) (wL X.prog X.w X.K tg J fp it tn) (tn 0 s2.heap) (∀b∈fp,jS X af H' b) (R J H')
def PI (X:Cx)(tg iter:Expr)(wi:TI):Prop:=∀ (af:cV (gL×Obj)) (s:df) (σ:St) (H:Hp) (R:It ->Hp ->Prop),Inv X af σ H s ->wi σ H R ->wpAny (model X.prog X.w) X.A (eval iter X.env) (λv s1=>wpAny (model X.prog X.w) X.A (pyIter v) (PIE X af σ tg R) X.xe s1) X.xe s
def uX {M:Model}{A:X7}{E:cW ->df ->Prop}{s:df}{tg:Expr}{it:gL}{u:cW}{o:Obj}{n:String}{vs:RQ cW}{Q:Unit ->df ->Prop}(ho:s.heap.get? it=some o)(hc:o.cls= .type n)(hd:o.data= .fields vs) (hn: ["enumerate","zip","dict_itemiterator","dict_reverseitemiterator","odict_iterator","itertools.zip_longest","itertools.pairwise"].contains n=false) (hQ:Q () s):wpAny M A (letOwnedTupleGo tg (.ref it) u) Q E s:=by
 unfold letOwnedTupleGo;cases tg <;>first
 | show aX hQ
 | (cases u<;>first
  | show aX hQ
  | (exact aw (wpAny_load ho ?_)
     rw[hc,hd]
     change wpAny M A (if(["enumerate","zip","dict_itemiterator","dict_reverseitemiterator","odict_iterator","itertools.zip_longest","itertools.pairwise"].contains n && vs[0]? ==some (rawInt _))=true then _ else _) Q E s
     rw[ak (by intro h;rw[hn,Bool.false_and] at h;cases h)]
     show aX hQ))
def U6 (K:RS)(a:gL):It:=#[λi H=>cx λxs x=>gT K H a xs /\ xs[i]? =some x,λi H x H'=>H'=H /\ ∀xs,gT K H a xs ->xs[i]? =some x,λi H=> ∃xs,gT K H a xs /\ xs.length<=i]
def U4 (K:RS)(a:gL):It:=#[λi H=>cx λxs x=>jY K H a xs /\ xs[i]? =some x,λi H x H'=>H'=H /\ ∀xs,jY K H a xs ->xs[i]? =some x,λi H=> ∃xs,jY K H a xs /\ xs.length<=i]
def U5 (lo:Int)(n:Nat):It:=#[λi _=>i<n,λi H x H'=>H'=H /\ x= .int (lo+i),λi _=>n<=i]
def uB {P:RV}{w:W4}{K:RS}{tg:Expr}(a it:gL):wL P w K tg (U6 K a) [it] it (λi h=>h.IsListIter it a i) where
 mem:=by simp
 obj:=λi h st b hb=>by have e:b=it:= ⇑hb;subst e;let⟨o,e,c,d⟩:=st;show#[o,e,λv z=>by rw[d] at z;cases z]
 keep:=λi h h' st k=>st.at λo e=>k it (by simp) o e
 item:=by intro X hP hw hK hc i af s σ H E I hf st hg;subst hP hw hK;let⟨xs,x,hq,hx⟩:=hg;let⟨bJ,rv,p,hz⟩:=I.list hq;let⟨u,hu,ru⟩:=rv.get hx;let⟨f0,f1,f2,f3,f4,f5⟩:=hf it (by simp);exact wpAny_pyNext_list_item st p.isList (x:=u) ⇑hu λh' bE sb=> ?_;have I1:Inv X af σ H {s with heap:=h'}:=I.turned (t':=s.toks) (λb o hb e=>(sb.2 b hb).trans e) f0 f1 f3 f4 f5;let⟨o,e,c,d⟩:=id bE;show#[u,rfl,uX (s:= {s with heap:=h'}) e c d ⋯ #[x,H,I1,ru,#[rfl,λys hy=>by rw[I.list_inj hy hq];show hx],bE,λb hb=>(hf b hb).1]]
 done:=by intro X hP hw hK hc i af s σ H E I hf st hg;subst hP hw hK;let⟨xs,hq,hx⟩:=hg;let⟨bJ,rv,p,hz⟩:=I.list hq;let⟨f0,f1,f2,f3,f4,f5⟩:=hf it (by simp);have hl:=rv.length;show wpAny_pyNext_list_end (I.ok.hd hc) st p.isList (by simp;lia) λh' eb=>#[rfl,I.turned (t':=s.toks) (λb o hb e=>eb b o hb e) f0 f1 f3 f4 f5]
 self:=λ_ _ _ _ _ st h=>wpAny_pyIter_listiter st h
def rG {P:RV}{w:W4}{K:RS}{tg:Expr}(a it:gL):wL P w K tg (U4 K a) [it] it (λi h=>h.IsTupleIter it a i) where
 mem:=by simp
 obj:=λi h st b hb=>by have e:b=it:= ⇑hb;subst e;let⟨o,e,c,d⟩:=st;show#[o,e,λv z=>by rw[d] at z;cases z]
 keep:=λi h h' st k=>st.at λo e=>k it (by simp) o e
 item:=by intro X hP hw hK hc i af s σ H E I hf st hg;subst hP hw hK;let⟨xs,x,hq,hx⟩:=hg;let⟨bJ,rv,p,hz⟩:=I.tuple hq;let⟨u,hu,ru⟩:=rv.get hx;let⟨f0,f1,f2,f3,f4,f5⟩:=hf it (by simp);exact wpAny_pyNext_tuple_item st (show s.heap.IsTuple a bJ.toArray from p) (x:=u) ⇑hu λh' bE sb=> ?_;have I1:Inv X af σ H {s with heap:=h'}:=I.turned (t':=s.toks) (λb o hb e=>(sb.2 b hb).trans e) f0 f1 f3 f4 f5;let⟨o,e,c,d⟩:=id bE;show#[u,rfl,uX (s:= {s with heap:=h'}) e c d ⋯ #[x,H,I1,ru,#[rfl,λys hy=>by rw[I.uC hy hq];show hx],bE,λb hb=>(hf b hb).1]]
 done:=by intro X hP hw hK hc i af s σ H E I hf st hg;subst hP hw hK;let⟨xs,hq,hx⟩:=hg;let⟨bJ,rv,p,hz⟩:=I.tuple hq;let⟨f0,f1,f2,f3,f4,f5⟩:=hf it (by simp);have hl:=rv.length;show wpAny_pyNext_tuple_end (I.ok.hd hc) st (show s.heap.IsTuple a bJ.toArray from p) (by simp;lia) λh' eb=>#[rfl,I.turned (t':=s.toks) (λb o hb e=>eb b o hb e) f0 f1 f3 f4 f5]
 self:=λ_ _ _ _ _ st h=>wpAny_pyIter_tupleiter st h
def zF {P:RV}{w:W4}{K:RS}{tg:Expr}(it:gL)(lo:Int)(n:Nat):wL P w K tg (U5 lo n) [it] it (λi h=>IsRangeIter h it (lo+(i:Nat)*1) ((n:Int) - (i:Nat)) 1) where
 mem:=by simp
 obj :=λi h st b hb=>by have e:b=it:= ⇑hb;subst e;show#[_,st,λv z=>by have z':Data.fields _=Data.cell v:=z;cases z']
 keep:=λi h h' st k=>k it (by simp) _ st
 item:=by intro X hP hw hK hc i af s σ H E I hf st hg;subst hP hw hK;let⟨f0,f1,f2,f3,f4,f5⟩:=hf it (by simp);have W:=Walks.range (prog:=X.prog) (w:=X.w) (I.ok.hd hc) it lo 1 n;exact W.item i s _ _ hg st λv h' tk hv bE kk=> ?_;let⟨t,rfl⟩:=hv;have I1:Inv X af σ H {s with heap:=h',toks:=tk}:=I.turned (λb o hb e=>kk b o ⇑hb e) f0 f1 f3 f4 f5;exact#[_,rfl,uX (s:= {s with heap:=h',toks:=tk}) (n:= "range_iterator") bE rfl rfl ⋯ #[.int (lo+i),H,I1,#[t,?_],#[rfl,rfl],bE,λb hb=>(hf b hb).1]];rw[Int.mul_one]
 done:=by intro X hP hw hK hc i af s σ H E I hf st hg;subst hP hw hK;let⟨f0,f1,f2,f3,f4,f5⟩:=hf it (by simp);show wpAny_pyNext_range_end (I.ok.hd hc) st (by have:n<=i:=hg;lia) λh' eb=>#[rfl,I.turned (t':=s.toks) (λb o hb e=>eb b o hb e) f0 f1 f3 f4 f5]
 self:=λ_ _ _ _ _ st h=>wpAny_pyIter_rangeiter st h
section
variable {X:Cx}{tg:Expr}
def GC (K:RS)(tl:TE):TI:=λσ H R=>tl σ H λx H1=> ∃a,cT (x= .ref a) (∃xs,gT K H1 a xs) (R (U6 K a) H1)
def N7 (K:RS)(tl:TE):TI:=λσ H R=>tl σ H λx H1=> ∃a,cT (x= .ref a) (∃xs,jY K H1 a xs) (R (U4 K a) H1)
def qZ {l:Expr}{tl:TE}(hl:PE X l tl):PI X tg l (GC X.K tl):=by intro af s σ H R I h;exact cN (hl af s σ H _ I h) λv s1 ⟨x,H1,I1,r1,q1⟩=> ?_;let⟨a,e,⟨xs,hq⟩,q⟩:=q1;subst e;cases r1;let⟨bJ,rv,p,hz⟩:=I1.list hq;exact wpAny_pyIter_list p.isList ?_;exact#[s1.heap.objs.size,[s1.heap.objs.size],_,_,H1,rfl,I1.kept (t':=s1.toks) λb o e=>ar _ e,uB a _,#[_,aT _ rfl,rfl,rfl],λb hb=> ?_,q];have e:b=s1.heap.objs.size:= ⇑hb;subst e;show I1.Aq (ao _) (I1.cS.fresh (ao _))
def ox {l:Expr}{tl:TE}(hl:PE X l tl):PI X tg l (N7 X.K tl):=by intro af s σ H R I h;exact cN (hl af s σ H _ I h) λv s1 ⟨x,H1,I1,r1,q1⟩=> ?_;let⟨a,e,⟨xs,hq⟩,q⟩:=q1;subst e;cases r1;let⟨bJ,rv,p,hz⟩:=I1.tuple hq;exact wpAny_pyIter_tuple (show s1.heap.IsTuple a bJ.toArray from p) ?_;exact#[s1.heap.objs.size,[s1.heap.objs.size],_,_,H1,rfl,I1.kept (t':=s1.toks) λb o e=>ar _ e,rG a _,#[_,aT _ rfl,rfl,rfl],λb hb=> ?_,q];have e:b=s1.heap.objs.size:= ⇑hb;subst e;show I1.Aq (ao _) (I1.cS.fresh (ao _))
def Fv {af:cV (gL×Obj)}{σ:St}{H:Hp}{s:df}{R:It ->Hp ->Prop}{E:cW ->df ->Prop}{lo hi:Int}{t u v:Tok}{tk:Nat}(I:Inv X af σ H s)(h1: -(2 ^ 62) <=lo)(h2:lo<2 ^ 62)(h3: -(2 ^ 62) <=hi)(h4:hi<2 ^ 62) (q:R (U5 lo (hi - lo).toNat) H):wpAny (model X.prog X.w) X.A (pyIter (.ref s.heap.objs.size)) (PIE X af σ tg R) E {s with heap:=s.heap.push {cls:= .type "range",data:= .fields (List.toArray [.int lo t, .int hi u, .int 1 v])},toks:=tk}:=by
 exact wpAny_pyIter_range (IsRange.new ..) (small_one h1 h2 h3 h4) ?_;have I1:Inv X af σ H {s with heap:=s.heap.push {cls:= .type "range",data:= .fields (List.toArray [.int lo t, .int hi u, .int 1 v])},toks:=tk}:=I.kept λb o e=>ar _ e;exact#[(s.heap.push {cls:= .type "range",data:= .fields (List.toArray [.int lo t, .int hi u, .int 1 v])}).objs.size,[(s.heap.push {cls:= .type "range",data:= .fields (List.toArray [.int lo t, .int hi u, .int 1 v])}).objs.size],_,_,H,rfl,I1.kept (t':=tk) λb o e=>ar _ e,zF _ lo (hi - lo).toNat,?_,λb hb=> ?_,q];have e1:lo+((0:Nat):Int)*1=lo:=by simp
 have e2:(((hi - lo).toNat:Nat):Int) - ((0:Nat):Int)=Builtin.Range.rangeSize lo hi 1:=by rw[rangeSize_one];split<;>lia
 change IsRangeIter _ _ (lo+((0:Nat):Int)*1) ((((hi - lo).toNat:Nat):Int) - ((0:Nat):Int)) 1;rw[e1,e2];show aT _ rfl;have e:b=(s.heap.push {cls:= .type "range",data:= .fields (List.toArray [.int lo t, .int hi u, .int 1 v])}).objs.size:=by simpa using hb
 subst e;show I1.Aq (ao _) (I1.cS.fresh (ao _))
def L1 (ta:TA):TI:=λσ H R=>ta σ H λvs H1=> ∃j:Int,eT (vs= [.int j]) (-(2 ^ 62) <=j) (j<2 ^ 62) (R (U5 0 j.toNat) H1)
def fc {a:Expr}{ta:TA}{p pos:Pos}(hg:Gl X "range")(hm:X.mg "range" =none)(ha:PA X [a] ta)(hs:starEach [a] X.env= [(false,eval a X.env)]:=by rfl):PI X tg (.Call (.Name "range" p) [a] [] pos) (L1 ta):=by
 intro af s σ H R I h;exact Call_ (wq I hg hm boot_range (PyProof.Rows.callWith_type1 (cN (ha pos af s σ H _ I h) λus s1 ⟨vs,H1,I1,r1,q1⟩=> ?_) hs rfl));let⟨j,e,q1,q2,q⟩:=q1;subst e;cases r1 with
 | cons r rr=>cases rr;let⟨t,rfl⟩:=r;show call_range_1 (Fv I1 ∅ ∅ q1 q2 ⇑q)
def QH (wi:TI)(g:TG)(tb:TS):TS:=λD σ H=>wi σ H λJ H1=> ∃W:Nat ->Nat ->St ->Hp ->Prop,(∃m,W 0 m σ H1) /\ ∀i m σ H,W i m σ H ->(J.stop i H /\ D.nx σ H) \/ (J.go i H /\ ∃N:St ->Hp ->Prop,(∀σ' H',N σ' H' -> ∃m',m'<m /\ W (i+1) m' σ' H') /\ ∀x H',J.OX i H x H' ->g x σ H' λσ2 H2=>tb {D with nx:=N,ct:=N,bk:=D.nx} σ2 H2)
def gJ (fp:cV gL)(h:X4):cV (gL×Obj):=fp.filterMap λb=>(h.get? b).map λo=>(b,o)
theorem eL {fp:cV gL}{h:X4}{b:gL}{o:Obj}(hb:b∈fp)(e:h.get? b=some o):(b,o)∈gJ fp h:=List.mem_filterMap.mpr #[b,hb,by rw[e];rfl]
def Di {fp:cV gL}{h:X4}{p:gL×Obj}(hp:p∈gJ fp h):p.1∈fp /\ h.get? p.1=some p.2:=by
 let⟨b,hb,e⟩:=List.mem_filterMap.mp hp;cases q:h.get? b with
 | none=>rw[q] at e;cases e
 | some o=>rw[q] at e;have e':(b,o)=p:=bg e;subst e';show#[hb,q]
theorem Inv.pinned {af:cV (gL×Obj)}{σ:St}{H:Hp}{s:df}{fp:cV gL}(I:Inv X af σ H s)(hf: ∀b∈fp,jS X af H b)(ho: ∀b∈fp, ∃o,s.heap.get? b=some o /\ ∀v,o.data≠ .cell v):Inv X (af++gJ fp s.heap) σ H s:=I.Bx λp hp=>(bh.mp hp).elim (λz=>I.pin p (aR _ z)) λz=>by let⟨hb,e⟩:=Di z;let⟨f0,f1,f2,_⟩:=hf p.1 hb;let⟨o,e',d⟩:=ho p.1 hb;rw[e] at e';cases e';show#[e,f0,f1,f2,d]
theorem Inv.iN {af pl:cV (gL×Obj)}{σ:St}{H:Hp}{s:df}(I:Inv X (af++pl) σ H s):Inv X af σ H s:=I.Bx λp hp=>I.pin p (aR _ (List.mem_append_left _ hp))
def gH {iter:Expr}{body:cV Stmt}{wi:TI}{g:TG}{tb:TS}{pos:Pos}(hp:PassesOwn (model X.prog X.w) X.A X.env X.xe)(hc:X.calm=true)(hi:PI X tg iter wi)(hg:PG X tg g)(hb:wZ X body tb) (hs: ∀x,foldedSetIterable iter X.env x=pure x:=by intro _;rfl):PS X (.For tg iter body [] pos) (QH wi g tb):=by
 intro af s σ H D I h;exact wpAny_For (cN (hi af s σ H _ I h) λv s1 h1=>cN h1 λRP s2 h2=> ?_) hs;let⟨it,fp,tn,J,H2,e,I2,T,mK,f2,W,⟨m0,w0⟩,turn⟩:=h2;subst e;have rM: ∀ {H':Hp},(∀b∈fp,H' b=none) -> ∀b∈fp,jS X af H' b:=λhn b hb=>#[hn b hb,(f2 b hb).2]
 exact codeAny_forLoop_any (λn s'=>dQ λi σ' H'=>eT (Inv X af σ' H' s') (tn i s'.heap) (∀b∈fp,H' b=none) (W i n σ' H')) ?_ m0 #[0,σ,H2,I2,mK,λb hb=>(f2 b hb).1,w0];rintro n s3 ⟨i,σ3,H3,I3,tW,fr3,w3⟩;rcases turn i n σ3 H3 w3 with⟨stop,qn⟩ | ⟨go,N,hN,step⟩
 .exact wpAny_passesOwn hp (cN (T.done X rfl rfl rfl hc i af s3 σ3 H3 X.xe I3 (rM fr3) tW stop) λr s4 ⟨hr,I4⟩=> ?_);subst hr;show wpAny_execs_nil #[σ3,H3,I4,qn]
 .exact wpAny_passesOwn hp (cN (T.item X rfl rfl rfl hc i af s3 σ3 H3 X.xe I3 (rM fr3) tW go) λr s4 ⟨u,hr,h4⟩=> ?_);subst hr;exact wpAny_passesOwn hp (cN h4 λ_ s5 ⟨x,H5,I5,r5,y5,O8,fr5⟩=> ?_);have I5':=I5.pinned (rM fr5) (T.obj _ _ O8);exact wpAny_passesOwn hp (cN (hg _ s5 σ3 H5 x u _ I5' r5 (step x H5 y5)) λ_ s6 ⟨σ6,H6,I6,q6⟩=> ?_);exact wpAny_passesOwn hp (cN (hb _ s6 σ6 H6 _ I6 q6) λf s7 q7=> ?_);have again: ∀ {σ7:St} {H7:Hp},Inv X (af++gJ fp s5.heap) σ7 H7 s7 ->N σ7 H7 -> ∃m,m<n /\ dQ λi σ' H'=>eT (Inv X af σ' H' s7) (tn i s7.heap) (∀b∈fp,H' b=none) (W i m σ' H'):=λ{σ7 H7} I7 n7=>by let⟨m',hm,w7⟩:=hN σ7 H7 n7;exact#[m',hm,i+1,σ7,H7,I7.iN,T.keep _ _ _ O8 λb hb o e=>(I7.pin (b,o) (aR _ (aR _ (eL hb e)))).1,λb hb=> ?_,w7];let⟨o,e,d⟩:=T.obj _ _ O8 b hb;show(I7.pin (b,o) (aR _ (aR _ (eL hb e)))).2.1
  cases f with
  | next=>let⟨σ7,H7,I7,n7⟩:=q7;show again I7 n7
  | cont=>let⟨σ7,H7,I7,n7⟩:=q7;show again I7 n7
  | brk=>let⟨σ7,H7,I7,q7⟩:=q7;show#[σ7,H7,I7.iN,q7]
  | ret v=>let⟨x7,σ7,H7,I7,r7,q7⟩:=q7;show#[x7,σ7,H7,I7.iN,r7,q7]
end
abbrev R2:=V ->V ->Hp ->VK ->Prop
def iJ (X:Cx)(f:cW ->cW ->Sem cW)(r:R2):Prop:=∀ (af:cV (gL×Obj)) (s:df) (σ:St) (H:Hp) (x y:V) (v u:cW) (Q:VK),Inv X af σ H s ->RelV x v ->RelV y u ->r x y H Q ->wpAny (model X.prog X.w) X.A (f v u) (EP X af σ Q) X.xe s
def UnR (X:Cx)(f:cW ->Sem cW)(r:V ->Hp ->VK ->Prop):Prop:=∀ (af:cV (gL×Obj)) (s:df) (σ:St) (H:Hp) (x:V) (v:cW) (Q:VK),Inv X af σ H s ->RelV x v ->r x H Q ->wpAny (model X.prog X.w) X.A (f v) (EP X af σ Q) X.xe s
def fi (X:Cx)(f:cW)(r:cV V ->Hp ->VK ->Prop):Prop:=∀ (af:cV (gL×Obj)) (s:df) (σ:St) (H:Hp) (xs:cV V) (us:cV cW) (Q:VK),Inv X af σ H s ->b_ xs us ->r xs H Q ->wpAny (model X.prog X.w) X.A (call f us) (EP X af σ Q) X.xe s
def QB (r:R2)(ta tb:TE):TE:=λσ H Q=>ta σ H λx H1=>tb σ H1 λy H2=>r x y H2 Q
def tUn (r:V ->Hp ->VK ->Prop)(ta:TE):TE:=λσ H Q=>ta σ H λx H1=>r x H1 Q
def rI (C:Int ->Int ->Prop)(g:Int ->Int ->V):R2:=λx y H Q=>cx λi j=>eT (x= .int i) (y= .int j) (C i j) (Q (g i j) H)
def Jg (g:Int ->Int ->V):R2:=λx y H Q=>cx λi j=>cT (x= .int i) (y= .int j) (Q (g i j) H)
def rU (g:Int ->V):V ->Hp ->VK ->Prop:=λx H Q=> ∃i,x= .int i /\ Q (g i) H
section
variable {X:Cx}{a b c:Expr}{ta tb tc:TE}{pos:Pos}
def OL (ha:PE X a ta)(hb:PE X b tb){af:cV (gL×Obj)}{s:df}{σ:St}{H:Hp}{R:V ->V ->Hp ->Prop}(I:Inv X af σ H s) (h:ta σ H λx H1=>tb σ H1 λy H2=>R x y H2) {Q:cW ->df ->Prop} {f:cW ->cW ->Sem cW} (hf: ∀v u s2 x y H2,Inv X af σ H2 s2 ->RelV x v ->RelV y u ->R x y H2 ->wpAny (model X.prog X.w) X.A (f v u) Q X.xe s2): wpAny (model X.prog X.w) X.A (eval a X.env) (λv s₁=>wpAny (model X.prog X.w) X.A (eval b X.env) (λu s₂=>wpAny (model X.prog X.w) X.A (f v u) Q X.xe s₂) X.xe s₁) X.xe s:=by exact cN (ha af s σ H _ I h) λv s1 ⟨x,H1,I1,r1,q1⟩=> ?_;exact cN (hb af s1 σ H1 _ I1 q1) λu s2 ⟨y,H2,I2,r2,q2⟩=> ?_;show hf v u s2 x y H2 I2 r1 r2 q2
def bS {op:Operator}{r:R2}(ho:iJ X (binaryOp op) r)(ha:PE X a ta)(hb:PE X b tb):PE X (.BinOp a op b pos) (QB r ta tb):=by intro af s σ H Q I h;show wpAny_BinOp (OL ha hb I h λv u s2 x y H2 I2 rx ry q=>ho af s2 σ H2 x y v u Q I2 rx ry q)
def fU {op:UnaryOp}{r:V ->Hp ->VK ->Prop}(ho:UnR X (unaryOp op) r)(ha:PE X a ta):PE X (.UnaryOp op a pos) (tUn r ta):=by intro af s σ H Q I h;show UnaryOp_ (cN (ha af s σ H _ I h) λv s1 ⟨x,H1,I1,r1,q1⟩=>ho af s1 σ H1 x v Q I1 r1 q1)
def Uy {f:cW ->cW ->Sem cW}{C:Int ->Int ->Prop}{g:Int ->Int ->Int} (rule: ∀ (i j:Int) (t u:Tok) (s:df) (Q:cW ->df ->Prop) (E:cW ->df ->Prop),C i j ->Q (.int (g i j) s.toks) {s with toks:=s.toks+1} ->wpAny (model X.prog X.w) X.A (f (.int i t) (.int j u)) Q E s): iJ X f (rI C λi j=> .int (g i j)):=by intro af s σ H x y v u Q I rx ry h;let⟨i,j,rfl,rfl,hc,q⟩:=h;let⟨t,rfl⟩:=rx;let⟨t',rfl⟩:=ry;show rule i j t t' s _ _ hc #[.int (g i j),H,I.tok _,#[_,rfl],q]
def Rt {f:cW ->cW ->Sem cW}{g:Int ->Int ->Int} (rule: ∀ (i j:Int) (t u:Tok) (s:df) (Q:cW ->df ->Prop) (E:cW ->df ->Prop),Q (.int (g i j) s.toks) {s with toks:=s.toks+1} ->wpAny (model X.prog X.w) X.A (f (.int i t) (.int j u)) Q E s): iJ X f (Jg λi j=> .int (g i j)):=by intro af s σ H x y v u Q I rx ry h;let⟨i,j,rfl,rfl,q⟩:=h;let⟨t,rfl⟩:=rx;let⟨t',rfl⟩:=ry;show rule i j t t' s _ _ #[.int (g i j),H,I.tok _,#[_,rfl],q]
def Jz {f:cW ->cW ->Sem cW}{g:Int ->Int ->Bool} (rule: ∀ (i j:Int) (t u:Tok) (s:df) (Q:cW ->df ->Prop) (E:cW ->df ->Prop),Q (.bool (g i j)) s ->wpAny (model X.prog X.w) X.A (f (.int i t) (.int j u)) Q E s): iJ X f (Jg λi j=> .bl (g i j)):=by intro af s σ H x y v u Q I rx ry h;let⟨i,j,rfl,rfl,q⟩:=h;let⟨t,rfl⟩:=rx;let⟨t',rfl⟩:=ry;show rule i j t t' s _ _ #[.bl (g i j),H,I,rfl,q]
def HZ (i j:Int):Prop:=0<j /\ j<1073741824
def OW (i j:Int):Prop:=0<=j /\ j<=1000000 /\ i.natAbs<2 ^ 64
def lH (i j:Int):Prop:=(-(2 ^ 64) <i /\ i<2 ^ 64) \/ (-(2 ^ 64) <j /\ j<2 ^ 64)
def lH.ok {i j:Int}(h:lH i j):IntMulOk i j:=by
 rcases h with⟨h1,h2⟩ | ⟨h1,h2⟩
 show .of_left (intBits_le_64 h1 h2);show .of_right (intBits_le_64 h1 h2)
theorem dZ:iJ X (binaryOp .Add) (Jg λi j=> .int (i+j)):=Rt λ_ _ _ _ _ _ _ q=>add_int q
theorem rT:iJ X (binaryOp .Sub) (Jg λi j=> .int (i - j)):=Rt λ_ _ _ _ _ _ _ q=>sub_int q
theorem fM:iJ X (binaryOp .Mult) (rI lH λi j=> .int (i*j)):=Uy λ_ _ _ _ _ _ _ hc q=>mul_int q hc.ok
theorem BG:iJ X (binaryOp .FloorDiv) (rI HZ λi j=> .int (i / j)):=Uy λi j _ _ _ _ _ hc q=>by have h1:(0:Int) <j:=hc.1;have h2:j<1073741824:=hc.2;show floordiv_int ∅ (by rw[Int.fdiv_eq_ediv_of_nonneg i ∅];show q) (.inl (PyProof.noPylong_small ∅))
theorem kx:iJ X (binaryOp .Mod) (rI (λ_ j=>0<j) λi j=> .int (i % j)):=Uy λi j _ _ _ _ _ hc q=>by have h1:(0:Int) <j:=hc;show mod_int' ∅ (by rw[Int.fmod_eq_emod_of_nonneg i ∅];show q)
theorem NE:iJ X (binaryOp .Pow) (rI OW λi j=> .int (i ^ j.toNat)):=Uy λ_ _ _ _ _ _ _ hc q=>pow_int_small hc.1 hc.2.1 hc.2.2 q
def unI {f:cW ->Sem cW}{g:Int ->Int} (rule: ∀ (i:Int) (t:Tok) (s:df) (Q:cW ->df ->Prop) (E:cW ->df ->Prop),Q (.int (g i) s.toks) {s with toks:=s.toks+1} ->wpAny (model X.prog X.w) X.A (f (.int i t)) Q E s): UnR X f (rU λi=> .int (g i)):=by intro af s σ H x v Q I rx h;let⟨i,rfl,q⟩:=h;let⟨t,rfl⟩:=rx;show rule i t s _ _ #[.int (g i),H,I.tok _,#[_,rfl],q]
theorem eG:UnR X (unaryOp .USub) (rU λi=> .int (-i)):=unI λ_ _ _ _ _ q=>neg_int q
end
def Jb:V ->V ->Bool
 | .dO, .dO=>true | .dO, .int _=>true | .int _, .dO=>true | .dO, .bl _=>true | .bl _, .dO=>true | .dO, .str _=>true | .str _, .dO=>true
 | .int _, .int _=>true | .bl _, .bl _=>true | .str _, .str _=>true | .D_ _, .D_ _=>true
 | .int _, .str _=>true | .str _, .int _=>true | .bl _, .str _=>true | .str _, .bl _=>true
 | _,_=>false
def rEq:R2:=λx y H Q=>Jb x y=true /\ Q (.bl (decide (x=y))) H
def rNe:R2:=λx y H Q=>Jb x y=true /\ Q (.bl (!decide (x=y))) H
def Cv {i j:Int}:decide (V.int i=V.int j)=(i==j):=by rw[Bool.eq_iff_iff];simp
def Hb {i j:Bool}:decide (V.bl i=V.bl j)=(i==j):=by rw[Bool.eq_iff_iff];simp
def Cu {i j:Str}:decide (V.str i=V.str j)=(i==j):=by rw[Bool.eq_iff_iff];simp
def Cw {i j:RQ UInt8}:decide (V.D_ i=V.D_ j)=(i.toList==j.toList):=by rw[Bool.eq_iff_iff];cases i;cases j;simp
section
variable {X:Cx}{a b c:Expr}{ta tb tc:TE}{pos:Pos}
def cL {af:cV (gL×Obj)}{σ:St}{H:Hp}{s:df}{Q:VK}{k k':Bool}(I:Inv X af σ H s)(q:Q (.bl k) H)(e:k=k'):EP X af σ Q (.bool k') s:=by subst e;show#[.bl k,H,I,rfl,q]
def di:iJ X (compareOp .Eq) rEq:=by
 intro af s σ H x y v u Q I rx ry h;let⟨hs,q⟩:=h;cases x with
 | dO=>
  cases rx;cases y with
  | dO=>cases ry;show PySem.EqNone.eq_none_none (cL I q (by simp))
  | bl j=>cases ry;show PySem.EqNone.eq_none_bool (cL I q (by simp))
  | int j=>let⟨t',rfl⟩:=ry;show PySem.EqNone.eq_none_int (cL I q (by simp))
  | str j=>let⟨t',rfl⟩:=ry;show PySem.EqNone.eq_none_str (cL I q (by simp))
  | _=>show absurd (show false=true from hs) a5
 | bl i=>
  cases rx;cases y with
  | dO=>cases ry;show PySem.EqNone.eq_bool_none (cL I q (by simp))
  | bl j=>cases ry;show eq_bool (cL I q Hb)
  | str j=>let⟨t',rfl⟩:=ry;show PySem.EqMixed.eq_bool_str (cL I q (by simp))
  | _=>show absurd (show false=true from hs) a5
 | int i=>
  let⟨t,rfl⟩:=rx;cases y with
  | dO=>cases ry;show PySem.EqNone.eq_int_none (cL I q (by simp))
  | int j=>let⟨t',rfl⟩:=ry;show eq_int (cL I q Cv)
  | str j=>let⟨t',rfl⟩:=ry;show PySem.EqMixed.eq_int_str (cL I q (by simp))
  | _=>show absurd (show false=true from hs) a5
 | str i=>
  let⟨t,rfl⟩:=rx;cases y with
  | dO=>cases ry;show PySem.EqNone.eq_str_none (cL I q (by simp))
  | bl j=>cases ry;show PySem.EqMixed.eq_str_bool (cL I q (by simp))
  | int j=>let⟨t',rfl⟩:=ry;show PySem.EqMixed.eq_str_int (cL I q (by simp))
  | str j=>let⟨t',rfl⟩:=ry;show eq_str (cL I q Cu)
  | _=>show absurd (show false=true from hs) a5
 | D_ i=>
  let⟨t,rfl⟩:=rx;cases y with
  | D_ j=>let⟨t',rfl⟩:=ry;show W.eq_bytes (cL I q Cw)
  | _=>show absurd (show false=true from hs) a5
 | _=>cases y<;>show absurd (show false=true from hs) a5
def rV:iJ X (compareOp .NotEq) rNe:=by
 intro af s σ H x y v u Q I rx ry h;let⟨hs,q⟩:=h;cases x with
 | dO=>
  cases rx;cases y with
  | dO=>cases ry;show PySem.EqNone.ne_none_none (cL I q (by simp))
  | bl j=>cases ry;show PySem.EqNone.ne_none_bool (cL I q (by simp))
  | int j=>let⟨t',rfl⟩:=ry;show PySem.EqNone.ne_none_int (cL I q (by simp))
  | str j=>let⟨t',rfl⟩:=ry;show PySem.EqNone.ne_none_str (cL I q (by simp))
  | _=>show absurd (show false=true from hs) a5
 | bl i=>
  cases rx;cases y with
  | dO=>cases ry;show PySem.EqNone.ne_bool_none (cL I q (by simp))
  | bl j=>cases ry;show ne_bool (cL I q (congrArg not Hb))
  | str j=>let⟨t',rfl⟩:=ry;show PySem.EqMixed.ne_bool_str (cL I q (by simp))
  | _=>show absurd (show false=true from hs) a5
 | int i=>
  let⟨t,rfl⟩:=rx;cases y with
  | dO=>cases ry;show PySem.EqNone.ne_int_none (cL I q (by simp))
  | int j=>let⟨t',rfl⟩:=ry;show ne_int (cL I q (congrArg not Cv))
  | str j=>let⟨t',rfl⟩:=ry;show PySem.EqMixed.ne_int_str (cL I q (by simp))
  | _=>show absurd (show false=true from hs) a5
 | str i=>
  let⟨t,rfl⟩:=rx;cases y with
  | dO=>cases ry;show PySem.EqNone.ne_str_none (cL I q (by simp))
  | bl j=>cases ry;show PySem.EqMixed.ne_str_bool (cL I q (by simp))
  | int j=>let⟨t',rfl⟩:=ry;show PySem.EqMixed.ne_str_int (cL I q (by simp))
  | str j=>let⟨t',rfl⟩:=ry;show ne_str (cL I q (congrArg not Cu))
  | _=>show absurd (show false=true from hs) a5
 | D_ i=>
  let⟨t,rfl⟩:=rx;cases y with
  | D_ j=>let⟨t',rfl⟩:=ry;show W.ne_bytes (cL I q (congrArg not Cw))
  | _=>show absurd (show false=true from hs) a5
 | _=>cases y<;>show absurd (show false=true from hs) a5
theorem i5:iJ X (compareOp .Lt) (Jg λi j=> .bl (decide (i<j))):=Jz λ_ _ _ _ _ _ _ q=>lt_int q
theorem rW:iJ X (compareOp .LtE) (Jg λi j=> .bl (decide (i<=j))):=Jz λ_ _ _ _ _ _ _ q=>le_int q
theorem FS:iJ X (compareOp .Gt) (Jg λi j=> .bl (decide (j<i))):=Jz λ_ _ _ _ _ _ _ q=>gt_int q
theorem xP:iJ X (compareOp .GtE) (Jg λi j=> .bl (decide (j<=i))):=Jz λ_ _ _ _ _ _ _ q=>ge_int q
def Db:iJ X (compareOp .In) (λx y H Q=>cx λi j=>cT (x= .str i) (y= .str j) (Q (.bl (!(Builtin.Str.occurrences j i 0 j.length 1).isEmpty)) H)):=by intro af s σ H x y v u Q I rx ry h;let⟨i,j,rfl,rfl,q⟩:=h;let⟨t,rfl⟩:=rx;let⟨t',rfl⟩:=ry;show in_str (cL I q rfl)
def a9 (b:Expr){op:CmpOp}(h:op≠ .In:=by decide)(h2:op≠ .NotIn:=by decide):behindInMarks op b=false:=by
 have e1:(op==CmpOp.In)=false:=by cases op<;>first | rfl | show absurd rfl h
 have e2:(op==CmpOp.NotIn)=false:=by cases op<;>first | rfl | show absurd rfl h2
 cases b<;>simp[behindInMarks,e1,e2]
def gp {op:CmpOp}{r:R2}(ho:iJ X (compareOp op) r)(ha:PE X a ta)(hb:PE X b tb)(hm:behindInMarks op b=false):PE X (.Compare a [op] [b] pos) (QB r ta tb):=by intro af s σ H Q I h;show wpAny_Compare1 (OL ha hb I h λv u s2 x y H2 I2 rx ry q=>ho af s2 σ H2 x y v u Q I2 rx ry q) hm
def E3 (t:TE):TT:=λσ H Q=>t σ H λx H'=> ∃k,x= .bl k /\ Q k H'
def aQ {op:CmpOp}{r:R2}(ho:iJ X (compareOp op) r)(ha:PE X a ta)(hb:PE X b tb)(hm:behindInMarks op b=false):PT X (.Compare a [op] [b] pos) (E3 (QB r ta tb)):=by intro af s σ H Q I h;exact wpAny_isTrue_Compare1 (cN (ha af s σ H _ I h) λv s1 ⟨x,H1,I1,r1,q1⟩=>cN (hb af s1 σ H1 _ I1 q1) λu s2 ⟨y,H2,I2,r2,q2⟩=>cN (ho af s2 σ H2 x y v u _ I2 r1 r2 q2) λc s3 ⟨z,H3,I3,r3,k,e,q3⟩=> ?_) hm;subst e;cases r3;show cD #[H3,I3,q3]
def zJ (r r':R2)(ta tb tc:TE):TE:=λσ H Q=>ta σ H λx H1=>tb σ H1 λy H2=>r x y H2 λz H3=> ∃k,z= .bl k /\(if k=true then tc σ H3 λw' H4=>r' y w' H4 Q else Q (.bl false) H3)
def FI {op NG:CmpOp}{r r':R2}(ho:iJ X (compareOp op) r)(ww:iJ X (compareOp NG) r')(ha:PE X a ta)(hb:PE X b tb)(hc:PE X c tc) (hm:lastMarks [op,NG] [b,c]=false:=by with_unfolding_all rfl):PE X (.Compare a [op,NG] [b,c] pos) (zJ r r' ta tb tc):=by
 intro af s σ H Q I h;exact Compare_chain (cN (ha af s σ H _ I h) λv s1 ⟨x,H1,I1,r1,q1⟩=>chain_link (cN (hb af s1 σ H1 _ I1 q1) λu s2 ⟨y,H2,I2,r2,q2⟩=>cN (ho af s2 σ H2 x y v u _ I2 r1 r2 q2) λd s3 ⟨z,H3,I3,r3,k,e,q3⟩=> ?_)) hm;subst e;cases r3;exact cD ?_;cases k with
 | false=>show ite_ff #[.bl false,H3,I3,rfl,q3]
 | true=>show ite_tt (chain_last (cN (hc af s3 σ H3 _ I3 q3) λw' s4 ⟨z',H4,I4,r4,q4⟩=>ww af s4 σ H4 y z' u w' Q I4 r2 r4 q4))
def xK {op NG:CmpOp}{r r':R2}(ho:iJ X (compareOp op) r)(ww:iJ X (compareOp NG) r')(ha:PE X a ta)(hb:PE X b tb)(hc:PE X c tc) (hm:lastMarks [op,NG] [b,c]=false:=by with_unfolding_all rfl):PT X (.Compare a [op,NG] [b,c] pos) (E3 (zJ r r' ta tb tc)):=by
 intro af s σ H Q I h;exact isTrue_chain (cN (ha af s σ H _ I h) λv s1 ⟨x,H1,I1,r1,q1⟩=>test_link (cN (hb af s1 σ H1 _ I1 q1) λu s2 ⟨y,H2,I2,r2,q2⟩=>cN (ho af s2 σ H2 x y v u _ I2 r1 r2 q2) λd s3 ⟨z,H3,I3,r3,k,e,q3⟩=> ?_)) hm;subst e;cases r3;exact cD ?_;cases k with
 | false=>let⟨k',e',q'⟩:=q3;cases e';show ite_ff #[H3,I3,q']
 | true=>exact ite_tt (test_last (cN (hc af s3 σ H3 _ I3 q3) λw' s4 ⟨z',H4,I4,r4,q4⟩=>cN (ww af s4 σ H4 y z' u w' _ I4 r2 r4 q4) λd' s5 ⟨z2,H5,I5,r5,k2,e2,q5⟩=> ?_));subst e2;cases r5;show cD #[H5,I5,q5]
def oK:(sizeLine:Nat) <2 ^ 63:=by rw[sizeLine_eq];decide
def zY:iJ X (binaryOp .Add) (λx y H Q=>cx λi j=>eT (x= .str i) (y= .str j) (i.length+j.length<=sizeLine) (Q (.str (i++j)) H)):=by intro af s σ H x y v u Q I rx ry h;let⟨i,j,rfl,rfl,hz,q⟩:=h;let⟨t,rfl⟩:=rx;let⟨t',rfl⟩:=ry;show add_str (λt' tk=>#[.str (i++j),H,I.tok _,#[_,rfl],q]) hz
def vals1 {x:V}{us:cV cW}(r:b_ [x] us): ∃u,us= [u] /\ RelV x u:=by
 cases r with
 | cons r1 r2=>cases r2;show#[_,rfl,r1]
def vals2 {x y:V}{us:cV cW}(r:b_ [x,y] us):cx λu w'=>cT (us= [u,w']) (RelV x u) (RelV y w'):=by
 cases r with
 | cons r1 r2=>
  cases r2 with
  | cons r3 r4=>cases r4;show#[_,_,rfl,r1,r3]
def Ho:fi X (.builtin "abs") (λxs H Q=> ∃i,xs= [.int i] /\ Q (.int (if i<0 then -i else i)) H):=by intro af s σ H xs us Q I r h;let⟨i,rfl,q⟩:=h;let⟨u,rfl,t,rfl⟩:=vals1 r;show call_abs_int λu tk=>#[.int (if i<0 then -i else i),H,I.tok _,#[_,rfl],q]
end
structure AG (h:Heap)(x dx C:Addr)(mA:Str ->Option Value):Prop where
 obj:h.get? x=some (PySem.W.instObj C dx)
 ns:h.Ns1 dx mA
 ne:dx≠x
def Ds {h:X4}{dx:gL}{mA:Str ->fP cW}(n:h.Ns1 dx mA): ∃od,h.get? dx=some od /\ ∀name,W.lookIn name od=some (mA name):=by
 let⟨o,es,ep,ho,hd,hk,_,hm⟩:=n;exact#[o,ho,λname=> ?_];have e:=hm name;unfold nsFind findBy at e;rw[<- Array.find?_toList] at e;unfold W.lookIn;rw[hd];dsimp only;split;rename_i y q;rw[q] at e;show congrArg some e;rename_i q;rw[q] at e;have a:es.toList.any (·.refKey)=false:=by rw[List.any_eq_false];intro y hy;let⟨z,t,Om⟩:=hk y (Array.mem_toList_iff.mp hy);simp[DictEntry.refKey,Om]
 have a':¬es.toList.any (·.refKey)=true:=by rw[a];show a5
 rw[ak a'];show congrArg some e
theorem AG.look {h:X4}{x dx C:gL}{mA:Str ->fP cW}(I:AG h x dx C mA): ∃od,W.InstAt h x (W.instObj C dx) C (some od) /\ ∀name,W.lookIn name od=some (mA name):=
 let ⟨od,ho,hl⟩:=Ds I.ns
 #[od,#[I.obj,rfl,rfl,ho],hl]
section
variable {prog:RV}{w:W4}{A:X7}{E:cW ->df ->Prop}{s:df}{K:RS}{x dx C f:gL}{mA:Str ->fP cW}{name:Str}{v:cW}
def Kb {acM:Bool}{Q:cW ->df ->Prop}(X:K.In s.heap)(I:AG s.heap x dx C mA)(hg:W.plainGet K C name=true)(hh:W.hasDictIn K C=true) (ha:W.findIn K (.ref C) name=some none) (hv:mA name=some v) (J1:W.handedIn v=true) (h:Q v {s with toks:=s.toks+1}): wpAny (model prog w) A (getAttr (.ref x) name acM) Q E s:=by let⟨od,J,hl⟩:=I.look;show W.get_value X J (W.plainGet_of hg).1 (W.findObj_own hh ha rfl (by rw[hl,hv])) J1 h
def GU {pl:Sem Bool}{Q:cW×cV cW ->df ->Prop}(X:K.In s.heap)(I:AG s.heap x dx C mA)(hg:W.plainGet K C name=true) (hf:W.findIn K (.ref C) name=some (some (.ref f))) (ht:W.isFn K (.ref f)=true) (hv:mA name=none) (h:Q (.ref f,[.ref x]) s): wpAny (model prog w) A (getMethod (.ref x) name pl) Q E s:=by let⟨od,J,hl⟩:=I.look;show W.method_fn X J (W.plainGet_of hg).1 (W.plainGet_of hg).2 hf (beq_iff_eq.mp ht) (by change(W.lookIn name od).map (·.isSome)=some false;rw[hl,hv];rfl) h
def I_ {ns:cV Str}{Q:Unit ->df ->Prop}(X:K.In s.heap)(I:AG s.heap x dx C mA) (hs:W.findIn K (.ref C) "__setattr__" =some (some (.builtin "object.__setattr__"))) (hp:W.plainOver K C=true) (ht:W.takerIn K C name=some none) (hh:W.hasDictIn K C=true) (hw:PySem.Within mA ns) (hsz:ns.length<=sizeLine) (h: ∀h',AG h' x dx C (λy=>if y=name then some v else mA y) ->Heap.SameBut dx s.heap h' ->Q () {s with heap:=h',toks:=s.toks+2}): wpAny (model prog w) A (setAttr (.ref x) name v) Q E s:=by let⟨od,J,hl⟩:=I.look;exact W.set_plain X J hs (W.osa_open (s:= {s with toks:=s.toks+1}) (r:=none) X J hp ht λb=> ?_);let⟨cd,hc,Sr⟩:=W.any_some hh;have hx:s.heap.get? x=some #[.ref C,some dx, .plain, #[]]:=I.obj;exact aw (aX (aw (aw (wpAny_loadPart hx (aw (W.Looks.here (s:= {s with toks:=s.toks+1}) (W.looks_clsIn X hc) ?_))))));rw[Sr];exact aX (a:=some dx) (aw (aX (aw ?_)));exact wpAny_nsSet1 (s:= {s with toks:=s.toks+1}) I.ns λh' DG Ca=> ?_;let⟨oD,esD,epD,hoD,hdD,hcD⟩:=DG.count (PySem.Within.cons name v hw);exact aw (wpAny_lookBehind hoD (by rw[hdD];show pastItsLine_dict (av hcD (by rw[aL];lia))) ?_);show aX (h _ #[(Ca.2 _ (de I.ne)).trans I.obj,DG,I.ne] Ca)
def Gd {R:Result ->df ->Prop}{vs:cV cW}{kw:cV (Str×cW)}(X:K.In s.heap)(hm:W.makesIn K C=true) (hi:W.findIn K (.ref C) "__init__" =some (some (.ref f))) (hf:W.typeIn K (.ref f)=some (.type "function")) (h:codeAny (model prog w) (A.under (.builtin "type.__call__" #[.ref C::vs,kw])) (.call (.ref f) #[.ref (s.heap.objs.size+1)::vs,kw]) (W.InitBack (s.heap.objs.size+1) R) {s with heap:=(s.heap.push W.emptyDict).push (W.instObj C s.heap.objs.size)}): codeAny (model prog w) A (.call (.ref C) #[vs,kw]) R s:=by let⟨hh,g,d,t,os⟩:=s;show W.make_core (W.makes_of X hm) (W.looks_findIn X hi) (λself=>W.bind_fn X self hf) (.inl rfl) h
end
def iW (f:Str)(v:V):cV (Str×V) ->cV (Str×V)
 | []=> [(f,v)]
 | (g,x)::r=>if g=f then(g,v)::r else(g,x)::iW f v r
theorem pG (f g:Str)(v:V): ∀fs:cV (Str×V),(iW f v fs).lookup g=if g=f then some v else fs.lookup g
 | []=>by change List.lookup g [(f,v)]=_;by_cases h:g=f;have hb:(g==f)=true:=beq_iff_eq.mpr h;simp![List.lookup,hb,am h];have hb:(g==f)=false:=beq_eq_false_iff_ne.mpr h;simp![List.lookup,hb,ak h]
 | (k, x)::r=>by have ih:=pG f g v r;rw[show iW f v ((k,x)::r)=(if k=f then(k,v)::r else(k,x)::iW f v r) from rfl];by_cases hk:k=f;rw[am hk];by_cases h:g=k;have hb:(g==k)=true:=beq_iff_eq.mpr h;simp![List.lookup,hb,am (h.trans hk)];have hb:(g==k)=false:=beq_eq_false_iff_ne.mpr h;simp![List.lookup,hb,ak (λe:g=f=>h (e.trans hk.symm))];rw[ak hk];by_cases h:g=k;have hb:(g==k)=true:=beq_iff_eq.mpr h;simp![List.lookup,hb,ak (λe:g=f=>hk (h.symm.trans e))];have hb:(g==k)=false:=beq_eq_false_iff_ne.mpr h;simp![List.lookup,hb];show ih
theorem oN (f:Str)(v:V): ∀fs:cV (Str×V),f∈(iW f v fs).map (·.1) /\ ∀g,g∈fs.map (·.1) ->g∈(iW f v fs).map (·.1)
 | []=>#[by simp[iW],λg h=>by simp at h]
 | (k, x)::r=>by let⟨i1,i2⟩:=oN f v r;rw[show iW f v ((k,x)::r)=(if k=f then(k,v)::r else(k,x)::iW f v r) from rfl];by_cases hk:k=f;rw[am hk];subst hk;show#[by simp,λg h=> ⇑h];rw[ak hk];exact#[?_,λg h=> ?_];rw[aN];show c5 _ i1;rw[aN] at h ⊢;obtain e | e:=aS.mp h;show aS.mpr (.inl e);show c5 _ (i2 g e)
theorem pI (f:Str)(v:V): ∀fs:cV (Str×V),(iW f v fs).length<=fs.length+1
 | []=>by simp[iW]
 | (k,x)::r=>by have ih:=pI f v r;rw[show iW f v ((k,x)::r)=(if k=f then(k,v)::r else(k,x)::iW f v r) from rfl];by_cases hk:k=f;rw[am hk,aL,aL];lia;rw[ak hk,aL,aL];lia
def ju.some_of {v:V}{o:fP cW}(r:ju (some v) o): ∃u,o=some u /\ RelV v u:=by
 cases o with
 | none=>show(show False from r).elim
 | some u=>show#[u,rfl,r]
def ju.none_of {o:fP cW}(r:ju none o):o=none:=by
 cases o with
 | none=>rfl
 | some u=>show(show False from r).elim
def DL {v:V}{u:cW}(r:RelV v u):W.handedIn u=true:=by
 cases v with
 | dO=>cases (show u=Value.none from r);rfl
 | bl b=>cases (show u=Value.bool b from r);rfl
 | int i=>let⟨t,e⟩:=(show ∃t,u=Value.int i t from r);cases e;rfl
 | str x=>let⟨t,e⟩:=(show ∃t,u=Value.str x t from r);cases e;rfl
 | D_ b=>let⟨t,e⟩:=(show ∃t,u=Value.bytes b t from r);cases e;rfl
 | Kg b=>let⟨t,e⟩:=(show ∃t,u=Value.float b t from r);cases e;rfl
 | ref a=>cases (show u=Value.ref a from r);rfl
 | ty n=>cases (show u=Value.type n from r);rfl
section
variable {P:RV}{w:W4}{H H':Hp}{h h':X4}{a C dx:gL}{fs fs':cV (Str×V)}
def rb (cS:lA P w H h)(e:H a=some (.ins C dx fs)): ∃mA,fS (AG h a dx C mA) (∀f,ju (fs.lookup f) (mA f)) (PySem.Within mA (fs.map (·.1))) (fs.length<=1000) (H dx=some (.own a)):=by
 let⟨d,z,ne,ob,mA,n,r,q⟩:=(show dG P w H h a (.ins C dx fs) from cS a _ e)
 show#[mA,#[ob,n,ne],r,q,z,d]
end
structure zk (K:PySem.W.Frag)(C:Addr):Prop where
 pg:PySem.W.plainGet K C Str.empty=true
 hd:PySem.W.hasDictIn K C=true
 po:PySem.W.plainOver K C=true
 sa:PySem.W.findIn K (.ref C) "__setattr__" =some (some (.builtin "object.__setattr__"))
theorem zk.get {K:RS}{C:gL}(c:zk K C)(f:Str):W.plainGet K C f=true:=c.pg
def eh (K:RS)(C:gL)(f:Str):Prop:=W.findIn K (.ref C) f=some none
def eh.Qv {K:RS}{C:gL}{f:Str}(n:eh K C f):W.takerIn K C f=some none:=by unfold W.takerIn;rw[show W.findIn K (.ref C) f=some none from n];rfl
structure HG (K:PySem.W.Frag)(C:Addr)(m:Str)(f:Addr):Prop where
 at_:PySem.W.findIn K (.ref C) m=some (some (.ref f))
 fn:PySem.W.isFn K (.ref f)=true
 kp:PySem.W.keepIn K (.ref f)=true
section
variable {X:Cx}{af:cV (gL×Obj)}{σ:St}{H:Hp}{s:df}{a C dx:gL}{fs:cV (Str×V)}{f:Str}{v:V}{A:X7}{E:cW ->df ->Prop}
def Ao {b:Bool}{Q:cW ->df ->Prop}(I:Inv X af σ H s)(e:H a=some (.ins C dx fs))(c:zk X.K C)(n:eh X.K C f)(l:fs.lookup f=some v) (h: ∀u s',Inv X af σ H s' ->RelV v u ->Q u s'):wpAny (model X.prog X.w) A (getAttr (.ref a) f b) Q E s:=by let⟨mA,O,r,_,_,_⟩:=rb I.cS e;let⟨u,hu,ru⟩:=ju.some_of (v:=v) (o:=mA f) (by rw[<- l];show r f);show Kb I.lO O (c.get f) c.hd n hu (DL ru) (h u _ (I.tok _) ru)
def jo {m:Str}{g:gL}{pl:Sem Bool}{Q:cW×cV cW ->df ->Prop}(I:Inv X af σ H s)(e:H a=some (.ins C dx fs))(c:zk X.K C)(k:HG X.K C m g)(l:fs.lookup m=none) (h:Q (.ref g,[.ref a]) s):wpAny (model X.prog X.w) A (getMethod (.ref a) m pl) Q E s:=by let⟨mA,O,r,_,_,_⟩:=rb I.cS e;have hn:mA m=none:=ju.none_of (by rw[<- l];show r m);show GU I.lO O (c.get m) k.at_ k.fn hn h
def zK {y:V}{u:cW}{Q:Unit ->df ->Prop}(I:Inv X af σ H s)(e:H a=some (.ins C dx fs))(c:zk X.K C)(n:eh X.K C f)(hl:fs.length<1000)(ry:RelV y u) (h: ∀s',Inv X af σ (cF H a (.ins C dx (iW f y fs))) s' ->Q () s'):wpAny (model X.prog X.w) A (setAttr (.ref a) f u) Q E s:=by
 let⟨mA,O,r,wi,_,ho⟩:=rb I.cS e;have hz:(fs.map (·.1)).length<=sizeLine:=by rw[ai,sizeLine_eq];lia
 exact I_ I.lO O c.sa c.po n.Qv c.hd wi hz λh' O' sb=>h _ ?_;have hd: ∃o,h'.get? dx=some o:=let ⟨o,_,_,e',_⟩:=O'.ns;#[o,e']
 exact I.write (x:=a) (e:=dx) (by rw[e];show True.intro) (.inr ho) (λb q hb z=>(sb.2 b hb).trans z) hd ?_;exact#[by rw[bK O.ne];show ho,?_,O.ne,O'.obj,_,O'.ns,λg=> ?_,λg hg=> ?_];have:=pI f y fs;lia;change ju ((iW f y fs).lookup g) (if g=f then some u else mA g);rw[pG];by_cases q:g=f;rw[am q,am q];show ry;rw[ak q,ak q];show r g;by_cases q:g=f;rw[q];show(oN f y fs).1;exact(oN f y fs).2 g (wi g λz=>hg ?_);change(if g=f then some u else mA g)=none;rw[ak q];show z
def Inv.made (I:Inv X af σ H s):Inv X af σ (cF (cF H s.heap.objs.size (.own (s.heap.objs.size+1))) (s.heap.objs.size+1) (.ins C s.heap.objs.size [])) {s with heap:=(s.heap.push W.emptyDict).push (W.instObj C s.heap.objs.size)}:=by
 have e1:(s.heap.push W.emptyDict).get? s.heap.objs.size=some W.emptyDict:=aT s.heap rfl;have e2:((s.heap.push W.emptyDict).push (W.instObj C s.heap.objs.size)).get? (s.heap.objs.size+1)=some (W.instObj C s.heap.objs.size):=by have:=aT (s.heap.push W.emptyDict) (o:=W.instObj C s.heap.objs.size) rfl;rwa [Heap.size_push] at this
 have e3:(s.heap.push W.emptyDict).Ns s.heap.objs.size (λ_=>none):=#[W.emptyDict, #[],_,e1,rfl,(λe he=>absurd he (by simp)),λ_=>rfl]
 have I1:=I.laid (a:=s.heap.objs.size) (o:= .own (s.heap.objs.size+1)) (h':=s.heap.push W.emptyDict) (t':=s.toks) (λb u q=>ar _ q) (ao _) #[_,e1];exact I1.laid (a:=s.heap.objs.size+1) (o:= .ins C s.heap.objs.size []) (t':=s.toks) (λb u q=>ar _ q) (Nat.le_of_eq (Heap.size_push _ _)) ?_;have ne:s.heap.objs.size≠s.heap.objs.size+1:=bu (Nat.lt_succ_self _);exact#[by rw[bK ne,bP],cZ _,ne,e2,λ_=>none,(Heap.Ns1.of_empty e3).at λo q=>ar _ q,λ_=>True.intro,λy hy=>absurd rfl hy]
theorem Kx {prog:RV}{w:W4}{env:Env}{e:Expr}{f:Str}{pos:Pos}{s:df}{Q:cW ->df ->Prop}(hb:attributeBase e f env (eval e env)=eval e env) (h:wpAny (model prog w) A (eval e env) (λo s₁=>wpAny (model prog w) A (getAttr o f true) Q E s₁) E s):wpAny (model prog w) A (eval (.Attribute e f pos) env) Q E s:=Attribute_any_ h (by rw[arm_eval_Attribute,hb])
end
def MU (K:RS)(ta:TE)(f:Str):TE:=λσ H Q=>ta σ H λx H1=>vx λa C dx fs v=>jX (x= .ref a) (H1 a=some (.ins C dx fs)) (zk K C) (eh K C f) (fs.lookup f=some v) (Q v H1)
def QV (K:RS)(ta tv:TE)(f:Str):TS:=λD σ H=>tv σ H λy H1=>ta σ H1 λx H2=>gb λa C dx fs=>jX (x= .ref a) (H2 a=some (.ins C dx fs)) (zk K C) (eh K C f) (fs.length<1000) (D.nx σ (cF H2 a (.ins C dx (iW f y fs))))
section
variable {X:Cx}{o e value:Expr}{f:Str}{pos ko Qs:Pos}{ta tv:TE}
def Nn (he:PE X e ta)(hb:attributeBase e f X.env (eval e X.env)=eval e X.env):PE X (.Attribute e f pos) (MU X.K ta f):=by intro af s σ H Q I h;exact Kx hb (cN (he af s σ H _ I h) λu s1 ⟨x,H1,I1,rx,a,C,dx,fs,v,ex,ea,c,n,l,q⟩=> ?_);subst ex;obtain rfl:u=Value.ref a:=rx;show Ao I1 ea c n l λu' s2 I2 ru=>#[v,H1,I2,ru,q]
def jl (ha:PE X o ta)(hv:PE X value tv)(hs:swapsWith value (some (.Attribute o f ko)) pos.line X.env=pure false):PS X (.Assign [.Attribute o f ko] value pos) (QV X.K ta tv f):=by intro af s σ H D I h;exact plainObj_wpAny_Assign_Attribute (cN (hv af s σ H _ I h) λu s1 ⟨y,H1,I1,ry,q⟩=>cN (ha af s1 σ H1 _ I1 q) λov s2 ⟨x,H2,I2,rx,a,C,dx,fs,ex,ea,c,n,l,q2⟩=> ?_) hs;subst ex;obtain rfl:ov=Value.ref a:=rx;show zK I2 ea c n l ry λs3 I3=>#[σ,_,I3,q2]
theorem LN {pl:Sem Bool}{m:Str}{dz:Pos}{args:cV Expr}{af:cV (gL×Obj)}{s:df}{σ:St}{H:Hp}{Q:cW ->df ->Prop}{te:TE}(he:PE X e te)(I:Inv X af σ H s) (h:te σ H λx H1=>vx λa C dx fs g=>jX (x= .ref a) (H1 a=some (.ins C dx fs)) (zk X.K C) (HG X.K C m g) (fs.lookup m=none) (∀s1,Inv X af σ H1 s1 ->wpAny (model X.prog X.w) X.A (callWith pos (.ref g) [.ref a] (backTo pos (starEach args X.env)) (backToKw pos (keywordEach [] X.env))) Q X.xe s1)) (ht:eval (.Call (.Attribute e m dz) args [] pos) X.env=(do
   let ov <- eval e X.env
   standAt dz.atName
   let (f,first) <- holding [ov] (getMethod ov m pl)
   callWith pos f first (backTo pos (starEach args X.env)) (backToKw pos (keywordEach [] X.env)))):
  wpAny (model X.prog X.w) X.A (eval (.Call (.Attribute e m dz) args [] pos) X.env) Q X.xe s:=by
 exact W.methodCall_KW (pl:=pl) (cN (he af s σ H _ I h) λu s1 ⟨x,H1,I1,rx,a,C,dx,fs,g,ex,ea,c,k,l,q⟩=> ?_) ht
 subst ex
 obtain rfl:u=Value.ref a:=rx
 show jo I1 ea c k l (q s1 I1)
end
section
variable {X:Cx}{af:cV (gL×Obj)}{σ:St}{H:Hp}{s:df}{A:X7}{E:cW ->df ->Prop}{Q:cW ->df ->Prop}{c:cW}{b:Bool}
inductive pd (K:PySem.W.Frag)(H:Hp):V ->Value ->Prop where
 | dO:pd K H .dO (.type "NoneType")
 | bl (x:Bool):pd K H (.bl x) (.type "bool")
 | int (i:Int):pd K H (.int i) (.type "int")
 | str (x:Str):pd K H (.str x) (.type "str")
 | Kg (x:UInt64):pd K H (.Kg x) (.type "float")
 | lst {a:Addr} {xs:List V} (e:H a=some (.lst xs)):pd K H (.ref a) (.type "list")
 | jV {a:Addr} {o:Obj} {xs:List V} (e:H a=some (.jV o (.lst xs))):pd K H (.ref a) (.type "list")
 | tup {a:Addr} {xs:List V} (e:H a=some (.tup xs)):pd K H (.ref a) (.type "tuple")
 | dK {a:Addr} {kvs:List (cg×V)} (e:H a=some (.dK kvs)):pd K H (.ref a) (.type "dict")
 | dT {a:Addr} {kvs:List (List cg×V)} (e:H a=some (.dT kvs)):pd K H (.ref a) (.type "dict")
 | ins {a C dx:Addr} {fs:List (Str×V)} (e:H a=some (.ins C dx fs)) (cl:zk K C) (ha:PySem.W.findIn K (.ref C) "__class__" =some (some (.builtin "object.__class__"))) (hn:PySem.W.specialIn K (.builtin "object.__class__") "__get__" =some (some (.builtin "getset_descriptor.__get__"))) (htk:PySem.W.takesIn K (.builtin "object.__class__")=some true) (hm:PySem.W.mroIn K C (.type "object")=some true):pd K H (.ref a) (.ref C)
def DB {x:V}{u t:cW}(I:Inv X af σ H s)(rx:RelV x u)(ty:pd X.K H x t)(e:W.kitOne X.K t c=some b)(h: ∀tk,Q (.bool b) {s with toks:=tk}): wpAny (model X.prog X.w) A (call (.builtin "isinstance") [u,c]) Q E s:=by
 cases ty with
 | dO=>cases (show u=Value.none from rx);show ci W.kitx_none I.lO True.intro e (λz=>nomatch z) h
 | bl y=>cases (show u=Value.bool y from rx);show ci W.kitx_bool I.lO True.intro e (λz=>nomatch z) h
 | int i=>let⟨t,q⟩:=(show ∃t,u=Value.int i t from rx);cases q;show ci W.kitx_int I.lO True.intro e (λz=>nomatch z) h
 | str y=>let⟨t,q⟩:=(show ∃t,u=Value.str y t from rx);cases q;show ci W.kitx_str I.lO True.intro e (λz=>nomatch z) h
 | Kg y=>let⟨t,q⟩:=(show ∃t,u=Value.float y t from rx);cases q;show ci W.kitx_float I.lO True.intro e (λz=>nomatch z) h
 | @lst a xs ea=>
  cases (show u=Value.ref a from rx);let⟨_,_,n,_,h1⟩:=(show dG X.prog X.w H s.heap a (.lst xs) from I.cS a _ ea)
  show ci W.kitx_list I.lO #[_,h1,rfl] e (λz=>nomatch z) h
 | @jV a ob xs ea=>
  cases (show u=Value.ref a from rx);let⟨_,_,_,n,_,h1⟩:=(show dG X.prog X.w H s.heap a (.jV ob (.lst xs)) from I.cS a _ ea)
  show ci W.kitx_list I.lO #[_,h1,rfl] e (λz=>nomatch z) h
 | @tup a xs ea=>
  cases (show u=Value.ref a from rx);let⟨_,_,_,p⟩:=(show dG X.prog X.w H s.heap a (.tup xs) from I.cS a _ ea)
  let⟨o,h1,h2,_⟩:=p;show ci W.kitx_tuple I.lO #[o,h1,h2] e (λz=>nomatch z) h
 | @dK a kvs ea=>
  cases (show u=Value.ref a from rx);let⟨_,_,vs,_,p⟩:=(show dG X.prog X.w H s.heap a (.dK kvs) from I.cS a _ ea)
  let⟨o,es,ep,h1,h2,_⟩:=p;show ci W.kitx_dict I.lO #[o,h1,h2.1] e (λz=>nomatch z) h
 | @dT a kvs ea=>
  cases (show u=Value.ref a from rx);let⟨_,_,xs,_,o,es,ep,h1,h2,_⟩:=(show dG X.prog X.w H s.heap a (.dT kvs) from I.cS a _ ea)
  show ci W.kitx_dict I.lO #[o,h1,h2.1] e (λz=>nomatch z) h
 | @ins a C dx fs ea cl ha hn htk hm=>cases (show u=Value.ref a from rx);let⟨mA,O,_⟩:=rb I.cS ea;let⟨od,J,_⟩:=O.look;show ci (W.kitx_own (cl.get _) cl.hd ha hn htk hm) I.lO J e (λz=>nomatch z) h
end
structure dX (k:Nat)(A:Around):Prop where
 hd:A.handled=none
 dp:A.depth+3*k+5<recursionLimit
 un:A.units+16*k+200<cLine
theorem dX.mono {j k:Nat}{A:X7}(r:dX k A)(h:j<=k):dX j A:=#[r.hd,by have:=r.dp;lia,by have:=r.un;lia]
theorem dX.deeper {k:Nat}{A:X7}(r:dX (k+1) A)(env:Env):dX k (A.deeper env):=#[r.hd,by have:=r.dp;change A.depth+1+3*k+5<_;lia,by have:=r.un;change A.units+3+16*k+200<_;lia]
def Ac {A:X7}{C:gL}{us:cV cW}{kw:cV (Str×cW)}:(A.under (.builtin "type.__call__" #[.ref C::us,kw])).depth=A.depth+1:=by first | rfl | simp[Around.under,Code.weight,Code.isCreation,Code.isGuard,Code.isCaller,Code.frames,Code.isFrame,guardIds]
def Ab {A:X7}{C:gL}{us:cV cW}{kw:cV (Str×cW)}:(A.under (.builtin "type.__call__" #[.ref C::us,kw])).units=A.units+1:=by first | rfl | simp[Around.under,Code.cUnits,Code.frames,Code.isFrame]
theorem dX.make {k:Nat}{A:X7}(r:dX (k+1) A)(C:gL)(us:cV cW)(kw:cV (Str×cW)):dX k (A.under (.builtin "type.__call__" #[.ref C::us,kw])):=#[r.hd,by have:=r.dp;rw[Ac];lia,by have:=r.un;rw[Ab];lia]
def dX.depth {k:Nat}{A:X7}(r:dX k A):A.depth<recursionLimit:=by have:=r.dp;lia
def dX.units {k:Nat}{A:X7}(r:dX k A):A.units+64<cLine:=by have:=r.un;lia
def CU:TA:=λ_ H Q=>Q [] H
def Fa (ta:TE)(tr:TA):TA:=λσ H Q=>ta σ H λx H1=>tr σ H1 λxs H2=>Q (x::xs) H2
section
variable {X:Cx}{e:Expr}{es:cV Expr}{te:TE}{t:TA}{pos:Pos}
theorem ae:PA X [] CU:=λ_ _ _ _ H Q I h=>Calls.spliced_nil #[[],H,I, .nil,h]
def aa (ha:PE X e te)(hr:PA X es t)(hs:starEach (e::es) X.env=(false,eval e X.env)::starEach es X.env:=by rfl):PA X (e::es) (Fa te t):=by intro pos af s σ H Q I h;rw[hs];change wpAny _ _ (spliced ((false,eval e X.env)::backTo pos (starEach es X.env))) _ _ s;exact Calls.spliced_cons (cN (ha af s σ H _ I h) λu s1 ⟨x,H1,I1,r1,q1⟩=> ?_);show cN (hr pos af s1 σ H1 _ I1 q1) λus s2 ⟨xs,H2,I2,r2,q2⟩=>#[x::xs,H2,I2, .cons r1 r2,q2]
def Qx (t:TA):TE:=λσ H Q=>t σ H λxs H1=>xs.length<=sizeLine /\ ∀p,H1 p=none ->Q (.ref p) (cF H1 p (.tup xs))
def QD (t:TA):TE:=λσ H Q=>t σ H λxs H1=>xs.length<=sizeLine /\ ∀p,H1 p=none ->Q (.ref p) (cF H1 p (.lst xs))
def aM {x1}(h:PA X es t):PE X (.Tuple es x1 pos) (Qx t):=by intro af s σ H Q I hq;exact wpAny_Tuple_spliced (cN (h pos af s σ H _ I hq) λus s1 ⟨xs,H1,I1,r,z,q⟩=>#[by rw[<- r.length];show z,?_]);have hf:H1 s1.heap.objs.size=none:=I1.cS.fresh (ao _);exact#[.ref s1.heap.objs.size,cF H1 s1.heap.objs.size (.tup xs),I1.laid (t':=s1.toks) (λb u e=>ar _ e) (ao _) ?_,rfl,q _ hf];show#[z,us,r,#[_,aT _ rfl,rfl,_,rfl,rfl]]
def gK (h:PA X es t):PE X (.List es pos) (QD t):=by intro af s σ H Q I hq;exact wpAny_List_spliced (cN (h pos af s σ H _ I hq) λus s1 ⟨xs,H1,I1,r,z,q⟩=>#[by rw[<- r.length];show z,?_]);have hf:H1 s1.heap.objs.size=none:=I1.cS.fresh (ao _);exact#[.ref s1.heap.objs.size,cF H1 s1.heap.objs.size (.lst xs),I1.laid (t':=s1.toks) (λb u e=>ar _ e) (ao _) ?_,rfl,q _ hf];show#[z,us,0,r,aT _ rfl]
end
abbrev Sp:=cV V ->Hp ->VK ->XK ->Prop
abbrev zl:=cV Env ->Hp ->df ->XK ->cW ->df ->Prop
structure AQ (P:Program)(w:World)(K:PySem.W.Frag)(mg:Str ->Option Value)(base:Heap)(A:Around)(outer:List Env)(s:Shared)(H:Hp):Prop where
 frames:A.frames=some outer
 mod:Mod K mg base
 bs: ∀b o,base.get? b=some o ->s.heap.get? b=some o /\ H b=none
 Hr:base.objs.size<=s.heap.objs.size
 ml:s.heap.FunFrames base outer
 Iu: ∀b∈jW outer,H b=none
 cS:lA P w H s.heap
 bare:AllBare s.gens
def CE (outer:cV Env)(P:RV)(w:W4)(H:Hp)(s:df)(Q:VK)(u:cW)(s':df):Prop:=cx λv H'=>jX (s'.os=s.os) (AllBare s'.gens) (Un (jW outer) [] H H' s.heap s'.heap) (lA P w H' s'.heap) (RelV v u) (Q v H')
def CR (CX:zl)(outer:cV Env)(P:RV)(w:W4)(H:Hp)(s:df)(Q:VK)(E:XK)(r:Result)(s':df):Prop:=
 match r with
 | .ok (.ret u)=>CE outer P w H s Q u s'
 | .ok _=>False
 | .error e=>CX outer H s E e s'
structure bA (P:Program)(w:World)(K:PySem.W.Frag)(mg:Str ->Option Value)(base:Heap)(CX:zl)(k:Nat)(f:Addr)(fd:FuncData)(ps:List Str)(sp:Sp):Prop where
 len: ∀vs H Q E,sp vs H Q E ->vs.length=ps.length
 run: ∀ (A:Around) (outer:List Env) (s:Shared) (H:Hp) (args:Args) (us:List Value) (vs:List V) (Q:VK) (E:XK),dX k A ->AQ P w K mg base A outer s H ->BindsTo s fd args (ps.zip us) ->b_ vs us ->sp vs H Q E ->codeAny (model P w) A (.call (.ref f) args) (CR CX outer P w H s Q E) s
theorem bA.mono {P:RV}{w:W4}{K:RS}{mg:Str ->fP cW}{base:X4}{CX:zl}{j k:Nat}{f:gL}{fd:X6}{ps:cV Str}{sp:Sp}(F:bA P w K mg base CX j f fd ps sp)(h:j<=k): bA P w K mg base CX k f fd ps sp:=#[F.len,λA outer s H args us vs Q E hr=>F.run A outer s H args us vs Q E (hr.mono h)]
theorem bA.imp {P:RV}{w:W4}{K:RS}{mg:Str ->fP cW}{base:X4}{CX:zl}{k:Nat}{f:gL}{fd:X6}{ps:cV Str}{sp QR:Sp}(F:bA P w K mg base CX k f fd ps sp) (h: ∀vs H Q E,QR vs H Q E ->sp vs H Q E):bA P w K mg base CX k f fd ps QR:=#[λvs H Q E q=>F.len vs H Q E (h _ _ _ _ q),λA outer s H args us vs Q E hr he hb hv hs=>F.run A outer s H args us vs Q E hr he hb hv (h _ _ _ _ hs)]
theorem AQ.make {P:RV}{w:W4}{K:RS}{mg:Str ->fP cW}{base:X4}{A:X7}{outer:cV Env}{s:df}{H:Hp}(e:AQ P w K mg base A outer s H)(C:gL)(us:cV cW)(kw:cV (Str×cW)): AQ P w K mg base (A.under (.builtin "type.__call__" #[.ref C::us,kw])) outer s H:=#[by first | show e.frames | (simpa [Around.under,Code.envs,Code.isFrame,pushEnvs] using e.frames),e.mod,e.bs,e.Hr,e.ml,e.Iu,e.cS,e.bare]
section
variable {X:Cx}{af:cV (gL×Obj)}{σ:St}{H:Hp}{s s':df}
theorem Inv.Kk (I:Inv X af σ H s):AQ X.prog X.w X.K X.mg X.base X.A X.stack s H:=#[I.ok.frames,I.ok.mod,I.bs,av I.ok.Hr I.sz,I.stack,I.qV,I.cS,I.bare]
def Inv.after {Q:VK}{u:cW}(I:Inv X af σ H s)(h:CE X.stack X.prog X.w H s Q u s'):EP X af σ Q u s':=by let⟨v,H',os,bare,un,cS,r,q⟩:=h;let⟨hh,g,d,t,os'⟩:=s';obtain rfl:os'=s.os:=os;show#[v,H',I.call (h':=hh) (g':=g) (d':=d) (t':=t) (ch:= []) un cS bare (λb z=>absurd z (by simp)),r,q]
end
def uF (sp:Sp)(uo:cV V)(E:XK)(t:TA):TE:=λσ H Q=>t σ H λvs H1=>sp (vs++uo) H1 Q E
def pq (C:gL)(m:Str)(sp:Sp)(uo:cV V)(E:XK)(ta:TE)(t:TA):TE:=λσ H Q=>ta σ H λx H1=>dQ λa dx fs=>eT (x= .ref a) (H1 a=some (.ins C dx fs)) (fs.lookup m=none) (t σ H1 λvs H2=>sp (x::(vs++uo)) H2 Q E)
def E5 (C:gL)(sp:Sp)(uo:cV V)(E:XK)(t:TA):TE:=λσ H Q=>t σ H λvs H1=> ∀x dx,H1 x=none ->H1 dx=none ->dx≠x ->sp (.ref x::(vs++uo)) (cF (cF H1 dx (.own x)) x (.ins C dx [])) (λv H2=>v= .dO /\ Q (.ref x) H2) E
def Binds (K:RS)(fd:X6)(ps:cV Str)(ds:cV cW):Prop:=∀ (s:df) (us:cV cW),K.In s.heap ->(us++ds).length=ps.length ->BindsTo s fd #[us,[]] (ps.zip (us++ds))
theorem Binds.all {K:RS}{fd:X6}{ps:cV Str}(h: ∀us:cV cW,us.length=ps.length ->bindArgs fd #[us,[]]=pure (ps.zip us)):Binds K fd ps []:=λs us _ hl=>by rw[dn] at hl ⊢;show .of_eq (h us hl)
def gi (CX:zl)(X:Cx)(E:XK):Prop:= ∀ (af:cV (gL×Obj)) (σ:St) (H:Hp) (s:df) (e:cW) (s':df),Inv X af σ H s ->CX X.stack H s E e s' ->X.xe e s'
section
variable {X:Cx}{CX:zl}{k:Nat}{f C:gL}{fd:X6}{ps:cV Str}{sp:Sp}{uo:cV V}{ds:cV cW}{E:XK}{x m:Str}{p pos dz:Pos}{e o:Expr}{es:cV Expr}{ta:TE}{t:TA}
def zP {af:cV (gL×Obj)}{σ:St}{H:Hp}{s:df}{Q:VK}{us:cV cW}{vs:cV V}(F:bA X.prog X.w X.K X.mg X.base CX k f fd ps sp)(hr:dX k X.A)(hb:Binds X.K fd ps ds)(hd:b_ uo ds)(hx:gi CX X E) (I:Inv X af σ H s) (r:b_ vs us) (h:sp (vs++uo) H Q E):wpAny (model X.prog X.w) X.A (call (.ref f) us) (EP X af σ Q) X.xe s:=by
 have r2:b_ (vs++uo) (us++ds):=r.append hd;have hl:(us++ds).length=ps.length:=by rw[<- r2.length];show F.len _ _ _ _ h
 exact wpAny_call (codeAny_mono (F.run X.A X.stack s H #[us,[]] (us++ds) (vs++uo) Q E hr I.Kk (hb s us I.lO hl) r2 h) λr s' hq=> ?_);cases r with
 | error e=>show hx af σ H s e s' I hq
 | ok fl=>
  cases fl with
  | ret u=>show I.after hq
  | next=>show False.elim hq
  | brk=>show False.elim hq
  | cont=>show False.elim hq
def BC (F:bA X.prog X.w X.K X.mg X.base CX k f fd ps sp)(hr:dX k X.A)(hg:Gl X x)(hm:X.mg x=some (.ref f))(hk:W.keepIn X.K (.ref f)=true)(hb:Binds X.K fd ps ds)(hd:b_ uo ds)(hx:gi CX X E) (ha:PA X (e::es) t) (uW:(x==("__debug__" :Str))=false:=by decide) (he:starEach (e::es) X.env=(false,eval e X.env)::starEach es X.env:=by rfl) (n_:(backTo pos (starEach es X.env)).any (·.1)=false:=by rfl): PE X (.Call (.Name x p) (e::es) [] pos) (uF sp uo E t):=by intro af s σ H Q I h;exact wpAny_Call_Name_kw (nh I hg hm ?_ uW);exact W.callWith_K (h₀:=X.base) I.ok.mod.LY hk (cN (ha pos af s σ H _ I h) λus s1 ⟨vs,H1,I1,r,q⟩=>#[I1.lO,?_]) he n_;show zP F hr hb hd hx I1 r q
theorem BB {pl:Sem Bool}(he:PE X o ta)(c:zk X.K C)(hm:HG X.K C m f)(F:bA X.prog X.w X.K X.mg X.base CX k f fd ps sp)(hr:dX k X.A)(hb:Binds X.K fd ps ds)(hd:b_ uo ds)(hx:gi CX X E)(ha:PA X (e::es) t) (sN:starEach (e::es) X.env=(false,eval e X.env)::starEach es X.env:=by rfl) (n_:(backTo pos (starEach es X.env)).any (·.1)=false:=by rfl) (ht:eval (.Call (.Attribute o m dz) (e::es) [] pos) X.env=(do
   let ov <- eval o X.env
   standAt dz.atName
   let (f,first) <- holding [ov] (getMethod ov m pl)
   callWith pos f first (backTo pos (starEach (e::es) X.env)) (backToKw pos (keywordEach [] X.env))):=by rfl):
  PE X (.Call (.Attribute o m dz) (e::es) [] pos) (pq C m sp uo E ta t):=by
 intro af s σ H Q I h
 exact W.methodCall_KW (pl:=pl) (cN (he af s σ H _ I h) λu s1 ⟨x,H1,I1,rx,a,dx,fs,ex,ea,l,q⟩=> ?_) ht
 subst ex
 obtain rfl:u=Value.ref a:=rx
 exact jo I1 ea c hm l ?_
 exact W.callWith_K (first:= [.ref a]) (h₀:=X.base) I.ok.mod.LY hm.kp (cN (ha pos af s1 σ H1 _ I1 q) λus s2 ⟨vs,H2,I2,r,q2⟩=>#[I2.lO,?_]) sN n_
 show zP (us:= .ref a::us) (vs:= .ref a::vs) F hr hb hd hx I2 (.cons rfl r) q2
theorem xL {pl:Sem Bool}(he:PE X o ta)(c:zk X.K C)(hm:HG X.K C m f)(F:bA X.prog X.w X.K X.mg X.base CX k f fd ps sp)(hr:dX k X.A)(hb:Binds X.K fd ps ds)(hd:b_ uo ds)(hx:gi CX X E) (ht:eval (.Call (.Attribute o m dz) [] [] pos) X.env=(do
   let ov <- eval o X.env
   standAt dz.atName
   let (f,first) <- holding [ov] (getMethod ov m pl)
   callWith pos f first (backTo pos (starEach [] X.env)) (backToKw pos (keywordEach [] X.env))):=by rfl):
  PE X (.Call (.Attribute o m dz) [] [] pos) (pq C m sp uo E ta CU):=by
 intro af s σ H Q I h
 exact W.methodCall_KW (pl:=pl) (cN (he af s σ H _ I h) λu s1 ⟨x,H1,I1,rx,a,dx,fs,ex,ea,l,q⟩=> ?_) ht
 subst ex
 obtain rfl:u=Value.ref a:=rx
 exact jo I1 ea c hm l ?_
 show W.callWith_K0 (first:= [.ref a]) I1.lO hm.kp (zP (us:= [.ref a]) (vs:= [.ref a]) F hr hb hd hx I1 (.cons rfl .nil) q)
structure Mk (K:PySem.W.Frag)(C f:Addr):Prop where
 makes:PySem.W.makesIn K C=true
 init:PySem.W.findIn K (.ref C) "__init__" =some (some (.ref f))
 fn:PySem.W.isFn K (.ref f)=true
 kp:PySem.W.keepIn K (.ref C)=true
def Fo {af:cV (gL×Obj)}{σ:St}{H:Hp}{s:df}{Q:VK}{us:cV cW}{vs:cV V}(M:Mk X.K C f)(F:bA X.prog X.w X.K X.mg X.base CX k f fd ps sp)(hr:dX (k+1) X.A)(hb:Binds X.K fd ps ds)(hd:b_ uo ds) (hx:gi CX X E) (I:Inv X af σ H s) (r:b_ vs us) (h: ∀x dx,H x=none ->H dx=none ->dx≠x ->sp (.ref x::(vs++uo)) (cF (cF H dx (.own x)) x (.ins C dx [])) (λv H2=>v= .dO /\ Q (.ref x) H2) E): wpAny (model X.prog X.w) X.A (call (.ref C) us) (EP X af σ Q) X.xe s:=by
 have hq:=h (s.heap.objs.size+1) s.heap.objs.size (I.cS.fresh (Nat.le_succ _)) (I.cS.fresh (ao _)) (bu (Nat.lt_succ_self _));have I2:=Inv.made (C:=C) I;have r2:b_ (V.ref (s.heap.objs.size+1)::(vs++uo)) (Value.ref (s.heap.objs.size+1)::(us++ds)):= .cons rfl (r.append hd);have hl:(Value.ref (s.heap.objs.size+1)::us++ds).length=ps.length:=by have e:=r2.length;rw[F.len _ _ _ _ hq] at e;show e.symm
 exact wpAny_call (Gd (f:=f) I.lO M.makes M.init (beq_iff_eq.mp M.fn) (codeAny_mono (F.run _ X.stack _ _ #[Value.ref (s.heap.objs.size+1)::us,[]] (Value.ref (s.heap.objs.size+1)::(us++ds)) _ _ E (hr.make C us []) (I2.Kk.make C us []) (hb _ (Value.ref (s.heap.objs.size+1)::us) I2.lO hl) r2 hq) λr s' R_=> ?_));cases r with
 | error e=>show hx af σ _ _ e s' I2 R_
 | ok fl=>
  cases fl with
  | ret u=>let⟨v,H',I3,rv,ev,q3⟩:=I2.after R_;subst ev;show#[rv,#[V.ref (s.heap.objs.size+1),H',I3,rfl,q3]]
  | next=>show False.elim R_
  | brk=>show False.elim R_
  | cont=>show False.elim R_
def Jl (M:Mk X.K C f)(F:bA X.prog X.w X.K X.mg X.base CX k f fd ps sp)(hr:dX (k+1) X.A)(hg:Gl X x)(hm:X.mg x=some (.ref C))(hb:Binds X.K fd ps ds)(hd:b_ uo ds)(hx:gi CX X E) (ha:PA X (e::es) t) (uW:(x==("__debug__" :Str))=false:=by decide) (he:starEach (e::es) X.env=(false,eval e X.env)::starEach es X.env:=by rfl) (n_:(backTo pos (starEach es X.env)).any (·.1)=false:=by rfl): PE X (.Call (.Name x p) (e::es) [] pos) (E5 C sp uo E t):=by intro af s σ H Q I h;exact wpAny_Call_Name_kw (nh I hg hm ?_ uW);exact W.callWith_K (h₀:=X.base) I.ok.mod.LY M.kp (cN (ha pos af s σ H _ I h) λus s1 ⟨vs,H1,I1,r,q⟩=>#[I1.lO,?_]) he n_;show Fo M F hr hb hd hx I1 r q
end
structure cq (N P:List Str)(sc:Scope):Prop where
 kind:sc.kind= .function
 co:sc.isCoroutine=false
 gen:sc.isGenerator=false
 nd:N.Nodup
 pre:N.take P.length=P
 par: ∀x∈P,sc.names.lookup x=some .local \/ sc.names.lookup x=some .cell
 NL: ∀y∈sc.names,y.2≠ .free
theorem vp {kindOf:Str ->fP NameKind}{x:Str}: ∀ {binds:cV (Str×cW)} {m:Str ->fP cW},(∀v,(x,v)∉binds) ->bindL kindOf binds m x=m x
 | [],_,_=>rfl
 | (n,v)::r,m,h=>by
  unfold bindL;rw[vp λw hw=>h w (c5 _ hw)];split;have:x≠n:=by rintro rfl;show h v List.mem_cons_self
  simp[this];rfl
theorem vt {kindOf:Str ->fP NameKind}{x:Str}: ∀ {binds:cV (Str×cW)} {m:Str ->fP cW},(∀v,(x,v)∉binds) ->bindC kindOf binds m x=m x
 | [],_,_=>rfl
 | (n,v)::r,m,h=>by
  unfold bindC;rw[vt λw hw=>h w (c5 _ hw)];split;rfl;have:x≠n:=by rintro rfl;show h v List.mem_cons_self
  simp[this]
theorem vq {kindOf:Str ->fP NameKind}{x:Str}{v:cW}: ∀ {P:cV Str} {vs:cV cW} {i:Nat} {m:Str ->fP cW},P.Nodup ->P[i]? =some x ->vs[i]? =some v ->kindOf x=some .local ->bindL kindOf (P.zip vs) m x=some v
 | [],_,_,_,_,h,_,_=>by simp at h
 | _::_,[],_,_,_,_,h,_=>by simp at h
 | p::P,w::vs,0,m,nd,h1,h2,hk=>by simp at h1 h2;subst h1;subst h2;change bindL kindOf ((p,w)::P.zip vs) m p=_;unfold bindL;rw[vp λv hv=>(List.nodup_cons.mp nd).1 (List.of_mem_zip hv).1,am hk];simp
 | p::P,w::vs,i+1,m,nd,h1,h2,hk=>by change bindL kindOf ((p,w)::P.zip vs) m x=_;unfold bindL;show vq (i:=i) (List.nodup_cons.mp nd).2 ⇑h1 ⇑h2 hk
theorem vv {kindOf:Str ->fP NameKind}{x:Str}{v:cW}: ∀ {P:cV Str} {vs:cV cW} {i:Nat} {m:Str ->fP cW},P.Nodup ->P[i]? =some x ->vs[i]? =some v ->kindOf x≠some .local ->bindC kindOf (P.zip vs) m x=some v
 | [],_,_,_,_,h,_,_=>by simp at h
 | _::_,[],_,_,_,_,h,_=>by simp at h
 | p::P,w::vs,0,m,nd,h1,h2,hk=>by simp at h1 h2;subst h1;subst h2;change bindC kindOf ((p,w)::P.zip vs) m p=_;unfold bindC;rw[vt λv hv=>(List.nodup_cons.mp nd).1 (List.of_mem_zip hv).1,ak hk];simp
 | p::P,w::vs,i+1,m,nd,h1,h2,hk=>by change bindC kindOf ((p,w)::P.zip vs) m x=_;unfold bindC;show vv (i:=i) (List.nodup_cons.mp nd).2 ⇑h1 ⇑h2 hk
def start (N:cV Str)(vs:cV V):St:=vs.map some++List.replicate (N.length - vs.length) none
def d0 (CX:zl)(P:RV)(w:W4)(K:RS)(mg:Str ->fP cW)(base:X4)(N:cV Str)(qual:Str)(scope:Scope)(f:gL)(cd:cW)(A:X7)(outer:cV Env)(s:df)(H:Hp)(E:XK):Cx where
 prog:=P
 w:=w
 K:=K
 mg:=mg
 base:=base
 A:=A.deeper (envOfC qual scope s.heap.objs.size f cd)
 N:=N
 s₀:=s
 H₀:=H
 env:=envOfC qual scope s.heap.objs.size f cd
 outer:=outer
 stack:=envOfC qual scope s.heap.objs.size f cd::outer
 ex:= []
 calm:=true
 fn:=λ_=>true
 pn:= []
 xe:=λe s'=>wpAny (model P w) (A.deeper (envOfC qual scope s.heap.objs.size f cd)) (leaving (envOfC qual scope s.heap.objs.size f cd) e) (λ_ Wa=>CX outer H s E e Wa) (λe' Wa=>CX outer H s E e' Wa) s'
def yT {sc:Scope}{n:Nat}{x:Str}(h:sc.names.lookup x=some .cell): ∃c,(cellsFrom n sc.names []).lookup x=some c:=by have q:=W.cellsFrom_some sc.names n [] (.inl h);show Option.isSome_iff_exists.mp q
def DC {CX:zl}{P:RV}{w:W4}{K:RS}{mg:Str ->fP cW}{base:X4}{N ps:cV Str}{qual:Str}{scope:Scope}{f:gL}{cd:cW}{A:X7}{outer:cV Env}{s s1:df}{H:Hp}{E:XK}{us:cV cW}{vs:cV V} (S:cq N ps scope) (hd:A.handled=none) (e0:AQ P w K mg base A outer s H) (hl:vs.length=ps.length) (r:b_ vs us) (x:InCallC s s.heap.objs.size (bindL (envOfC qual scope s.heap.objs.size f cd).kindOf (ps.zip us) λ_=>none) (cellsFrom (s.heap.objs.size+1) scope.names []) (bindC (envOfC qual scope s.heap.objs.size f cd).kindOf (ps.zip us) λ_=>none) s1): Inv (d0 CX P w K mg base N qual scope f cd A outer s H E) [] (start N vs) H s1:=by
 have n_:ps.length<=N.length:=by have:=congrArg List.length S.pre;rw[cj] at this;lia
 let⟨h1,tk,rfl,hk⟩:=x.done;have LK: ∀b:gL,b∉(d0 CX P w K mg base N qual scope f cd A outer s H E).ex:=λb z=>absurd (show b∈([]:cV gL) from z) (by simp);exact#[#[e0.mod,S.kind,rfl,rfl,ao _,λy z c h1 h2=> ?_,λy hy=> ?_,λy c _ h=> ?_,λ_=>hd,Around.frames_deeper e0.frames, .inr #[rfl,rfl],λb z=>absurd z (LK b),e0.bs,e0.Hr,λb _ _=>LK b,λb z=>absurd z (LK b),e0.ml,e0.Iu],
  rfl,e0.bare,Un.kept hk,#[_,x.toInCall.ns,λi y v h1 h2 h3=> ?_],λy c h=>#[_,x.cell y c h],e0.cS.fresh (ao _),λy c h=> ?_,λp hp=>absurd (show p∈([]:cV (gL×Obj)) from hp) (by simp),e0.cS.kept hk,?_]
 show name_of_addr x.apart (dg h1) (dg h2);have hy:scope.names.lookup y=some .cell \/ scope.names.lookup y=some .free:=hy;obtain hy | hy:=hy;show yT hy;show absurd rfl (S.NL _ (dg hy));show Nat.le_of_lt (x.above y c (dg h));have hi:i<vs.length:=by unfold start at h2;by_cases hi:i<vs.length;show hi;rw[aZ ⇑hi] at h2;rw[c6] at h2;split at h2<;>cases h2
 have ha:vs[i]? =some v:=by
  unfold start at h2;rw[a7 ⇑hi,aH] at h2;cases e:vs[i]? with
  | none=>rw[e] at h2;cases h2
  | some a=>rw[e] at h2;cases h2;rfl
 let⟨u,hu,rv⟩:=r.get ha;have hp:ps[i]? =some y:=by rw[<- S.pre,List.getElem?_take_of_lt ∅];show h1
 have ndP:ps.Nodup:=by rw[<- S.pre];show S.nd.sublist (List.take_sublist _ _)
 exact#[u,rv,?_];obtain k | k:=S.par y (be hp);show .inl #[k,vq ndP hp hu k];let⟨c,e⟩:=yT (n:=s.heap.objs.size+1) k;exact .inr #[.inl k,c,e,?_];have q:=x.cell y c e;rw[vv ndP hp hu (by change scope.names.lookup y≠_;rw[k];decide)] at q;show q;show e0.cS.fresh (Nat.le_of_lt (x.above y c (dg h)));unfold start;change _=N.length;rw[aK,ai,List.length_replicate];lia
def Me {CX:zl}{P:RV}{w:W4}{K:RS}{mg:Str ->fP cW}{base:X4}{k:Nat}{f:gL}{name qual:Str}{params:Arguments}{body:cV Stmt}{scope:Scope}{dV kV iH pm cdv ct oc:cW}{an od:fP gL} {zX:RQ (fP cW)} {N ps:cV Str} {sp:Sp} (lk:K.lookup f=some #[oc,od, .func (W.fnOf name qual params body scope dV kV iH pm an cdv ct),zX]) (Cd:W.codeIn K cdv qual=true) (S:cq N ps scope) (len: ∀vs H Q E,sp vs H Q E ->vs.length=ps.length) (i_: ∀ (A:X7) (outer:cV Env) (s:df) (H:Hp) (vs:cV V) (Q:VK) (E:XK),dX k (A.deeper (envOfC qual scope s.heap.objs.size f cdv)) ->sp vs H Q E ->∃t,wZ (d0 CX P w K mg base N qual scope f cdv A outer s H E) body t /\ t {nx:=λ_ H'=>Q .dO H',rt:=Q} (start N vs) H): bA P w K mg base CX (k+1) f (W.fnOf name qual params body scope dV kV iH pm an cdv ct) ps sp:=by
 exact#[len,λA outer s H args us vs Q E hr e0 hb r zu=> ?_];have hl:=len _ _ _ _ zu;have KX:K.In s.heap:=e0.mod.LY.keeps λb o e=>(e0.bs b o e).1;have lim:s.heap.NoLimit:=e0.mod.nolimit.keeps λb o e=>(e0.bs b o e).1;have Sj: ∀y∈ps.zip us,scope.names.lookup y.1=some .local \/ (scope.names.lookup y.1=some .cell /\ ((cellsFrom (s.heap.objs.size+1) scope.names []).lookup y.1).isSome=true):=λ⟨n,v⟩ hy=>by obtain q | q:=S.par n (List.of_mem_zip hy).1;show .inl q;show .inr #[q,W.cellsFrom_some _ _ _ (.inl q)]
 exact codeAny_call_function hr.depth (KX _ _ lk) rfl S.co S.gen rfl (W.codeRec_of KX Cd) (hb _ _ _ _ ?_);exact wpAny_newFunctionEnv_cells S.kind Sj λenv he s1 x=> ?_;subst he;exact#[lim.keeps x.toInCall.keep,codeAny_func ?_];let⟨t,ht,hq⟩:=i_ A outer s H vs Q E (hr.deeper _) zu;have I:Inv (d0 CX P w K mg base N qual scope f cdv A outer s H E) [] (start N vs) H s1:=DC S hr.hd e0 hl r x;exact bz (ht [] s1 (start N vs) H _ I hq) (λfl s' hs=> ?_) λe s' hs=>hs;have fin: ∀ {σ':St} {H':Hp} {v:V} {u:cW},Inv (d0 CX P w K mg base N qual scope f cdv A outer s H E) [] σ' H' s' ->RelV v u ->Q v H' ->CE outer P w H s Q u s':=λ{σ' H' v u} J rv q=>#[v,H',J.os,J.bare,J.base,J.cS,rv,q]
 cases fl with
 | ret u=>let⟨v,σ',H',J,rv,q⟩:=hs;show fin J rv q
 | next=>let⟨σ',H',J,q⟩:=hs;show fin (v:=V.dO) (u:=Value.none) J rfl q
 | brk=>let⟨_,_,_,q⟩:=hs;show False.elim q
 | cont=>let⟨_,_,_,q⟩:=hs;show False.elim q
section
variable {X:Cx}{x:Str}{p pos:Pos}{e:Expr}{es:cV Expr}{t:TA}{id T:String}{r:cV V ->Hp ->VK ->Prop}
def VY (r:cV V ->Hp ->VK ->Prop)(t:TA):TE:=λσ H Q=>t σ H λvs H1=>r vs H1 Q
def bt (hc:fi X (.builtin id) r)(hg:Gl X x)(hm:X.mg x=none)(hv:bootBuiltins x=some (.builtin id))(ha:PA X (e::es) t)(hn:x≠ "__name__" :=by decide)(uW:(x==("__debug__" :Str))=false:=by decide) (he:starEach (e::es) X.env=(false,eval e X.env)::starEach es X.env:=by rfl) (n_:(backTo pos (starEach es X.env)).any (·.1)=false:=by rfl):PE X (.Call (.Name x p) (e::es) [] pos) (VY r t):=by intro af s σ H Q I h;exact wpAny_Call_Name_kw (wq I hg hm hv ?_ hn uW);show PyProof.Rows.callWith_builtin1 (cN (ha pos af s σ H _ I h) λus s1 ⟨vs,H1,I1,r1,q1⟩=>hc af s1 σ H1 vs us Q I1 r1 q1) he n_
def cO (hc:fi X (.type T) r)(hg:Gl X x)(hm:X.mg x=none)(hv:bootBuiltins x=some (.type T))(ha:PA X (e::es) t)(hn:x≠ "__name__" :=by decide)(uW:(x==("__debug__" :Str))=false:=by decide) (he:starEach (e::es) X.env=(false,eval e X.env)::starEach es X.env:=by rfl) (n_:(backTo pos (starEach es X.env)).any (·.1)=false:=by rfl):PE X (.Call (.Name x p) (e::es) [] pos) (VY r t):=by intro af s σ H Q I h;exact wpAny_Call_Name_kw (wq I hg hm hv ?_ hn uW);show PyProof.Rows.callWith_type1 (cN (ha pos af s σ H _ I h) λus s1 ⟨vs,H1,I1,r1,q1⟩=>hc af s1 σ H1 vs us Q I1 r1 q1) he n_
end
end L2
namespace HT
open PySem PyProof.Rows
section
variable {prog:RV}{w:W4}{A:X7}{E:cW ->df ->Prop}{s:df}
def Kt {t b:gL}{vs ws:cV cW}{Q:cW ->df ->Prop}(ht:IsTup s.heap t vs.toArray)(hb:IsTup s.heap b ws.toArray)(hv:vs≠ []) (h1:ws= [] ->Q (.ref t) s) (h2:ws≠ [] ->Q (.ref s.heap.objs.size) {s with heap:=s.heap.push {cls:= .type "tuple",data:= .seq (vs++ws).toArray}}) (hsz:vs.length+ws.length<=sizeLine):wpAny (model prog w) A (binaryOp .Add (.ref t) (.ref b)) Q E s:=by
 let⟨⟨cls,dd,data,sl⟩,ho,hc,n,hd⟩:=id ht;let⟨⟨acR,U0,data2,Lq⟩,Of,DK,n2,hd2⟩:=id hb;simp only at hc hd DK hd2;subst hc hd DK hd2;have e:vs.toArray++ws.toArray=(vs++ws).toArray:=by simp
 by_cases hw:ws= []
 show concat_meets #[_,ho,rfl] #[_,Of,rfl] noFill_tuple_add seq_tuple_add PySem.F.slot_tuple_add PySem.F.entry_tuple_add (PySem.F.args_tuple_add_2 _ _) (tuple_addW1 t b vs.toArray ws.toArray n n2 dd U0 sl Lq ⇑hv (by simp[hw])) #[ho,Of,h1 hw];exact concat_meets #[_,ho,rfl] #[_,Of,rfl] noFill_tuple_add seq_tuple_add PySem.F.slot_tuple_add PySem.F.entry_tuple_add (PySem.F.args_tuple_add_2 _ _) (tuple_addW2 t b vs.toArray ws.toArray n n2 dd U0 sl Lq ⇑hv ⇑hw (by rw[aI,aI];show hsz)) #[ho,Of,?_];rw[e];show h2 hw
def wW (n d:Nat):fP Int ->Nat
 | none=>d
 | some v=>if v<0 then(v+(n:Int)).toNat else min v.toNat n
end
end HT
namespace L2
open PySem PySem.Spec PyProof.Rows
abbrev TO:=St ->Hp ->(fP Int ->Hp ->Prop) ->Prop
def PO (X:Cx)(e:fP Expr)(t:TO):Prop:=∀ (af:cV (gL×Obj)) (s:df) (σ:St) (H:Hp) (Q:fP Int ->Hp ->Prop),Inv X af σ H s ->t σ H Q ->wpAny (model X.prog X.w) X.A (evalPart e X.env) (λu s'=>cx λo H'=>cT (Inv X af σ H' s') (IsPart u o) (Q o H')) X.xe s
def A8:TO:=λ_ H Q=>Q none H
def Lj (t:TE):TO:=λσ H Q=>t σ H λx H1=> ∃i,x= .int i /\ Q (some i) H1
section
variable {X:Cx}{e:Expr}{te:TE}{lo hi:fP Expr}{tl th:TO}{pos p2:Pos}
def vV:PO X none A8:=by intro af s σ H Q I h;rw[evalPart_none];show aX #[none,H,I, .none,h]
def vU (h:PE X e te):PO X (some e) (Lj te):=by intro af s σ H Q I hw;rw[evalPart_some];exact cN (h af s σ H _ I hw) λu s1 ⟨x,H1,I1,r1,q1⟩=> ?_;let⟨i,rfl,q⟩:=q1;let⟨t,rfl⟩:=r1;show#[some i,H1,I1, .int i t,q]
def SlR (X:Cx)(r:V ->fP Int ->fP Int ->Hp ->VK ->Prop):Prop:=∀ (af:cV (gL×Obj)) (s:df) (σ:St) (H:Hp) (x:V) (v vl vu:cW) (lo hi:fP Int) (sl:gL) (Q:VK),Inv X af σ H s ->RelV x v ->s.heap.IsSliceOf sl vl vu .none ->IsPart vl lo ->IsPart vu hi ->r x lo hi H Q ->cx λT id=>cT (typeLookup (.type T) "__getitem__" =pure (some (.builtin id))) (s.TypeIs v T) (wpAny (model X.prog X.w) X.A (getItem v (.ref sl)) (EP X af σ Q) X.xe s)
def tSl (r:V ->fP Int ->fP Int ->Hp ->VK ->Prop)(te:TE)(tl th:TO):TE:=λσ H Q=>te σ H λx H1=>tl σ H1 λl H2=>th σ H2 λu H3=>r x l u H3 Q
def rR {r:V ->fP Int ->fP Int ->Hp ->VK ->Prop}(hr:SlR X r)(he:PE X e te)(hl:PO X lo tl)(hu:PO X hi th):PE X (.Subscript e (.Slice lo hi none p2) pos) (tSl r te tl th):=by intro af s σ H Q I h;exact Subscript_ (cN (he af s σ H _ I h) λv s1 ⟨x,H1,I1,r1,q1⟩=> ?_);exact wpAny_Slice (cN (hl af s1 σ H1 _ I1 q1) λvl s2 ⟨l,H2,I2,pl,q2⟩=>cN (hu af s2 σ H2 _ I2 q2) λvu s3 ⟨u,H3,I3,pu,q3⟩=> ?_);rw[evalPart_none];exact aX ?_;have I4:Inv X af σ H3 {s3 with heap:=s3.heap.push {cls:= .type "slice",data:= .fields (List.toArray [vl,vu, .none])}}:=I3.kept (t':=s3.toks) λb ob q=>ar _ q;let⟨T,id,hT,ht,hg⟩:=hr af {s3 with heap:=s3.heap.push {cls:= .type "slice",data:= .fields (List.toArray [vl,vu, .none])}} σ H3 x v vl vu l u s3.heap.objs.size Q I4 r1 (Heap.IsSliceOf.new ..) pl pu q3;change wpAny (model X.prog X.w) X.A (subscriptTail e (.Slice lo hi none p2) v (.ref s3.heap.objs.size)) (EP X af σ Q) X.xe {s3 with heap:=s3.heap.push {cls:= .type "slice",data:= .fields (List.toArray [vl,vu, .none])}};show tail_any (ops:= [.ref s3.heap.objs.size,v]) ht hT hg (by with_unfolding_all rfl)
def DU (xs:cV V)(lo hi:fP Int):cV V:=(xs.drop (HT.wW xs.length 0 lo)).take (HT.wW xs.length xs.length hi - HT.wW xs.length 0 lo)
def yP (xs:cV V)(lo hi:fP Int):(DU xs lo hi).length<=xs.length:=by unfold DU;rw[cj,List.length_drop];lia
def Q5 (K:RS):R2:=λx y H Q=>gb λa b xs ys=>zy (x= .ref a) (y= .ref b) (jY K H a xs) (jY K H b ys) (xs≠ []) (xs.length+ys.length<=sizeLine) (ys= [] ->Q (.ref a) H) (ys≠ [] -> ∀p,H p=none ->Q (.ref p) (cF H p (.tup (xs++ys))))
def b_.jm {xs:cV V}{us:cV cW}(r:b_ xs us):us= []↔xs= []:=by
 cases r with
 | nil=>simp
 | cons _ _=>simp
def Jy:iJ X (binaryOp .Add) (Q5 X.K):=by intro af s σ H x y v u Q I rx ry h;let⟨a,b,xs,ys,rfl,rfl,ha,hb,hx,hz,q1,q2⟩:=h;cases rx;cases ry;let⟨bJ,r1,p1,_⟩:=I.tuple ha;let⟨wu,r2,p2,_⟩:=I.tuple hb;exact HT.Kt p1 p2 (λz=>hx (r1.jm.mp z)) (λz=>#[.ref a,H,I,rfl,q1 (r2.jm.mp z)]) (λz=> ?_) (by rw[<- r1.length, <- r2.length];show hz);exact#[.ref s.heap.objs.size,_,I.laid (t':=s.toks) (o:= .tup (xs++ys)) (λb ob q=>ar _ q) (ao _) ?_,rfl,q2 (λw=>z (r2.jm.mpr w)) _ (I.cS.fresh (ao _))];show#[by rw[aK];show hz,_,r1.append r2,wN.new _ _]
end
def zt (n:Nat)(i:Int):fP Nat:=if 0<=i then(if i<n then some i.toNat else none) else if -(n:Int) <=i then some (i+n).toNat else none
def hU {α:Type}(xs:cV α)(i:Int):fP α:=(zt xs.length i).bind λj=>xs[j]?
def B7 {n:Nat}{i:Int}{j:Nat}(h:zt n i=some j): seqIndex? i n=some j /\ j<n /\ -(n:Int) <=i /\ i<n:=by unfold zt at h;by_cases h0:0<=i;rw[am h0] at h;by_cases h1:i<n;rw[am h1] at h;have e:i.toNat=j:=bg h;show#[by rw[seqIndex_of h0 h1,e], ∅, ∅,h1];rw[ak h1] at h;cases h;rw[ak h0] at h;by_cases h1: -(n:Int) <=i;rw[am h1] at h;have e:(i+n).toNat=j:=bg h;show#[by rw[seqIndex_neg ∅ h1,e], ∅,h1, ∅];rw[ak h1] at h;cases h
def wK {α:Type}{xs:cV α}{i:Int}{v:α}(h:hU xs i=some v): ∃j,fS (seqIndex? i xs.length=some j) (xs[j]? =some v) (j<xs.length) (-(xs.length:Int) <=i) (i<xs.length):=by
 unfold hU at h;cases e:zt xs.length i with
 | none=>rw[e] at h;cases h
 | some j=>rw[e] at h;let⟨h1,h2,h3,h4⟩:=B7 e;show#[j,h1,h,h2,h3,h4]
def e_ {α:Type}{xs:cV α}{j:Nat}{v:α}(h:xs[j]? =some v):hU xs (j:Int)=some v:=by
 have hj:j<xs.length:=(bi.mp h).1;have e:zt xs.length (j:Int)=some j:=by unfold zt;rw[am ∅,am ∅];simp
 unfold hU;rw[e];show h
def KC (b:Expr):Prop:= ∀o i,subscripted b false o i=operate [o,i] (getItem o i)
def ce (X:Cx)(r:R2):Prop:=∀ (value slice:Expr) (af:cV (gL×Obj)) (s:df) (σ:St) (H:Hp) (x y:V) (v u:cW) (Q:VK),Inv X af σ H s ->RelV x v ->RelV y u ->r x y H Q ->subscripted slice false v u=operate [v,u] (getItem v u) ->wpAny (model X.prog X.w) X.A (subscriptTail value slice v u) (EP X af σ Q) X.xe s
def Tk (X:Cx)(id:String)(r:V ->cV V ->Hp ->VK ->Prop):Prop:=∀ (af:cV (gL×Obj)) (s:df) (σ:St) (H:Hp) (x:V) (xs:cV V) (v:cW) (us:cV cW) (Q:VK),Inv X af σ H s ->RelV x v ->b_ xs us ->r x xs H Q ->wpAny (model X.prog X.w) X.A (call (.builtin id) (v::us)) (EP X af σ Q) X.xe s
section
variable {X:Cx}{a b:Expr}{ta tb:TE}{pos:Pos}
def aD {r:R2}(hr:ce X r)(ha:PE X a ta)(hb:PE X b tb)(hs:KC b):PE X (.Subscript a b pos) (QB r ta tb):=by intro af s σ H Q I h;show Subscript_ (OL ha hb I h λv u s2 x y H2 I2 rx ry q=>hr a b af s2 σ H2 x y v u Q I2 rx ry q (hs _ _))
def iD (K:RS):R2:=λx y H Q=>gb λp xs i v=>fS (x= .ref p) (y= .int i) (gT K H p xs) (hU xs i=some v) (Q v H)
def bq (K:RS):R2:=λx y H Q=>gb λp xs i v=>fS (x= .ref p) (y= .int i) (jY K H p xs) (hU xs i=some v) (Q v H)
def Q2:R2:=λx y H Q=>dQ λz i c=>fS (x= .str z) (y= .int i) (z.length<=sizeLine) (hU z.cps.toList i=some c) (Q (.str ⟨#[c]⟩) H)
def dA:ce X (iD X.K):=by
 intro value slice af s σ H x y v u Q I rx ry h hs;let⟨p,xs,i,z,rfl,rfl,hq,he,q⟩:=h;cases rx;let⟨t,rfl⟩:=ry;let⟨bJ,r,pl,hz⟩:=I.list hq;let⟨j,h1,h2,h3,h4,h5⟩:=wK he;let⟨w,ew,vN⟩:=r.get h2;have hl:=r.length;have hn:=oK;have fin:EP X af σ Q w s:=#[z,H,I,vN,q]
 by_cases h0:0<=i;have hj:i.toNat=j:=by rw[seqIndex_of h0 h5] at h1;show bg h1
 show item_listR pl.isList h0 ∅ (by rw[hj];simpa using ew) fin hs;have hj:(i+(bJ.toArray.size:Int)).toNat=j:=by rw[seqIndex_neg ∅ h4] at h1;rw[aI, <- hl];show bg h1
 show subscriptTail_builtinR (x:=w) pl.isList.typeIs slot_list_getitem.lookup (wpAny_getItem_list_neg (Q:=λr s'=>r=w /\ EP X af σ Q r s') pl.isList ∅ (by rw[aI] <;>lia) ∅ (by rw[hj];simpa using ew) #[rfl,fin]) hs
def az:ce X (bq X.K):=by
 intro value slice af s σ H x y v u Q I rx ry h hs;let⟨p,xs,i,z,rfl,rfl,hq,he,q⟩:=h;cases rx;let⟨t,rfl⟩:=ry;let⟨bJ,r,pl,hz⟩:=I.tuple hq;let⟨j,h1,h2,h3,h4,h5⟩:=wK he;let⟨w,ew,vN⟩:=r.get h2;have hl:=r.length;have hn:=oK;have fin:EP X af σ Q w s:=#[z,H,I,vN,q]
 show subscriptTail_builtinR (x:=w) pl.typeIs slot_tuple_getitem.lookup (getItem_tuple (j:=j) (Q:=λr s'=>r=w /\ EP X af σ Q r s') pl ∅ ∅ (by rw[aI, <- hl];show h1) ⇑ew #[rfl,fin]) hs
def Gx:ce X Q2:=by
 intro value slice af s σ H x y v u Q I rx ry h hs;let⟨z,i,c,rfl,rfl,hz,he,q⟩:=h;let⟨t,rfl⟩:=rx;let⟨t',rfl⟩:=ry;let⟨j,h1,h2,h3,h4,h5⟩:=wK he;have hl:z.cps.toList.length=z.length:=by simp[Str.length]
 rw[hl] at h1 h4 h5;have hn:=oK;show tail_any (typeIs_str s z t) slot_str_getitem.lookup (getItem_str (c:=c) (by have e1:decide (i< -(2 ^ 63:Int))=false:=aF ∅;have e2:decide (i≥2 ^ 63)=false:=aF ∅;rw[e1,e2,Bool.or_false]) (by rw[h1];simpa using h2) #[.str ⟨#[c]⟩,H,I.tok _,#[_,rfl],q]) hs
def Aa (bJ:cV cW)(n j:Nat)(u:cW):Obj.mapSeq (·.setIfInBounds j u) {cls:= .type "list",data:= .seq bJ.toArray n}= {cls:= .type "list",data:= .seq (bJ.set j u).toArray n}:=by simp[Obj.mapSeq]
def Inv.lst {af:cV (gL×Obj)}{σ:St}{H:Hp}{s:df}{p:gL}{xs:cV V}(I:Inv X af σ H s)(h:H p=some (.lst xs)): cx λ(bJ:cV cW) (n:Nat)=>cT (b_ xs bJ) (s.heap.get? p=some {cls:= .type "list",data:= .seq bJ.toArray n}) (xs.length<=sizeLine):=by let⟨z,bJ,n,r,e⟩:=I.cS p _ h;show#[bJ,n,r,e,z]
def Inv.NT {af:cV (gL×Obj)}{σ:St}{H:Hp}{s:df}{p:gL}{xs ys:cV V}{bJ its':cV cW}{n n':Nat}{f:Obj ->Obj}(I:Inv X af σ H s)(h:H p=some (.lst xs)) (ho:s.heap.get? p=some {cls:= .type "list",data:= .seq bJ.toArray n}) (hf:f {cls:= .type "list",data:= .seq bJ.toArray n}= {cls:= .type "list",data:= .seq its'.toArray n'}) (r:b_ ys its') (hz:ys.length<=sizeLine) (t:Nat): Inv X af σ (cF H p (.lst ys)) {s with heap:=s.heap.update p f,toks:=t}:=by
 have e:(s.heap.update p f).get? p=some {cls:= .type "list",data:= .seq its'.toArray n'}:=by rw[Heap.get?_update_self f ho (by rw[hf] <;>rfl),hf]
 exact I.write (x:=p) (e:=p) (by rw[h];trivial) (.inl rfl) (λb u hb q=>(Heap.get?_update_other _ _ (de hb)).trans q) #[_,e] ?_;show#[hz,its',n',r,e]
def Lz:V ->V ->V ->Hp ->(Hp ->Prop) ->Prop:=λo i v H Q=>gb λp xs k j=>fS (o= .ref p) (i= .int k) (H p=some (.lst xs)) (zt xs.length k=some j) (Q (cF H p (.lst (xs.set j v))))
def iQ:Ti X Lz:=by
 intro af s σ H o i v ov iv u Q I ro ri rv h;let⟨p,xs,k,j,rfl,rfl,hp,hj,q⟩:=h;cases ro;let⟨t,rfl⟩:=ri;let⟨bJ,n,r,ho,hz⟩:=I.lst hp;let⟨h1,h2,h3,h4⟩:=B7 hj;have hl:=r.length;have hn:=oK;have I':Inv X af σ (cF H p (.lst (xs.set j v))) {s with heap:=s.heap.update p (Obj.mapSeq (·.setIfInBounds j u))}:=I.NT hp ho (Aa bJ n j u) (r.set rv j) (by rw[List.length_set];show hz) s.toks;by_cases h0:0<=k;have hk:k.toNat=j:=by rw[seqIndex_of h0 h4] at h1;show bg h1
 show W.ki_setAt ho h0 ∅ (by rw[aI, <- hl];show h4) (by rw[hk];show#[_,I',q]);have hk:(k+(bJ.toArray.size:Int)).toNat=j:=by rw[seqIndex_neg ∅ h3] at h1;rw[aI, <- hl];show bg h1
 show W.ki_setBack ho ∅ (by rw[aI, <- hl];show h3) ∅ (by rw[hk];show#[_,I',q])
def vI (lo hi:fP Int)(n:Nat):(sliceBounds lo hi none n).1=((HT.wW n 0 lo:Nat):Int) /\ (sliceBounds lo hi none n).2.1=((HT.wW n n hi:Nat):Int) /\ (sliceBounds lo hi none n).2.2=1:=by
 exact#[?_,?_,rfl];cases lo with
 | none=>simp[sliceBounds,HT.wW]
 | some i=>simp![sliceBounds,HT.wW,Option.getD_none,show(1:Int) >0 by decide,bX];by_cases h:i<0;simp![h,bX] <;>lia;simp![h,bv] <;>lia
 cases hi with
 | none=>simp[sliceBounds,HT.wW]
 | some i=>simp![sliceBounds,HT.wW,Option.getD_none,show(1:Int) >0 by decide,bX];by_cases h:i<0;simp![h,bX] <;>lia;simp![h,bv] <;>lia
def t7 (bJ:cV cW)(lo hi:fP Int):slicePick bJ.toArray lo hi none=((bJ.drop (HT.wW bJ.length 0 lo)).take (HT.wW bJ.length bJ.length hi - HT.wW bJ.length 0 lo)).toArray:=by let⟨h1,h2,h3⟩:=vI lo hi bJ.toArray.size;unfold slicePick;rw[h1,h2,h3];simp![sliceRange_one,pick_run,aI] <;>rfl
def We (K:RS):V ->fP Int ->fP Int ->Hp ->VK ->Prop:=λx lo hi H Q=>cx λa xs=>cT (x= .ref a) (gT K H a xs) (∀p,H p=none ->Q (.ref p) (cF H p (.lst (DU xs lo hi))))
def IZ:SlR X (We X.K):=by intro af s σ H x v vl vu lo hi sl Q I rx hs pl pu h;let⟨a,xs,rfl,hx,q⟩:=h;cases rx;let⟨bJ,r,ht,hz⟩:=I.list hx;have d3:=r.length;exact#["list",_,slot_list_getitem.lookup,ht.isList.typeIs,?_];exact wpAny_getItem_list_slice ht.isList hs pl pu .none (by simp) ?_ (by rw[aI] <;>lia);rw[t7, <- d3];exact#[.ref s.heap.objs.size,_,I.laid (t':=s.toks) (o:= .lst (DU xs lo hi)) (λb ob q=>ar _ q) (ao _) ?_,rfl,q _ (I.cS.fresh (ao _))];show#[av (yP xs lo hi) hz,_,0,(r.drop (HT.wW xs.length 0 lo)).take (HT.wW xs.length xs.length hi - HT.wW xs.length 0 lo),aT _ rfl]
def kJ:V ->Bool
 | .dO=>true
 | .bl _=>true
 | .int _=>true
 | .str _=>true
 | _=>false
def EB:V ->V ->Bool
 | .dO, .dO=>true
 | .bl a, .bl b=>a==b
 | .bl a, .int b=>(if a then 1 else 0)==b
 | .int a, .bl b=>a==(if b then 1 else 0)
 | .int a, .int b=>a==b
 | .str a, .str b=>a==b
 | _,_=>false
def G7 {A:X7}{s:df}{y x:V}{u v:cW}(ry:RelV y u)(rx:RelV x v)(fy:kJ y=true)(fx:kJ x=true):SeqAt.EqAt A s u v (EB y x):=by
 cases y with
 | dO=>
  cases ry;cases x with
  | dO=>cases rx;show SeqAt.EqAt.same _
  | bl b=>cases rx;show SeqAt.EqAt.none_bool b
  | int b=>let⟨t,rfl⟩:=rx;show SeqAt.EqAt.none_int b t
  | str b=>let⟨t,rfl⟩:=rx;show SeqAt.EqAt.none_str b t
  | _=>show absurd (show false=true from fx) a5
 | bl a=>
  cases ry;cases x with
  | dO=>cases rx;show SeqAt.EqAt.bool_none a
  | bl b=>cases rx;show SeqAt.EqAt.bool_bool a b
  | int b=>let⟨t,rfl⟩:=rx;show SeqAt.EqAt.bool_int a b t
  | str b=>let⟨t,rfl⟩:=rx;show SeqAt.EqAt.bool_str a b t
  | _=>show absurd (show false=true from fx) a5
 | int a=>
  let⟨t',rfl⟩:=ry;cases x with
  | dO=>cases rx;show SeqAt.EqAt.int_none a t'
  | bl b=>cases rx;show SeqAt.EqAt.int_bool a t' b
  | int b=>let⟨t,rfl⟩:=rx;show SeqAt.EqAt.int_int a t' b t
  | str b=>let⟨t,rfl⟩:=rx;show SeqAt.EqAt.int_str a t' b t
  | _=>show absurd (show false=true from fx) a5
 | str a=>
  let⟨t',rfl⟩:=ry;cases x with
  | dO=>cases rx;show SeqAt.EqAt.str_none a t'
  | bl b=>cases rx;show SeqAt.EqAt.str_bool a t' b
  | int b=>let⟨t,rfl⟩:=rx;show SeqAt.EqAt.str_int a t' b t
  | str b=>let⟨t,rfl⟩:=rx;show SeqAt.EqAt.str_str a t' b t
  | _=>show absurd (show false=true from fx) a5
 | _=>show absurd (show false=true from fy) a5
def At (x:V)(u:cW):Bool:=match u with
 | .none=>EB .dO x
 | .bool b=>EB (.bl b) x
 | .int i _=>EB (.int i) x
 | .str z _=>EB (.str z) x
 | _=>false
def G6 {x y:V}{u:cW}(r:RelV y u)(f:kJ y=true):At x u=EB y x:=by
 cases y with
 | dO=>cases r;rfl
 | bl b=>cases r;rfl
 | int i=>let⟨t,rfl⟩:=r;rfl
 | str z=>let⟨t,rfl⟩:=r;rfl
 | _=>show absurd (show false=true from f) a5
theorem nV {x:V}: ∀ {xs:cV V} {us:cV cW},b_ xs us ->xs.all kJ=true ->us.any (At x)=xs.any λy=>EB y x
 | _,_, .nil,_=>rfl
 | y::xs,u::us, .cons r t,f=>by rw[List.all_cons,cI] at f;rw[List.any_cons,List.any_cons,G6 r f.1,nV t f.2]
theorem kC {A:X7}{s:df}{x:V}{v:cW}(rx:RelV x v)(fx:kJ x=true): ∀ {xs:cV V} {us:cV cW},b_ xs us ->xs.all kJ=true -> ∀u∈us,SeqAt.EqAt A s u v (At x u)
 | _,_, .nil,_=>λu hu=>by cases hu
 | y::xs,u::us, .cons r t,f=>λu' hu=>by rw[List.all_cons,cI] at f;obtain rfl | hu:=aS.mp hu;rw[G6 r f.1];show G7 r rx f.1 fx;show kC rx fx t f.2 u' hu
def LZ (x:V)(xs:cV V):Bool:=xs.any λy=>EB y x
def Q4 (K:RS)(Pc:Bool):R2:=λx y H Q=>cx λp xs=>fS (y= .ref p) (gT K H p xs \/ jY K H p xs) (kJ x=true) (xs.all kJ=true) (Q (.bl (if Pc then !LZ x xs else LZ x xs)) H)
def Dc:iJ X (compareOp .In) (Q4 X.K false):=by intro af s σ H x y v u Q I rx ry h;let⟨p,xs,rfl,hq,fx,fs,q⟩:=h;cases ry;obtain hq | hq:=hq;let⟨bJ,r,pl,hz⟩:=I.list hq;exact SeqAt.in_listAt (At x) pl.isList (λw hw=>kC rx fx r fs w ⇑hw) #[.bl _,H,I,rfl,?_];rw[show bJ.toArray.any (At x)=bJ.any (At x) by simp,nV r fs];show q;let⟨bJ,r,pl,hz⟩:=I.tuple hq;exact SeqAt.in_tupleAt (At x) pl (λw hw=>kC rx fx r fs w ⇑hw) #[.bl _,H,I,rfl,?_];rw[show bJ.toArray.any (At x)=bJ.any (At x) by simp,nV r fs];show q
def v8:iJ X (compareOp .NotIn) (Q4 X.K true):=by intro af s σ H x y v u Q I rx ry h;let⟨p,xs,rfl,hq,fx,fs,q⟩:=h;cases ry;obtain hq | hq:=hq;let⟨bJ,r,pl,hz⟩:=I.list hq;exact SeqAt.notIn_listAt (At x) pl.isList (λw hw=>kC rx fx r fs w ⇑hw) #[.bl _,H,I,rfl,?_];rw[show bJ.toArray.any (At x)=bJ.any (At x) by simp,nV r fs];show q;let⟨bJ,r,pl,hz⟩:=I.tuple hq;exact SeqAt.notIn_tupleAt (At x) pl (λw hw=>kC rx fx r fs w ⇑hw) #[.bl _,H,I,rfl,?_];rw[show bJ.toArray.any (At x)=bJ.any (At x) by simp,nV r fs];show q
def v7:iJ X (compareOp .NotIn) (λx y H Q=>cx λi j=>cT (x= .str i) (y= .str j) (Q (.bl (!(!(Builtin.Str.occurrences j i 0 j.length 1).isEmpty))) H)):=by intro af s σ H x y v u Q I rx ry h;let⟨i,j,rfl,rfl,q⟩:=h;let⟨t,rfl⟩:=rx;let⟨t',rfl⟩:=ry;show notIn_str #[.bl _,H,I,rfl,q]
def wG:fi X (.builtin "len") (λxs H Q=>cx λp ys=>cT (xs= [.ref p]) (gT X.K H p ys \/ jY X.K H p ys) (Q (.int ys.length) H)):=by intro af s σ H xs us Q I r h;let⟨p,ys,rfl,hq,q⟩:=h;let⟨u,rfl,rx⟩:=vals1 r;cases rx;have hn:=oK;obtain hq | hq:=hq;let⟨bJ,r',pl,hz⟩:=I.list hq;have d3:=r'.length;show Calls.call_len_list pl.isList (by simp![aI] <;>lia) #[.int ys.length,H,I.tok _,#[s.toks+1,by rw[aI,d3]],q];let⟨bJ,r',pl,hz⟩:=I.tuple hq;have d3:=r'.length;show len_tuple pl (by simp![aI] <;>lia) #[.int ys.length,H,I.tok _,#[s.toks+1,by rw[aI,d3]],q]
def wF:fi X (.builtin "len") (λxs H Q=> ∃z,cT (xs= [.str z]) (z.length<=sizeLine) (Q (.int z.length) H)):=by intro af s σ H xs us Q I r h;let⟨z,rfl,hz,q⟩:=h;let⟨u,rfl,t,rfl⟩:=vals1 r;have hn:=oK;show len_str ∅ #[.int z.length,H,I.tok _,#[_,rfl],q]
def wE:fi X (.type "list") (λxs H Q=>cx λp ys=>cT (xs= [.ref p]) (gT X.K H p ys \/ jY X.K H p ys) (∀l,H l=none ->Q (.ref l) (cF H l (.lst ys)))):=by
 intro af s σ H xs us Q I r h;let⟨p,ys,rfl,hq,q⟩:=h;let⟨u,rfl,rx⟩:=vals1 r;cases rx;have fin: ∀ (bJ:cV cW),b_ ys bJ ->ys.length<=sizeLine -> ∀ (h':X4) (c':Nat),(∀b o',s.heap.get? b=some o' ->h'.get? b=some o') ->h'.get? s.heap.objs.size=some {cls:= .type "list",dict:=none,data:= .seq bJ.toArray c',slots:= #[]} ->EP X af σ Q (.ref s.heap.objs.size) {s with heap:=h'}:=λbJ r' hz h' c' kp e=>#[.ref s.heap.objs.size,_,I.laid (t':=s.toks) kp (ao _) (show dG X.prog X.w _ h' _ (.lst ys) from#[hz,bJ,c',r',e]),rfl,q _ (I.cS.fresh (ao _))]
 obtain hq | hq:=hq;let⟨bJ,r',pl,hz⟩:=I.list hq;have d3:=r'.length;let⟨o,ho,hc,n,hd⟩:=pl.isList;show call_list_seq p (.inl rfl) ho hc hd (λh' c' kp e=>fin bJ r' hz h' c' kp e) (by simp![aI] <;>lia);let⟨bJ,r',pl,hz⟩:=I.tuple hq;have d3:=r'.length;let⟨o,ho,hc,n,hd⟩:=pl;show call_list_seq p (.inr rfl) ho hc hd (λh' c' kp e=>fin bJ r' hz h' c' kp e) (by simp![aI] <;>lia)
def uq:fi X (.type "tuple") (λxs H Q=>cx λp ys=>xs= [.ref p] /\ ((gT X.K H p ys /\ ∀l,H l=none ->Q (.ref l) (cF H l (.tup ys))) \/ (jY X.K H p ys /\ Q (.ref p) H))):=by
 intro af s σ H xs us Q I r h;let⟨p,ys,rfl,h⟩:=h;let⟨u,rfl,rx⟩:=vals1 r;cases rx;rcases h with⟨hq,q⟩ | ⟨hq,q⟩
 let⟨bJ,r',pl,hz⟩:=I.list hq;have d3:=r'.length;exact call_tuple_list pl.isList (λh' kp=> ?_) (by simp![aI] <;>lia);have I1:Inv X af σ H {s with heap:=h'}:=I.kept (t':=s.toks) kp;have I2:Inv X af σ (cF H h'.objs.size (.tup ys)) {s with heap:=h'.push {cls:= .type "tuple",data:= .seq bJ.toArray}}:=I1.laid (t':=s.toks) (λb o e=>ar _ e) (ao _) (show dG X.prog X.w _ _ _ (.tup ys) from#[hz,bJ,r',wN.new _ _]);show#[.ref h'.objs.size,_,I2,rfl,q _ (I1.cS.fresh (ao _))];let⟨bJ,r',pl,hz⟩:=I.tuple hq;show call_tuple_same pl #[.ref p,H,I,rfl,q]
def Ug (K:RS)(T:String)(x:V)(H:Hp):Prop:=match x with
 | .str _=>T= "str"
 | .int _=>T= "int"
 | .ref p=>(T= "list" /\ ∃xs,gT K H p xs) \/ (T= "tuple" /\ ∃o,cT (K.lookup p=some o) (o.cls= .type "tuple") (o.dict=none)) \/(T= "dict" /\ ((∃kvs,H p=some (.dK kvs)) \/ ∃kvs,H p=some (.dT kvs))) \/ (T= "set" /\ ∃S n,H p=some (.set S n))
 | _=>False
def EW {af:cV (gL×Obj)}{σ:St}{H:Hp}{s:df}{T:String}{x:V}{v:cW}(I:Inv X af σ H s)(r:RelV x v)(ty:Ug X.K T x H): s.TypeIs v T /\ ∀a,v= .ref a -> ∃ob,s.heap.get? a=some ob /\ ob.dict=none:=by
 cases x with
 | str z=>let⟨t,rfl⟩:=r;cases (show T= "str" from ty);show#[typeIs_str s z t,λ_ e=>nomatch e]
 | int i=>let⟨t,rfl⟩:=r;cases (show T= "int" from ty);show#[typeIs_int s i t,λ_ e=>nomatch e]
 | ref p =>
  cases r;rcases ty with⟨rfl,xs,hq⟩ | ⟨rfl,o,hk,hc,hd⟩ | ⟨rfl,hk⟩ | ⟨rfl,S,n,hk⟩
  let⟨bJ,_,pl,_⟩:=I.list hq;exact#[pl.isList.typeIs,λa e=> ?_];cases e;let⟨o,n,e,c,hd,_⟩:=pl;show#[o,e,hd];exact#[#[o,I.lO p o hk,hc],λa e=> ?_];cases e;show#[o,I.lO _ o hk,hd];have z: ∃o,s.heap.get? p=some o /\ o.ExactDict:=by
   rcases hk with⟨kvs,hk⟩ | ⟨kvs,hk⟩
   let⟨_,_,_,_,o,_,_,e,ex,_⟩:=I.cS p _ hk;show#[o,e,ex];let⟨_,_,_,_,o,_,_,e,ex,_⟩:=I.cS p _ hk;show#[o,e,ex]
  let⟨o,e,ex⟩:=z;exact#[#[o,e,ex.1],λa e2=> ?_];cases e2;show#[o,e,ex.2.1];let⟨o,_,_,_,e,ex,_⟩:=I.cS p _ hk;exact#[#[o,e,ex.1],λa e2=> ?_];cases e2;show#[o,e,ex.2.1]
 | _=>show False.elim ty
def QJ (K:RS)(T:String)(r:V ->cV V ->Hp ->VK ->Prop)(to:TE):TE:=λσ H Q=>to σ H λx H1=>Ug K T x H1 /\ r x [] H1 Q
def VZ (K:RS)(T:String)(r:V ->cV V ->Hp ->VK ->Prop)(to:TE)(t:TA):TE:=λσ H Q=>to σ H λx H1=>Ug K T x H1 /\ t σ H1 λxs H2=>r x xs H2 Q
variable {o e:Expr}{es:cV Expr}{to:TE}{t:TA}{name:Str}{dz dy:Pos}{T id:String}{r:V ->cV V ->Hp ->VK ->Prop}
def FJ (pa:PlainAttrs T)(slot:Slot T name id)(W_:typeOf (.builtin id)=pure (.type "method_descriptor"))(hm:Tk X id r)(ho:PE X o to) (yt:attributeBase o name X.env (eval o X.env)=eval o X.env:=by rfl) (yn:(dz.endLine==dy.line)=true:=by rfl):PE X (.Call (.Attribute o name dz) [] [] dy) (QJ X.K T r to):=by intro af s σ H Q I h;exact wpAny_Call_method0_late yt yn (cN (ho af s σ H _ I h) λv s1 ⟨x,H1,I1,r1,ty,q1⟩=> ?_);let⟨h1,h2⟩:=EW I1 r1 ty;show#[T,id,pa,slot,W_,h1,h2,Calls.callWith_builtin rfl (PySem.evalArgs_none (hm af s1 σ H1 x [] v [] Q I1 r1 .nil q1))]
def iZ (pa:PlainAttrs T)(slot:Slot T name id)(W_:typeOf (.builtin id)=pure (.type "method_descriptor"))(hm:Tk X id r)(ho:PE X o to)(ha:PA X (e::es) t) (yt:attributeBase o name X.env (eval o X.env)=eval o X.env:=by rfl) (XH:((backTo dy (starEach (e::es) X.env)).all (λx=> !x.1) && (backToKw dy (keywordEach [] X.env)).all (λx=>x.1.isSome) && decide ((e::es).length+([]:cV Keyword).length+(if([]:cV Keyword).isEmpty then 0 else 1) <30))=true:=by rfl) (yn:(dz.endLine==dy.line)=true:=by rfl) (hs:starEach (e::es) X.env=(false,eval e X.env)::starEach es X.env:=by rfl) (Od:(backTo dy (starEach es X.env)).any (·.1)=false:=by rfl): PE X (.Call (.Attribute o name dz) (e::es) [] dy) (VZ X.K T r to t):=by intro af s σ H Q I h;exact wpAny_Call_method_late yt XH yn rfl (cN (ho af s σ H _ I h) λv s1 ⟨x,H1,I1,r1,ty,q1⟩=> ?_);let⟨h1,h2⟩:=EW I1 r1 ty;exact#[T,id,pa,slot,W_,h1,h2,?_];have hA:=ha dy af s1 σ H1 _ I1 q1;rw[hs] at hA ⊢;exact Calls.callWith_builtin (by change(false || (backTo dy (starEach es X.env)).any (·.1))=false;rw[Od] <;>rfl) (Calls.evalArgs_plain ?_);show cN hA λus s2 ⟨vs,H2,I2,r2,q2⟩=>hm af s2 σ H2 x vs v us Q I2 r1 r2 q2
end
def U3 (X:Cx)(id:String)(r:V ->cV V ->Hp ->VK ->Prop):Prop:=∀ (af:cV (gL×Obj)) (s:df) (σ:St) (H:Hp) (x:V) (xs:cV V) (v:cW) (us:cV cW) (Q:VK),Inv X af σ H s ->RelV x v ->b_ xs us ->r x xs H Q ->wpAny (model X.prog X.w) X.A (call (.builtin id) (v::us)) (EP X af σ Q) X.xe s
def b_.one: ∀ {x:V} {us:cV cW},b_ [x] us -> ∃u,us= [u] /\ RelV x u :=by intro x us h;cases h with | cons r t=>cases t;show#[_,rfl,r]
def b_.two: ∀ {x y:V} {us:cV cW},b_ [x,y] us ->cx λu v=>cT (us= [u,v]) (RelV x u) (RelV y v) :=by intro x y us h;cases h with | cons r t=>cases t with | cons q t=>cases t;show#[_,_,rfl,r,q]
theorem b_.zero: ∀ {us:cV cW},b_ [] us ->us= []
 | _, .nil=>rfl
def OD {α:Type}(l:cV α):l.eraseIdx (l.length - 1)=l.dropLast:=by
 induction l with
 | nil=>rfl
 | cons a r ih=>
  cases r with
  | nil=>rfl
  | cons b r=>
   have e:(a::b::r).length - 1=((b::r).length - 1)+1:=by have h1:(a::b::r).length=r.length+2:=rfl;have h2:(b::r).length=r.length+1:=rfl;lia
   rw[e,List.eraseIdx_cons_succ,ih];all_goals rfl
section
variable {X:Cx}{af:cV (gL×Obj)}{σ:St}{H:Hp}{s:df}{l b:gL}{xs ys zs:cV V}
def Inv.JO {bJ its':cV cW}{n:Nat}{f:RQ cW ->RQ cW}{t':Nat}(I:Inv X af σ H s)(hH:H l=some (.lst xs)) (e:s.heap.get? l=some {cls:= .type "list",data:= .seq bJ.toArray n}) (hf:f bJ.toArray=its'.toArray) (hv:b_ ys its') (hz:ys.length<=sizeLine): Inv X af σ (cF H l (.lst ys)) {s with heap:=s.heap.update l (Obj.mapSeq f),toks:=t'}:=by have q:=PySem.IsL.update e f;rw[hf] at q;exact I.write (x:=l) (e:=l) (by rw[hH];show trivial) (.inl rfl) (λb' u hb hu=>(Heap.get?_update_other s.heap (Obj.mapSeq f) (de hb)).trans hu) #[_,q] ?_;show#[hz,its',_,hv,q]
theorem Inv.WD {bJ:cV cW}{t':Nat}(I:Inv X af σ H s)(hv:b_ ys bJ)(hz:ys.length<=sizeLine): Inv X af σ (cF H s.heap.objs.size (.lst ys)) {s with heap:=s.heap.push {cls:= .type "list",data:= .seq bJ.toArray},toks:=t'}:=I.laid (λ_ _ q=>ar _ q) (ao _) #[hz,bJ,0,hv,aT _ rfl]
theorem Inv.fresh (I:Inv X af σ H s):H s.heap.objs.size=none:=I.cS.fresh (ao _)
def Inv.Ad (I:Inv X af σ H s)(hH:H l=some (.lst xs)):xs.length<=sizeLine /\ cx λ(bJ:cV cW) (n:Nat)=>cT (b_ xs bJ) (xs.length=bJ.length) (s.heap.get? l=some {cls:= .type "list",data:= .seq bJ.toArray n}):=by let⟨z,bJ,n,r,e⟩:=I.cS l _ hH;show#[z,bJ,n,r,r.length,e]
def F_ {n:Nat}(h:n<=sizeLine):Builtin.List.listTooLong n=false:=by unfold Builtin.List.listTooLong;show aF ∅
end
section
variable {X:Cx}
def Bu:V ->cV V ->Hp ->VK ->Prop:=λx vs H Q=>dQ λl xs y=>fS (x= .ref l) (vs= [y]) (H l=some (.lst xs)) (xs.length<sizeLine) (Q .dO (cF H l (.lst (xs++ [y]))))
def dR:U3 X "list.append" Bu:=by intro af s σ H x vs v us Q I rx rv h;let⟨l,xs,y,rfl,rfl,hH,hz,q⟩:=h;cases rx;let⟨u,rfl,ru⟩:=rv.one;let⟨z,bJ,n,r,hl,e⟩:=I.Ad hH;exact call_meets F.slot_list_append #[_,e,rfl] F.entry_list_append (F.args_list_append_2 _ _) (PySem.list_append l bJ.toArray n u (by rw[aI];lia)) #[e,?_];exact#[.dO,_,I.JO (its':=bJ++ [u]) hH e (by simp) (r.append (.cons ru .nil)) ?_,rfl,q];rw[aK,List.length_singleton];lia
def Bt:V ->cV V ->Hp ->VK ->Prop:=λx vs H Q=>gb λl b xs zs=>jX (x= .ref l) (vs= [.ref b]) (H l=some (.lst xs)) (H b=some (.lst zs)) (xs.length+zs.length<=sizeLine) (Q .dO (cF H l (.lst (xs++zs))))
def Dm:U3 X "list.extend" Bt:=by
 intro af s σ H x vs v us Q I rx rv h;let⟨l,b,xs,zs,rfl,rfl,hH,hB,hz,q⟩:=h;cases rx;let⟨u,rfl,ru⟩:=rv.one;cases ru;let⟨z,bJ,n,r,hl,e⟩:=I.Ad hH;let⟨z2,wu,n2,r2,hl2,e2⟩:=I.Ad hB;have hsz:bJ.toArray.size+wu.toArray.size<=sizeLine:=by rw[aI,aI];lia
 have Si:¬(!bJ.toArray.isEmpty && Builtin.List.listTooLong (bJ.toArray.size+wu.toArray.size))=true:=by rw[F_ hsz,Bool.and_false];show a5
 exact call_meets F.slot_list_extend #[_,e,rfl] F.entry_list_extend (F.args_list_extend_2 _ _) (AutoSeq1.list_extend_list_list_0 l bJ.toArray n b wu.toArray n2 Si (by rw[aI];lia) ∅) #[e,e2,?_];exact#[.dO,_,I.JO (its':=bJ++wu) hH e (by simp) (r.append r2) ?_,rfl,q];rw[aK];lia
def adz:V ->cV V ->Hp ->VK ->Prop:=λx vs H Q=>dQ λl xs y=>fS (x= .ref l) (vs= []) (H l=some (.lst xs)) (xs[xs.length - 1]? =some y) (Q y (cF H l (.lst xs.dropLast)))
def Fy:V ->cV V ->Hp ->VK ->Prop:=λx vs H Q=>cx λl xs=>eT (x= .ref l) (vs= []) (H l=some (.lst xs)) (Q .dO (cF H l (.lst [])))
def xW:U3 X "list.clear" Fy:=by intro af s σ H x vs v us Q I rx rv h;let⟨l,xs,rfl,rfl,hH,q⟩:=h;cases rx;have wX:=rv.zero;subst wX;let⟨z,bJ,n,r,hl,e⟩:=I.Ad hH;exact call_meets F.slot_list_clear #[_,e,rfl] F.entry_list_clear (F.args_list_clear_1 _) (AutoSeq1.list_clear_list_0 l bJ.toArray n (by rw[aI];lia)) #[e,?_];show#[.dO,_,I.JO (its':= []) (ys:= []) hH e rfl .nil (cZ _),rfl,q]
def Q6:R2:=λx y H Q=>gb λl b xs zs=>jX (x= .ref l) (y= .ref b) (H l=some (.lst xs)) (H b=some (.lst zs)) (xs.length+zs.length<=sizeLine) (∀p,H p=none ->Q (.ref p) (cF H p (.lst (xs++zs))))
def FT:iJ X (binaryOp .Add) Q6:=by
 intro af s σ H x y v u Q I rx ry h;let⟨l,b,xs,zs,rfl,rfl,hH,hB,hz,q⟩:=h;cases rx;cases ry;let⟨z,bJ,n,r,hl,e⟩:=I.Ad hH;let⟨z2,wu,n2,r2,hl2,e2⟩:=I.Ad hB;exact PySem.P.add_list e e2 ?_ (by rw[aI,aI];lia);have ea:bJ.toArray++wu.toArray=(bJ++wu).toArray:=by simp
 rw[ea];show#[.ref _,_,I.WD (t':=s.toks) (r.append r2) (by rw[aK];lia),rfl,q _ I.fresh]
end
section
variable {κ:Type} [DecidableEq κ]
def gY (kvs:cV (κ×V))(k:κ):fP V:=(kvs.find? λkv=>decide (kv.1=k)).map (·.2)
def lB (kvs:cV (κ×V))(k:κ)(v:V):cV (κ×V):=if(kvs.any λkv=>decide (kv.1=k))=true then kvs.map (λkv=>if kv.1=k then(kv.1,v) else kv) else kvs++ [(k,v)]
def kW (kvs:cV (κ×V))(k:κ):cV (κ×V):=kvs.filter λkv=>decide (kv.1≠k)
def rC {p:κ×V}{r:cV (κ×V)}{k:κ}(e:p.1=k):gY (p::r) k=some p.2:=by simp[gY,cE,e]
def rD {p:κ×V}{r:cV (κ×V)}{k:κ}(e:¬p.1=k):gY (p::r) k=gY r k:=by simp[gY,cE,e]
theorem xh (k:κ): ∀kvs:cV (κ×V),(kvs.any λkv=>decide (kv.1=k))=(gY kvs k).isSome
 | []=>rfl
 | p::r=>by rw[List.any_cons];by_cases e:p.1=k;simp![rC e,bC e,Bool.true_or,ca];rw[rD e,aF e,Bool.false_or];show xh k r
def pH (kvs:cV (κ×V))(k:κ)(v:V):(lB kvs k v).length<=kvs.length+1:=by unfold lB;split;rw[ai];lia;rw[aK,aL,List.length_nil];lia
def ju.gw {o:fP V}{u:fP cW}(r:ju o u):o.isSome=u.isSome:=by
 cases o with
 | none=>cases u with
  | none=>rfl
  | some _=>show(show False from r).elim
 | some _=>cases u with
  | none=>show(show False from r).elim
  | some _=>rfl
def ju.getD {o:fP V}{u:fP cW}{d:V}{d':cW}(r:ju o u)(rd:RelV d d'):RelV (o.getD d) (u.getD d'):=by
 cases o with
 | none=>cases u with
  | none=>show rd
  | some _=>show(show False from r).elim
 | some _=>cases u with
  | none=>show(show False from r).elim
  | some _=>show r
def KV.val {kvs:cV (κ×V)}{vs:cV (κ×cW)}(r:KV kvs vs)(k:κ):ju (gY kvs k) (valueAt vs k):=by
 unfold KV at r;induction r with
 | nil=>show True.intro
 | @cons p q ps qs h t ih=>
  let⟨h1,h2⟩:=h;by_cases e:p.1=k;have e':q.1=k:=h1.symm.trans e;have b:valueAt (q::qs) k=some q.2:=by simp[valueAt,cE,e']
  rw[rC e,b];show h2;have e':¬q.1=k:=λz=>e (h1.trans z);have b:valueAt (q::qs) k=valueAt qs k:=by simp[valueAt,cE,e']
  rw[rD e,b];show ih
def KV.any {kvs:cV (κ×V)}{vs:cV (κ×cW)}(r:KV kvs vs)(k:κ):(kvs.any λkv=>decide (kv.1=k))=vs.any λkv=>decide (kv.1=k):=by
 unfold KV at r;induction r with
 | nil=>rfl
 | cons h t ih=>rw[List.any_cons,List.any_cons,ih,h.1]
def KV.Nb {kvs:cV (κ×V)}{vs:cV (κ×cW)}(r:KV kvs vs)(k:κ){y:V}{u:cW}(ry:RelV y u): KV (kvs.map λkv=>if kv.1=k then(kv.1,y) else kv) (vs.map λkv=>if kv.1=k then(kv.1,u) else kv):=by
 unfold KV at r ⊢;induction r with
 | nil=>show .nil
 | @cons p q ps qs h t ih=>rw[aN,aN];exact .cons ?_ ih;let⟨h1,h2⟩:=h;by_cases e:p.1=k;rw[am e,am (h1.symm.trans e)];show#[h1,ry];rw[ak e,ak (λz=>e (h1.trans z))];show#[h1,h2]
def KV.put {kvs:cV (κ×V)}{vs:cV (κ×cW)}(r:KV kvs vs)(k:κ){y:V}{u:cW}(ry:RelV y u):KV (lB kvs k y) (stored vs k u):=by unfold lB stored;rw[r.any k];by_cases e:(vs.any λkv=>decide (kv.1=k))=true;rw[am e,am e];show r.Nb k ry;rw[ak e,ak e];show Paired.snoc r #[rfl,ry]
def KV.drop {kvs:cV (κ×V)}{vs:cV (κ×cW)}(r:KV kvs vs)(k:κ):KV (kW kvs k) (without vs k):=by
 unfold KV at r ⊢;unfold kW without;induction r with
 | nil=>show .nil
 | @cons p q ps qs h t ih=>
  let⟨h1,h2⟩:=h;rw[List.filter_cons,List.filter_cons];by_cases e:p.1=k;have a:¬decide (p.1≠k)=true:=by simp[e]
  have b:¬decide (q.1≠k)=true:=by simp[h1.symm.trans e]
  rw[ak a,ak b];show ih;have e':¬q.1=k:=λz=>e (h1.trans z);have a:decide (p.1≠k)=true:=by simp[e]
  have b:decide (q.1≠k)=true:=by simp[e']
  rw[am a,am b];show .cons #[h1,h2] ih
def KV.keys {kvs:cV (κ×V)}{vs:cV (κ×cW)}(r:KV kvs vs):kvs.map (·.1)=vs.map (·.1):=by
 unfold KV at r;induction r with
 | nil=>rfl
 | cons h t ih=>rw[aN,aN,ih,h.1]
theorem KV.length {kvs:cV (κ×V)}{vs:cV (κ×cW)}(r:KV kvs vs):kvs.length=vs.length:=Paired.length r
theorem yE (kvs:cV (κ×V))(k:κ):(kW kvs k).length<=kvs.length:=List.length_filter_le _ _
end
def pL {P:RV}{w:W4}{k:cg}{u:cW}(r:RelV (kV k) u):(cJ P w).is k u=true:=by
 cases k with
 | inl i=>let⟨t,e⟩:=(show ∃t,u=Value.int i t from r);subst e;show xZ P w i t
 | inr x=>let⟨t,e⟩:=(show ∃t,u=Value.str x t from r);subst e;show xY P w x t
theorem uV {P:RV}{w:W4}: ∀ {ks:cV cg} {us:cV cW},b_ (ks.map kV) us ->ItemsAre (cJ P w) ks us
 | [],_,r=>by rw[List.map_nil] at r;cases r;show .nil
 | k::ks,_,r=>by
  rw[aN] at r;cases r with
  | cons h t=>show .cons (pL h) (uV t)
abbrev KT (H:Hp):cV (cV cg×V) ->cV (cV cg×gL×cW) ->Prop:=Paired λp q=>p.1=q.1 /\ H q.2.1=some (.tup (p.1.map kV)) /\ RelV p.2 q.2.2
def KT.val {H:Hp}{kvs:cV (cV cg×V)}{xs:cV (cV cg×gL×cW)}(r:KT H kvs xs)(k:cV cg):ju (gY kvs k) ((atKey xs k).map (·.2)):=by
 induction r with
 | nil=>show True.intro
 | @cons p q ps qs h t ih=>
  let⟨h1,_,h2⟩:=h;by_cases e:p.1=k;have e':q.1=k:=h1.symm.trans e;have b:atKey (q::qs) k=some q.2:=by simp[atKey,cE,e']
  rw[rC e,b];show h2;have e':¬q.1=k:=λz=>e (h1.trans z);have b:atKey (q::qs) k=atKey qs k:=by simp[atKey,cE,e']
  rw[rD e,b];show ih
def KT.Nb {H:Hp}{kvs:cV (cV cg×V)}{xs:cV (cV cg×gL×cW)}(r:KT H kvs xs)(k:cV cg){y:V}{u:cW}(ry:RelV y u): KT H (kvs.map λkv=>if kv.1=k then(kv.1,y) else kv) (xs.map (putAt k u)):=by
 induction r with
 | nil=>show .nil
 | @cons p q ps qs h t ih=>rw[aN,aN];exact .cons ?_ ih;let⟨h1,h2,h3⟩:=h;unfold putAt;by_cases e:p.1=k;rw[am e,am (h1.symm.trans e)];show#[h1,h2,ry];rw[ak e,ak (λz=>e (h1.trans z))];show#[h1,h2,h3]
def KT.put {H:Hp}{kvs:cV (cV cg×V)}{xs:cV (cV cg×gL×cW)}(r:KT H kvs xs)(k:cV cg){b:gL}{y:V}{u:cW}(hb:H b=some (.tup (k.map kV)))(ry:RelV y u): KT H (lB kvs k y) (storedH xs k b u):=by
 have e:(kvs.any λkv=>decide (kv.1=k))=(atKey xs k).isSome:=by rw[xh,(r.val k).gw,bR]
 unfold lB storedH;rw[e];by_cases q:(atKey xs k).isSome=true;rw[am q,am q];show r.Nb k ry;rw[ak q,ak q];show Paired.snoc r #[rfl,hb,ry]
theorem KT.keeps {H H':Hp}{kvs:cV (cV cg×V)}{xs:cV (cV cg×gL×cW)}(r:KT H kvs xs)(ht: ∀b ys,H b=some (.tup ys) ->H' b=some (.tup ys)):KT H' kvs xs:=Paired.NR r λ_ _ z=>#[z.1,ht _ _ z.2.1,z.2.2]
section
variable {P:RV}{w:W4}{H:Hp}{h:X4}{a:gL}
theorem Ly {u:HO}(ok:lA P w H h)(e:Rd H a u):dG P w H h a u:=e.ok ok
theorem nJ {kvs:cV (cg×V)}(ok:lA P w H h)(e:Rd H a (.dK kvs)):kvs.length<=sizeLine /\ (a==sysModules)=false /\ ∃vs,KV kvs vs /\ h.DictOf (cJ P w) a vs:=
 show dG P w H h a (.dK kvs) from Ly ok e
theorem ve {kvs:cV (cg×V)}(ok:lA P w H h)(e:H a=some (.dK kvs)):kvs.length<=sizeLine /\ (a==sysModules)=false /\ ∃vs,KV kvs vs /\ h.DictOf (cJ P w) a vs:=nJ ok (.inl e)
def oO {ks:cV cg}(ok:lA P w H h)(e:H a=some (.tup (ks.map kV))):(tupleKind (cJ P w)).is h ks a:=by
 let⟨_,bJ,r,o,h1,h2,n,h3,_⟩:=(show dG P w H h a (.tup (ks.map kV)) from ok a _ e)
 show#[o,bJ.toArray,n,h1,h2,h3, ⇑(uV r)]
def sU {kvs:cV (cV cg×V)}(ok:lA P w H h)(e:Rd H a (.dT kvs)):kvs.length<=sizeLine /\ (a==sysModules)=false /\∃xs,KT H kvs xs /\ h.DictOfH (tupleKind (cJ P w)) a xs:=by
 let⟨z,y,xs,r,o,es,ep,h1,h2,h3,h4,h5⟩:=(show dG P w H h a (.dT kvs) from Ly ok e)
 exact#[z,y,xs,r,o,es,ep,h1,h2,h3,h4,λx hx=> ?_,h5];have all: ∀ {l:cV (cV cg×V)} {m:cV (cV cg×gL×cW)},KT H l m -> ∀x∈m,(tupleKind (cJ P w)).is h x.1 x.2.1:=by
  intro l m q;induction q with
  | nil=>intro x hx;show nomatch hx
  | @cons p q ps qs hq t ih=>intro x hx;obtain e | hx:=aS.mp hx;subst e;show oO ok (by rw[<- hq.1];show hq.2.1);show ih x hx
 show all r x hx
theorem SS {kvs:cV (cV cg×V)}(ok:lA P w H h)(e:H a=some (.dT kvs)):kvs.length<=sizeLine /\ (a==sysModules)=false /\∃xs,KT H kvs xs /\ h.DictOfH (tupleKind (cJ P w)) a xs:=sU ok (.inl e)
end
def lG (H:Hp)(a:gL)(y:V)(r:fP V):Prop:=(cx λkvs k=>cT (Rd H a (.dK kvs)) (y=kV k) (r=gY kvs k)) \/ dQ λkvs k b=>eT (Rd H a (.dT kvs)) (y= .ref b) (H b=some (.tup (k.map kV))) (r=gY kvs k)
def HY (H:Hp)(a:gL)(y v:V)(H':Hp):Prop:=(cx λkvs k=>eT (H a=some (.dK kvs)) (y=kV k) (kvs.length<sizeLine) (H'=cF H a (.dK (lB kvs k v)))) \/dQ λkvs k b=>fS (H a=some (.dT kvs)) (y= .ref b) (H b=some (.tup (k.map kV))) (kvs.length<sizeLine) (H'=cF H a (.dT (lB kvs k v)))
theorem lG.k {H:Hp}{a:gL}{kvs:cV (cg×V)}{k:cg}(e:H a=some (.dK kvs)):lG H a (kV k) (gY kvs k):= .inl #[kvs,k, .inl e,rfl,rfl]
theorem HY.k {H:Hp}{a:gL}{kvs:cV (cg×V)}{k:cg}{v:V}(e:H a=some (.dK kvs))(hl:kvs.length<sizeLine):HY H a (kV k) v (cF H a (.dK (lB kvs k v))):= .inl #[kvs,k,e,rfl,hl,rfl]
section
variable {X:Cx}{af:cV (gL×Obj)}{σ:St}{H:Hp}{s:df}{a:gL}{y v:V}{u r:cW}{o:fP V}{A:X7}{E:cW ->df ->Prop}
def Inv.big (I:Inv X af σ H s):sysModules<s.heap.objs.size:=by have h:mainGlobals<s.heap.objs.size:=(I.mod.glob.keeps I.bk).lt;show Nat.lt_trans ⋯ h
def DQ {Q:cW ->df ->Prop}(hu:A.units+1<cLine)(I:Inv X af σ H s)(g:lG H a y (some v))(ry:RelV y u)(h: ∀w' s',Inv X af σ H s' ->RelV v w' ->Q w' s'): wpAny (model X.prog X.w) A (getItem (.ref a) u) Q E s:=by
 rcases g with⟨kvs,k,e,ey,l⟩ | ⟨kvs,k,b,e,ey,eb,l⟩
 subst ey;let⟨z,hd,vs,fG,dd⟩:=nJ I.cS e;let⟨w',hw,vN⟩:=ju.some_of (v:=v) (o:=valueAt vs k) (by rw[l];show fG.val k);show wpAny_getItem_of (pL ry) dd.mapOf hw (h w' _ (I.tok _) vN);subst ey;cases (show u=Value.ref b from ry);let⟨z,hd,xs,fG,dd⟩:=sU I.cS e;let⟨w',hw,vN⟩:=ju.some_of (v:=v) (o:=(atKey xs k).map (·.2)) (by rw[l];show fG.val k);let⟨p,hp,Xn⟩:=Option.map_eq_some_iff.mp hw;exact wpAny_getItem_heap (tupleKind_room_in1 hu) (oO I.cS eb) dd hp ?_;rw[Xn];show h w' _ (I.tok _) vN
def acP {Q:cW ->df ->Prop}(hu:A.units+1<cLine)(I:Inv X af σ H s)(g:lG H a y o)(ry:RelV y u)(h: ∀s',Inv X af σ H s' ->Q (.bool o.isSome) s'): wpAny (model X.prog X.w) A (compareOp .In u (.ref a)) Q E s:=by
 rcases g with⟨kvs,k,e,ey,l⟩ | ⟨kvs,k,b,e,ey,eb,l⟩
 subst ey;let⟨z,hd,vs,fG,dd⟩:=nJ I.cS e;exact wpAny_in_of (pL ry) hd dd.mapOf ?_;rw[<- (fG.val k).gw, <- l];show h _ (I.tok _);subst ey;cases (show u=Value.ref b from ry);let⟨z,hd,xs,fG,dd⟩:=sU I.cS e;exact wpAny_in_heap (tupleKind_room_in1 hu) (oO I.cS eb) hd dd ?_;have q:=(fG.val k).gw;rw[bR] at q;rw[<- q, <- l];show h _ (I.tok _)
def Km {Q:cW ->df ->Prop}(hu:A.units+1<cLine)(I:Inv X af σ H s)(g:lG H a y o)(ry:RelV y u)(h: ∀s',Inv X af σ H s' ->Q (.bool (!o.isSome)) s'): wpAny (model X.prog X.w) A (compareOp .NotIn u (.ref a)) Q E s:=by
 rcases g with⟨kvs,k,e,ey,l⟩ | ⟨kvs,k,b,e,ey,eb,l⟩
 subst ey;let⟨z,hd,vs,fG,dd⟩:=nJ I.cS e;exact wpAny_notIn_of (pL ry) hd dd.mapOf ?_;rw[<- (fG.val k).gw, <- l];show h _ (I.tok _);subst ey;cases (show u=Value.ref b from ry);let⟨z,hd,xs,fG,dd⟩:=sU I.cS e;exact wpAny_notIn_heap (tupleKind_room_in1 hu) (oO I.cS eb) hd dd ?_;have q:=(fG.val k).gw;rw[bR] at q;rw[<- q, <- l];show h _ (I.tok _)
theorem rn {h':X4}{t':Nat}{ob:HO}(I:Inv X af σ H s)(mu:Tj (H a))(hs:Heap.SameBut a s.heap h')(he: ∃q,h'.get? a=some q)(new:dG X.prog X.w (cF H a ob) h' a ob): Inv X af σ (cF H a ob) {s with heap:=h',toks:=t'}:=I.write (x:=a) (e:=a) mu (.inl rfl) (λb q hb z=>(hs.2 b hb).trans z) he new
theorem Av {P:RV}{w:W4}{H':Hp}{h':X4}{kvs:cV (cg×V)}{vs:cV (cg×cW)}(z:kvs.length<=sizeLine)(hd:(a==sysModules)=false)(fG:KV kvs vs)(dd:h'.DictOf (cJ P w) a vs): dG P w H' h' a (.dK kvs):=#[z,hd,vs,fG,dd]
def DP {H':Hp}{Q:Unit ->df ->Prop}(hu:A.units+1<cLine)(I:Inv X af σ H s)(g:HY H a y v H')(ry:RelV y u)(rv:RelV v r)(h: ∀s',Inv X af σ H' s' ->Q () s'): wpAny (model X.prog X.w) A (setItem (.ref a) u r) Q E s:=by
 rcases g with⟨kvs,k,e,ey,l,eH⟩ | ⟨kvs,k,b,e,ey,eb,l,eH⟩
 subst ey eH;let⟨z,hd,vs,fG,dd⟩:=ve I.cS e;have hz:vs.length<=sizeLine:=by rw[<- fG.length];show z
 have hl:(lB kvs k v).length<=sizeLine:=by have:=pH kvs k v;lia
 exact wpAny_setItem_pairs (hsz:=hz) (pL ry) dd λh' Ix hs=>h _ ?_;have he: ∃q,h'.get? a=some q:=let ⟨q,_,_,hq,_⟩:=Ix;#[q,hq]
 show rn I (by rw[e];show True.intro) hs he (Av hl hd (fG.put k rv) Ix);subst ey eH;cases (show u=Value.ref b from ry);let⟨z,hd,xs,fG,dd⟩:=SS I.cS e;have hz:xs.length<=sizeLine:=by rw[<- Paired.length fG];show z
 have hl:(lB kvs k v).length<=sizeLine:=by have:=pH kvs k v;lia
 exact wpAny_setItem_heap (hsz:=hz) (tupleKind_room_in1 hu) (oO I.cS eb) dd λh' Ix hs=>h _ ?_;let⟨q,es,ep,hq,h2,h3,h4,_,h5⟩:=Ix;exact rn I (by rw[e];show True.intro) hs #[q,hq] #[hl,hd,_,(fG.put k eb rv).keeps λc ys ec=> ?_,q,es,ep,hq,h2,h3,h4,h5];rw[bK (RD ec e (λz=>nomatch z))];show ec
end
section
variable {X:Cx}{af:cV (gL×Obj)}{σ:St}{H:Hp}{s:df}{a:gL}{kvs:cV (cg×V)}{k:cg}{u:cW}{A:X7}{E:cW ->df ->Prop}
def DS {Q:Unit ->df ->Prop}(I:Inv X af σ H s)(e:H a=some (.dK kvs))(ry:RelV (kV k) u)(l:(gY kvs k).isSome=true)(h: ∀s',Inv X af σ (cF H a (.dK (kW kvs k))) s' ->Q () s'): wpAny (model X.prog X.w) A (delItem (.ref a) u) Q E s:=by
 let⟨z,hd,vs,fG,dd⟩:=ve I.cS e;exact wpAny_delItem_slot dd.typeIs ⋯ PySem.F.slot_dict_delitem (call_meetsIn PySem.F.slot_dict_delitem dd.typeIs PySem.F.entry_dict_delitem (PySem.F.args_dict_delitem_2 _ _) (meets_dict_delitem_pairs (cJ X.prog X.w) a (pL ry)) #[vs,dd,by rw[<- fG.length];show z,by rw[<- (fG.val k).gw];show l,λh' Ix hs=>h _ ?_]);have he: ∃q,h'.get? a=some q:=let ⟨q,_,_,hq,_⟩:=Ix;#[q,hq]
 show rn I (by rw[e];show True.intro) hs he (Av (av (yE kvs k) z) hd (fG.drop k) Ix)
def SV {v:V}{more:cV cW}{Q:cW ->df ->Prop}(I:Inv X af σ H s)(e:H a=some (.dK kvs))(ry:RelV (kV k) u)(l:gY kvs k=some v)(hm:more= [] \/ ∃x,more= [x]) (h: ∀w' s',Inv X af σ (cF H a (.dK (kW kvs k))) s' ->RelV v w' ->Q w' s'):wpAny (model X.prog X.w) A (call (.builtin "dict.pop") (.ref a::u::more)) Q E s:=by
 let⟨z,hd,vs,fG,dd⟩:=ve I.cS e;let⟨w',hw,vN⟩:=ju.some_of (v:=v) (o:=valueAt vs k) (by rw[<- l];show fG.val k);have hp:(keyPart u).isSome=true:=by
  cases k with
  | inl i=>let⟨t,q⟩:=(show ∃t,u=Value.int i t from ry);subst q;rfl
  | inr x=>let⟨t,q⟩:=(show ∃t,u=Value.str x t from ry);subst q;rfl
 have ha:argsOk "dict.pop" #[.ref a::u::more,[]]:=by obtain q | ⟨x,q⟩:=hm;subst q;show PySem.F.args_dict_pop_2 _ _;subst q;show PySem.F.args_dict_pop_3 _ _ _
 exact call_meetsIn PySem.F.slot_dict_pop dd.typeIs PySem.F.entry_dict_pop ha (meets_dict_pop_there (cJ X.prog X.w) a (pL ry) more hm hp) #[vs,w',dd,by rw[<- fG.length];show z,hw,λh' Ix hs=>h w' _ ?_ vN];have he: ∃q,h'.get? a=some q:=let ⟨q,_,_,hq,_⟩:=Ix;#[q,hq]
 show rn I (by rw[e];show True.intro) hs he (Av (av (yE kvs k) z) hd (fG.drop k) Ix)
end
def OQ (i:Expr):Prop:= ∀ov iv,subscripted i false ov iv=operate [ov,iv] (getItem ov iv)
def IX {prog:RV}{w:W4}{A:X7}{E:cW ->df ->Prop}{s:df}{env:Env}{value slice:Expr}{pos:Pos}{T id:String}{Q:cW ->df ->Prop} (hl:typeLookup (.type T) "__getitem__" =pure (some (.builtin id))) (hs:OQ slice) (h:wpAny (model prog w) A (eval value env) (λo s₁=>wpAny (model prog w) A (eval slice env) (λi s₂=>s₂.TypeIs o T /\ wpAny (model prog w) A (getItem o i) Q E s₂) E s₁) E s): wpAny (model prog w) A (eval (.Subscript value slice pos) env) Q E s:=by
 exact Subscript_ (bz h (λo s₁ h₁=>bz h₁ (λi s₂ h₂=> ?_) λ_ _ x=>x) λ_ _ x=>x);let⟨hT,h₂⟩:=h₂;unfold subscriptTail;exact aw ?_;rw[getitemInPython_of_ne hT.not_modules];exact aw (wpAny_specialOf hT hl ?_);have fin:wpAny (model prog w) A (subscripted slice false o i) (λr s₃=>wpAny (model prog w) A (letTemporaryGo value o r >>=λ_=>pure r) Q E s₃) E s₂:=by rw[hs o i];show wpAny_operating (bz h₂ (λr s₃ h₃=>aw (wpAny_letTemporaryGo (aX h₃))) λ_ _ x=>x)
 first
 | show aX (aw fin)
 | show aw (aX (aw fin))
 | show aw fin
def yG {X:Cx}{af:cV (gL×Obj)}{σ:St}{H:Hp}{s:df}{a:gL}{y:V}{o:fP V}(I:Inv X af σ H s)(g:lG H a y o):s.TypeIs (.ref a) "dict" :=by
 rcases g with⟨kvs,k,e,_,_⟩ | ⟨kvs,k,b,e,_,_,_⟩
 let⟨_,_,vs,_,dd⟩:=nJ I.cS e;show dd.typeIs;let⟨_,_,xs,_,dd⟩:=sU I.cS e;show dd.typeIs
def E_ (td ty:TE):TE:=λσ H Q=>td σ H λx H1=>ty σ H1 λy H2=>cx λa v=>cT (x= .ref a) (lG H2 a y (some v)) (Q v H2)
def QI (ty td:TE):TE:=λσ H Q=>ty σ H λy H1=>td σ H1 λx H2=>cx λa o=>cT (x= .ref a) (lG H2 a y o) (Q (.bl o.isSome) H2)
def A9 (ty td:TE):TE:=λσ H Q=>ty σ H λy H1=>td σ H1 λx H2=>cx λa o=>cT (x= .ref a) (lG H2 a y o) (Q (.bl (!o.isSome)) H2)
def Lu (td ty tv:TE):TS:=λD σ H=>tv σ H λv H1=>td σ H1 λx H2=>ty σ H2 λy H3=>cx λa H4=>cT (x= .ref a) (HY H3 a y v H4) (D.nx σ H4)
def Lv (td ty:TE):TS:=λD σ H=>td σ H λx H1=>ty σ H1 λy H2=>dQ λa kvs k=>fS (x= .ref a) (H2 a=some (.dK kvs)) (y=kV k) ((gY kvs k).isSome=true) (D.nx σ (cF H2 a (.dK (kW kvs k))))
section
variable {X:Cx}{o i e value:Expr}{pos ko Qs:Pos}{td ty tv:TE}
def eo (hu:X.A.units+1<cLine)(ho:PE X o td)(hi:PE X i ty)(hs:OQ i):PE X (.Subscript o i pos) (E_ td ty):=by intro af s σ H Q I h;exact IX PySem.F.slot_dict_getitem.lookup hs (cN (ho af s σ H _ I h) λu s1 ⟨x,H1,I1,rx,q1⟩=>cN (hi af s1 σ H1 _ I1 q1) λiv s2 ⟨y,H2,I2,ry,a,v,ex,g,q2⟩=> ?_);subst ex;obtain rfl:u=Value.ref a:=rx;show#[yG I2 g,DQ hu I2 g ry λw' s3 I3 vN=>#[v,H2,I3,vN,q2]]
def zT (hu:X.A.units+1<cLine)(hi:PE X i ty)(ho:PE X o td):PC X .In i o (QI ty td):=by intro af s σ H Q I h;exact cN (hi af s σ H _ I h) λiv s1 ⟨y,H1,I1,ry,q1⟩=>cN (ho af s1 σ H1 _ I1 q1) λu s2 ⟨x,H2,I2,rx,a,ov,ex,g,q2⟩=> ?_;subst ex;obtain rfl:u=Value.ref a:=rx;show acP hu I2 g ry λs3 I3=>#[.bl ov.isSome,H2,I3,rfl,q2]
def i0 (hu:X.A.units+1<cLine)(hi:PE X i ty)(ho:PE X o td):PC X .NotIn i o (A9 ty td):=by intro af s σ H Q I h;exact cN (hi af s σ H _ I h) λiv s1 ⟨y,H1,I1,ry,q1⟩=>cN (ho af s1 σ H1 _ I1 q1) λu s2 ⟨x,H2,I2,rx,a,ov,ex,g,q2⟩=> ?_;subst ex;obtain rfl:u=Value.ref a:=rx;show Km hu I2 g ry λs3 I3=>#[.bl (!ov.isSome),H2,I3,rfl,q2]
def ls (hu:X.A.units+1<cLine)(ho:PE X o td)(hi:PE X i ty)(hv:PE X value tv)(hs:swapsWith value (some (.Subscript o i ko)) pos.line X.env=pure false): PS X (.Assign [.Subscript o i ko] value pos) (Lu td ty tv):=by intro af s σ H D I h;exact wpAny_Assign_Subscript (cN (hv af s σ H _ I h) λr s1 ⟨v,H1,I1,rv,q1⟩=>cN (ho af s1 σ H1 _ I1 q1) λu s2 ⟨x,H2,I2,rx,q2⟩=>cN (hi af s2 σ H2 _ I2 q2) λiv s3 ⟨y,H3,I3,ry,a,H4,ex,g,q3⟩=> ?_) hs;subst ex;obtain rfl:u=Value.ref a:=rx;show DP hu I3 g ry rv λs4 I4=>#[σ,H4,I4,q3]
def Ji (ho:PE X o td)(hi:PE X i ty):PS X (.Delete [.Subscript o i Qs] pos) (Lv td ty):=by intro af s σ H D I h;exact wpAny_Delete (wpAny_deleteEach_cons (wpAny_delete_Subscript (cN (ho af s σ H _ I h) λu s1 ⟨x,H1,I1,rx,q1⟩=>cN (hi af s1 σ H1 _ I1 q1) λiv s2 ⟨y,H2,I2,ry,a,kvs,k,ex,e,ey,l,q2⟩=> ?_)));subst ex ey;obtain rfl:u=Value.ref a:=rx;show DS I2 e ry l λs3 I3=>wpAny_deleteEach_nil #[σ,_,I3,q2]
end
theorem G_ {P:RV}{w:W4}{H:Hp}(h:X4)(hb:sysModules<h.objs.size):dG P w H (h.push {cls:= .type "dict",data:= .dict #[]}) h.objs.size (.dK []):=#[cZ _,beq_eq_false_iff_ne.mpr (de (bu hb)),[], .nil,Heap.DictOf.new h]
def E7:TE:=λ_ H Q=> ∀p,H p=none ->Q (.ref p) (cF H p (.dK []))
section
variable {X:Cx}{pos:Pos}
theorem iY:PE X (.Dict [] [] pos) E7:=λaf s σ H Q I h=>wpAny_Dict_empty #[.ref s.heap.objs.size,_,I.laid (a:=s.heap.objs.size) (o:= .dK []) (t':=s.toks) (λ_ _ q=>ar _ q) (ao _) (G_ s.heap I.big),rfl,h _ (I.cS.fresh (ao _))]
end
structure M1 (X:Cx)(o:Expr)(m:Str)(dz:Pos)(e:Expr)(dy:Pos):Prop where
 base:attributeBase o m X.env (eval o X.env)=eval o X.env
 Ar:((backTo dy (starEach [e] X.env)).all (λx=> !x.1) && (backToKw dy (keywordEach [] X.env)).all (λx=>x.1.isSome) && decide (([e]:List Expr).length+([]:List Keyword).length+(if([]:List Keyword).isEmpty then 0 else 1) <30))=true
 line:(dz.endLine==dy.line)=true
 trees:backTo dy (starEach [e] X.env)= [(false,eval e X.env)]
structure M2 (X:Cx)(o:Expr)(m:Str)(dz:Pos)(e f:Expr)(dy:Pos):Prop where
 base:attributeBase o m X.env (eval o X.env)=eval o X.env
 Ar:((backTo dy (starEach [e,f] X.env)).all (λx=> !x.1) && (backToKw dy (keywordEach [] X.env)).all (λx=>x.1.isSome) && decide (([e,f]:List Expr).length+([]:List Keyword).length+(if([]:List Keyword).isEmpty then 0 else 1) <30))=true
 line:(dz.endLine==dy.line)=true
 trees:backTo dy (starEach [e,f] X.env)= [(false,eval e X.env),(false,eval f X.env)]
def IsD (H:Hp)(a:gL):Prop:=(∃kvs,Rd H a (.dK kvs)) \/ ∃kvs,Rd H a (.dT kvs)
def Ai {X:Cx}{af:cV (gL×Obj)}{σ:St}{H:Hp}{s:df}{a:gL}(I:Inv X af σ H s)(d:IsD H a): s.TypeIs (.ref a) "dict" /\ (∀b,Value.ref a= .ref b -> ∃ob,s.heap.get? b=some ob /\ ob.dict=none) /\ (a==sysModules)=false:=by
 rcases d with⟨kvs,e⟩ | ⟨kvs,e⟩
 let⟨_,hd,vs,_,dd⟩:=nJ I.cS e;exact#[dd.typeIs,λb q=> ?_,hd];cases q;let⟨ob,_,_,h1,h2,_⟩:=dd;show#[ob,h1,h2.2.1];let⟨_,hd,xs,_,dd⟩:=sU I.cS e;exact#[dd.typeIs,λb q=> ?_,hd];cases q;let⟨ob,_,_,h1,h2,_⟩:=dd;show#[ob,h1,h2.2.1]
section
variable {X:Cx}{af:cV (gL×Obj)}{σ:St}{H:Hp}{s:df}{a:gL}{y d:V}{u r:cW}{o:fP V}{A:X7}{E:cW ->df ->Prop}
def OI {Q:cW ->df ->Prop}(hu:A.units+1<cLine)(I:Inv X af σ H s)(g:lG H a y o)(ry:RelV y u)(rd:RelV d r)(h: ∀w' s',Inv X af σ H s' ->RelV (o.getD d) w' ->Q w' s'): wpAny (model X.prog X.w) A (call (.builtin "dict.get") [.ref a,u,r]) Q E s:=by
 rcases g with⟨kvs,k,e,ey,l⟩ | ⟨kvs,k,b,e,ey,eb,l⟩
 subst ey;let⟨z,hd,vs,fG,dd⟩:=nJ I.cS e;exact call_meetsIn PySem.F.slot_dict_get dd.typeIs PySem.F.entry_dict_get (PySem.F.args_dict_get_3 _ _ _) (meets_dict_get_default (cJ X.prog X.w) a (pL ry) hd r) #[_,dd.mapOf,h _ _ (I.tok _) ?_];rw[l];show(fG.val k).getD rd;subst ey;cases (show u=Value.ref b from ry);let⟨z,hd,xs,fG,dd⟩:=sU I.cS e;exact call_meetsIn PySem.F.slot_dict_get dd.typeIs PySem.F.entry_dict_get (PySem.F.args_dict_get_3 _ _ _) (meetsH_dict_get_default (tupleKind (cJ X.prog X.w)) a b hd r) #[tupleKind_room_in1 hu,k,xs,oO I.cS eb,dd,h _ _ (I.tok _) ?_];rw[l];show(fG.val k).getD rd
end
def E9 (td ty tx:TE):TE:=λσ H Q=>td σ H λx H1=> ∃a,cT (x= .ref a) (IsD H1 a) (ty σ H1 λy H2=>tx σ H2 λz H3=> ∃o,lG H3 a y o /\ Q (o.getD z) H3)
def E6 (td ty:TE):TE:=λσ H Q=>td σ H λx H1=> ∃a,cT (x= .ref a) (IsD H1 a) (ty σ H1 λy H2=>dQ λkvs k v=>eT (H2 a=some (.dK kvs)) (y=kV k) (gY kvs k=some v) (Q v (cF H2 a (.dK (kW kvs k)))))
section
variable {X:Cx}{o e f:Expr}{dz dy:Pos}{td ty tx:TE}
def xN (hu:X.A.units+1<cLine)(ho:PE X o td)(he:PE X e ty)(hf:PE X f tx)(m:M2 X o "get" dz e f dy):PE X (.Call (.Attribute o "get" dz) [e,f] [] dy) (E9 td ty tx):=by intro af s σ H Q I h;exact wpAny_Call_method m.base m.Ar m.line PySem.F.plainAttrs_dict PySem.F.slot_dict_get PySem.F.type_dict_get (cN (ho af s σ H _ I h) λu s1 ⟨x,H1,I1,rx,a,ex,d,q1⟩=> ?_);subst ex;obtain rfl:u=Value.ref a:=rx;let⟨t1,t2,_⟩:=Ai I1 d;exact#[t1,t2,?_];rw[m.trees];exact Calls.callWith_builtin rfl (Calls.evalArgs_plain (Calls.spliced_cons (cN (he af s1 σ H1 _ I1 q1) λiv s2 ⟨y,H2,I2,ry,q2⟩=>Calls.spliced_cons (cN (hf af s2 σ H2 _ I2 q2) λfv s3 ⟨z,H3,I3,rz,ov,g,q3⟩=>Calls.spliced_nil ?_))));show OI hu I3 g ry rz λw' s4 I4 vN=>#[_,H3,I4,vN,q3]
def xM (ho:PE X o td)(he:PE X e ty)(m:M1 X o "pop" dz e dy):PE X (.Call (.Attribute o "pop" dz) [e] [] dy) (E6 td ty):=by intro af s σ H Q I h;exact wpAny_Call_method m.base m.Ar m.line PySem.F.plainAttrs_dict PySem.F.slot_dict_pop PySem.F.type_dict_pop (cN (ho af s σ H _ I h) λu s1 ⟨x,H1,I1,rx,a,ex,d,q1⟩=> ?_);subst ex;obtain rfl:u=Value.ref a:=rx;let⟨t1,t2,_⟩:=Ai I1 d;exact#[t1,t2,?_];rw[m.trees];exact Calls.callWith_builtin rfl (Calls.evalArgs_plain (Calls.spliced_cons (cN (he af s1 σ H1 _ I1 q1) λiv s2 ⟨y,H2,I2,ry,kvs,k,v,ea,ey,l,q2⟩=>Calls.spliced_nil ?_)));subst ey;show SV I2 ea ry l (.inl rfl) λw' s3 I3 vN=>#[v,_,I3,vN,q2]
end
end L2
namespace Att
open PySem PySem.W PySem.Calls PyProof.Rows
def qC {P:Params}{h:X4}: ∀ (ns:cV Int) (vs:cV cW),WellAll P h vs (ns.map WData.int) ->IntsAre vs ns:=by
 intro ns;induction ns with
 | nil=>intro vs w;rw[List.map_nil] at w;cases w;show .nil
 | cons n ns ih=>
  intro vs w;rw[aN] at w;cases w with
  | cons a b=>cases a;show .cons _ _ (ih _ b)
def C1 {l:OpenLaw}{n:Nat}(hn:l.most=some n){P:Params}{h:X4}{args:cV WData}{vals:cV cW} (J5:l.row.toRowW.claim.pre args=true) (W8:WellAll P h vals args): dQ λa vs ns=>fS (vals= [Value.ref a]) (args= [WData.list (ns.map WData.int)]) (h.get? a=some {cls:= .type "list",data:= .seq vs.toArray}) (IntsAre vs ns) (ns.length<=n):=by
 have hsh:WShape.hasAll [] args [.list .int]=true:=(pre_splitW J5).1;have hc:l.pre.holds [] {args:=args}=true:=(pre_splitW J5).2;let⟨d,r,rfl,h1,h2⟩:=hasAllW_cons hsh;obtain rfl:=hasAllW_nil h2;let⟨xs,rfl,h3⟩:=hasW_list h1;let⟨ns,rfl⟩:=items_int h3;have d3:ns.length<=n:=by
  unfold OpenLaw.pre at hc;have h4:(WTm.not (.lt (.lit (.int (n:Int))) (.len (.arg 0)))).holds [] {args:= [.list (ns.map .int)]}=true:=by have h4:=(holds_andW hc).1;rw[hn] at h4;show h4
  have h5:=condW_of h4 (w_not (w_lt w_lit (w_len_list (w_arg rfl))));rw[ai] at h5;exact Nat.le_of_not_lt λq=> ?_;have q':(n:Int) < ((ns.length:Nat):Int):= ∅;first
  | (rw[bC q'] at h5;show absurd h5 ⋯)
  | (simp at h5;lia)
 cases W8 with
 | cons w1 w2=>
  cases w2;cases w1 with
  | list ho uk=>show#[_,_,ns,rfl,rfl,ho,qC ns _ uk,d3]
theorem C7 (l:OpenLaw)(args:cV WData):l.row.toRowW.claim.post args (.bool true) args=true:=postW_of (r:=l.row.toRowW) (X:=(true==true)) (show WShape.has [] (.bool true) .bool=true by first | rfl | decide | simp[WShape.has,WShape.arms,WShape.armsAll]) (show(WTm.eq .res (.lit (.bool true))).value [] {args:=args,res:=some (.bool true),after:=args}=some (.bool (true==true)) from w_eq_bool (w_res rfl) w_lit) rfl
def yV {l:OpenLaw}{n:Nat}{q:RV}{uP:cV Str}{XP:(Str ->fP cW) ->X4 ->Prop}{YP:W4 ->X4 ->Prop}{d:DefRec} (hn:l.most=some n) (Ot:d.params.defaults= []) (call: ∀ (w:W4) (s₀ s₁:df) (mg mb:Str ->fP cW) (fa:gL) (o:Obj) (pm cd iH:cW) (a:gL) (vs:cV cW) (ns:cV Int),Ground q uP [] XP w s₀ mg mb s₁.heap ->YP w s₁.heap ->s₁.heap.get? fa=some o ->o.data= .func (docDef d.name d.params d.body d.scope pm cd iH) ->s₁.heap.CodeRec cd d.name ->mg d.name=some (.ref fa) ->s₁.heap.get? a=some {cls:= .type "list",data:= .seq vs.toArray} ->IntsAre vs ns ->ns.length<=n ->s₁.gens= #[] ->codeAny (model l.prog w) callerA (.call (.ref fa) #[[.ref a],[]]) (λr s'=>r= .ok (.ret (.bool true)) /\ OldK s₁.heap s'.heap /\ s'.os=s₁.os /\ AllBare s'.gens) s₁): WalkO q uP XP YP l.row.toRowW d [] (λf vs=>PySem.call f vs):=by intro w s₀ s₁ mg mb G Y fa o pm cd iH dV kV ho hd Cd hD Xw hg args vals as J5 adC hrd W8 Oj;obtain rfl:dV= .none:=Dflts.none hD Ot;obtain rfl:kV= .none:=Dflts.noKw hD;let⟨a,vs,ns,rfl,rfl,Oe,GO,d3⟩:=C1 hn J5 W8;exact enter_call (codeAny_mono (call w s₀ s₁ mg mb fa o pm cd iH a vs ns G Y ho (fd_plain hd) Cd Xw Oe GO d3 hg) λr s' hq=> ?_);let⟨rfl,h2,h3,h4⟩:=hq;show#[.inl #[.bool true, .bool true,[],rfl,λ_=>rfl, .bool true,C7 l _,λ_=>#[List.Pairwise.nil,λ_ hm=>(nomatch hm)]],h2,h3,h4]
end Att
namespace L2
open PySem PySem.Spec PyProof.Rows
theorem oi: ∀ {vs:cV cW} {ns:cV Int},IntsAre vs ns ->b_ (ns.map V.int) vs
 | _,_, .nil=> .nil
 | _,_, .cons n t h=> .cons #[t,rfl] (oi h)
def OP (H:Hp):Prop:= ∀b,H b=none \/ ∃o xs,H b=some (.jV o (.lst xs))
def Gf {P:RV}{w:W4}{K:RS}{mg mb:Str ->fP cW}{CX:zl}{k:Nat}{fa a:gL}{fd:X6}{x:Str}{sp:Sp}{s₁:df}{vs:cV cW}{ns:cV Int} (KX:K.In s₁.heap) (qM:s₁.heap.Ns mainGlobals mg) (hb:s₁.heap.Ns builtinsNs mb) (hbb: ∀x:Str,x≠ "__name__" ->mb x=bootBuiltins x) (Xy:s₁.heap.NoLimit) (hg:s₁.gens= #[]) (ha:s₁.heap.get? a=some {cls:= .type "list",data:= .seq vs.toArray}) (hi:IntsAre vs ns) (hl:ns.length<=sizeLine) (hr:dX k callerA) (F: ∀base:X4,K.In base ->base.Ns mainGlobals mg ->bA P w K mg base CX k fa fd [x] sp) (Su: ∀ (s:df) (u:cW),BindsTo s fd #[[u],[]] [(x,u)]) (zu: ∀H:Hp,OP H ->gT K H a (ns.map V.int) ->sp [.ref a] H (λv _=>v= .bl true) λ_ _ _=>False) (X1: ∀H e s',CX [] H s₁ (λ_ _ _=>False) e s' ->False): codeAny (model P w) callerA (.call (.ref fa) #[[.ref a],[]]) (λr s'=>r= .ok (.ret (.bool true)) /\ OldK s₁.heap s'.heap /\ s'.os=s₁.os /\ AllBare s'.gens) s₁:=by
 have rv:=oi hi;have WF:=hi.length;have core : ∀H:Hp,OP H ->gT K H a (ns.map V.int) ->lA P w H s₁.heap ->(∀b,H b≠none ->b=a) ->(H a≠none ->K.lookup a=none) ->codeAny (model P w) callerA (.call (.ref fa) #[[.ref a],[]]) (λr s'=>r= .ok (.ret (.bool true)) /\ OldK s₁.heap s'.heap /\ s'.os=s₁.os /\ AllBare s'.gens) s₁:=by
  intro H hO hS cS hA hK;have CK: ∀ {b:gL} {o:Obj},s₁.heap.get? b=some o ->H b=none ->(wx s₁.heap H).get? b=some o:=λe n=>GP e n;have LK: ∀ {b:gL} {o:Obj} {es:RQ DictEntry} {ep:Nat},s₁.heap.get? b=some o ->o.data= .dict es ep ->H b=none:=λ{b o es ep} e d=>by
   cases q:H b with
   | none=>rfl
   | some u=>have e':b=a:=hA b (by rw[q];simp);subst e';rw[ha] at e;cases e;have d':Data.seq vs.toArray _=Data.dict es ep:=d;cases d'
  have UA: ∀ {b:gL} {m:Str ->fP cW},s₁.heap.Ns b m ->(wx s₁.heap H).Ns b m:=λ{b m} ⟨o,es,ep,e,d,r⟩=>#[o,es,ep,CK e (LK e d),d,r]
  have hKb:K.In (wx s₁.heap H):=λb o e=>CK (KX b o e) (by
   cases q:H b with
   | none=>rfl
   | some u=>have e':b=a:=hA b (by rw[q];simp);subst e';rw[hK (by rw[q];simp)] at e;cases e)
  have hM:Mod K mg (wx s₁.heap H):=#[hKb,UA qM,#[mb,UA hb,hbb],let ⟨mc,h1,h2⟩:=Xy;#[mc,UA h1,h2]]
  have e0:AQ P w K mg (wx s₁.heap H) callerA [] s₁ H:=#[rfl,hM,λb o e=>JC e,Nat.le_of_eq (DH _ _),trivial,λb hb=>absurd (show b∈([]:cV gL) from hb) (by simp),cS, .of_eq hg]
  exact codeAny_mono ((F _ hKb (UA qM)).run callerA [] s₁ H #[[.ref a],[]] [.ref a] [.ref a] _ _ hr e0 (Su s₁ (.ref a)) (.cons rfl .nil) (zu H hO hS)) λr s' h=> ?_;cases r with
  | error e=>show(X1 H e s' h).elim
  | ok fl =>
   cases fl with
   | next=>show False.elim h
   | brk=>show False.elim h
   | cont=>show False.elim h
   | ret u=>
    let⟨v,H',os,bare,un,Xq,r',q⟩:=h;have q':v= .bl true:=q;subst q';obtain rfl:u=Value.bool true:=r';exact#[rfl,OldK.of_keep λb o e=> ?_,os,bare];cases q:H b with
    | none=>show un.keep b o e q (by intro z;show absurd (show b∈([]:cV gL) from z) (by simp)) (by simp)
    | some u=>obtain z | ⟨ob,xs,z⟩:=hO b;rw[q] at z;cases z;have z2:=un.lE b ob _ z;let⟨e1,_⟩:=cS b _ z;let⟨e2,_⟩:=Xq b _ z2;rw[e] at e1;cases e1;show e2
 cases hk:K.lookup a with
 | some o=>have e:=KX a o hk;rw[ha] at e;cases e;exact core (λ_=>none) (λ_=> .inl rfl) (.inr #[_,vs.toArray,_,hk,rfl,rfl,rfl,by rw[aI,WF];show hl, ⇑rv]) (λb u z=>by have z':(none:fP HO)=some u:=z;cases z') (λb z=>absurd rfl z) λz=>absurd rfl z
 | none=>exact core (λb=>if b=a then some (.jV {cls:= .type "list",data:= .seq vs.toArray} (.lst (ns.map V.int))) else none) (λb=> ?_) (.inl (.inr #[{cls:= .type "list",data:= .seq vs.toArray},am rfl])) (λb u z=> ?_) (λb z=> ?_) λ_=>hk;by_cases hb:b=a;show .inr #[_,_,am hb];show .inl (ak hb);by_cases hb:b=a;have z':=(am hb).symm.trans z;cases z';subst hb;show#[ha,by rw[ai];show hl,vs,_,rv,ha];have z':=(ak hb).symm.trans z;cases z';by_cases hb:b=a;show hb;show absurd (ak hb) z
def IF {l:W.OpenLaw}{n k:Nat}{q:RV}{uP:cV Str}{XP:(Str ->fP cW) ->X4 ->Prop}{YP:W4 ->X4 ->Prop}{d:DefRec}{K:Params ->RS}{CX:W4 ->zl}{sp:W4 ->Sp}{x:Str} (hn:l.most=some n) (DG:n<=sizeLine) (Ot:d.params.defaults= []) (hr:dX k callerA) (hY: ∀ (w:W4) (h:X4),YP w h ->(K w.params).In h) (F : ∀ (w:W4) (mg:Str ->fP cW) (fa:gL) (h:X4),(K w.params).In h ->h.Ns mainGlobals mg ->mg d.name=some (.ref fa) ->∃ fd:X6,(∀ (s:df) (u:cW),BindsTo s fd #[[u],[]] [(x,u)]) /\∀base:X4,(K w.params).In base ->base.Ns mainGlobals mg ->bA l.prog w (K w.params) mg base (CX w) k fa fd [x] (sp w)) (zu: ∀ (w:W4) (H:Hp) (a:gL) (ns:cV Int),ns.length<=n ->OP H ->gT (K w.params) H a (ns.map V.int) ->sp w [.ref a] H (λv _=>v= .bl true) λ_ _ _=>False) (X1: ∀ (w:W4) (H:Hp) (s:df) (e:cW) (s':df),CX w [] H s (λ_ _ _=>False) e s' ->False): W.WalkO q uP XP YP l.row.toRowW d [] (λf vs=>PySem.call f vs):=by exact Att.yV hn Ot λw s₀ s₁ mg mb fa o pm cd iH a vs ns G Y ho hd Cd Xw Oe GO d3 hg=> ?_;have KX:=hY w _ Y;let⟨fd,hb,hF⟩:=F w mg fa _ KX G.T.g Xw;show Gf KX G.T.g G.T.b G.T.builtins G.T.nolimit hg Oe GO (av d3 DG) hr hF hb (λH hO hS=>zu w H a ns d3 hO hS) λH e s'=>X1 w H s₁ e s'
nonrec def eD (s:Stmt):Arguments:=match s with
 | .FunctionDef _ a _ _ _ _ _ _ _ _=>a
 | _=> {posonlyargs:= [],args:= [],vararg:=none,kwonlyargs:= [],kw_defaults:= [],kwarg:=none,defaults:= []}
nonrec def dt (s:Stmt):cV Stmt:=match s with
 | .FunctionDef _ _ b _ _ _ _ _ _ _=>b
 | _=> []
nonrec def aP (s:Stmt):Scope:=match s with
 | .FunctionDef _ _ _ _ _ _ sc _ _ _=>sc
 | _=> {kind:= .function,names:= [],isGenerator:=false,isCoroutine:=false}
abbrev eU:zl:=λ_ _ _ _ _ _=>False
abbrev E0:XK:=λ_ _ _=>False
theorem BD {X:Cx}:gi eU X E0:=λ_ _ _ _ _ _ _ h=>h.elim
structure za (K:PySem.W.Frag)(x qual:Str)(st:Stmt)(f:Addr)(fd:FuncData):Prop where
 ex:XE8 λ(oc:Value) (od:Option Addr) (kV iH pm:Value) (an:Option Addr) (cdv ct:Value)=> ∃ (zX:Array (Option Value)),cT (fd=PySem.W.fnOf x qual (eD st) (dt st) (aP st) .none kV iH pm an cdv ct) (K.lookup f=some #[oc,od, .func fd,zX]) (PySem.W.codeIn K cdv qual=true)
 kp:PySem.W.keepIn K (.ref f)=true
section
variable {P:RV}{w:W4}{K:RS}{mg:Str ->fP cW}{base:X4}
def za.ok {x qual:Str}{st:Stmt}{f:gL}{fd:X6}{N ps:cV Str}{k:Nat}{sp:Sp}(F:za K x qual st f fd)(S:cq N ps (aP st))(len: ∀vs H Q E,sp vs H Q E ->vs.length=ps.length) (i_: ∀ (cdv:cW) (A:X7) (outer:cV Env) (s:df) (H:Hp) (vs:cV V) (Q:VK) (E:XK),dX k (A.deeper (envOfC qual (aP st) s.heap.objs.size f cdv)) ->sp vs H Q E ->∃t,wZ (d0 eU P w K mg base N qual (aP st) f cdv A outer s H E).Ia (dt st) t /\ t {nx:=λ_ H'=>Q .dO H',rt:=Q} (start N vs) H):bA P w K mg base eU (k+1) f fd ps sp:=by let⟨oc,od,kV,iH,pm,an,cdv,ct,zX,rfl,lk,Cd⟩:=F.ex;exact Me lk Cd S len λA outer s H vs Q E hr zu=> ?_;let⟨t,h,q⟩:=i_ cdv A outer s H vs Q E hr zu;show#[t,h.Ia,q]
def za.binds {x qual:Str}{st:Stmt}{f:gL}{fd:X6}{ps:cV Str}(F:za K x qual st f fd) (h: ∀ (kV iH pm:cW) (an:fP gL) (cdv ct:cW) (us:cV cW),us.length=ps.length ->bindArgs (W.fnOf x qual (eD st) (dt st) (aP st) .none kV iH pm an cdv ct) #[us,[]]=pure (ps.zip us)):Binds K fd ps []:=by let⟨oc,od,kV,iH,pm,an,cdv,ct,zX,rfl,lk,Cd⟩:=F.ex;show .all (h kV iH pm an cdv ct)
theorem oZ {x qual:Str}{st:Stmt}{f:gL}{oc:cW}{od an:fP gL}{zX:RQ (fP cW)}{kV iH pm cdv ct:cW}(l:K.lookup f=some #[oc,od, .func (W.fnOf x qual (eD st) (dt st) (aP st) .none kV iH pm an cdv ct),zX]) (c:W.codeIn K cdv qual=true) (k:W.keepIn K (.ref f)=true):za K x qual st f (W.fnOf x qual (eD st) (dt st) (aP st) .none kV iH pm an cdv ct):=#[#[oc,od,kV,iH,pm,an,cdv,ct,zX,rfl,l,c],k]
end
theorem dF {A:X7}{k:Nat}(hr:dX k A):A.units+1<cLine:=Nat.lt_of_le_of_lt (Nat.add_le_add_left (by decide:1<=64) _) hr.units
section
variable {X:Cx}
theorem pv (i:Nat){x:Str}{pos:Pos}(hN:X.N[i]? =some x:=by rfl)(hv:Tf X.env.scope x:=by first | show Or.inl rfl | show Or.inr (Or.inl rfl) | show Or.inr (Or.inr rfl))(hd:(x==("__debug__" :Str))=false:=by decide) (Cd:(x==("__classdict__" :Str))=false:=by decide):PE X (.Name x pos) (IW i):=Nl hN hv hd Cd
end
def fI (H H':Hp):Prop:= ∀b o,H b=some o ->H' b=some o
section
variable {κ:Type} [DecidableEq κ]
theorem BK: ∀ {l:cV κ} {k:κ},l.Nodup ->¬k∈l ->(l++ [k]).Nodup
 | [],k,_,_=>by simp
 | a::r,k,h,hk=>by let⟨h1,h2⟩:=List.nodup_cons.mp h;change(a::(r++ [k])).Nodup;exact List.nodup_cons.mpr #[λm=> ?_,BK h2 λm=>hk (aS.mpr (Or.inr m))];obtain q | q:=bh.mp m;show h1 q;show hk (aS.mpr (Or.inl (a_.mp q).symm))
end
def cG {α:Type}{x y:Str}{c:α}{l:cV (Str×α)}:((y,c)::l).lookup x=if x=y then some c else l.lookup x:=by by_cases h:x=y;subst h;simp[List.lookup_cons];rw[ak h,List.lookup_cons];have:(x==y)=false:= ⇑h;rw[this]
theorem jq {env:Env}: ∀ (names:cV (Str×NameKind)) (fq:cV (Str×gL)),(∀y∈names,y.2= .free -> ∃c,env.cells.lookup y.1=some c) ->(∀x c,fq.lookup x=some c ->env.cells.lookup x=some c) ->∃cl,eT ((forIn names fq λx s=>if(x.snd==NameKind.free)=true then(do let c <- cellOf env x.fst;pure (ForInStep.yield ((x.fst,c)::s)):Sem _) else pure (ForInStep.yield s))=(pure cl:Sem (cV (Str×gL)))) (∀x c,cl.lookup x=some c ->env.cells.lookup x=some c) (∀x,(fq.lookup x).isSome=true ->(cl.lookup x).isSome=true) (∀y∈names,y.2= .free ->(cl.lookup y.1).isSome=true)
 | [],fq,_,h2=>#[fq,rfl,h2,λ_ h=>h,λ_ h=>absurd h (by simp)]
 | (n, k)::r,fq,h1,h2=>by
  by_cases hk:k=NameKind.free;subst hk;let⟨c,hc⟩:=h1 (n, .free) List.mem_cons_self rfl;have Mb: ∀x c',((n,c)::fq).lookup x=some c' ->env.cells.lookup x=some c':=λx c' e=>by rw[cG] at e;by_cases hx:x=n;rw[am hx] at e;cases e;rw[hx];show hc;rw[ak hx] at e;show h2 x c' e
  let⟨cl,e1,e2,e3,e4⟩:=jq r ((n,c)::fq) (λy hy=>h1 y (c5 _ hy)) Mb;exact#[cl,?_,e2,λx hx=>e3 x ?_,λy hy hf=> ?_];rw[List.forIn_cons];have:cellOf env n=pure c:=by unfold cellOf;rw[hc]
  simp![beq_self_eq_true,bX,this,pure_bind];show e1;rw[cG];by_cases RZ:x=n;rw[am RZ];rfl;rw[ak RZ];show hx;obtain rfl | hy:=aS.mp hy;exact e3 n ?_;rw[cG,am rfl];rfl;show e4 y hy hf;let⟨cl,e1,e2,e3,e4⟩:=jq r fq (λy hy=>h1 y (c5 _ hy)) h2;exact#[cl,?_,e2,e3,λy hy hf=> ?_];rw[List.forIn_cons];have:(k==NameKind.free)=false:= ⇑hk;simp![this,ay,bv,pure_bind];show e1;obtain rfl | hy:=aS.mp hy;show absurd hf hk;show e4 y hy hf
def tq {scope:Scope}{env:Env}(h: ∀y∈scope.names,y.2= .free -> ∃c,env.cells.lookup y.1=some c): ∃cl,cT (closureFor scope env=pure cl) (∀x c,cl.lookup x=some c ->env.cells.lookup x=some c) (∀y∈scope.names,y.2= .free ->(cl.lookup y.1).isSome=true):=by let⟨cl,e1,e2,_,e4⟩:=jq scope.names [] h (λ_ _ e=>by simp at e);exact#[cl,?_,e2,e4];simp![closureFor];rw[e1,pure_bind]
theorem gG {env:Env}: ∀ {names:cV (Str×NameKind)} {x:Str} {k:NameKind},(names.map λ(n,k)=>if(k==NameKind.free && env.scope.kind== .function && env.kindOf n==some .cell) then(n,NameKind.cell) else(n,k)).lookup x=some k ->names.lookup x=some k \/ (k= .cell /\ names.lookup x=some .free)
 | [],_,_,h=>by simp at h
 | (n, j)::r,x,k,h=>by
  have ih:= @gG env r x k;rw[aN] at h;by_cases hc:(j==NameKind.free && env.scope.kind== .function && env.kindOf n==some .cell)=true;simp![hc,bX] at h;rw[cG] at h;rw[cG];by_cases hx:x=n;rw[am hx] at h ⊢;cases h;have hj:j=NameKind.free:=by rw[cI,cI] at hc;show eq_of_beq hc.1.1
  show .inr #[rfl,by rw[hj]];rw[ak hx] at h ⊢;show ih h;simp![hc,ay,bv] at h;rw[cG] at h;rw[cG];by_cases hx:x=n;rw[am hx] at h ⊢;show .inl h;rw[ak hx] at h ⊢;show ih h
theorem gj {env:Env}: ∀ {names:cV (Str×NameKind)} {x:Str},names.lookup x=some .free ->(names.map λ(n,k)=>if(k==NameKind.free && env.scope.kind== .function && env.kindOf n==some .cell) then(n,NameKind.cell) else(n,k)).lookup x=some .cell \/(names.map λ(n,k)=>if(k==NameKind.free && env.scope.kind== .function && env.kindOf n==some .cell) then(n,NameKind.cell) else(n,k)).lookup x=some .free
 | [],_,h=>by simp at h
 | (n,j)::r,x,h=>by have ih:= @gj env r x;rw[aN];rw[cG] at h;by_cases hc:(j==NameKind.free && env.scope.kind== .function && env.kindOf n==some .cell)=true;simp![hc,bX];rw[cG];by_cases hx:x=n;rw[am hx];show .inl rfl;rw[ak hx] at h ⊢;show ih h;simp![hc,ay,bv];rw[cG];by_cases hx:x=n;rw[am hx] at h ⊢;cases h;show .inr rfl;rw[ak hx] at h ⊢;show ih h
abbrev bN (X:Cx)(N':cV Str)(scope:Scope)(cl:cV (Str×gL))(fp:cV gL)(s3:df)(H3:Hp):Cx:={X with N:=N',s₀:=s3,H₀:=H3,env:=compEnvC scope cl s3.heap.objs.size X.env,outer:=X.stack,stack:=X.stack,ex:=fp,fn:=λ_=>false,pn:= [],xe:=λ_ _=>False}
def jR (own:Nat)(fr:cV Nat)(σ:St):St:=List.replicate own none++fr.map λj=>(σ[j]?).join
structure db (X:Cx)(own:List Str)(fr:List Nat)(N':List Str)(scope:Scope):Prop where
 kind:scope.kind= .function
 names:N'=own++fr.filterMap (λj=>X.N[j]?)
 len:N'.length=own.length+fr.length
 nd:N'.Nodup
 sr: ∀y∈scope.names,y.2≠ .cell
 loc: ∀y∈scope.names,y.2= .local ->scope.names.lookup y.1=some .local
 Pw: ∀x∈fr.filterMap (λj=>X.N[j]?),scope.names.lookup x=some .free
 free: ∀y∈scope.names,y.2= .free ->X.env.kindOf y.1=some .cell \/ X.env.kindOf y.1=some .free
theorem nz {N:cV Str}: ∀ {fr:cV Nat} {k:Nat} {x:Str},(fr.filterMap (λj=>N[j]?)).length=fr.length ->(fr.filterMap (λj=>N[j]?))[k]? =some x -> ∃j,fr[k]? =some j /\ N[j]? =some x
 | [],_,_,_,e=>by simp at e
 | j ::r,k,x,hl,e=>by
  cases hj:N[j]? with
  | none=>rw[List.filterMap_cons,hj] at hl;have:=List.length_filterMap_le (λj=>N[j]?) r;simp![aL] at hl;lia
  | some y=>
   rw[List.filterMap_cons,hj] at hl e;simp![aL,Nat.add_right_cancel_iff] at hl;cases k with
   | zero=>simp at e;show#[j,by simp,by rw[hj,e]]
   | succ k=>show nz (k:=k) hl ⇑e
section
variable {X:Cx}{af:cV (gL×Obj)}{σ:St}{H:Hp}{s s3:df}
def yi {own N':cV Str}{fr:cV Nat}{scope:Scope}{cl:cV (Str×gL)}{fp:cV gL}{h':X4}{t:Nat}(S:db X own fr N' scope)(I:Inv X af σ H s) (mC: ∀x c,cl.lookup x=some c ->X.env.cells.lookup x=some c) (uj: ∀y∈scope.names,y.2= .free ->(cl.lookup y.1).isSome=true) (yr: ∀b∈fp,jS X af H b) (hft: ∀b∈fp,b<s.heap.objs.size) (qM:h'.Ns s.heap.objs.size (λ_=>none)) (hk: ∀b o,s.heap.get? b=some o ->h'.get? b=some o): Inv (bN X N' scope cl fp s H) [] (jR own.length fr σ) H {s with heap:=h',toks:=t}:=by
 have look: ∀x,(compEnvC scope cl s.heap.objs.size X.env).kindOf x=(relabel scope X.env).names.lookup x:=λ_=>rfl
 have SF:(fr.filterMap (λj=>X.N[j]?)).length=fr.length:=by have:=S.len;rw[S.names,aK] at this;lia
 exact#[#[I.ok.mod,?_,I.ok.glob,I.ok.blt,ao _,λx y c e1 e2=>I.ok.inj x y c (mC _ _ e1) (mC _ _ e2),λx hx=> ?_,(λx c z _=>nomatch z),I.ok.hd,I.ok.frames, .inl rfl,λb hb=>#[?_,λx c e=>(yr b hb).2.2.2.2.1 x c (mC x c e)],I.bs,av I.ok.Hr I.sz,λb o e hb=> ?_,λb hb hz=> ?_,I.stack,I.qV],
  rfl,I.bare,Un.kept hk,#[_,qM,λi x v e1 e2 e3=> ?_],λx c e=> ?_,I.cS.fresh (ao _),λx c e=>I.f6 x c (mC x c e),λp hp=>absurd (show p∈([]:cV (gL×Obj)) from hp) (by simp),I.cS.kept hk,?_]
 change(relabel scope X.env).kind=_
 show S.kind
 have RZ:scope.names.lookup x=some .free:=by obtain hx | hx:=hx;obtain q | ⟨_,q⟩:=gG hx;show absurd rfl (S.sr _ (dg q));show q;obtain q | ⟨q,_⟩:=gG hx;show q;cases q
 show Option.isSome_iff_exists.mp (uj _ (dg RZ) rfl)
 show bu (hft b hb)
 obtain z | z:=(yr b hb).2.2.2.1
 show I.ok.Dl b o e z
 show absurd (bF (aO e) (av I.ok.Hr z)) (Nat.lt_irrefl _)
 obtain q | q:=aS.mp (I.vH b hz)
 show(yr b hb).2.1 q
 show(yr b hb).2.2.1 q
 -- a Wx value
 have e1:(own++fr.filterMap (λj=>X.N[j]?))[i]? =some x:=by rw[<- S.names];show e1
 unfold jR at e2
 by_cases hi:i<own.length
 rw[a7 ⇑hi,c6,am hi] at e2
 cases e2
 rw [aZ ⇑hi,List.length_replicate] at e2
 rw[aZ ⇑hi] at e1
 let⟨j,ej,ex⟩:=nz SF e1
 rw[aH,ej] at e2
 have e2:(σ[j]?).join=some v:= ⇑e2
 have e2':σ[j]? =some (some v):=by
  cases q:σ[j]? with
  | none=>rw[q] at e2;cases e2
  | some w=>rw[q] at e2;simp at e2;rw[e2]
 have hf:=S.Pw x (be e1)
 have hm:=dg hf
 let⟨m,_,hl⟩:=I.loc
 have VQ:Tf X.env.scope x:=by obtain q | q:=S.free _ hm rfl;show .inr (.inl q);show .inr (.inr q)
 let⟨u,r,l⟩:=hl j x v ex e2' VQ
 exact#[u,r, .inr #[?_,?_]]
 show gj hf
 rcases l with⟨k,_⟩ | ⟨_,c,ec,z⟩
 obtain q | q:=S.free _ hm rfl
 rw[k] at q;cases q
 rw[k] at q;cases q
 let⟨c',ec'⟩:=Option.isSome_iff_exists.mp (uj _ hm rfl)
 have:=mC _ _ ec'
 rw[ec] at this
 cases this
 show#[c,ec',z.keeps hk]
 let⟨v,z⟩:=I.cell x c (mC x c e)
 show#[v,z.keeps hk]
 change(jR own.length fr σ).length=N'.length
 unfold jR
 rw[aK,List.length_replicate,ai,S.len]
end
def Mr (X:Cx)(cs:cV Expr)(t:TT):Prop:=∀ (af:cV (gL×Obj)) (s:df) (σ:St) (H:Hp) (Q:Bool ->Hp ->Prop),Inv X af σ H s ->t σ H Q ->wpAny (model X.prog X.w) X.A (forIn cs true λc r=>if r=true then do let ok <- isTrue c X.env (eval c X.env);pure (ForInStep.yield ok) else pure (ForInStep.yield r)) (TP X af σ Q) X.xe s
def Qw:TT:=λ_ H Q=>Q true H
theorem dJ {X:Cx}:Mr X [] Qw:=λaf s σ H Q I h=>wpAny_tests_nil #[H,I,h]
theorem qY {X:Cx}{c:Expr}{t:TT}(h:PT X c t):Mr X [c] t:=λaf s σ H Q I q=>wpAny_tests_one (h af s σ H Q I q)
section
variable {prog:RV}{w:W4}{A:X7}{R:Result ->df ->Prop}{s:df}
theorem DX {hG om iter:Expr}{g_:cV Expr}{scope:Scope}{pos:Pos}{it fq:cW}{env:Env}(I:Nat ->df ->Prop) (turn : ∀n s,I n s ->wpAny (model prog w) A (pyNext it) (λr s₁=>match r with
   | none=>R (.ok .next) s₁
   | some v=>wpAny (model prog w) A (letOwnedTupleGo om it v) (λ_ s₀=>wpAny (model prog w) A (assign om env v) (λ_ s₂=>
    wpAny (model prog w) A (forIn g_ true λc r=>if r=true then do let ok <- isTrue c env (eval c env);pure (ForInStep.yield ok) else pure (ForInStep.yield r)) (λok s₃=>if ok=true then wpAny (model prog w) A (eval hG env) (λx s₄=>wpAny (model prog w) A (call (.builtin "list.append") [fq,x]) (λ_ s₅=> ∃m,m<n /\ I m s₅) (λ_ _=>False) s₄) (λ_ _=>False) s₃ else ∃m,m<n /\ I m s₃) (λ_ _=>False) s₂)
    (λ_ _=>False) s₀) (λ_ _=>False) s₁) (λ_ _=>False) s)
  (n:Nat) (h:I n s):codeAny (model prog w) A (.compLoop (.ListComp hG [#[om,iter,g_,0]] scope pos) 0 it fq env) R s:=by
 exact codeAny_loop rfl I (λn s hI=> ?_) n h
 change wpAny _ A ((compTurn (.ListComp hG [#[om,iter,g_,0]] scope pos) 0 it fq env).onRaise (λx=>do noteFrame x env;theTreesLotGoes x)) _ _ s
 exact wpAny_noted ?_
 rw[compTurn_list]
 exact aw (wpAny_standAt (aw (bz (turn n s hI) (λr s₁ h₁=> ?_) λ_ _ h'=>h'.elim)))
 cases r with
 | none=>show aX h₁
 | some v=>
  exact aw (bz h₁ (λ_ s₀ RX=> ?_) λ_ _ h'=>h'.elim);exact aw (bz RX (λ_ s₂ h₂=> ?_) λ_ _ h'=>h'.elim);exact aw (bz h₂ (λRu s₃ h₃=> ?_) λ_ _ h'=>h'.elim);cases Ru with
  | false=>show aX #[rfl,h₃]
  | true=>show aw (aw (bz h₃ (λx s₄ h₄=>aw (bz h₄ (λ_ s₅ h₅=>aX (aX #[rfl,h₅])) λ_ _ h'=>h'.elim)) λ_ _ h'=>h'.elim))
end
def Wk (σ0 σ2:St):Prop:=σ2.length=σ0.length /\ ∀ (i:Nat) v,σ0[i]? =some (some v) ->σ2[i]? =some (some v)
def KY (own:Nat)(g:TG):Prop:= ∀ (c:St) (v:V) (H:Hp) (Q:St ->Hp ->Prop),g v (List.replicate own none++c) H Q ->g v (List.replicate own none++c) H λσ2 H2=>Wk (List.replicate own none++c) σ2 /\ Q σ2 H2
def d5:KY 1 (kH 0):=by
 intro c v H Q h;exact#[#[by simp,λi u e=> ?_],h];cases i with
 | zero=>simp at e
 | succ i=>simpa using e
def gP {K:RS}:KY 2 (Ke K 2 (u4 (kH 0) (u4 (kH 1) Kf))):=by
 rintro c v H Q ⟨a,xs,e,hs,hl,x,r,rfl,y,r',rfl,rfl,h⟩;exact#[a,_,e,hs,hl,x,_,rfl,y,_,rfl,rfl,#[by simp,λi u e=> ?_],h];match i with
 | 0=>simp at e
 | 1=>simp at e
 | i+2=>simpa using e
def Mm (J:It)(own:Nat)(fr:cV Nat)(g:TG)(tc:TT)(te:TE)(σ:St)(p:gL)(H1:Hp)(Q:VK):Prop:=∃ W :Nat ->Nat ->cV V ->Hp ->Prop,(∃m,W 0 m [] (cF H1 p (.lst []))) /\ ∀i m ys H',W i m ys H' ->H' p=some (.lst ys) /\((J.stop i H' /\ Q (.ref p) H') \/ (J.go i H' /\ ys.length<sizeLine /\ ∀x H2,J.OX i H' x H2 ->g x (jR own fr σ) H2 λσ2 H3=>tc σ2 H3 λb H4=>if b=true then te σ2 H4 λy H5=> ∃zs,H5 p=some (.lst zs) /\ zs.length<sizeLine /\ ∃m',m'<m /\ W (i+1) m' (zs++ [y]) (cF H5 p (.lst (zs++ [y]))) else ∃zs m',m'<m /\ W (i+1) m' zs H4))
def Ln (wi:TI)(own:Nat)(fr:cV Nat)(g:TG)(tc:TT)(te:TE):TE:=λσ H Q=>wi σ H λJ H1=> ∀p,H1 p=none ->Mm J own fr g tc te σ p H1 Q
section
variable {X:Cx}{af:cV (gL×Obj)}{σ:St}{H:Hp}{s s3:df}
theorem vm {N':cV Str}{scope:Scope}{cl:cV (Str×gL)}{fp:cV gL}{By:cV (gL×Obj)}{σ':St}{H':Hp}{s':df}(I3:Inv X af σ H s3)(yr: ∀b∈fp,jS X af H b) (Ic:Inv (bN X N' scope cl fp s3 H) By σ' H' s'):Inv X af σ H' s':=I3.Hq (ch:=fp) Ic.os Ic.base Ic.cS Ic.bare λb hb=>#[(yr b hb).2.2.2.1,(yr b hb).2.1,(yr b hb).2.2.2.2.1,(yr b hb).2.2.2.2.2]
def vk {C:gL}{σ':St}{H':Hp}{s':df}{h':X4}(I3:Inv X af σ H s3)(hC:C=s3.heap.objs.size)(J:Inv X af σ' H' s')(hn:H' C=none)(hs:Heap.SameBut C s'.heap h'):Inv X af σ' H' {s' with heap:=h'}:=by subst hC;exact J.turned (t':=s'.toks) (it:=s3.heap.objs.size) (λb o hb e=>hs.extBut b o hb e) hn (Nat.ne_of_gt I3.lt) (.inr I3.sz) (λx c e z=> ?_) λp hp z=> ?_;let⟨v,q⟩:=I3.cell x c e;show absurd q.lt (by rw[z];show Nat.lt_irrefl _);show absurd (aO (I3.pin p hp).1) (by rw[z];show Nat.lt_irrefl _)
def Aw {tg iter hG:Expr}{g_:cV Expr}{pos:Pos}{own N':cV Str}{fr:cV Nat}{scope:Scope}{cl:cV (Str×gL)}{fp:cV gL}{it:gL}{tn:Nat ->X4 ->Prop}{J:It}{g:TG}{tc:TT}{te:TE}{Q:VK} {E:cW ->df ->Prop} {RR:cW ->gL ->Result ->df ->Prop} (kG:X.calm=true) (S:db X own fr N' scope) (hg: ∀s3 H3,PG (bN X N' scope cl fp s3 H3) tg g) (hw:KY own.length g) (hc: ∀s3 H3,Mr (bN X N' scope cl fp s3 H3) g_ tc) (he: ∀s3 H3,PE (bN X N' scope cl fp s3 H3) hG te) (mC: ∀x c,cl.lookup x=some c ->X.env.cells.lookup x=some c) (uj: ∀y∈scope.names,y.2= .free ->(cl.lookup y.1).isSome=true) (I:Inv X af σ H s) (T:wL X.prog X.w X.K tg J fp it tn) (st:tn 0 s.heap) (yr: ∀b∈fp,jS X af H b) (h: ∀p,H p=none ->Mm J own.length fr g tc te σ p H Q) (fin: ∀ (s3:df) (H3:Hp),Inv X af σ H3 s3 ->(∀b∈fp,jS X af H3 b) -> ∀ (D:gL) (σ':St) (H':Hp) (s':df) (t:Nat),D<s3.heap.objs.size ->Inv (bN X N' scope cl fp s3 H3) [] σ' H' s' ->Q (.ref D) H' ->RR (.ref D) s3.heap.objs.size (.ok .next) s'): wpAny (model X.prog X.w) X.A (newList []) (λfq s₃=>wpAny (model X.prog X.w) X.A (newFunctionEnv scope X.env.globals cl [] X.env.qual none .none (some X.env)) (λHl s₄=>codeAny (model X.prog X.w) X.A (.compStart (.ListComp hG [#[tg,iter,g_,0]] scope pos) 0 (.ref it) fq {Hl with scope:=relabel scope X.env}) (RR fq Hl.locals) s₄) E s₃) E s:=by
 exact wpAny_newObj_type ?_;have hf:H s.heap.objs.size=none:=I.cS.fresh (ao _);let⟨W,⟨m0,w0⟩,turn⟩:=h _ hf;generalize e3:({s with heap:=s.heap.push {cls:= .type "list",dict:=none,data:= .seq ([]:cV cW).toArray}}:df)=s3;have MV:s3.heap.objs.size=s.heap.objs.size+1:=by rw[<- e3];show Heap.size_push ..
 have VU: ∀b o,s.heap.get? b=some o ->s3.heap.get? b=some o:=λb o e=>by rw[<- e3];show ar _ e
 have I3:Inv X af σ (cF H s.heap.objs.size (.lst [])) s3:=by rw[<- e3];show I.laid (t':=s.toks) (λb u e=>ar _ e) (ao _) #[cZ _,[],0, .nil,aT _ rfl]
 have Oz: ∀b∈fp,b<s.heap.objs.size:=λb hb=>by let⟨o,e,_⟩:=T.obj 0 _ st b hb;show aO e
 have Am: ∀b∈fp,jS X af (cF H s.heap.objs.size (.lst [])) b:=λb hb=>#[by rw[bK (bu (Oz b hb))];show(yr b hb).1,(yr b hb).2]
 exact wpAny_newFunctionEnv S.sr (by intro y hy;simp at hy) (λh₁ Og Oa=> ?_) S.kind;have old: ∀b o,s3.heap.get? b=some o ->h₁.get? b=some o:=λb o e=>Oa.extBut b o (bu (aO e)) (ar _ e);have Ic:=yi (t:=s3.toks+([]:cV (Str×cW)).length) S I3 mC uj Am (λb hb=>by rw[MV];show Nat.lt_succ_of_lt (Oz b hb)) Og old;have CY:tn 0 h₁:=T.keep 0 _ _ st λb hb o e=>old b o (VU b o e);have rM: ∀ {H':Hp},(∀b∈fp,H' b=none) -> ∀b∈fp,jS (bN X N' scope cl fp s3 (cF H s.heap.objs.size (.lst []))) [] H' b:=λhn b hb=>by exact#[hn b hb,?_,?_, .inl hb,λx c e=>(yr b hb).2.2.2.2.1 x c (mC x c e),λp hp=>absurd (show p∈([]:cV (gL×Obj)) from hp) (by simp)];change b≠s3.heap.objs.size;rw[MV];show bu (Nat.lt_succ_of_lt (Oz b hb));show Ic.ok.As b hb
 have loop:codeAny (model X.prog X.w) X.A (.compLoop (.ListComp hG [#[tg,iter,g_,0]] scope pos) 0 (.ref it) (.ref s.heap.objs.size) (compEnvC scope cl s3.heap.objs.size X.env)) (RR (.ref s.heap.objs.size) s3.heap.objs.size) {s3 with heap:=h₁,toks:=s3.toks+([]:cV (Str×cW)).length}:=by
  exact DX (λn s'=>dQ λi ys H'=>eT (Inv (bN X N' scope cl fp s3 (cF H s.heap.objs.size (.lst []))) [] (jR own.length fr σ) H' s') (tn i s'.heap) (∀b∈fp,H' b=none) (W i n ys H')) ?_ m0 #[0,[],_,Ic,CY,λb hb=>(Am b hb).1,w0];rintro n s4 ⟨i,ys,H4,I4,fm,SG,w4⟩;let⟨An,alt⟩:=turn i n ys H4 w4;rcases alt with⟨stop,q⟩ | ⟨go,hsz,step⟩
  .exact cN (T.done (bN X N' scope cl fp s3 (cF H s.heap.objs.size (.lst []))) rfl rfl rfl kG i [] s4 _ H4 (λ_ _=>False) I4 (rM SG) fm stop) λr s5 ⟨hr,I5⟩=> ?_;subst hr;show fin s3 _ I3 Am _ _ H4 s5 s5.toks (by rw[MV];show Nat.lt_succ_self _) I5 q
  exact cN (T.item (bN X N' scope cl fp s3 (cF H s.heap.objs.size (.lst []))) rfl rfl rfl kG i [] s4 _ H4 (λ_ _=>False) I4 (rM SG) fm go) λr s5 ⟨u,hr,h5⟩=> ?_;subst hr;exact cN h5 λ_ s6 ⟨x,H6,I6,r6,y6,MY,fr6⟩=> ?_;have I6':=I6.pinned (rM fr6) (T.obj _ _ MY);have Uk:=hw _ x H6 _ (step x H6 y6);exact cN (hg s3 _ _ s6 _ H6 x u _ I6' r6 Uk) λ_ s7 ⟨σ7,H7,I7,wk,q7⟩=> ?_;have again: ∀ {H9:Hp} {s9:df} {Mu:cV V},Inv (bN X N' scope cl fp s3 (cF H s.heap.objs.size (.lst []))) ([]++gJ fp s6.heap) σ7 H9 s9 ->(∃m',m'<n /\ W (i+1) m' Mu H9) ->∃m,m<n /\ dQ λi ys H'=>eT (Inv (bN X N' scope cl fp s3 (cF H s.heap.objs.size (.lst []))) [] (jR own.length fr σ) H' s9) (tn i s9.heap) (∀b∈fp,H' b=none) (W i m ys H'):=λ{H9 s9 Mu} I9 ⟨m',hm,w9⟩=>by exact#[m',hm,i+1,Mu,H9,(I9.iN).weak ?_ wk.2,T.keep _ _ _ MY λb hb o e=>(I9.pin (b,o) (aR _ (aR _ (eL hb e)))).1,λb hb=> ?_,w9];show wk.1.symm;let⟨o,e,d⟩:=T.obj _ _ MY b hb;show(I9.pin (b,o) (aR _ (aR _ (eL hb e)))).2.1
  exact cN (hc s3 _ _ s7 σ7 H7 _ I7 q7) λok s8 ⟨H8,I8,q8⟩=> ?_;cases ok with
  | false=>simp![ay,bv] at q8 ⊢;let⟨zs,q8⟩:=q8;show again I8 q8
  | true=>simp![bX] at q8 ⊢;exact cN (he s3 _ _ s8 σ7 H8 _ I8 q8) λy s9 ⟨yv,H9,I9,ry,zs,hp9,hz9,q9⟩=> ?_;exact cN (dR _ s9 σ7 H9 (.ref s.heap.objs.size) [yv] (.ref s.heap.objs.size) [y] (λv H'=>H'=cF H9 s.heap.objs.size (.lst (zs++ [yv]))) I9 rfl (.cons ry .nil) #[_,zs,yv,rfl,rfl,hp9,hz9,rfl]) λv Pa ⟨_,Pz,I10,_,e10⟩=> ?_;subst e10;show again I10 q9
 show codeAny_compStart_list loop (T.self _ 0 _ _ _ CY loop)
end
section
variable {X:Cx}
theorem Cx.Ok.cellsOf {own N':cV Str}{fr:cV Nat}{scope:Scope}(ok:X.Ok)(S:db X own fr N' scope): ∀y∈scope.names,y.2= .free -> ∃c,X.env.cells.lookup y.1=some c:=λy hy hf=>ok.has y.1 (S.free y hy hf)
def dL {tg iter hG:Expr}{g_:cV Expr}{pos:Pos}{own N':cV Str}{fr:cV Nat}{scope:Scope}{wi:TI}{g:TG}{tc:TT}{te:TE}(kG:X.calm=true)(S:db X own fr N' scope)(hi:PI X tg iter wi) (hg: ∀cl fp s3 H3,PG (bN X N' scope cl fp s3 H3) tg g) (hw:KY own.length g) (hc: ∀cl fp s3 H3,Mr (bN X N' scope cl fp s3 H3) g_ tc) (he: ∀cl fp s3 H3,PE (bN X N' scope cl fp s3 H3) hG te) (hs: ∀x,foldedSetIterable iter X.env x=pure x:=by intro _;rfl):PE X (.ListComp hG [#[tg,iter,g_,0]] scope pos) (Ln wi own.length fr g tc te):=by intro af s σ H Q I h;let⟨cl,GR,mC,uj⟩:=tq (I.ok.cellsOf S);rw[eval_ListComp];exact wpAny_comprehension_free (use:=none) rfl hs GR S.kind S.loc (cN (hi af s σ H _ I h) λv s1 h1=>cN h1 λRP s2 h2=> ?_);let⟨it,fp,tn,J,H2,e,I2,T,mK,f2,h2⟩:=h2;subst e;exact Aw (RR:=λfq C=>compPost (model X.prog X.w) X.A X.xe none (EP X af σ Q) fq C) kG S (hg cl fp) hw (hc cl fp) (he cl fp) mC uj I2 T mK f2 h2 ?_;intro s3 H3 I3 f3 D σ' H' s' t hD Ic q;let⟨m,hn,_⟩:=Ic.loc;exact#[m,hn,λh' R9=>#[.ref D,H',?_,rfl,q]];show vk I3 rfl (vm I3 f3 Ic) Ic.free R9
end
set_option genInjectivity true in
inductive Dt where
 | dO | bl (b:Bool) | int (i:Int) | str (x:Str) | tup (l:List Dt) | lst (l:List Dt)
mutual
def Rep (K:RS)(H:Hp):Dt ->V ->Prop
 | .dO,v=>v= .dO
 | .bl b,v=>v= .bl b
 | .int i,v=>v= .int i
 | .str x,v=>v= .str x
 | .tup l,v=>cx λa vs=>cT (v= .ref a) (jY K H a vs) (fJ K H l vs)
 | .lst l,v=>cx λa vs=>cT (v= .ref a) (gT K H a vs) (fJ K H l vs)
def fJ (K:RS)(H:Hp):cV Dt ->cV V ->Prop
 | [],vs=>vs= []
 | d::r,vs=>cx λv t=>cT (vs=v::t) (Rep K H d v) (fJ K H r t)
end
mutual
def ul:Dt ->Dt ->Bool
 | .dO, .dO=>true
 | .bl a, .bl b=>a==b
 | .bl a, .int b=>(if a then 1 else 0)==b
 | .int a, .bl b=>a==(if b then 1 else 0)
 | .int a, .int b=>a==b
 | .str a, .str b=>a==b
 | .tup a, .tup b=>wB a b
 | .lst a, .lst b=>wB a b
 | _,_=>false
def wB:cV Dt ->cV Dt ->Bool
 | [],[]=>true
 | x::xs,y::ys=>ul x y && wB xs ys
 | _,_=>false
end
mutual
def rj:Dt ->Nat
 | .tup l=>jQ l+1
 | .lst l=>jQ l+1
 | _=>0
def jQ:cV Dt ->Nat
 | []=>0
 | d::r=>max (rj d) (jQ r)
end
theorem fJ.length {K:RS}{H:Hp}: ∀ {l:cV Dt} {vs:cV V},fJ K H l vs ->l.length=vs.length
 | [],_,h=>by simp![fJ] at h;subst h;rfl
 | d::r,vs,h=>by simp![fJ] at h;let⟨v,t,rfl,_,h⟩:=h;simp[fJ.length h]
theorem fJ.at {K:RS}{H:Hp}: ∀ {l:cV Dt} {vs:cV V} {j:Nat} {d:Dt},fJ K H l vs ->l[j]? =some d -> ∃v,vs[j]? =some v /\ Rep K H d v
 | [],_,_,_,_,e=>by simp at e
 | d::r,vs,j,d',h,e=>by
  simp![fJ] at h;let⟨v,t,rfl,h1,h⟩:=h;cases j with
  | zero=>simp at e;subst e;show#[v,rfl,h1]
  | succ j=>simpa using fJ.at (j:=j) h ⇑e
theorem nI: ∀ {l:cV Dt} {d:Dt},d∈l ->rj d<=jQ l
 | [],_,h=>by simp at h
 | x::r,d,h=>by simp![jQ];obtain rfl | h:=aS.mp h;show Nat.le_max_left _ _;show av (nI h) (Nat.le_max_right _ _)
theorem jp: ∀ (a b:cV Dt),wB a b=((List.range (min a.length b.length)).all (λj=>ul (a.getD j .dO) (b.getD j .dO)) && a.length==b.length)
 | [],[]=>rfl
 | [],y::ys=>by simp[wB]
 | x::xs,[]=>by simp[wB]
 | x::xs,y::ys=>by
  have e:min (x::xs).length (y::ys).length=min xs.length ys.length+1:=by simp![aL];lia
  rw[wB,jp xs ys,e,List.range_succ_eq_map,List.all_cons,List.all_map];have e2:((x::xs).length==(y::ys).length)=(xs.length==ys.length):=by simp
  rw[e2,Bool.and_assoc];rfl
mutual
theorem kU: ∀d:Dt,ul d d=true
 | .dO=>rfl
 | .bl b=>by simp[ul]
 | .int i=>by simp[ul]
 | .str x=>by simp[ul]
 | .tup l=>by simp![ul];show o0 l
 | .lst l=>by simp![ul];show o0 l
theorem o0: ∀l:cV Dt,wB l l=true
 | []=>rfl
 | x::xs=>by simp![wB,kU x,o0 xs,Bool.and_self]
end
def Un.sqT {K:RS}{H H':Hp}(h: ∀b xs,Rd H b (.tup xs) ->Rd H' b (.tup xs)){a:gL}{xs:cV V}(q:jY K H a xs):jY K H' a xs:=by obtain q | q:=q;show .inl (h _ _ q);show .inr q
section
variable {X:Cx}{af:cV (gL×Obj)}{σ:St}{H:Hp}{s:df}
mutual
theorem Rep.inj (I:Inv X af σ H s): ∀ (d e:Dt) (v:V),Rep X.K H d v ->Rep X.K H e v ->d=e
 | .dO,e,v,h1,h2=>by simp![Rep] at h1;subst h1;cases e<;>simp![Rep] at h2<;>first | rfl | (cases h2;done) | (let⟨_,_,q,_⟩:=h2;cases q)
 | .bl b,e,v,h1,h2=>by simp![Rep] at h1;subst h1;cases e<;>simp![Rep] at h2<;>first | (cases h2;rfl) | (cases h2;done) | (let⟨_,_,q,_⟩:=h2;cases q)
 | .int b,e,v,h1,h2=>by simp![Rep] at h1;subst h1;cases e<;>simp![Rep] at h2<;>first | (cases h2;rfl) | (cases h2;done) | (let⟨_,_,q,_⟩:=h2;cases q)
 | .str b,e,v,h1,h2=>by simp![Rep] at h1;subst h1;cases e<;>simp![Rep] at h2<;>first | (cases h2;rfl) | (cases h2;done) | (let⟨_,_,q,_⟩:=h2;cases q)
 | .tup l,e,v,h1,h2=>by
  simp![Rep] at h1;let⟨a,vs,rfl,hs,hr⟩:=h1;cases e<;>simp![Rep] at h2<;>first | (cases h2;done) | skip
  let⟨a',MG,q,fZ,iq⟩:=h2;cases q;have:=I.uC hs fZ;subst this;rw[fJ.inj I l _ vs hr iq];let⟨a',MG,q,fZ,iq⟩:=h2;cases q;let⟨bJ,_,ht,_⟩:=I.tuple hs;let⟨its',_,hl,_⟩:=I.list fZ;show absurd rfl (SeqAt.ne_of_list_tuple (s:=s) hl.isList ht)
 | .lst l,e,v,h1,h2=>by
  simp![Rep] at h1;let⟨a,vs,rfl,hs,hr⟩:=h1;cases e<;>simp![Rep] at h2<;>first | (cases h2;done) | skip
  let⟨a',MG,q,fZ,iq⟩:=h2;cases q;let⟨bJ,_,ht,_⟩:=I.tuple fZ;let⟨its',_,hl,_⟩:=I.list hs;show absurd rfl (SeqAt.ne_of_list_tuple (s:=s) hl.isList ht);let⟨a',MG,q,fZ,iq⟩:=h2;cases q;have:=I.list_inj hs fZ;subst this;rw[fJ.inj I l _ vs hr iq]
theorem fJ.inj (I:Inv X af σ H s): ∀ (l m:cV Dt) (vs:cV V),fJ X.K H l vs ->fJ X.K H m vs ->l=m
 | [],m,vs,h1,h2=>by
  simp![fJ] at h1;subst h1;cases m with
  | nil=>rfl
  | cons _ _=>simp![fJ] at h2;let⟨_,_,q,_⟩:=h2;cases q
 | d ::r,m,vs,h1,h2=>by
  simp![fJ] at h1;let⟨v,t,rfl,h1,h3⟩:=h1;cases m with
  | nil=>simp![fJ] at h2;cases h2
  | cons d' r'=>simp![fJ] at h2;let⟨v',t',q,h4,h5⟩:=h2;cases q;rw[Rep.inj I d d' v h1 h4,fJ.inj I r r' t h3 h5]
end
def fJ.items {l:cV Dt}{vs:cV V}{bJ:cV cW}(h:fJ X.K H l vs)(r:b_ vs bJ){j:Nat}(hj:j<bJ.length):Rep X.K H (l.getD j .dO) (vs.getD j .dO) /\ RelV (vs.getD j .dO) bJ[j] /\ l.getD j .dO∈l:=by
 have e1:=h.length;have e2:=r.length;have hl:j<l.length:= ∅;let⟨v,hv,hr⟩:=h.at (aG hl);let⟨u,hu,ru⟩:=r.get hv;have e3:l.getD j .dO=l[j]:=by simp[List.getD,hl]
 have e4:vs.getD j .dO=v:=by simp[List.getD,hv]
 rw[aG hj] at hu;cases hu;rw[e3,e4];show#[hr,ru,List.getElem_mem hl]
def Rep.t0 (I:Inv X af σ H s){l:cV Dt}{x:V}{u:cW}(h:Rep X.K H (.tup l) x)(r:RelV x u):cx λa i=>u= .ref a /\ IsTup s.heap a i:=by simp![Rep] at h;let⟨a,vs,rfl,hs,hr⟩:=h;cases r;let⟨bJ,_,ht,_⟩:=I.tuple hs;show#[a,_,rfl,ht]
def Rep.ug (I:Inv X af σ H s){l:cV Dt}{x:V}{u:cW}(h:Rep X.K H (.lst l) x)(r:RelV x u):cx λa i=>u= .ref a /\ s.heap.IsList a i:=by simp![Rep] at h;let⟨a,vs,rfl,hs,hr⟩:=h;cases r;let⟨bJ,_,ht,_⟩:=I.list hs;show#[a,_,rfl,ht.isList]
def G8 (I:Inv X af σ H s)(n:Nat): ∀ (A:X7) (d e:Dt) (x y:V) (u v:cW),rj d<=n ->A.units+n<cLine ->Rep X.K H d x ->Rep X.K H e y ->RelV x u ->RelV y v ->SeqAt.EqAt A s u v (ul d e):=by
 induction n using Nat.strongRecOn with
 | _ n ih=>
 intro A d e x y u v hn hu h1 h2 r1 r2;cases d<;>cases e;case tup.tup l m=>
  have UV:=h1
  have Mb:=h2
  simp![Rep] at h1 h2
  let⟨a,vs,rfl,hs,hr⟩:=h1
  let⟨b,ws,rfl,fZ,iq⟩:=h2
  cases r1;cases r2
  by_cases Ce:a=b
  subst Ce
  rw[Rep.inj I _ _ _ UV Mb,kU]
  show SeqAt.EqAt.same _
  let⟨bJ,rv,ht,_⟩:=I.tuple hs
  let⟨its',C3,yk,_⟩:=I.tuple fZ
  exact SeqAt.EqAt.of_refs Ce ?_
  simp![ul]
  simp![rj] at hn
  match n,hn,hu,ih with
  | n +1,hn,hu,ih=>
   have z:=SeqAt.RcAt.tuples (A:=A) (s:=s) (e:=λj=>ul (l.getD j .dO) (m.getD j .dO)) ht yk ∅ λj g1 g2=>by let⟨q1,q2,q3⟩:=hr.items rv (j:=j) ⇑g1;let⟨q4,q5,q6⟩:=iq.items C3 (j:=j) ⇑g2;exact ih n (Nat.lt_succ_self n) A.in1 _ _ _ _ _ _ ?_ ?_ q1 q4 ⇑q2 ⇑q5;have:=nI q3;lia;change A.units+1+n<cLine;lia
   rw[jp,hr.length,iq.length,rv.length,C3.length];simpa using z
 case lst.lst l m=>
  have UV:=h1
  have Mb:=h2
  simp![Rep] at h1 h2
  let⟨a,vs,rfl,hs,hr⟩:=h1
  let⟨b,ws,rfl,fZ,iq⟩:=h2
  cases r1;cases r2
  by_cases Ce:a=b
  subst Ce
  rw[Rep.inj I _ _ _ UV Mb,kU]
  show SeqAt.EqAt.same _
  let⟨bJ,rv,ht,_⟩:=I.list hs
  let⟨its',C3,yk,_⟩:=I.list fZ
  exact SeqAt.EqAt.of_refs Ce ?_
  simp![ul]
  simp![rj] at hn
  by_cases hl:bJ.length=its'.length
  match n,hn,hu,ih with
  | n +1,hn,hu,ih=>
   have z:=SeqAt.RcAt.lists (A:=A) (s:=s) (e:=λj=>ul (l.getD j .dO) (m.getD j .dO)) ht.isList yk.isList ⇑hl ∅ λj g1 g2=>by let⟨q1,q2,q3⟩:=hr.items rv (j:=j) ⇑g1;let⟨q4,q5,q6⟩:=iq.items C3 (j:=j) ⇑g2;exact ih n (Nat.lt_succ_self n) A.in1 _ _ _ _ _ _ ?_ ?_ q1 q4 ⇑q2 ⇑q5;have:=nI q3;lia;change A.units+1+n<cLine;lia
   rw[jp,hr.length,iq.length,rv.length,C3.length,hl];simpa [hl] using z
  have z:=SeqAt.RcAt.lists_lengths (A:=A) (s:=s) ht.isList yk.isList ⇑hl ∅
  have hf:(bJ.length==its'.length)=false:= ⇑hl
  rw[jp,hr.length,iq.length,rv.length,C3.length,hf,Bool.and_false]
  show z
 case tup.lst=>let⟨a,i,rfl,h⟩:=Rep.t0 I h1 r1;let⟨b,j,rfl,h'⟩:=Rep.ug I h2 r2;show SeqAt.EqAt.tuple_list h h' ∅
 case lst.tup=>let⟨a,i,rfl,h⟩:=Rep.ug I h1 r1;let⟨b,j,rfl,h'⟩:=Rep.t0 I h2 r2;show SeqAt.EqAt.list_tuple h h' ∅
 case tup.dO=>let⟨a,i,rfl,h⟩:=Rep.t0 I h1 r1;simp![Rep] at h2;subst h2;cases r2;show SeqAt.EqAt.tuple_none h ∅
 case lst.dO=>let⟨a,i,rfl,h⟩:=Rep.ug I h1 r1;simp![Rep] at h2;subst h2;cases r2;show SeqAt.EqAt.list_none h ∅
 case dO.tup=>let⟨a,i,rfl,h⟩:=Rep.t0 I h2 r2;simp![Rep] at h1;subst h1;cases r1;show SeqAt.EqAt.none_tuple h ∅
 case dO.lst=>let⟨a,i,rfl,h⟩:=Rep.ug I h2 r2;simp![Rep] at h1;subst h1;cases r1;show SeqAt.EqAt.none_list h ∅
 case tup.bl=>let⟨a,i,rfl,h⟩:=Rep.t0 I h1 r1;simp![Rep] at h2;subst h2;cases r2;show SeqAt.EqAt.tuple_bool _ h ∅
 case lst.bl=>let⟨a,i,rfl,h⟩:=Rep.ug I h1 r1;simp![Rep] at h2;subst h2;cases r2;show SeqAt.EqAt.list_bool _ h ∅
 case bl.tup=>let⟨a,i,rfl,h⟩:=Rep.t0 I h2 r2;simp![Rep] at h1;subst h1;cases r1;show SeqAt.EqAt.bool_tuple _ h ∅
 case bl.lst=>let⟨a,i,rfl,h⟩:=Rep.ug I h2 r2;simp![Rep] at h1;subst h1;cases r1;show SeqAt.EqAt.bool_list _ h ∅
 case tup.int=>let⟨a,i,rfl,h⟩:=Rep.t0 I h1 r1;simp![Rep] at h2;subst h2;let⟨t,rfl⟩:=r2;show SeqAt.EqAt.tuple_int _ _ h ∅
 case lst.int=>let⟨a,i,rfl,h⟩:=Rep.ug I h1 r1;simp![Rep] at h2;subst h2;let⟨t,rfl⟩:=r2;show SeqAt.EqAt.list_int _ _ h ∅
 case int.tup=>let⟨a,i,rfl,h⟩:=Rep.t0 I h2 r2;simp![Rep] at h1;subst h1;let⟨t,rfl⟩:=r1;show SeqAt.EqAt.int_tuple _ _ h ∅
 case int.lst=>let⟨a,i,rfl,h⟩:=Rep.ug I h2 r2;simp![Rep] at h1;subst h1;let⟨t,rfl⟩:=r1;show SeqAt.EqAt.int_list _ _ h ∅
 case tup.str=>let⟨a,i,rfl,h⟩:=Rep.t0 I h1 r1;simp![Rep] at h2;subst h2;let⟨t,rfl⟩:=r2;show SeqAt.EqAt.tuple_str _ _ h ∅
 case lst.str=>let⟨a,i,rfl,h⟩:=Rep.ug I h1 r1;simp![Rep] at h2;subst h2;let⟨t,rfl⟩:=r2;show SeqAt.EqAt.list_str _ _ h ∅
 case str.tup=>let⟨a,i,rfl,h⟩:=Rep.t0 I h2 r2;simp![Rep] at h1;subst h1;let⟨t,rfl⟩:=r1;show SeqAt.EqAt.str_tuple _ _ h ∅
 case str.lst=>let⟨a,i,rfl,h⟩:=Rep.ug I h2 r2;simp![Rep] at h1;subst h1;let⟨t,rfl⟩:=r1;show SeqAt.EqAt.str_list _ _ h ∅
 all_goals (simp![Rep] at h1 h2;subst h1 h2;show G7 r1 r2 rfl rfl)
end
end L2
namespace L2
open PySem PySem.Spec PyProof.Rows
def adm:Dt ->Bool
 | .tup _=>true
 | .lst _=>true
 | _=>false
def qW:Dt ->Dt ->Bool
 | .tup _, .tup _=>true
 | .lst _, .lst _=>true
 | _,_=>false
section
variable {X:Cx}
def Wd {af:cV (gL×Obj)}{σ:St}{H:Hp}{s:df}(I:Inv X af σ H s){A:X7}{d e:Dt}{x y:V}{u v:cW}(hs:qW d e=true)(hn:rj d<=50)(hu:A.units+60<cLine)(h1:Rep X.K H d x)(h2:Rep X.K H e y)(r1:RelV x u)(r2:RelV y v): SeqAt.RcAt A s u v (ul d e) /\ SeqAt.RcNeAt A s u v (!ul d e):=by
 cases d with
 | tup l=>
  cases e with
  | tup m=>
   simp![Rep] at h1 h2;let⟨a,vs,rfl,hs,hr⟩:=h1;let⟨b,ws,rfl,fZ,iq⟩:=h2;cases r1;cases r2;let⟨bJ,rv,ht,_⟩:=I.tuple hs;let⟨its',C3,yk,_⟩:=I.tuple fZ;simp![ul];simp![rj] at hn;have he: ∀j (g1:j<bJ.toArray.size) (g2:j<its'.toArray.size),SeqAt.EqAt A.in1 s bJ.toArray[j] its'.toArray[j] ((λj=>ul (l.getD j .dO) (m.getD j .dO)) j):=λj g1 g2=>by let⟨q1,q2,q3⟩:=hr.items rv (j:=j) ⇑g1;let⟨q4,q5,q6⟩:=iq.items C3 (j:=j) ⇑g2;exact G8 I 50 A.in1 _ _ _ _ _ _ ?_ ?_ q1 q4 ⇑q2 ⇑q5;have:=nI q3;lia;change A.units+1+50<cLine;lia
   have z:=SeqAt.RcAt.tuples (A:=A) (s:=s) ht yk ∅ he;have z':=SeqAt.RcNeAt.tuples (A:=A) (s:=s) ht yk ∅ he;rw[jp,hr.length,iq.length,rv.length,C3.length];show#[⇑z, ⇑z']
  | _=>cases hs
 | lst l =>
  cases e with
  | lst m=>
   simp![Rep] at h1 h2;let⟨a,vs,rfl,hs,hr⟩:=h1;let⟨b,ws,rfl,fZ,iq⟩:=h2;cases r1;cases r2;let⟨bJ,rv,ht,_⟩:=I.list hs;let⟨its',C3,yk,_⟩:=I.list fZ;simp![ul];simp![rj] at hn;by_cases hl:bJ.length=its'.length;have he: ∀j (g1:j<bJ.toArray.size) (g2:j<its'.toArray.size),SeqAt.EqAt A.in1 s bJ.toArray[j] its'.toArray[j] ((λj=>ul (l.getD j .dO) (m.getD j .dO)) j):=λj g1 g2=>by let⟨q1,q2,q3⟩:=hr.items rv (j:=j) ⇑g1;let⟨q4,q5,q6⟩:=iq.items C3 (j:=j) ⇑g2;exact G8 I 50 A.in1 _ _ _ _ _ _ ?_ ?_ q1 q4 ⇑q2 ⇑q5;have:=nI q3;lia;change A.units+1+50<cLine;lia
   have z:=SeqAt.RcAt.lists (A:=A) (s:=s) ht.isList yk.isList ⇑hl ∅ he;have z':=SeqAt.RcNeAt.lists (A:=A) (s:=s) ht.isList yk.isList ⇑hl ∅ he;rw[jp,hr.length,iq.length,rv.length,C3.length,hl];show#[by simpa [hl] using z,by simpa [hl] using z'];have z:=SeqAt.RcAt.lists_lengths (A:=A) (s:=s) ht.isList yk.isList ⇑hl ∅;have z':=SeqAt.RcNeAt.lists_lengths (A:=A) (s:=s) ht.isList yk.isList ⇑hl ∅;have hf:(bJ.length==its'.length)=false:= ⇑hl;rw[jp,hr.length,iq.length,rv.length,C3.length,hf,Bool.and_false];show#[z,z']
  | _=>cases hs
 | _=>cases hs
def xJ (K:RS):R2:=λx y H Q=>cx λd e=>fS (qW d e=true) (rj d<=50) (Rep K H d x) (Rep K H e y) (Q (.bl (!ul d e)) H)
def oC (hu:X.A.units+60<cLine):iJ X (compareOp .NotEq) (xJ X.K):=by intro af s σ H x y v u Q I r1 r2 h;let⟨d,e,h0,hn,h1,h2,q⟩:=h;show(Wd I h0 hn hu h1 h2 r1 r2).2 X.prog X.w X.xe _ #[.bl _,H,I,rfl,q]
def dX.O6 {k:Nat}{A:X7}(r:dX k A):A.units+60<cLine:=by have:=r.units;lia
theorem B9: ∀ {ks:cV Int} {vs:cV cW},vs.length=ks.length ->(∀ (j:Nat) (v:cW),vs[j]? =some v ->cx λ(k:Int) (t:Tok)=>ks[j]? =some k /\ v= .int k t) ->IntsAre vs ks
 | [],[],_,_=> .nil
 | [],_::_,h,_=>by simp at h
 | _::_,[],h,_=>by simp at h
 | k::ks,v::vs,h,hv=>by let⟨k',t,e1,e2⟩:=hv 0 v rfl;simp at e1;subst e1 e2;show .cons k t (B9 ⇑h λj u e=> ⇑(hv (j+1) u ⇑e))
def xI:cV V ->Hp ->VK ->Prop:=λxs H Q=>dQ λ(d:gL) (kvs:cV (cg×V)) (ks:cV Int)=>fS (xs= [.ref d]) (H d=some (.dK kvs)) (kvs.map (·.1)=ks.map Sum.inl) (ks.length<=sizeLine) (∀ (p:gL) (ns:cV Int),H p=none ->ns.Perm ks ->ns.Pairwise (· <= ·) ->Q (.ref p) (cF H p (.lst (ns.map V.int))))
def nT (hc:X.calm=true):fi X (.builtin "sorted") xI:=by
 intro af s σ H xs us Q I r h;let⟨d,kvs,ks,rfl,hd,hk,Ka,q⟩:=h;let⟨u,rfl,ru⟩:=vals1 r;cases ru;have hh:X.A.in1.handled=none:=I.ok.hd hc;let⟨hz,lo,vs,fG,dd⟩:=ve I.cS hd;let⟨ep,XR⟩:=dd.dictAt;have d3:vs.length=ks.length:=by have e1:=congrArg List.length hk;rw[ai,ai] at e1;rw[<- fG.length,e1]
 exact Calls.call_function_entry kind_sorted plain_sorted entry_sorted (args_sorted1 _) ?_;unfold Builtin.«sorted»;exact aw (m:=checkCount "sorted" 1 1 _) (aX ?_);exact aw (W.kdu_collect (A:=X.A.in1) (W.kdl_dict (knd:=cJ X.prog X.w) (kvs:=vs) (ep:=ep) lo) hh XR (by rw[<- fG.length];show hz) λh' tk fq XA An=> ?_);have hl:fq.toList.length=ks.length:=by rw[dh,An.1,d3]
 have hI:IntsAre fq.toList ks:=B9 hl λj v e=>by
  let⟨k,x,hx,Sk⟩:=An.2 j v (by rw[<- Array.getElem?_toList];show e);have GK:(kvs.map (·.1))[j]? =some k:=by
   have:(vs.map (·.1))[j]? =some k:=by rw[aH,hx];rfl
   rw[<- fG.keys] at this;show this
  rw[hk,aH] at GK;cases e2:ks[j]? with
  | none=>rw[e2] at GK;cases GK
  | some n=>
   rw[e2] at GK;cases GK;have Ol:nq (Sum.inl n) v=true:=Sk;rcases cY Ol with⟨i,t,e3,e4⟩ | ⟨x,t,e3,e4⟩
   cases e3;show#[n,t,rfl,e4];cases e3
 exact aw (wpAny_newList ?_ (by rw[hl];show Ka));have ho:(h'.push (seqObj "list" fq.toList.toArray 0)).get? h'.objs.size=some (seqObj "list" fq.toList.toArray 0):=aT _ rfl;exact aw (wpAny_holding (wpAny_call_entry slot_list_sort #[_,ho,rfl] entry_list_sort (TS.C0 (s:= {s with heap:=h'.push (seqObj "list" fq.toList.toArray 0),toks:=tk}) ho hI (by rw[hl];show Ka) λout zr a1 a2 a3=>#[_,rfl,?_]) (args_list_sort _)));let⟨ee,Ov⟩:=sortedHeap_at (out:=out) ho;have I':Inv X af σ H {s with heap:=h',toks:=tk}:=I.kept (t':=tk) XA;exact aX #[_,rfl, .ref h'.objs.size,_,I'.laid (t':=tk) (o:= .lst (zr.map V.int)) (λb o hb=> ?_) (ao _) ?_,rfl,q _ zr (I'.cS.fresh (ao _)) a2 a3];have lD:b<h'.objs.size:=aO hb;rw[sortedHeap_old (bu lD) (by rw[Heap.size_push];show Nat.lt_succ_of_lt lD)];show ar _ hb;exact#[?_,out.toList,ee,oi a1, ⇑Ov];rw[ai,a2.length_eq];show Ka
end
def db.of {X:Cx}{sc scope:Scope}{N own N':cV Str}{fr:cV Nat}(Xe:X.env.scope=sc:=by show rfl)(hN:X.N=N:=by show rfl)(kind:scope.kind= .function:=by show rfl)(names:N'=own++fr.filterMap (λj=>N[j]?):=by decide+kernel)(len:N'.length=own.length+fr.length:=by show rfl)(nd:N'.Nodup:=by decide+kernel) (sr: ∀y∈scope.names,y.2≠ .cell:=by decide+kernel) (loc: ∀y∈scope.names,y.2= .local ->scope.names.lookup y.1=some .local:=by decide+kernel) (Pw: ∀x∈fr.filterMap (λj=>N[j]?),scope.names.lookup x=some .free:=by decide+kernel) (free: ∀y∈scope.names,y.2= .free ->sc.names.lookup y.1=some .cell \/ sc.names.lookup y.1=some .free:=by decide+kernel):db X own fr N' scope:=by subst hN Xe;show#[kind,names,len,nd,sr,loc,Pw,free]
structure gV (K:PySem.W.Frag)(mg:Str ->Option Value)(x:Str)(ps:List Str)(st:Stmt)(f:Addr)(fd:FuncData):Prop where
 at_:mg x=some (.ref f)
 fn:za K x x st f fd
 bd:Binds K fd ps []
section
variable {X:Cx}{k:Nat}{f:gL}{fd:X6}{ps:cV Str}{sp:Sp}{x:Str}{st:Stmt}{p pos:Pos}{e:Expr}{es:cV Expr}{t:TA}
theorem ax {j:Nat}(C:gV X.K X.mg x ps st f fd)(F:bA X.prog X.w X.K X.mg X.base eU k f fd ps sp)(hr:dX j X.A) (ha:PA X (e::es) t) (hk:k<=j:=by decide) (hg:Gl X x:=by rfl) (uW:(x==("__debug__" :Str))=false:=by decide) (he:starEach (e::es) X.env=(false,eval e X.env)::starEach es X.env:=by rfl) (n_:(backTo pos (starEach es X.env)).any (·.1)=false:=by rfl): PE X (.Call (.Name x p) (e::es) [] pos) (uF sp [] E0 t):=BC F (hr.mono hk) hg C.at_ C.fn.kp C.bd .nil BD ha uW he n_
end
theorem bZ {H:Hp}{p:gL}{o:HO}(h:H p=none):fI H (cF H p o):=λb u e=>by rw[bK (eK e h)];show e
def aY (H H':Hp):Prop:= ∀b xs,Rd H b (.tup xs) ->Rd H' b (.tup xs)
theorem aY.refl (H:Hp):aY H H:=λ_ _ h=>h
theorem aY.trans {H H1 H2:Hp}(a:aY H H1)(b:aY H1 H2):aY H H2:=λc o h=>b c o (a c o h)
theorem fI.ts {H H':Hp}(a:fI H H'):aY H H':=λb xs h=>by obtain h | ⟨o,h⟩:=h;show .inl (a _ _ h);show .inr #[o,a _ _ h]
inductive Tg (K:PySem.W.Frag)(H:Hp):V ->Value ->Prop where
 | of {x:V} {t:Value} (h:pd K H x t):Tg K H x t
 | tup {a:Addr} {xs:List V} (h:jY K H a xs):Tg K H (.ref a) (.type "tuple")
 | lst {a:Addr} {xs:List V} (h:gT K H a xs):Tg K H (.ref a) (.type "list")
section
variable {X:Cx}
def Nh (K:RS):cV V ->Hp ->VK ->Prop:=λxs H Q=>gb λx T t b=>eT (xs= [x, .ty T]) (Tg K H x t) (W.kitOne K t (.type T)=some b) (Q (.bl b) H)
def Hn:fi X (.builtin "isinstance") (Nh X.K):=by
 intro af s σ H xs us Q I r h;let⟨x,T,t,b,rfl,ty,e,q⟩:=h;let⟨u,w',rfl,ru,vN⟩:=vals2 r;cases vN;cases ty with
 | of ty=>show DB I ru ty e λtk=>#[.bl b,H,I.tok tk,rfl,q]
 | tup hs=>cases ru;let⟨bJ,rv,⟨o,h1,h2,_⟩,_⟩:=I.tuple hs;show ci W.kitx_tuple I.lO #[o,h1,h2] e (λz=>nomatch z) λtk=>#[.bl b,H,I.tok tk,rfl,q]
 | lst hs=>cases ru;let⟨bJ,rv,ht,_⟩:=I.list hs;let⟨o,h1,h2,_⟩:=ht.isList;show ci W.kitx_list I.lO #[o,h1,h2] e (λz=>nomatch z) λtk=>#[.bl b,H,I.tok tk,rfl,q]
end
end L2
namespace L2
open PySem PyProof.Rows PyProof.V PySem.Calls PySem.Spec
def gX (P:RV)(w:W4):zl:=λouter H s E e s'=>vx λ(ea:gL) (cls a0:cW) (B:X4) (H':Hp)=>zy (e= .ref ea) (s'.os=s.os) (AllBare s'.gens) (Heap.FlyingW B outer ea cls a0 s'.heap) (lA P w H' B) (H' ea=none) (Un (jW outer) [] H H' s.heap s'.heap) (cT (∀b o,s.heap.get? b=some o ->H b=none ->b∉jW outer ->B.get? b=some o) (∀b o,s.heap.get? b=some o ->b∉jW outer -> ∃o',B.get? b=some o') (E cls none H'))
def dG.ex {P:RV}{w:W4}{H:Hp}{h:X4}{a:gL}{o:HO}(x:dG P w H h a o): ∃u,h.get? a=some u:=by
 cases o with
 | lst xs=>let⟨_,_,_,_,e⟩:=x;show#[_,e]
 | tup xs=>let⟨_,_,_,p,e,_⟩:=x;show#[_,e]
 | dK kvs=>let⟨_,_,_,_,o,_,_,e,_⟩:=x;show#[_,e]
 | dT kvs=>let⟨_,_,_,_,o,_,_,e,_⟩:=x;show#[_,e]
 | set S n=>let⟨o,_,_,_,e,_⟩:=x;show#[_,e]
 | ins C dx fs=>let⟨_,_,_,e,_⟩:=x;show#[_,e]
 | own y=>show x
 | xd fs=>let⟨_,⟨_,_,_,e,_⟩,_⟩:=x;show#[_,e]
 | Up lo hi=>let⟨_,_,_,e⟩:=x;show#[_,e]
 | jV ob u=>let⟨e,_⟩:=x;show#[_,e]
 | IQ ps=>show#[_,(show h.get? a=some _ from x)]
 | met f y=>show#[_,(show h.get? a=some _ from x)]
 | ext φ=>let⟨_,e,_⟩:=x;show e
section
variable {X:Cx}{af:cV (gL×Obj)}{σ:St}{H H':Hp}{s s':df}
theorem Inv.JF (I:Inv X af σ H s){b:gL}{o:Obj}(e:X.s₀.heap.get? b=some o)(n:b∉X.fs):b∉jW X.stack:=λz=>by obtain q | q:=aS.mp (I.vH b z);have h1:=aO e;have h2:=I.ok.above;rw[q] at h1;show absurd h1 (Nat.not_lt.mpr h2);show n q
theorem rF {outer:cV Env}{H₀:Hp}{h0 h h' B:X4}{base:X4}(ff:h.FunFrames base outer)(hF: ∀b∈jW outer,H₀ b=none)(u:Un (jW outer) [] H₀ H' h0 h)(st:B.StaysIn h')(up:h.UpToSlots h') (kb: ∀b o,h0.get? b=some o ->H₀ b=none ->b∉jW outer ->B.get? b=some o) (kt: ∀b o,h0.get? b=some o ->b∉jW outer -> ∃o',B.get? b=some o'):Un (jW outer) [] H₀ H' h0 h' where
 keep b o e n hb _:=st b o (kb b o e n hb)
 slot b o e n hb hx:=by let⟨sl,e1⟩:=u.slot b o e n hb hx;let⟨_,o2,e2,Sd⟩:=ff.mem hb;rw[e1] at e2;cases e2;let⟨Lq,e3⟩:=up b _ e1 Sd;show#[Lq,e3]
 free:=u.free
 there b o e hx:=by by_cases hb:b∈jW outer;let⟨sl,e1⟩:=u.slot b o e (hF b hb) hb hx;let⟨_,o2,e2,Sd⟩:=ff.mem hb;rw[e1] at e2;cases e2;let⟨Lq,e3⟩:=up b _ e1 Sd;show#[_,e3];let⟨o',e'⟩:=kt b o e hb;show#[o',st _ _ e']
 mF:=u.mF
 lE:=u.lE
 ol:=u.ol
def zV {P:RV}{w:W4}{K:RS}{mg:Str ->fP cW}{base:X4}{N:cV Str}{qual:Str}{scope:Scope}{f:gL}{cd:cW}{A:X7}{outer:cV Env}{s:df}{H:Hp}{E:XK}: gi (gX P w) (d0 (gX P w) P w K mg base N qual scope f cd A outer s H E) E:=by
 intro af σ H1 s1 e s' I hf;let⟨ea,cls,a0,B,H',rfl,os,bare,fl,cS,Cb,un,kb,kt,hE⟩:=hf;have I':=I.Hq (ch:= []) os un (cS.kept fl.1) bare (λb z=>absurd z (by simp));change wpAny _ _ (leaving _ (.ref ea)) _ _ s';exact wpAny_leaves_onW I.ok.frames rfl fl λh' fl' up=> ?_;have hex:(d0 (gX P w) P w K mg base N qual scope f cd A outer s H E).ex= []:=rfl;have kb': ∀b o,s.heap.get? b=some o ->H b=none ->b∉jW outer ->B.get? b=some o:=λb o e n hb=>kb b o (I.base.keep b o e n hb (λz=>absurd z (by simp[hex]))) (I.base.free b o e n (λz=>absurd z (by simp[hex]))) (I.JF e hb);have kt': ∀b o,s.heap.get? b=some o ->b∉jW outer -> ∃o',B.get? b=some o':=λb o e hb=>by let⟨o1,e1⟩:=I.base.there b o e (λz=>absurd z (by simp[hex]));show kt b o1 e1 (I.JF e hb)
 show#[ea,cls,a0,B,H',rfl,os.trans I.os,bare,fl',cS,Cb,rF I'.ml I.ok.Iu I'.base fl'.1 up kb' kt',kb',kt',hE]
def GV {P:RV}{w:W4}{M:Model}{E':cW ->df ->Prop}{E:XK}{h':X4}{e:gL}{cls:cW}{vs:cV cW}(hP:X.prog=P)(hw:X.w=w)(I:Inv X af σ H s)(sN:X.stack=X.env::X.outer)(DJ:X.env.frame=some X.env.locals)(hex:X.ex= []) (mk:Heap.MadeExcOf s.heap h' e cls vs) (hE:E cls none H): wpAny M X.A (leaving X.env (.ref e)) (λ_ s2=>gX P w X.outer X.H₀ X.s₀ E (.ref e) s2) E' {s with heap:=h'}:=by
 subst hP hw;have LK: ∀b:gL,b∉X.ex:=λb z=>by rw[hex] at z;show absurd z (by simp)
 have MX:=I.stack;have yq: ∀env∈X.stack, ∀b,env.frame=some b ->b∈jW X.stack:=λenv he b hb=>List.mem_filterMap.mpr #[env,he,hb];have hB:lA X.prog X.w H (W.hideAll s.heap (jW X.stack)):=λa o ea=>(I.cS a o ea).rL (λb u hb q=>W.hideAll_get _ q λhm=>by have:=I.qV b hm;obtain rfl | hb:=hb;rw[ea] at this;cases this;rw[hb] at this;cases this) (λ_ q=>q) λ_ _ q=>q;have Cb:H e=none:=by
  cases q:H e with
  | none=>rfl
  | some o=>let⟨u,hu⟩:=(I.cS e o q).ex;rw[mk.new] at hu;cases hu
 have kb: ∀b o,X.s₀.heap.get? b=some o ->X.H₀ b=none ->b∉jW X.outer ->(W.hideAll s.heap (jW X.stack)).get? b=some o:=λb o e n hb=>W.hideAll_get _ (I.base.keep b o e n hb (LK b)) (I.JF e hb);have kt: ∀b o,X.s₀.heap.get? b=some o ->b∉jW X.outer -> ∃o',(W.hideAll s.heap (jW X.stack)).get? b=some o':=λb o e hb=>by let⟨o1,e1⟩:=I.base.there b o e (LK b);show#[o1,W.hideAll_get _ e1 (I.JF e hb)]
 have Io:s.heap.FunFrames (W.hideAll s.heap (jW X.stack)) (X.env::X.outer):=by have:=W.funFrames_hide MX yq;rw[sN] at this ⊢;show this
 exact wpAny_leaves_madeW (by rw[I.ok.frames,sN]) DJ (λb o q=>W.of_hideAll _ q) Io mk λh2 t fl tu _ up=> ?_;have up':s.heap.UpToSlots h2:=(Heap.UpToSlots.of_keeps mk.keeps).trans up;have u0:Un (jW X.outer) [] X.H₀ H X.s₀.heap s.heap:=by have:=I.base;rw[hex] at this;show this
 show#[e,cls, .ref t,_,H,rfl,I.os,I.bare,fl,hB,Cb,rF I.ml I.ok.Iu u0 fl.1 up' kb kt,kb,kt,hE]
def CM (X:Cx)(E:XK):Prop:= ∀ (af:cV (gL×Obj)) (σ:St) (H:Hp) (s:df) (h':X4) (e:gL) (cls:cW) (vs:cV cW),Inv X af σ H s ->Heap.MadeExcOf s.heap h' e cls vs ->E cls none H ->X.xe (.ref e) {s with heap:=h'}
theorem GW {P:RV}{w:W4}{K:RS}{mg:Str ->fP cW}{base:X4}{N:cV Str}{qual:Str}{scope:Scope}{f:gL}{cd:cW}{A:X7}{outer:cV Env}{s:df}{H:Hp}{E:XK}: CM (d0 (gX P w) P w K mg base N qual scope f cd A outer s H E) E:=λaf σ H1 s1 h' e cls vs I mk hE=>GV (P:=P) (w:=w) rfl rfl I rfl rfl rfl mk hE
nonrec abbrev SX:cV cW:= [.type "ValueError", .type "Exception", .type "BaseException", .type "object"]
def zI (C:gL)(E:XK)(t:TA):TS:=λ_ σ H=>t σ H λvs H1=>vs.length<=sizeLine /\ E (.ref C) none H1
def FD {E:XK}{x:Str}{C:gL}{np dy pos:Pos}{e₀:Expr}{cU:cV Expr}{t:TA}(hF:CM X E)(hc:X.calm=true)(hg:Gl X x)(O:PyProof.Rows.OwnCls x C SX "ValueError.__new__" X.mg X.base)(ha:PA X (e₀::cU) t) (uW:(x==("__debug__" :Str))=false:=by decide) (he:starEach (e₀::cU) X.env=(false,eval e₀ X.env)::starEach cU X.env:=by rfl) (n_:(backTo dy (starEach cU X.env)).any (·.1)=false:=by rfl): PS X (.Raise (some (.Call (.Name x np) (e₀::cU) [] dy)) none pos) (zI C E t):=by intro af s σ H D I h;let⟨tl,N,nm,q,bs,hdct,sn,sub,ab,col,dd,k0,k1,k2,k3,k5,mN,hC,hN,DF,T⟩:=O.obj;exact wpAny_Raise_call_subU (C:=C) (nm:=nm) (q:=q) (N:=N) (bs:=bs) (bm:=tl) (hdct:=hdct) (sn:=sn) (sub:=sub) (ab:=ab) (col:=col) (dd:=dd) (k0:=k0) (k1:=k1) (k2:=k2) (k3:=k3) (k5:=k5) PySem.F.excBase_ValueError (bmB:=SX) (by decide+kernel) PySem.F.excBase_ValueError (mN:=mN) (T.hasType PySem.F.excBase_ValueError.hasBase) (I.ok.hd hc) (by rw[he];change(false || (backTo dy (starEach cU X.env)).any (·.1))=false;rw[n_];rfl) DF (nh I hg O.bound #[rfl,?_] uW);have h2:=ha dy af s σ H _ I h;rw[he] at h2 ⊢;show Calls.evalArgs_plain (cN h2 λus s2 ⟨vs,H1,I1,r,z,hE⟩=>#[rfl,by rw[<- r.length];show z,I1.bk _ _ hC,hN.keeps I1.bk,T.keeps I1.bk,λh' e mk=>hF af σ H1 s2 h' e (.ref C) us I1 mk hE])
end
def gl (a C:gL)(h:X4):Prop:= ∃o,h.get? a=some o /\ o.cls= .ref C
abbrev Cx.pN (X:Cx)(e:cW):Cx:= {X with A:=X.A.mark (some e),calm:=false,xe:=λ_ _=>False}
section
variable {X:Cx}{af:cV (gL×Obj)}{σ:St}{H H':Hp}{s s':df}
theorem Cx.Ok.pN (ok:X.Ok)(e:cW):(X.pN e).Ok:=#[ok.mod,ok.kind,ok.glob,ok.blt,ok.above,ok.inj,ok.has,ok.Px,(λz=>nomatch z),ok.frames,ok.MX,ok.exf,ok.bs,ok.Hr,ok.Dl,ok.As,ok.ml,ok.Iu]
theorem Inv.pN (I:Inv X af σ H s)(e:cW):Inv (X.pN e) af σ H s:=#[I.ok.pN e,I.os,I.bare,I.base,I.loc,I.cell,I.free,I.f6,I.pin,I.cS,I.len]
theorem Inv.vZ {e:cW}(ok:X.Ok)(I:Inv (X.pN e) af σ H s):Inv X af σ H s:=#[ok,I.os,I.bare,I.base,I.loc,I.cell,I.free,I.f6,I.pin,I.cS,I.len]
def sE {H1:Hp}{s1:df}{B h5:X4}{ea C:gL}{a0:cW}(I:Inv X af σ H1 s1)(os:s'.os=s1.os)(bare:AllBare s'.gens)(fl:Heap.FlyingW B X.stack ea (.ref C) a0 s'.heap)(cS:lA X.prog X.w H' B)(Cb:H' ea=none) (un:Un (jW X.stack) [] H1 H' s1.heap s'.heap) (kb: ∀b o,s1.heap.get? b=some o ->H1 b=none ->b∉jW X.stack ->B.get? b=some o) (kt: ∀b o,s1.heap.get? b=some o ->b∉jW X.stack -> ∃o',B.get? b=some o') (fl5:Heap.FlyingW B X.stack ea (.ref C) a0 h5) (up:s'.heap.UpToSlots h5) {tk:Nat}:Inv X af σ (cF H' ea (.ext (gl ea C))) {s' with heap:=h5,toks:=tk} /\ aY H1 (cF H' ea (.ext (gl ea C))):=by
 have new: ∀b o,s1.heap.get? b=some o ->b≠ea:=λb o e z=>by subst z;by_cases hb:b∈jW X.stack;let⟨_,o2,e2,Sd⟩:=fl.2.2.1.mem hb;let⟨oe,vs,e3,_,hd,_⟩:=fl.first;rw[e2] at e3;cases e3;show Sd vs hd;let⟨o',e'⟩:=kt b o e hb;rw[fl.2.1] at e';cases e'
 have u5:=rF fl.2.2.1 I.qV un fl5.1 up kb kt;have yg: ∀b o,H' b=some o ->cF H' ea (.ext (gl ea C)) b=some o:=λb o e=>by rw[bK (eK e Cb)];show e
 have u6:Un (jW X.stack) [] H1 (cF H' ea (.ext (gl ea C))) s1.heap h5:=#[u5.keep,u5.slot,λb o e n hx=>by rw[bK (new b o e)];show u5.free b o e n hx,u5.there,λb xs e=>yg _ _ (u5.mF b xs e),λb o u e=>yg _ _ (u5.lE b o u e),λb ps e=>let ⟨m,z⟩:=u5.ol b ps e;#[m,yg _ _ z]]
 have Xp:lA X.prog X.w (cF H' ea (.ext (gl ea C))) h5:=λb o e=>by by_cases hb:b=ea;subst hb;rw[bP] at e;cases e;let⟨oe,vs,e3,hc,_⟩:=fl5.first;show#[#[oe,e3,hc],#[oe,e3],λh1 h2 ⟨o,e,c⟩ k=>#[o,k o e,c]];rw[bK hb] at e;show(cS b o e).rL (λc u _ q=>fl5.1 c u q) (λc q=>yg _ _ q) λc xs q=>yg _ _ q
 exact#[I.Hq (s':= {s' with heap:=h5,toks:=tk}) (ch:= []) os u6 Xp bare (λb z=>absurd z (by simp)),λb xs r=> ?_];obtain r | ⟨w,r⟩:=r;show .inl (u6.mF _ _ r);show .inr #[w,u6.lE _ _ _ r]
theorem JJ {M:Model}{A:X7}{E:cW ->df ->Prop}{x:Str}{u:cW}{pos:Pos}{Q:cW ->df ->Prop}(I:Inv X af σ H s)(hg:Gl X x)(hm:X.mg x=some u)(h:Q u s) (hd:(x==("__debug__" :Str))=false:=by decide):wpAny M A (eval (.Name x pos) X.env) Q E s:=Calls.Name_function_global I.ok.kind hg (Calls.loadGlobal_global (by rw[I.ok.glob];show I.mod.glob.keeps I.bk) hm h) hd
end
end L2
namespace L2
open PySem PyProof.Rows PyProof.V PySem.Calls PySem.Spec PySem.W PySem.Builtin PySem.Builtin.ObjectAttr PySem.Builtin.Getset_descriptor
section
variable {prog:RV}{w:W4}{A:X7}{E:cW ->df ->Prop}{K:RS}{hh:X4}{g:RQ GenState}{d:Drawn}{t:Nat}{os:OsState}{a C:gL}{o:Obj}
theorem OC {M:Model}(hx:hh.get? a=some o)(hc:o.cls= .ref C):Looks M hh (typeOf (.ref a)) (.ref C):=hc▸ (Looks.ld hx).andThen .now
end
end L2
namespace L2
open PySem PyProof.Rows PyProof.V PySem.Calls PySem.Spec PySem.W
structure Tr (K:PySem.W.Frag)(C:Addr):Prop where
 cls:(clsIn K C).isSome=true
 ga:findIn K (.ref C) "__getattribute__" =some (some (.builtin "BaseException.__getattribute__"))
 gn:findIn K (.ref C) "__getattr__" =some none
 cl:findIn K (.ref C) "__class__" =some (some (.builtin "object.__class__"))
 mo:mroIn K C (.type "object")=some true
 mb:mroIn K C (.type "BaseException")=some true
end L2
namespace WL
open PySem L2
set_option genInjectivity true in
inductive W where
 | v (x:V) | tup (l:List W)
set_option genInjectivity true in
inductive MO where
 | lst (l:List W) | dK (kvs:List (cg×W)) | ins (C dx:Addr) (fs:List (Str×W)) | exc (C:Addr) | fz (o:Obj) (ks:List (cg×V)) (kvs:List (cg×W))
abbrev Mp:=gL ->fP MO
abbrev c8:=cV (fP W)
abbrev WK:=W ->Mp ->Prop
abbrev WE:=c8 ->Mp ->WK ->Prop
abbrev WT:=c8 ->Mp ->(Bool ->Mp ->Prop) ->Prop
abbrev WA:=c8 ->Mp ->(cV W ->Mp ->Prop) ->Prop
abbrev WG:=W ->c8 ->Mp ->(c8 ->Mp ->Prop) ->Prop
abbrev KA:=cV W ->c8 ->Mp ->(c8 ->Mp ->Prop) ->Prop
abbrev qi:=W ->W ->Mp ->WK ->Prop
abbrev AF:=cV W ->Mp ->WK ->Prop
abbrev WI:=c8 ->Mp ->(cV W ->(Mp ->Prop) ->Mp ->Prop) ->Prop
structure fD where
 nx:c8 ->Mp ->Prop
 rt:WK
 bk:c8 ->Mp ->Prop:=λ_ _=>False
 ct:c8 ->Mp ->Prop:=λ_ _=>False
abbrev WS:=fD ->c8 ->Mp ->Prop
@[reducible] def wi (i:Int):W:= .v (.int i)
@[reducible] def wb (b:Bool):W:= .v (.bl b)
@[reducible] def wr (a:gL):W:= .v (.ref a)
@[reducible] def ws (x:Str):W:= .v (.str x)
@[reducible] def wn:W:= .v .dO
def um (M:Mp)(a:gL)(o:MO):Mp:=λb=>if b=a then some o else M b
def aq {M:Mp}{a:gL}{o:MO}:um M a o a=some o:=by unfold um;rw[am rfl]
def aU {M:Mp}{a b:gL}{o:MO}(h:b≠a):um M a o b=M b:=by unfold um;rw[ak h]
def jv {M:Mp}{a:gL}{o u:MO}:um (um M a o) a u=um M a u:=by funext b;unfold um;split<;>rfl
def cC {M:Mp}{a b:gL}{o:MO}(h:M a=some o)(h':M b=none):a≠b:=by intro e;subst e;rw[h] at h';cases h'
def Sm (M M':Mp):Prop:= ∀b o,M b=some o ->M' b=some o
theorem Sm.refl (M:Mp):Sm M M:=λ_ _ h=>h
theorem Sm.trans {M M1 M2:Mp}(a:Sm M M1)(b:Sm M1 M2):Sm M M2:=λc o h=>b c o (a c o h)
def Sm.free {M M':Mp}{p:gL}(a:Sm M M')(h:M' p=none):M p=none:=by
 cases e:M p with
 | none=>rfl
 | some o=>rw[a p o e] at h;cases h
theorem bw {M:Mp}{p:gL}{o:MO}(h:M p=none):Sm M (um M p o):=λb u e=>by rw[aU (cC e h)];show e
theorem Sm.um {M M':Mp}{p:gL}{o:MO}(a:Sm M M')(h:M p=none):Sm M (um M' p o):=λb u e=>by rw[aU (cC e h)];show a b u e
mutual
def WR (K:RS)(H:Hp):W ->V ->Prop
 | .v x,v=>v=x
 | .tup l,v=>cx λa vs=>cT (v= .ref a) (jY K H a vs) (cM K H l vs)
def cM (K:RS)(H:Hp):cV W ->cV V ->Prop
 | [],vs=>vs= []
 | x::r,vs=>cx λv t=>cT (vs=v::t) (WR K H x v) (cM K H r t)
end
mutual
theorem WR.ts {K:RS}{H H':Hp}(a:aY H H'): ∀ (x:W) (v:V),WR K H x v ->WR K H' x v
 | .v x,v,h=>by simp![WR] at h ⊢;show h
 | .tup l,v,h=>by simp![WR] at h ⊢;let⟨p,vs,e,hs,hr⟩:=h;show#[p,vs,e,Un.sqT a hs,cM.ts a l vs hr]
theorem cM.ts {K:RS}{H H':Hp}(a:aY H H'): ∀ (l:cV W) (vs:cV V),cM K H l vs ->cM K H' l vs
 | [],vs,h=>by simp![cM] at h ⊢;show h
 | x::r,vs,h=>by simp![cM] at h ⊢;let⟨v,t,e,h1,h2⟩:=h;show#[v,t,e,WR.ts a x v h1,cM.ts a r t h2]
end
theorem cM.length {K:RS}{H:Hp}: ∀ {l:cV W} {vs:cV V},cM K H l vs ->vs.length=l.length
 | [],_,h=>by simp![cM] at h;subst h;rfl
 | d::r,vs,h=>by simp![cM] at h;let⟨v,t,rfl,_,h⟩:=h;simp[cM.length h]
theorem cM.at {K:RS}{H:Hp}: ∀ {l:cV W} {vs:cV V} {j:Nat} {d:W},cM K H l vs ->l[j]? =some d -> ∃v,vs[j]? =some v /\ WR K H d v
 | [],_,_,_,_,e=>by simp at e
 | d::r,vs,j,d',h,e=>by
  simp![cM] at h;let⟨v,t,rfl,h1,h⟩:=h;cases j with
  | zero=>simp at e;subst e;show#[v,rfl,h1]
  | succ j=>simpa using cM.at (j:=j) h ⇑e
theorem cM.mk {K:RS}{H:Hp}: ∀ {l:cV W} {vs:cV V},vs.length=l.length ->(∀ (j:Nat) d v,l[j]? =some d ->vs[j]? =some v ->WR K H d v) ->cM K H l vs
 | [],vs,h,_=>by simp![cM];show List.length_eq_zero_iff.mp h
 | d::r,[],h,_=>by simp at h
 | d::r,v::vs,h,k=>by simp![cM];show#[v,vs,rfl,k 0 d v rfl rfl,cM.mk ⇑h λj x u e1 e2=>k (j+1) x u ⇑e1 ⇑e2]
def cM.back {K:RS}{H:Hp}{l:cV W}{vs:cV V}{j:Nat}{v:V}(h:cM K H l vs)(e:vs[j]? =some v): ∃d,l[j]? =some d /\ WR K H d v:=by
 have hl:=h.length;have hj:j<l.length:=by have:=(bi.mp e).1;lia
 let⟨u,hu,r⟩:=h.at (j:=j) (d:=l[j]) (aG hj);rw[e] at hu;cases hu;show#[_,aG hj,r]
def cM.snoc {K:RS}{H:Hp}{l:cV W}{vs:cV V}{d:W}{v:V}(h:cM K H l vs)(hr:WR K H d v):cM K H (l++ [d]) (vs++ [v]):=by
 have hl:=h.length;exact cM.mk (by simp[hl]) λj x u e1 e2=> ?_;by_cases hj:j<l.length;rw[a7 hj] at e1;rw[a7 ∅] at e2;let⟨w,hw,r⟩:=h.at e1;rw[e2] at hw;cases hw;show r;rw[aZ ∅] at e1;rw[aZ ∅,hl] at e2;cases hk:j - l.length with
 | zero=>rw[hk] at e1 e2;simp at e1 e2;subst e1 e2;show hr
 | succ k=>rw[hk] at e1;simp at e1
def cM.append {K:RS}{H:Hp}{l m:cV W}{vs us:cV V}(h:cM K H l vs)(h':cM K H m us):cM K H (l++m) (vs++us):=by have hl:=h.length;have pO:=h'.length;exact cM.mk (by simp[hl,pO]) λj x u e1 e2=> ?_;by_cases hj:j<l.length;rw[a7 hj] at e1;rw[a7 ∅] at e2;let⟨w,hw,r⟩:=h.at e1;rw[e2] at hw;cases hw;show r;rw[aZ ∅] at e1;rw[aZ ∅,hl] at e2;let⟨w,hw,r⟩:=h'.at e1;rw[e2] at hw;cases hw;show r
def cM.drop {K:RS}{H:Hp}{l:cV W}{vs:cV V}(n:Nat)(h:cM K H l vs):cM K H (l.drop n) (vs.drop n):=by exact cM.mk (by simp[h.length]) λj x u e1 e2=> ?_;rw[List.getElem?_drop] at e1 e2;let⟨w,hw,r⟩:=h.at e1;rw[e2] at hw;cases hw;show r
def cM.take {K:RS}{H:Hp}{l:cV W}{vs:cV V}(n:Nat)(h:cM K H l vs):cM K H (l.take n) (vs.take n):=by exact cM.mk (by simp[h.length]) λj x u e1 e2=> ?_;rw[List.getElem?_take] at e1 e2;split at e1;rename_i hj;rw[am hj] at e2;let⟨w,hw,r⟩:=h.at e1;rw[e2] at hw;cases hw;show r;cases e1
def cM.set {K:RS}{H:Hp}{l:cV W}{vs:cV V}(n:Nat){d:W}{v:V}(h:cM K H l vs)(hr:WR K H d v):cM K H (l.set n d) (vs.set n v):=by have hl:=h.length;exact cM.mk (by simp[h.length]) λj x u e1 e2=> ?_;rw[List.getElem?_set] at e1 e2;split at e1;rename_i hj;rw[am hj] at e2;split at e1;split at e2;cases e1;cases e2;show hr;cases e2;cases e1;rename_i hj;rw[ak hj] at e2;let⟨w,hw,r⟩:=h.at e1;rw[e2] at hw;cases hw;show r
def cM.nil {K:RS}{H:Hp}:cM K H [] []:=by simp![cM]
def cM.cons {K:RS}{H:Hp}{x:W}{v:V}{l:cV W}{vs:cV V}(h:WR K H x v)(r:cM K H l vs):cM K H (x::l) (v::vs):=by simp![cM];show#[v,vs,rfl,h,r]
def WR.v {K:RS}{H:Hp}{x:V}:WR K H (.v x) x:=by simp![WR]
def WR.eq {K:RS}{H:Hp}{x v:V}(h:WR K H (.v x) v):v=x:=by simpa only[WR] using h
def WR.tup {K:RS}{H:Hp}{l:cV W}{v:V}(h:WR K H (.tup l) v):cx λa vs=>cT (v= .ref a) (jY K H a vs) (cM K H l vs):=by simpa only[WR] using h
def WR.NQ {K:RS}{H:Hp}{l:cV W}{a:gL}{vs:cV V}(h:jY K H a vs)(r:cM K H l vs):WR K H (.tup l) (.ref a):=by simp![WR];show#[a,vs,rfl,h,r]
def KR (K:RS)(H:Hp){κ:Type}:cV (κ×W) ->cV (κ×V) ->Prop:=Paired λp q=>p.1=q.1 /\ WR K H p.2 q.2
theorem KR.ts {K:RS}{H H':Hp}{κ:Type}(a:aY H H'): ∀ {l:cV (κ×W)} {vs:cV (κ×V)},KR K H l vs ->KR K H' l vs
 | _,_, .nil=> .nil
 | _,_, .cons ⟨e,r⟩ t=> .cons #[e,r.ts a] (KR.ts a t)
def MR (K:RS)(H:Hp)(a:gL):MO ->Prop
 | .lst l=> ∃vs,H a=some (.lst vs) /\ cM K H l vs
 | .dK kvs=> ∃ks,H a=some (.dK ks) /\ KR K H kvs ks
 | .ins C dx fs=> ∃ks,H a=some (.ins C dx ks) /\ KR K H fs ks
 | .exc C=>H a=some (.ext (gl a C))
 | .fz o ks kvs=>H a=some (.jV o (.dK ks)) /\ KR K H kvs ks
def MR.some {K:RS}{H:Hp}{a:gL}{o:MO}(h:MR K H a o): ∃u,H a=some u:=by
 cases o with
 | lst l=>let⟨_,e,_⟩:=h;show#[_,e]
 | dK l=>let⟨_,e,_⟩:=h;show#[_,e]
 | ins C d l=>let⟨_,e,_⟩:=h;show#[_,e]
 | exc C=>show#[_,h]
 | fz o l l2=>show#[_,h.1]
def MR.mv {K:RS}{H H':Hp}{a:gL}{o:MO}(t:aY H H')(e:H' a=H a)(h:MR K H a o):MR K H' a o:=by
 cases o with
 | lst l=>let⟨vs,e1,r⟩:=h;show#[vs,e.trans e1,r.ts t]
 | dK l=>let⟨vs,e1,r⟩:=h;show#[vs,e.trans e1,r.ts t]
 | ins C d l=>let⟨vs,e1,r⟩:=h;show#[vs,e.trans e1,r.ts t]
 | exc C=>show e.trans h
 | fz o l l2=>show#[e.trans h.1,h.2.ts t]
def fK (K:RS)(M:Mp)(H:Hp):Prop:= ∀a o,M a=some o ->MR K H a o
def fK.fresh {K:RS}{M:Mp}{H:Hp}(h:fK K M H){p:gL}(hp:H p=none):M p=none:=by
 cases e:M p with
 | none=>rfl
 | some o=>let⟨u,hu⟩:=(h p o e).some;rw[hp] at hu;cases hu
theorem fK.new {K:RS}{M:Mp}{H:Hp}(h:fK K M H){p:gL}{u:HO}(hp:H p=none):fK K M (cF H p u):=λa o e=>by have:=h a o e;let⟨w,hw⟩:=this.some;show this.mv (L2.fI.ts (bZ hp)) (bK (eK hw hp))
theorem A4 {H:Hp}{a:gL}{o u:HO}(h:H a=some o)(hn: ∀xs,o≠ .tup xs)(hf: ∀b xs,o≠ .jV b (.tup xs)):aY H (cF H a u):=λb xs r=>by
 have nb:b≠a:=λe=>by subst e;obtain r | ⟨w,r⟩:=r;rw[h] at r;cases r;show hn _ rfl;rw[h] at r;cases r;show hf _ _ rfl
 unfold Rd;rw[bK nb];show r
theorem fK.put {K:RS}{M:Mp}{H:Hp}(h:fK K M H){a:gL}{o:MO}{u:HO}(t:aY H (cF H a u))(new:MR K (cF H a u) a o):fK K (um M a o) (cF H a u):=λb x e=>by by_cases hb:b=a;subst hb;rw[aq] at e;cases e;show new;rw[aU hb] at e;show(h b x e).mv t (bK hb)
theorem fK.xV {K:RS}{M:Mp}{H:Hp}(h:fK K M H){p:gL}{l:cV W}{vs:cV V}(hp:H p=none)(r:cM K H l vs):fK K (um M p (.lst l)) (cF H p (.lst vs)):=h.put (L2.fI.ts (bZ hp)) #[vs,bP,r.ts (L2.fI.ts (bZ hp))]
theorem jh {H:Hp}{a:gL}{xs:cV V}{u:HO}(h:H a=some (.lst xs)):aY H (cF H a u):=A4 h (λ_ z=>nomatch z) λ_ _ z=>nomatch z
theorem j6 {H:Hp}{a:gL}{xs:cV (cg×V)}{u:HO}(h:H a=some (.dK xs)):aY H (cF H a u):=A4 h (λ_ z=>nomatch z) λ_ _ z=>nomatch z
theorem MN {H:Hp}{a C d:gL}{xs:cV (Str×V)}{u:HO}(h:H a=some (.ins C d xs)):aY H (cF H a u):=A4 h (λ_ z=>nomatch z) λ_ _ z=>nomatch z
theorem fK.putL {K:RS}{M:Mp}{H:Hp}(h:fK K M H){a:gL}{xs:cV V}{l:cV W}{vs:cV V}(e:H a=some (.lst xs))(r:cM K H l vs):fK K (um M a (.lst l)) (cF H a (.lst vs)):=h.put (jh e) #[vs,bP,r.ts (jh e)]
theorem fK.putD {K:RS}{M:Mp}{H:Hp}(h:fK K M H){a:gL}{xs:cV (cg×V)}{l:cV (cg×W)}{vs:cV (cg×V)}(e:H a=some (.dK xs))(r:KR K H l vs):fK K (um M a (.dK l)) (cF H a (.dK vs)):=h.put (j6 e) #[vs,bP,KR.ts (j6 e) r]
def Iy (K:RS)(H:Hp)(ρ:c8)(σ:St):Prop:=ρ.length=σ.length /\ ∀ (i:Nat) x,ρ[i]? =some (some x) -> ∃v,σ[i]? =some (some v) /\ WR K H x v
theorem Iy.ts {K:RS}{H H':Hp}{ρ:c8}{σ:St}(t:aY H H')(h:Iy K H ρ σ):Iy K H' ρ σ:=#[h.1,λi x e=>let ⟨v,a,r⟩:=h.2 i x e;#[v,a,r.ts t]]
structure Ok (K:PySem.W.Frag)(ρ:c8)(M:Mp)(σ:St)(H:Hp):Prop where
 env:Iy K H ρ σ
 hp:fK K M H
theorem Ok.mv {K:RS}{ρ:c8}{M M':Mp}{σ:St}{H H':Hp}(o:Ok K ρ M σ H)(t:aY H H')(m:fK K M' H'):Ok K ρ M' σ H':=#[o.env.ts t,m]
def Iy.set {K:RS}{H:Hp}{ρ:c8}{σ:St}(h:Iy K H ρ σ)(i:Nat){x:W}{v:V}(r:WR K H x v):Iy K H (ρ.set i (some x)) (σ.set i (some v)):=by exact#[by simp[h.1],λj y e=> ?_];rw[List.getElem?_set] at e ⊢;split at e;rename_i hj;rw[am hj];split at e;rename_i lD;rw[am (by rw[<- h.1];show lD)];cases e;show#[v,rfl,r];cases e;rename_i hj;rw[ak hj];show h.2 j y e
section
variable (K:RS)
class IE (t:TE) (w:outParam WE):Prop where
 imp: ∀ (ρ:c8) (M:Mp) (σ:St) (H:Hp) (q:WK) (Q:VK),Ok K ρ M σ H ->w ρ M q ->(∀x M' v H',q x M' ->aY H H' ->fK K M' H' ->WR K H' x v ->Q v H') ->t σ H Q
class IT (t:TT) (w:outParam WT):Prop where
 imp: ∀ (ρ:c8) (M:Mp) (σ:St) (H:Hp) (q:Bool ->Mp ->Prop) (Q:Bool ->Hp ->Prop),Ok K ρ M σ H ->w ρ M q ->(∀b M' H',q b M' ->aY H H' ->fK K M' H' ->Q b H') ->t σ H Q
class IA (t:TA) (w:outParam WA):Prop where
 imp: ∀ (ρ:c8) (M:Mp) (σ:St) (H:Hp) (q:List W ->Mp ->Prop) (Q:List V ->Hp ->Prop),Ok K ρ M σ H ->w ρ M q ->(∀x M' v H',q x M' ->aY H H' ->fK K M' H' ->cM K H' x v ->Q v H') ->t σ H Q
class IG (t:TG) (w:outParam WG):Prop where
 imp: ∀ (x:W) (v:V) (ρ:c8) (M:Mp) (σ:St) (H:Hp) (q:c8 ->Mp ->Prop) (Q:St ->Hp ->Prop),Ok K ρ M σ H ->WR K H x v ->w x ρ M q ->(∀ρ' M' σ' H',q ρ' M' ->aY H H' ->Ok K ρ' M' σ' H' ->Q σ' H') ->t v σ H Q
class U8 (t:Iz) (w:outParam KA):Prop where
 imp: ∀ (x:List W) (v:List V) (ρ:c8) (M:Mp) (σ:St) (H:Hp) (q:c8 ->Mp ->Prop) (Q:St ->Hp ->Prop),Ok K ρ M σ H ->cM K H x v ->w x ρ M q ->(∀ρ' M' σ' H',q ρ' M' ->aY H H' ->Ok K ρ' M' σ' H' ->Q σ' H') ->t v σ H Q
structure ll (H:Hp)(D':fD)(D:tR):Prop where
 nx: ∀ρ' M' σ' H',D'.nx ρ' M' ->aY H H' ->Ok K ρ' M' σ' H' ->D.nx σ' H'
 rt: ∀x M' v H',D'.rt x M' ->aY H H' ->fK K M' H' ->WR K H' x v ->D.rt v H'
 bk: ∀ρ' M' σ' H',D'.bk ρ' M' ->aY H H' ->Ok K ρ' M' σ' H' ->D.bk σ' H'
 ct: ∀ρ' M' σ' H',D'.ct ρ' M' ->aY H H' ->Ok K ρ' M' σ' H' ->D.ct σ' H'
class IS (t:TS) (w:outParam WS):Prop where
 imp: ∀ (ρ:c8) (M:Mp) (σ:St) (H:Hp) (D':fD) (D:tR),Ok K ρ M σ H ->w D' ρ M ->ll K H D' D ->t D σ H
class IR (r:R2) (w:outParam qi):Prop where
 imp: ∀ (x y:W) (v u:V) (M:Mp) (H:Hp) (q:WK) (Q:VK),fK K M H ->WR K H x v ->WR K H y u ->w x y M q ->(∀x M' v H',q x M' ->aY H H' ->fK K M' H' ->WR K H' x v ->Q v H') ->r v u H Q
class IU (r:V ->Hp ->VK ->Prop) (w:outParam (W ->Mp ->WK ->Prop)):Prop where
 imp: ∀ (x:W) (v:V) (M:Mp) (H:Hp) (q:WK) (Q:VK),fK K M H ->WR K H x v ->w x M q ->(∀x M' v H',q x M' ->aY H H' ->fK K M' H' ->WR K H' x v ->Q v H') ->r v H Q
class IC (r:List V ->Hp ->VK ->Prop) (w:outParam AF):Prop where
 imp: ∀ (x:List W) (v:List V) (M:Mp) (H:Hp) (q:WK) (Q:VK),fK K M H ->cM K H x v ->w x M q ->(∀x M' v H',q x M' ->aY H H' ->fK K M' H' ->WR K H' x v ->Q v H') ->r v H Q
end
theorem ll.mv {K:RS}{H H':Hp}{D':fD}{D:tR}(e:ll K H D' D)(t:aY H H'):ll K H' D' D:=#[λa b c d h s=>e.nx a b c d h (t.trans s),λa b c d h s=>e.rt a b c d h (t.trans s),λa b c d h s=>e.bk a b c d h (t.trans s),λa b c d h s=>e.ct a b c d h (t.trans s)]
end WL
namespace WL
open PySem L2
section
variable {K:RS}
def eV (i:Nat):WE:=λρ M q=>match ρ[i]? with
 | some (some x)=>q x M
 | _=>False
def EH {i:Nat}{ρ:c8}{M:Mp}{q:WK}(h:eV i ρ M q): ∃x,ρ[i]? =some (some x) /\ q x M:=by unfold eV at h;split at h;rename_i x e;show#[x,e,h];show h.elim
instance {i:Nat}:IE K (IW i) (eV i) where
 imp:=λρ M σ H q Q o h k=>let ⟨x,e,h⟩:=EH h;let ⟨v,e',r⟩:=o.env.2 i x e;#[v,e',k x M v H h (aY.refl H) o.hp r]
def wC (x:W):WE:=λ_ M q=>q x M
instance {v:V}:IE K (tC v) (wC (.v v)) where
 imp:=λρ M σ H q Q o h k=>k (.v v) M v H h (aY.refl H) o.hp WR.v
def IH (r:qi)(a b:WE):WE:=λρ M q=>a ρ M λx M1=>b ρ M1 λy M2=>r x y M2 q
instance {r:R2}{w:qi}{ta tb:TE}{a b:WE} [ir:IR K r w] [ia:IE K ta a] [ib:IE K tb b]:IE K (QB r ta tb) (IH w a b) where
 imp:=λρ M σ H q Q o h k=>ia.imp ρ M σ H _ _ o h λx M1 v H1 h1 t1 m1 r1=>ib.imp ρ M1 σ H1 _ _ (o.mv t1 m1) h1 λy M2 u H2 h2 t2 m2 r2=>ir.imp x y v u M2 H2 _ _ m2 (r1.ts t2) r2 h2 λz M3 v3 H3 h3 t3 m3 r3=>k z M3 v3 H3 h3 ((t1.trans t2).trans t3) m3 r3
def wUn (r:W ->Mp ->WK ->Prop)(a:WE):WE:=λρ M q=>a ρ M λx M1=>r x M1 q
instance {r:V ->Hp ->VK ->Prop}{w:W ->Mp ->WK ->Prop}{ta:TE}{a:WE} [ir:IU K r w] [ia:IE K ta a]:IE K (tUn r ta) (wUn w a) where
 imp:=λρ M σ H q Q o h k=>ia.imp ρ M σ H _ _ o h λx M1 v H1 h1 t1 m1 r1=>ir.imp x v M1 H1 _ _ m1 r1 h1 λz M3 v3 H3 h3 t3 m3 r3=>k z M3 v3 H3 h3 (t1.trans t3) m3 r3
def wI (C:Int ->Int ->Prop)(g:Int ->Int ->V):qi:=λx y M q=> ∃i j,x=wi i /\ y=wi j /\ C i j /\ q (.v (g i j)) M
def VC (g:Int ->Int ->V):qi:=λx y M q=>cx λi j=>cT (x=wi i) (y=wi j) (q (.v (g i j)) M)
def wU (g:Int ->V):W ->Mp ->WK ->Prop:=λx M q=> ∃i,x=wi i /\ q (.v (g i)) M
instance {C:Int ->Int ->Prop}{g:Int ->Int ->V}:IR K (rI C g) (wI C g) where
 imp:=by rintro x y v u M H q Q m r1 r2 ⟨i,j,rfl,rfl,c,h⟩ k;show#[i,j,r1.eq,r2.eq,c,k _ M _ H h (aY.refl H) m WR.v]
instance {g:Int ->Int ->V}:IR K (Jg g) (VC g) where
 imp:=by rintro x y v u M H q Q m r1 r2 ⟨i,j,rfl,rfl,h⟩ k;show#[i,j,r1.eq,r2.eq,k _ M _ H h (aY.refl H) m WR.v]
instance {g:Int ->V}:IU K (rU g) (wU g) where
 imp:=by rintro x v M H q Q m r1 ⟨i,rfl,h⟩ k;show#[i,r1.eq,k _ M _ H h (aY.refl H) m WR.v]
def O3:qi:=λx y M q=>cx λa b=>eT (x= .v a) (y= .v b) (Jb a b=true) (q (wb (decide (a=b))) M)
def Vs:qi:=λx y M q=>cx λa b=>eT (x= .v a) (y= .v b) (Jb a b=true) (q (wb (!decide (a=b))) M)
instance:IR K rEq O3 where
 imp:=by rintro x y v u M H q Q m r1 r2 ⟨i,j,rfl,rfl,c,h⟩ k;cases r1.eq;cases r2.eq;show#[c,k _ M _ H h (aY.refl H) m WR.v]
instance:IR K rNe Vs where
 imp:=by rintro x y v u M H q Q m r1 r2 ⟨i,j,rfl,rfl,c,h⟩ k;cases r1.eq;cases r2.eq;show#[c,k _ M _ H h (aY.refl H) m WR.v]
def xg (a:WE):WT:=λρ M q=>a ρ M λx M1=> ∃k,x=wb k /\ q k M1
instance {t:TE}{a:WE} [ia:IE K t a]:IT K (E3 t) (xg a) where
 imp:=λρ M σ H q Q o h k=>ia.imp ρ M σ H _ _ o h λx M1 v H1 ⟨b,e,h1⟩ t1 m1 r1=>by subst e;show#[b,r1.eq,k b M1 H1 h1 t1 m1]
instance {t:TE}{a:WE} [ia:IE K t a]:IT K (tB t) (xg a) where
 imp:=λρ M σ H q Q o h k=>ia.imp ρ M σ H _ _ o h λx M1 v H1 ⟨b,e,h1⟩ t1 m1 r1=>by subst e;show#[b,r1.eq,k b M1 H1 h1 t1 m1]
def Ql (a b:WT):WT:=λρ M q=>a ρ M λc M1=>if c=true then b ρ M1 q else q false M1
def wOr (a b:WT):WT:=λρ M q=>a ρ M λc M1=>if c=true then q true M1 else b ρ M1 q
def PX (a:WT):WT:=λρ M q=>a ρ M λc M1=>q (!c) M1
instance {t u:TT}{a b:WT} [ia:IT K t a] [ib:IT K u b]:IT K (QL t u) (Ql a b) where
 imp:=λρ M σ H q Q o h k=>ia.imp ρ M σ H _ _ o h λc M1 H1 h1 t1 m1=>by
  cases c with
  | true=>simp![bX] at h1 ⊢;show ib.imp ρ M1 σ H1 _ _ (o.mv t1 m1) h1 λb M2 H2 h2 t2 m2=>k b M2 H2 h2 (t1.trans t2) m2
  | false=>simp![ay,bv] at h1 ⊢;show k _ M1 H1 h1 t1 m1
instance {t u:TT}{a b:WT} [ia:IT K t a] [ib:IT K u b]:IT K (tOr t u) (wOr a b) where
 imp:=λρ M σ H q Q o h k=>ia.imp ρ M σ H _ _ o h λc M1 H1 h1 t1 m1=>by
  cases c with
  | false=>simp![ay,bv] at h1 ⊢;show ib.imp ρ M1 σ H1 _ _ (o.mv t1 m1) h1 λb M2 H2 h2 t2 m2=>k b M2 H2 h2 (t1.trans t2) m2
  | true=>simp![bX] at h1 ⊢;show k _ M1 H1 h1 t1 m1
instance {t:TT}{a:WT} [ia:IT K t a]:IT K (QC t) (PX a) where
 imp:=λρ M σ H q Q o h k=>ia.imp ρ M σ H _ _ o h λc M1 H1 h1 t1 m1=>k _ M1 H1 h1 t1 m1
def La (a b:WE):WE:=λρ M q=>a ρ M λx M1=> ∃c,x=wb c /\ if c=true then b ρ M1 q else q (wb false) M1
def PV (a b:WE):WE:=λρ M q=>a ρ M λx M1=> ∃c,x=wb c /\ if c=true then q (wb true) M1 else b ρ M1 q
def K3 (a:WE):WE:=λρ M q=>a ρ M λx M1=> ∃c,x=wb c /\ q (wb (!c)) M1
instance {t u:TE}{a b:WE} [ia:IE K t a] [ib:IE K u b]:IE K (Lo t u) (La a b) where
 imp:=λρ M σ H q Q o h k=>ia.imp ρ M σ H _ _ o h λx M1 v H1 ⟨c,e,h1⟩ t1 m1 r1=>by
  subst e;exact#[c,r1.eq,?_];cases c with
  | true=>simp![bX] at h1 ⊢;show ib.imp ρ M1 σ H1 _ _ (o.mv t1 m1) h1 λb M2 v H2 h2 t2 m2 r2=>k b M2 v H2 h2 (t1.trans t2) m2 r2
  | false=>simp![ay,bv] at h1 ⊢;show k _ M1 _ H1 h1 t1 m1 WR.v
instance {t u:TE}{a b:WE} [ia:IE K t a] [ib:IE K u b]:IE K (QA t u) (PV a b) where
 imp:=λρ M σ H q Q o h k=>ia.imp ρ M σ H _ _ o h λx M1 v H1 ⟨c,e,h1⟩ t1 m1 r1=>by
  subst e;exact#[c,r1.eq,?_];cases c with
  | false=>simp![ay,bv] at h1 ⊢;show ib.imp ρ M1 σ H1 _ _ (o.mv t1 m1) h1 λb M2 v H2 h2 t2 m2 r2=>k b M2 v H2 h2 (t1.trans t2) m2 r2
  | true=>simp![bX] at h1 ⊢;show k _ M1 _ H1 h1 t1 m1 WR.v
instance {t:TE}{a:WE} [ia:IE K t a]:IE K (Lk t) (K3 a) where
 imp:=λρ M σ H q Q o h k=>ia.imp ρ M σ H _ _ o h λx M1 v H1 ⟨c,e,h1⟩ t1 m1 r1=>by subst e;show#[c,r1.eq,k _ M1 _ H1 h1 t1 m1 WR.v]
def ET (r r':qi)(a b c:WE):WE:=λρ M q=>a ρ M λx M1=>b ρ M1 λy M2=>r x y M2 λz M3=> ∃k,z=wb k /\ if k=true then c ρ M3 λy' M4=>r' y y' M4 λz' M5=>q z' M5 else q (wb false) M3
def PY:WA:=λ_ M q=>q [] M
def K8 (a:WE)(r:WA):WA:=λρ M q=>a ρ M λx M1=>r ρ M1 λxs M2=>q (x::xs) M2
instance:IA K CU PY where
 imp:=λρ M σ H q Q o h k=>k [] M [] H h (aY.refl H) o.hp cM.nil
instance {t:TE}{u:TA}{a:WE}{b:WA} [ia:IE K t a] [ib:IA K u b]:IA K (Fa t u) (K8 a b) where
 imp:=λρ M σ H q Q o h k=>ia.imp ρ M σ H _ _ o h λx M1 v H1 h1 t1 m1 r1=>ib.imp ρ M1 σ H1 _ _ (o.mv t1 m1) h1 λy M2 u H2 h2 t2 m2 r2=>k _ M2 _ H2 h2 (t1.trans t2) m2 (cM.cons (r1.ts t2) r2)
def PN (a:WA):WE:=λρ M q=>a ρ M λxs M1=>xs.length<=sizeLine /\ q (.tup xs) M1
def P9 (a:WA):WE:=λρ M q=>a ρ M λxs M1=>xs.length<=sizeLine /\ ∀p,M1 p=none ->q (wr p) (um M1 p (.lst xs))
instance {t:TA}{a:WA} [ia:IA K t a]:IE K (Qx t) (PN a) where
 imp:=λρ M σ H q Q o h k=>ia.imp ρ M σ H _ _ o h λx M1 v H1 ⟨hl,h1⟩ t1 m1 r1=>#[by rw[r1.length];show hl,λp hp=>k _ M1 _ _ h1 (t1.trans (L2.fI.ts (bZ hp))) (m1.new hp) (WR.NQ (jY.of bP) (r1.ts (L2.fI.ts (bZ hp))))]
instance {t:TA}{a:WA} [ia:IA K t a]:IE K (QD t) (P9 a) where
 imp:=λρ M σ H q Q o h k=>ia.imp ρ M σ H _ _ o h λx M1 v H1 ⟨hl,h1⟩ t1 m1 r1=>#[by rw[r1.length];show hl,λp hp=>k _ _ _ _ (h1 p (m1.fresh hp)) (t1.trans (L2.fI.ts (bZ hp))) (m1.xV hp r1) WR.v]
def P_:qi:=λx y M q=>gb λa l i u=>fS (x=wr a) (y=wi i) (M a=some (.lst l)) (hU l i=some u) (q u M)
def EM:qi:=λx y M q=>dQ λl i u=>eT (x= .tup l) (y=wi i) (hU l i=some u) (q u M)
def cM.hU {H:Hp}{l:cV W}{vs:cV V}{i:Int}{u:W}(r:cM K H l vs)(e:hU l i=some u): ∃v,L2.hU vs i=some v /\ WR K H u v:=by
 unfold L2.hU at e ⊢;rw[r.length];cases h:zt l.length i with
 | none=>rw[h] at e;cases e
 | some j=>rw[h] at e;show r.at e
instance:IR K (iD K) P_ where
 imp:=by rintro x y v u M H q Q m r1 r2 ⟨a,l,i,z,rfl,rfl,hl,e,h⟩ k;let⟨vs,hv,r⟩:=m a _ hl;let⟨v',e',r'⟩:=r.hU e;show#[a,vs,i,v',r1.eq,r2.eq,gT.of hv,e',k _ M _ H h (aY.refl H) m r']
instance:IR K (bq K) EM where
 imp:=by rintro x y v u M H q Q m r1 r2 ⟨l,i,z,rfl,rfl,e,h⟩ k;let⟨a,vs,rfl,hv,r⟩:=r1.tup;let⟨v',e',r'⟩:=r.hU e;show#[a,vs,i,v',rfl,r2.eq,hv,e',k _ M _ H h (aY.refl H) m r']
end
abbrev WO:=c8 ->Mp ->(fP Int ->Mp ->Prop) ->Prop
class IO (K:PySem.W.Frag) (t:TO) (w:outParam WO):Prop where
 imp: ∀ (ρ:c8) (M:Mp) (σ:St) (H:Hp) (q:Option Int ->Mp ->Prop) (Q:Option Int ->Hp ->Prop),Ok K ρ M σ H ->w ρ M q ->(∀b M' H',q b M' ->aY H H' ->fK K M' H' ->Q b H') ->t σ H Q
abbrev Te:=W ->fP Int ->fP Int ->Mp ->WK ->Prop
class ISl (K:PySem.W.Frag) (r:V ->Option Int ->Option Int ->Hp ->VK ->Prop) (w:outParam Te):Prop where
 imp: ∀ (x:W) (v:V) (lo hi:Option Int) (M:Mp) (H:Hp) (q:WK) (Q:VK),fK K M H ->WR K H x v ->w x lo hi M q ->(∀x M' v H',q x M' ->aY H H' ->fK K M' H' ->WR K H' x v ->Q v H') ->r v lo hi H Q
section
variable {K:RS}
def A0:WO:=λ_ M q=>q none M
def K2 (a:WE):WO:=λρ M q=>a ρ M λx M1=> ∃i,x=wi i /\ q (some i) M1
instance:IO K A8 A0 where
 imp:=λρ M σ H q Q o h k=>k _ M H h (aY.refl H) o.hp
instance {t:TE}{a:WE} [ia:IE K t a]:IO K (Lj t) (K2 a) where
 imp:=λρ M σ H q Q o h k=>ia.imp ρ M σ H _ _ o h λx M1 v H1 ⟨i,e,h1⟩ t1 m1 r1=>by subst e;show#[i,r1.eq,k _ M1 H1 h1 t1 m1]
def wSl (r:Te)(a:WE)(lo hi:WO):WE:=λρ M q=>a ρ M λx M1=>lo ρ M1 λl M2=>hi ρ M2 λu M3=>r x l u M3 q
instance {r:V ->fP Int ->fP Int ->Hp ->VK ->Prop}{w:Te}{t:TE}{tl th:TO}{a:WE}{lo hi:WO} [ir:ISl K r w] [ia:IE K t a] [il:IO K tl lo] [ih:IO K th hi]:IE K (tSl r t tl th) (wSl w a lo hi) where
 imp:=λρ M σ H q Q o h k=>ia.imp ρ M σ H _ _ o h λx M1 v H1 h1 t1 m1 r1=>il.imp ρ M1 σ H1 _ _ (o.mv t1 m1) h1 λl M2 H2 h2 t2 m2=>ih.imp ρ M2 σ H2 _ _ (o.mv (t1.trans t2) m2) h2 λu M3 H3 h3 t3 m3=>ir.imp x v l u M3 H3 _ _ m3 (r1.ts (t2.trans t3)) h3 λy M4 v4 H4 h4 t4 m4 r4=>k y M4 v4 H4 h4 (((t1.trans t2).trans t3).trans t4) m4 r4
def wCB (r:AF)(a:WA):WE:=λρ M q=>a ρ M λxs M1=>r xs M1 q
instance {r:cV V ->Hp ->VK ->Prop}{w:AF}{t:TA}{a:WA} [ir:IC K r w] [ia:IA K t a]:IE K (VY r t) (wCB w a) where
 imp:=λρ M σ H q Q o h k=>ia.imp ρ M σ H _ _ o h λx M1 v H1 h1 t1 m1 r1=>ir.imp x v M1 H1 _ _ m1 r1 h1 λy M4 v4 H4 h4 t4 m4 r4=>k y M4 v4 H4 h4 (t1.trans t4) m4 r4
abbrev fC:=cV W ->Mp ->WK ->Prop
def fF (K:RS)(p:fC):Sp:=λvs H Q _=>dQ λ(xs:cV W) (M:Mp) (q:WK)=>eT (cM K H xs vs) (fK K M H) (p xs M q) (∀x M' v H',q x M' ->aY H H' ->fK K M' H' ->WR K H' x v ->Q v H')
def K_ (p:fC)(a:WA):WE:=λρ M q=>a ρ M λxs M1=>p xs M1 q
instance {p:fC}{E:XK}{t:TA}{a:WA} [ia:IA K t a]:IE K (uF (fF K p) [] E t) (K_ p a) where
 imp:=λρ M σ H q Q o h k=>ia.imp ρ M σ H _ _ o h λx M1 v H1 h1 t1 m1 r1=>#[x,M1,q,by rw[dn];show r1,m1,h1,λy M4 v4 H4 h4 t4 m4 r4=>k y M4 v4 H4 h4 (t1.trans t4) m4 r4]
def okW {P:RV}{w:W4}{mg:Str ->fP cW}{base:X4}{x qual:Str}{st:Stmt}{f:gL}{fd:X6}{N ps:cV Str}{k:Nat}{p:fC}(F:za K x qual st f fd)(S:cq N ps (aP st))(len: ∀vs M q,p vs M q ->vs.length=ps.length) (i_: ∀ (cdv:cW) (A:X7) (outer:cV Env) (s:df) (H:Hp) (E:XK),dX k (A.deeper (PyProof.Rows.envOfC qual (aP st) s.heap.objs.size f cdv)) ->cx λt w'=>cT (wZ (d0 eU P w K mg base N qual (aP st) f cdv A outer s H E).Ia (dt st) t) (IS K t w') (∀vs M q,p vs M q ->w' {nx:=λ_ M'=>q wn M',rt:=q} (vs.map some++List.replicate (N.length - vs.length) none) M)): bA P w K mg base eU (k+1) f fd ps (fF K p):=by
 exact za.ok F S (λvs H Q E ⟨xs,M,q,r,m,h,_⟩=>by rw[r.length];show len xs M q h) λcdv A outer s H vs Q E hr h=> ?_;let⟨t,w',h1,h2,h3⟩:=i_ cdv A outer s H E hr;let⟨xs,M,q,r,m,h,k'⟩:=h;exact#[t,h1,h2.imp _ M _ H _ _ #[#[?_,λi x e=> ?_],m] (h3 xs M q h) #[λρ' M' σ' H' h ts o=>k' _ M' _ H' h ts o.hp WR.v,λx M' v H' h ts m' r'=>k' x M' v H' h ts m' r',λ_ _ _ _ h=>h.elim,λ_ _ _ _ h=>h.elim]];have:=r.length;simp[L2.start,this];have hl:=r.length;unfold L2.start;by_cases hi:i<xs.length;rw[a7 ⇑hi,aH] at e;cases ex:xs[i]? with
 | none=>rw[ex] at e;cases e
 | some y=>rw[ex] at e;cases e;let⟨v,hv,rv⟩:=r.at ex;exact#[v,?_,rv];rw[a7 (by simp;lia),aH,hv];rfl
 rw[aZ ⇑hi,c6] at e;split at e<;>cases e
def Nf (K:RS):cV V ->Hp ->VK ->Prop:=λxs H Q=>cx λp ys=>cT (xs= [.ref p]) (gT K H p ys \/ jY K H p ys) (Q (.int ys.length) H)
theorem DZ {X:Cx}:fi X (.builtin "len") (Nf X.K):=wG
def Mz:AF:=λxs M q=>(cx λa l=>cT (xs= [wr a]) (M a=some (.lst l)) (q (wi l.length) M)) \/ ∃l,xs= [.tup l] /\ q (wi l.length) M
def cM.one {H:Hp}{x:W}{vs:cV V}(h:cM K H [x] vs): ∃v,vs= [v] /\ WR K H x v:=by simp![cM] at h;let⟨v,t,rfl,h1,rfl⟩:=h;show#[v,rfl,h1]
def cM.two {H:Hp}{x y:W}{vs:cV V}(h:cM K H [x,y] vs):cx λv u=>cT (vs= [v,u]) (WR K H x v) (WR K H y u):=by simp![cM] at h;let⟨v,t,rfl,h1,u,t',rfl,h2,rfl⟩:=h;show#[v,u,rfl,h1,h2]
instance:IC K (Nf K) Mz where
 imp :=by
  rintro xs v M H q Q m r1 h k;rcases h with⟨a,l,rfl,hl,h⟩ | ⟨l,rfl,h⟩
  let⟨v,rfl,r⟩:=r1.one;cases r.eq;let⟨vs,hv,rr⟩:=m a _ hl;exact#[a,vs,rfl, .inl (gT.of hv),k _ M _ H h (aY.refl H) m ?_];rw[rr.length];show WR.v;let⟨v,rfl,r⟩:=r1.one;let⟨a,vs,rfl,hv,rr⟩:=r.tup;exact#[a,vs,rfl, .inr hv,k _ M _ H h (aY.refl H) m ?_];rw[rr.length];show WR.v
def Q9:cV V ->Hp ->VK ->Prop:=λxs H Q=> ∃i,xs= [.int i] /\ Q (.int (if i<0 then -i else i)) H
theorem fh {X:Cx}:fi X (.builtin "abs") Q9:=Ho
def Qm:AF:=λxs M q=> ∃i,xs= [wi i] /\ q (wi (if i<0 then -i else i)) M
instance:IC K Q9 Qm where
 imp:=by rintro xs v M H q Q m r1 ⟨i,rfl,h⟩ k;let⟨v,rfl,r⟩:=r1.one;cases r.eq;show#[i,rfl,k _ M _ H h (aY.refl H) m WR.v]
def Br (K:RS):cV V ->Hp ->VK ->Prop:=λxs H Q=>cx λp ys=>cT (xs= [.ref p]) (gT K H p ys \/ jY K H p ys) (∀l,H l=none ->Q (.ref l) (cF H l (.lst ys)))
theorem eM {X:Cx}:fi X (.type "list") (Br X.K):=wE
def vD:AF:=λxs M q=> ∃l,((∃a,xs= [wr a] /\ M a=some (.lst l)) \/ xs= [.tup l]) /\ ∀p,M p=none ->q (wr p) (um M p (.lst l))
instance:IC K (Br K) vD where
 imp :=by
  rintro xs v M H q Q m r1 ⟨l,hx,h⟩ k;rcases hx with⟨a,rfl,hl⟩ | rfl
  let⟨v,rfl,r⟩:=r1.one;cases r.eq;let⟨vs,hv,rr⟩:=m a _ hl;show#[a,vs,rfl, .inl (gT.of hv),λp hp=>k _ _ _ _ (h p (m.fresh hp)) (L2.fI.ts (bZ hp)) (m.xV hp rr) WR.v];let⟨v,rfl,r⟩:=r1.one;let⟨a,vs,rfl,hv,rr⟩:=r.tup;show#[a,vs,rfl, .inr hv,λp hp=>k _ _ _ _ (h p (m.fresh hp)) (L2.fI.ts (bZ hp)) (m.xV hp rr) WR.v]
def xG (K:RS):cV V ->Hp ->VK ->Prop:=λxs H Q=>cx λp ys=>xs= [.ref p] /\ ((gT K H p ys /\ ∀l,H l=none ->Q (.ref l) (cF H l (.tup ys))) \/ (jY K H p ys /\ Q (.ref p) H))
theorem f8 {X:Cx}:fi X (.type "tuple") (xG X.K):=uq
def xf:AF:=λxs M q=> ∃l,((∃a,xs= [wr a] /\ M a=some (.lst l)) \/ xs= [.tup l]) /\ q (.tup l) M
instance:IC K (xG K) xf where
 imp :=by
  rintro xs v M H q Q m r1 ⟨l,hx,h⟩ k;rcases hx with⟨a,rfl,hl⟩ | rfl
  let⟨v,rfl,r⟩:=r1.one;cases r.eq;let⟨vs,hv,rr⟩:=m a _ hl;show#[a,vs,rfl, .inl #[gT.of hv,λp hp=>k _ M _ _ h (L2.fI.ts (bZ hp)) (m.new hp) (WR.NQ (jY.of bP) (rr.ts (L2.fI.ts (bZ hp))))]];let⟨v,rfl,r⟩:=r1.one;let⟨a,vs,rfl,hv,rr⟩:=r.tup;show#[a,vs,rfl, .inr #[hv,k _ M _ H h (aY.refl H) m (WR.NQ hv rr)]]
theorem cM.ofInts {H:Hp}: ∀ (ns:cV Int),cM K H (ns.map wi) (ns.map V.int)
 | []=>cM.nil
 | n::r=>cM.cons WR.v (cM.ofInts r)
def Uf (M:Mp):W ->fP cW
 | .v (.int _)=>some (.type "int")
 | .v (.bl _)=>some (.type "bool")
 | .v (.str _)=>some (.type "str")
 | .v .dO=>some (.type "NoneType")
 | .tup _=>some (.type "tuple")
 | .v (.ref a)=>match M a with
  | some (.lst _)=>some (.type "list")
  | _=>none
 | _=>none
def Qa (K:RS):AF:=λxs M q=>gb λx T t b=>eT (xs= [x, .v (.ty T)]) (Uf M x=some t) (W.kitOne K t (.type T)=some b) (q (wb b) M)
def MK {H:Hp}{M:Mp}{x:W}{v:V}{t:cW}(m:fK K M H)(r:WR K H x v)(e:Uf M x=some t):Tg K H v t:=by
 cases x with
 | tup l=>let⟨a,vs,rfl,hv,rr⟩:=r.tup;cases e;show .tup hv
 | v y =>
  cases r.eq;cases v with
  | int i=>cases e;show .of (.int i)
  | bl i=>cases e;show .of (.bl i)
  | str i=>cases e;show .of (.str i)
  | dO=>cases e;show .of .dO
  | ref a=>
   simp![Uf] at e;cases ha:M a with
   | none=>rw[ha] at e;cases e
   | some o=>
    rw[ha] at e;cases o with
    | lst l=>cases e;let⟨vs,hv,_⟩:=m a _ ha;show .lst (gT.of hv)
    | dK l=>cases e
    | ins C d l=>cases e
    | exc C=>cases e
    | fz o l l2=>cases e
  | D_ _=>cases e
  | Kg _=>cases e
  | ty _=>cases e
instance:IC K (Nh K) (Qa K) where
 imp:=by rintro xs v M H q Q m r1 ⟨x,T,t,b,rfl,ht,e,h⟩ k;let⟨v,u,rfl,r,r'⟩:=r1.two;cases r'.eq;show#[v,T,t,b,rfl,MK m r ht,e,k _ M _ H h (aY.refl H) m WR.v]
end
section
variable {K:RS}
abbrev WM:=W ->cV W ->Mp ->WK ->Prop
class IM (K:PySem.W.Frag) (r:V ->List V ->Hp ->VK ->Prop) (w:outParam WM):Prop where
 imp: ∀ (x:W) (v:V) (ys:List W) (us:List V) (M:Mp) (H:Hp) (q:WK) (Q:VK),fK K M H ->WR K H x v ->cM K H ys us ->w x ys M q ->(∀x M' v H',q x M' ->aY H H' ->fK K M' H' ->WR K H' x v ->Q v H') ->r v us H Q
def IsL (M:Mp)(x:W):Prop:=cx λa l=>x=wr a /\ M a=some (.lst l)
def IsL.ty {M:Mp}{H:Hp}{x:W}{v:V}(m:fK K M H)(r:WR K H x v)(h:IsL M x):Ug K "list" v H:=by let⟨a,l,rfl,hl⟩:=h;cases r.eq;let⟨vs,hv,_⟩:=m a _ hl;show .inl #[rfl,vs,gT.of hv]
def VL (r:WM)(a:WE)(b:WA):WE:=λρ M q=>a ρ M λx M1=>IsL M1 x /\ b ρ M1 λxs M2=>r x xs M2 q
def MF (r:WM)(a:WE):WE:=λρ M q=>a ρ M λx M1=>IsL M1 x /\ r x [] M1 q
instance {r:V ->cV V ->Hp ->VK ->Prop}{w:WM}{t:TE}{u:TA}{a:WE}{b:WA} [ir:IM K r w] [ia:IE K t a] [ib:IA K u b]:IE K (VZ K "list" r t u) (VL w a b) where
 imp:=λρ M σ H q Q o h k=>ia.imp ρ M σ H _ _ o h λx M1 v H1 ⟨hl,h1⟩ t1 m1 r1=>#[hl.ty m1 r1,ib.imp ρ M1 σ H1 _ _ (o.mv t1 m1) h1 λy M2 u H2 h2 t2 m2 r2=>ir.imp x v y u M2 H2 _ _ m2 (r1.ts t2) r2 h2 λz M3 v3 H3 h3 t3 m3 r3=>k z M3 v3 H3 h3 ((t1.trans t2).trans t3) m3 r3]
instance {r:V ->cV V ->Hp ->VK ->Prop}{w:WM}{t:TE}{a:WE} [ir:IM K r w] [ia:IE K t a]:IE K (QJ K "list" r t) (MF w a) where
 imp:=λρ M σ H q Q o h k=>ia.imp ρ M σ H _ _ o h λx M1 v H1 ⟨hl,h1⟩ t1 m1 r1=>#[hl.ty m1 r1,ir.imp x v [] [] M1 H1 _ _ m1 r1 cM.nil h1 λz M3 v3 H3 h3 t3 m3 r3=>k z M3 v3 H3 h3 (t1.trans t3) m3 r3]
def A2:WM:=λx ys M q=>dQ λa l y=>fS (x=wr a) (ys= [y]) (M a=some (.lst l)) (l.length<sizeLine) (q wn (um M a (.lst (l++ [y]))))
instance:IM K Bu A2 where
 imp:=by rintro x v ys us M H q Q m r1 r2 ⟨a,l,y,rfl,rfl,hl,hn,h⟩ k;cases r1.eq;let⟨u,rfl,r⟩:=r2.one;let⟨vs,hv,rr⟩:=m a _ hl;show#[a,vs,u,rfl,rfl,hv,by rw[rr.length];show hn,k _ _ _ _ h (jh hv) (m.putL hv (rr.snoc r)) WR.v]
def A1:WM:=λx ys M q=>gb λa b l l'=>jX (x=wr a) (ys= [wr b]) (M a=some (.lst l)) (M b=some (.lst l')) (l.length+l'.length<=sizeLine) (q wn (um M a (.lst (l++l'))))
instance:IM K Bt A1 where
 imp:=by rintro x v ys us M H q Q m r1 r2 ⟨a,b,l,l',rfl,rfl,hl,pO,hn,h⟩ k;cases r1.eq;let⟨u,rfl,r⟩:=r2.one;cases r.eq;let⟨vs,hv,rr⟩:=m a _ hl;let⟨MG,J1,Lw⟩:=m b _ pO;show#[a,b,vs,MG,rfl,rfl,hv,J1,by rw[rr.length,Lw.length];show hn,k _ _ _ _ h (jh hv) (m.putL hv (rr.append Lw)) WR.v]
def Qj:qi:=λx y M q=>gb λa b l l'=>jX (x=wr a) (y=wr b) (M a=some (.lst l)) (M b=some (.lst l')) (l.length+l'.length<=sizeLine) (∀p,M p=none ->q (wr p) (um M p (.lst (l++l'))))
instance:IR K Q6 Qj where
 imp:=by rintro x y v u M H q Q m r1 r2 ⟨a,b,l,l',rfl,rfl,hl,pO,hn,h⟩ k;cases r1.eq;cases r2.eq;let⟨vs,hv,rr⟩:=m a _ hl;let⟨MG,J1,Lw⟩:=m b _ pO;show#[a,b,vs,MG,rfl,rfl,hv,J1,by rw[rr.length,Lw.length];show hn,λp hp=>k _ _ _ _ (h p (m.fresh hp)) (L2.fI.ts (bZ hp)) (m.xV hp (rr.append Lw)) WR.v]
def g0:cg ->W
 | .inl k=>wi k
 | .inr x=>ws x
def eX (kvs:cV (cg×W))(k:cg):fP W:=(kvs.find? λkv=>decide (kv.1=k)).map (·.2)
def vS (kvs:cV (cg×W))(k:cg)(v:W):cV (cg×W):=if(kvs.any λkv=>decide (kv.1=k))=true then kvs.map (λkv=>if kv.1=k then(kv.1,v) else kv) else kvs++ [(k,v)]
def jc (kvs:cV (cg×W))(k:cg):cV (cg×W):=kvs.filter λkv=>decide (kv.1≠k)
theorem KR.keys {H:Hp}: ∀ {l:cV (cg×W)} {vs:cV (cg×V)},KR K H l vs ->vs.map (·.1)=l.map (·.1)
 | _,_, .nil=>rfl
 | _,_, .cons ⟨e,r⟩ t=>by rw[aN,aN,KR.keys t,e]
theorem KR.length {H:Hp}{κ:Type}: ∀ {l:cV (κ×W)} {vs:cV (κ×V)},KR K H l vs ->vs.length=l.length
 | _,_, .nil=>rfl
 | _,_, .cons _ t=>by rw[aL,aL,KR.length t]
theorem KR.val {H:Hp}(k:cg): ∀ {l:cV (cg×W)} {vs:cV (cg×V)},KR K H l vs ->(eX l k=none /\ gY vs k=none) \/ cx λx v=>cT (eX l k=some x) (gY vs k=some v) (WR K H x v)
 | _,_, .nil=> .inl #[rfl,rfl]
 | (k1,x)::l,(k2,v)::vs, .cons ⟨e,r⟩ t=>by have e:k1=k2:=e;subst e;unfold eX gY;rw[cE,cE];by_cases hk:k1=k;simp![hk,dm];show .inr #[x,v,rfl,rfl,r];simp![hk,decide_false];show KR.val k t
theorem KR.map {H:Hp}{k:cg}{x:W}{v:V}(rx:WR K H x v): ∀ {l:cV (cg×W)} {vs:cV (cg×V)},KR K H l vs ->KR K H (l.map (λkv=>if kv.1=k then(kv.1,x) else kv)) (vs.map (λkv=>if kv.1=k then(kv.1,v) else kv))
 | _,_, .nil=> .nil
 | (k1,y)::l,(k2,u)::vs, .cons ⟨e,r⟩ t=>by have e:k1=k2:=e;subst e;rw[aN,aN];exact .cons ?_ (KR.map rx t);by_cases hk:k1=k;rw[am hk,am hk];show#[rfl,rx];rw[ak hk,ak hk];show#[rfl,r]
theorem KR.append {H:Hp}{k:cg}{x:W}{v:V}(rx:WR K H x v): ∀ {l:cV (cg×W)} {vs:cV (cg×V)},KR K H l vs ->KR K H (l++ [(k,x)]) (vs++ [(k,v)])
 | _,_, .nil=> .cons #[rfl,rx] .nil
 | _,_, .cons r t=> .cons r (KR.append rx t)
def KR.put {H:Hp}{k:cg}{x:W}{v:V}(rx:WR K H x v){l:cV (cg×W)}{vs:cV (cg×V)}(r:KR K H l vs):KR K H (vS l k x) (lB vs k v):=by
 have ek:(l.any λkv=>decide (kv.1=k))=vs.any λkv=>decide (kv.1=k):=by
  have:=r.keys;have e1:(l.any λkv=>decide (kv.1=k))=(l.map (·.1)).any λy=>decide (y=k):=by rw[List.any_map];rfl
  have e2:(vs.any λkv=>decide (kv.1=k))=(vs.map (·.1)).any λy=>decide (y=k):=by rw[List.any_map];rfl
  rw[e1,e2,this]
 unfold vS lB;rw[ek];split;show KR.map rx r;show KR.append rx r
theorem KR.drop {H:Hp}{k:cg}: ∀ {l:cV (cg×W)} {vs:cV (cg×V)},KR K H l vs ->KR K H (jc l k) (kW vs k)
 | _,_, .nil=> .nil
 | (k1,y)::l,(k2,u)::vs, .cons ⟨e,r⟩ t=>by have e:k1=k2:=e;subst e;unfold jc kW;rw[List.filter_cons,List.filter_cons];by_cases hk:k1=k;simp![hk,ne_eq,not_true,decide_false,ay,bv];show KR.drop t;simp![ne_eq,hk,not_false_eq_true,dm,bX];show .cons #[rfl,r] (KR.drop t)
def ip {H:Hp}{k:cg}{v:V}(r:WR K H (g0 k) v):v=kV k:=by cases k<;>show r.eq
def K7:WE:=λ_ M q=> ∀p,M p=none ->q (wr p) (um M p (.dK []))
instance:IE K E7 K7 where
 imp:=λρ M σ H q Q o h k=>λp hp=>k _ _ _ _ (h p (o.hp.fresh hp)) (L2.fI.ts (bZ hp)) (o.hp.put (L2.fI.ts (bZ hp)) #[[],bP, .nil]) WR.v
def EQ (a b:WE):WE:=λρ M q=>a ρ M λx M1=>b ρ M1 λy M2=>gb λp kvs k z=>fS (x=wr p) (M2 p=some (.dK kvs)) (y=g0 k) (eX kvs k=some z) (q z M2)
instance {t u:TE}{a b:WE} [ia:IE K t a] [ib:IE K u b]:IE K (E_ t u) (EQ a b) where
 imp :=λρ M σ H q Q o h k=>ia.imp ρ M σ H _ _ o h λx M1 v H1 h1 t1 m1 r1=>ib.imp ρ M1 σ H1 _ _ (o.mv t1 m1) h1 λy M2 u H2 ⟨p,kvs,ky,z,e1,e2,e3,e4,h2⟩ t2 m2 r2=>by
  subst e1 e3;let⟨ks,hk,rr⟩:=m2 p _ e2;rcases rr.val ky with⟨n1,_⟩ | ⟨x',v',n1,n2,rx⟩
  rw[n1] at e4;cases e4;rw[n1] at e4;cases e4;exact#[p,v',r1.eq,?_,k _ M2 _ H2 h2 (t1.trans t2) m2 rx];rw[ip r2, <- n2];show lG.k hk
def MD (a b:WE):WE:=λρ M q=>a ρ M λy M1=>b ρ M1 λx M2=>dQ λp kvs k=>eT (x=wr p) (M2 p=some (.dK kvs)) (y=g0 k) (q (wb (eX kvs k).isSome) M2)
def vE (a b:WE):WE:=λρ M q=>a ρ M λy M1=>b ρ M1 λx M2=>dQ λp kvs k=>eT (x=wr p) (M2 p=some (.dK kvs)) (y=g0 k) (q (wb (!(eX kvs k).isSome)) M2)
def KR.some {H:Hp}(k:cg){l:cV (cg×W)}{vs:cV (cg×V)}(r:KR K H l vs):(gY vs k).isSome=(eX l k).isSome:=by rcases r.val k with⟨a,b⟩ | ⟨x,v,a,b,_⟩ <;>rw[a,b] <;>rfl
instance {t u:TE}{a b:WE} [ia:IE K t a] [ib:IE K u b]:IE K (QI t u) (MD a b) where
 imp:=λρ M σ H q Q o h k=>ia.imp ρ M σ H _ _ o h λy M1 v H1 h1 t1 m1 r1=>ib.imp ρ M1 σ H1 _ _ (o.mv t1 m1) h1 λx M2 u H2 ⟨p,kvs,ky,e1,e2,e3,h2⟩ t2 m2 r2=>by subst e1 e3;let⟨ks,hk,rr⟩:=m2 p _ e2;exact#[p,gY ks ky,r2.eq,by rw[ip r1];show lG.k hk,k _ M2 _ H2 h2 (t1.trans t2) m2 ?_];rw[rr.some];show WR.v
instance {t u:TE}{a b:WE} [ia:IE K t a] [ib:IE K u b]:IE K (A9 t u) (vE a b) where
 imp:=λρ M σ H q Q o h k=>ia.imp ρ M σ H _ _ o h λy M1 v H1 h1 t1 m1 r1=>ib.imp ρ M1 σ H1 _ _ (o.mv t1 m1) h1 λx M2 u H2 ⟨p,kvs,ky,e1,e2,e3,h2⟩ t2 m2 r2=>by subst e1 e3;let⟨ks,hk,rr⟩:=m2 p _ e2;exact#[p,gY ks ky,r2.eq,by rw[ip r1];show lG.k hk,k _ M2 _ H2 h2 (t1.trans t2) m2 ?_];rw[rr.some];show WR.v
def zE (a b c:WE):WE:=λρ M q=>a ρ M λx M1=> ∃p,cT (x=wr p) (∃kvs,M1 p=some (.dK kvs)) (b ρ M1 λy M2=>c ρ M2 λz M3=>cx λkvs k=>cT (M3 p=some (.dK kvs)) (y=g0 k) (q ((eX kvs k).getD z) M3))
instance {t u s:TE}{a b c:WE} [ia:IE K t a] [ib:IE K u b] [ic:IE K s c]:IE K (E9 t u s) (zE a b c) where
 imp:=λρ M σ H q Q o h k=>ia.imp ρ M σ H _ _ o h λx M1 v H1 ⟨p,e,⟨kvs,hp⟩,h1⟩ t1 m1 r1=>by
  subst e;let⟨ks,hk,rr⟩:=m1 p _ hp;exact#[p,r1.eq, .inl #[ks, .inl hk],ib.imp ρ M1 σ H1 _ _ (o.mv t1 m1) h1 λy M2 u H2 h2 t2 m2 r2=>ic.imp ρ M2 σ H2 _ _ (o.mv (t1.trans t2) m2) h2 λz M3 u3 H3 ⟨kvs,ky,e2,e3,h3⟩ t3 m3 r3=> ?_];subst e3;let⟨ks,hk,rr⟩:=m3 p _ e2;exact#[gY ks ky,by rw[ip (r2.ts t3)];show lG.k hk,k _ M3 _ H3 h3 ((t1.trans t2).trans t3) m3 ?_];rcases rr.val ky with⟨n1,n2⟩ | ⟨x',v',n1,n2,rx⟩
  rw[n1,n2];show r3;rw[n1,n2];show rx
end
section
variable {K:RS}
def Le (i:Nat):WG:=λx ρ M q=>q (ρ.set i (some x)) M
instance {i:Nat}:IG K (kH i) (Le i) where
 imp:=λx v ρ M σ H q Q o r h k=>k _ M _ H h (aY.refl H) #[o.env.set i r,o.hp]
def MJ:KA:=λxs ρ M q=>xs= [] /\ q ρ M
def Lf (a:WG)(b:KA):KA:=λxs ρ M q=>cx λx r=>xs=x::r /\ a x ρ M λρ' M'=>b r ρ' M' q
instance:U8 K Kf MJ where
 imp:=λx v ρ M σ H q Q o r h k=>by let⟨rfl,h⟩:=h;show#[by simpa only[cM] using r,k _ M _ H h (aY.refl H) o]
instance {t:TG}{u:Iz}{a:WG}{b:KA} [ia:IG K t a] [ib:U8 K u b]:U8 K (u4 t u) (Lf a b) where
 imp:=λx v ρ M σ H q Q o r h k=>by let⟨y,cU,rfl,h⟩:=h;simp![cM] at r;let⟨v1,t1,rfl,r1,r2⟩:=r;show#[v1,t1,rfl,ia.imp y v1 ρ M σ H _ _ o r1 h λρ' M' σ' H' h' ts o'=>ib.imp cU t1 ρ' M' σ' H' _ _ o' (r2.ts ts) h' λρ2 M2 σ2 H2 h2 Qr o2=>k ρ2 M2 σ2 H2 h2 (ts.trans Qr) o2]
def Qn (n:Nat)(a:KA):WG:=λx ρ M q=> ∃l,cT (x= .tup l) (l.length=n) (a l ρ M q)
instance {n:Nat}{t:Iz}{a:KA} [ia:U8 K t a]:IG K (Ke K n t) (Qn n a) where
 imp:=λx v ρ M σ H q Q o r h k=>by let⟨l,rfl,hl,h⟩:=h;let⟨a',vs,rfl,hv,rr⟩:=r.tup;show#[a',vs,rfl,hv,by rw[rr.length];show hl,ia.imp l vs ρ M σ H _ _ o rr h k]
abbrev HB:=W ->W ->W ->Mp ->(Mp ->Prop) ->Prop
class To (K:PySem.W.Frag) (t:HC) (w:outParam HB):Prop where
 imp: ∀ (x y z:W) (v u r:V) (M:Mp) (H:Hp) (q:Mp ->Prop) (Q:Hp ->Prop),fK K M H ->WR K H x v ->WR K H y u ->WR K H z r ->w x y z M q ->(∀M' H',q M' ->aY H H' ->fK K M' H' ->Q H') ->t v u r H Q
def K1:HB:=λx y z M q=>gb λa l k j=>fS (x=wr a) (y=wi k) (M a=some (.lst l)) (zt l.length k=some j) (q (um M a (.lst (l.set j z))))
instance:To K Lz K1 where
 imp:=by rintro x y z v u r M H q Q m r1 r2 r3 ⟨a,l,i,j,rfl,rfl,hl,e,h⟩ k;let⟨vs,hv,rr⟩:=m a _ hl;show#[a,vs,i,j,r1.eq,r2.eq,hv,by rw[rr.length];show e,k _ _ h (jh hv) (m.putL hv (rr.set j r3))]
def Qo (a b:WE)(s:HB):WG:=λx ρ M q=>a ρ M λo M1=>b ρ M1 λi M2=>s o i x M2 λM3=>q ρ M3
instance {t u:TE}{s:HC}{a b:WE}{w:HB} [ia:IE K t a] [ib:IE K u b] [is:To K s w]:IG K (SE t u s) (Qo a b w) where
 imp:=λx v ρ M σ H q Q o r h k=>ia.imp ρ M σ H _ _ o h λy M1 v1 H1 h1 t1 m1 r1=>ib.imp ρ M1 σ H1 _ _ (o.mv t1 m1) h1 λz M2 v2 H2 h2 t2 m2 r2=>is.imp y z x v1 v2 v M2 H2 _ _ m2 (r1.ts t2) r2 (r.ts (t1.trans t2)) h2 λM3 H3 h3 t3 m3=>k ρ M3 σ H3 h3 ((t1.trans t2).trans t3) (o.mv ((t1.trans t2).trans t3) m3)
def Bm:WS:=λD ρ M=>D.nx ρ M
instance:IS K Ll Bm where
 imp:=λρ M σ H D' D o h e=>e.nx ρ M σ H h (aY.refl H) o
def C2 (a b:WS):WS:=λD ρ M=>a {D with nx:=b D} ρ M
instance {t u:TS}{a b:WS} [ia:IS K t a] [ib:IS K u b]:IS K (MT t u) (C2 a b) where
 imp:=λρ M σ H D' D o h e=>ia.imp ρ M σ H _ _ o h #[λρ' M' σ' H' h' ts o'=>ib.imp ρ' M' σ' H' D' D o' h' (e.mv ts),e.rt,e.bk,e.ct]
def Ls (a:WE):WS:=λD ρ M=>a ρ M λ_ M1=>D.nx ρ M1
instance {t:TE}{a:WE} [ia:IE K t a]:IS K (Lm t) (Ls a) where
 imp:=λρ M σ H D' D o h e=>ia.imp ρ M σ H _ _ o h λx M1 v H1 h1 t1 m1 r1=>e.nx ρ M1 σ H1 h1 t1 (o.mv t1 m1)
def QT (a:WE):WS:=λD ρ M=>a ρ M D.rt
instance {t:TE}{a:WE} [ia:IE K t a]:IS K (Qz t) (QT a) where
 imp:=λρ M σ H D' D o h e=>ia.imp ρ M σ H _ _ o h λx M1 v H1 h1 t1 m1 r1=>e.rt x M1 v H1 h1 t1 m1 r1
def O_ (c:WT)(a b:WS):WS:=λD ρ M=>c ρ M λk M1=>if k=true then a D ρ M1 else b D ρ M1
instance {tc:TT}{t u:TS}{c:WT}{a b:WS} [ic:IT K tc c] [ia:IS K t a] [ib:IS K u b]:IS K (QE tc t u) (O_ c a b) where
 imp:=λρ M σ H D' D o h e=>ic.imp ρ M σ H _ _ o h λk M1 H1 h1 t1 m1=>by
  cases k with
  | true=>simp![bX] at h1 ⊢;show ia.imp ρ M1 σ H1 D' D (o.mv t1 m1) h1 (e.mv t1)
  | false=>simp![ay,bv] at h1 ⊢;show ib.imp ρ M1 σ H1 D' D (o.mv t1 m1) h1 (e.mv t1)
def QZ (a:WE)(g:WG):WS:=λD ρ M=>a ρ M λx M1=>g x ρ M1 D.nx
instance {t:TE}{g:TG}{a:WE}{w:WG} [ia:IE K t a] [ig:IG K g w]:IS K (Fc t g) (QZ a w) where
 imp:=λρ M σ H D' D o h e=>ia.imp ρ M σ H _ _ o h λx M1 v H1 h1 t1 m1 r1=>ig.imp x v ρ M1 σ H1 _ _ (o.mv t1 m1) r1 h1 λρ2 M2 σ2 H2 h2 t2 o2=>e.nx ρ2 M2 σ2 H2 h2 (t1.trans t2) o2
class IIp (K:PySem.W.Frag) (t:Py) (w:outParam qi):Prop where
 imp: ∀ (x y:W) (v u:V) (M:Mp) (H:Hp) (q:WK) (Q:VK),fK K M H ->WR K H x v ->WR K H y u ->w x y M q ->(∀x M' v H',q x M' ->aY H H' ->fK K M' H' ->WR K H' x v ->Q v H') ->t v u H Q
instance {f:Int ->Int ->Int}:IIp K (ipI f) (VC λi j=> .int (f i j)) where
 imp:=by rintro x y v u M H q Q m r1 r2 ⟨i,j,rfl,rfl,h⟩ k;show#[i,j,r1.eq,r2.eq,k _ M _ H h (aY.refl H) m WR.v]
def QY (i:Nat)(a:WE)(r:qi):WS:=λD ρ M=>eV i ρ M λx M=>a ρ M λy M1=>r x y M1 λz M2=>D.nx (ρ.set i (some z)) M2
instance {i:Nat}{t:TE}{ti:Py}{a:WE}{w:qi} [ia:IE K t a] [ir:IIp K ti w]:IS K (QK i t ti) (QY i a w) where
 imp:=λρ M σ H D' D o h e=>by let⟨x,ex,h⟩:=EH h;let⟨v,ev,rv⟩:=o.env.2 i x ex;show#[v,ev,ia.imp ρ M σ H _ _ o h λy M1 u H1 h1 t1 m1 r1=>ir.imp x y v u M1 H1 _ _ m1 (rv.ts t1) r1 h1 λz M2 w2 H2 h2 t2 m2 r2=>e.nx _ M2 _ H2 h2 (t1.trans t2) #[(o.env.ts (t1.trans t2)).set i r2,m2]]
def zN (a b c:WE):WS:=λD ρ M=>c ρ M λz M1=>a ρ M1 λx M2=>b ρ M2 λy M3=>dQ λp kvs k=>fS (x=wr p) (M3 p=some (.dK kvs)) (y=g0 k) (kvs.length<sizeLine) (D.nx ρ (um M3 p (.dK (vS kvs k z))))
instance {t u s:TE}{a b c:WE} [ia:IE K t a] [ib:IE K u b] [ic:IE K s c]:IS K (Lu t u s) (zN a b c) where
 imp :=λρ M σ H D' D o h e=>ic.imp ρ M σ H _ _ o h λz M1 v1 H1 h1 t1 m1 r1=>ia.imp ρ M1 σ H1 _ _ (o.mv t1 m1) h1 λx M2 v2 H2 h2 t2 m2 r2=>ib.imp ρ M2 σ H2 _ _ (o.mv (t1.trans t2) m2) h2 λy M3 v3 H3 ⟨p,kvs,k,e1,e2,e3,hl,h3⟩ t3 m3 r3=>by subst e1 e3;let⟨ks,hk,rr⟩:=m3 p _ e2;have ts:=j6 (u:= .dK (lB ks k v1)) hk;exact#[p,_,r2.eq,?_,e.nx ρ _ σ (cF H3 p (.dK (lB ks k v1))) h3 (((t1.trans t2).trans t3).trans ts) (o.mv (((t1.trans t2).trans t3).trans ts) (m3.putD hk (KR.put (r1.ts (t2.trans t3)) rr)))];rw[ip r3];show HY.k hk (by rw[rr.length];show hl)
def zO (a b:WE):WS:=λD ρ M=>a ρ M λx M1=>b ρ M1 λy M2=>dQ λp kvs k=>fS (x=wr p) (M2 p=some (.dK kvs)) (y=g0 k) ((eX kvs k).isSome=true) (D.nx ρ (um M2 p (.dK (jc kvs k))))
instance {t u:TE}{a b:WE} [ia:IE K t a] [ib:IE K u b]:IS K (Lv t u) (zO a b) where
 imp :=λρ M σ H D' D o h e=>ia.imp ρ M σ H _ _ o h λx M2 v2 H2 h2 t2 m2 r2=>ib.imp ρ M2 σ H2 _ _ (o.mv t2 m2) h2 λy M3 v3 H3 ⟨p,kvs,k,e1,e2,e3,hl,h3⟩ t3 m3 r3=>by subst e1 e3;let⟨ks,hk,rr⟩:=m3 p _ e2;have ts:=j6 (u:= .dK (kW ks k)) hk;show#[p,ks,k,r2.eq,hk,ip r3,by rw[rr.some];show hl,e.nx ρ _ σ _ h3 ((t2.trans t3).trans ts) (o.mv ((t2.trans t3).trans ts) (m3.putD hk rr.drop))]
def AI (K:RS)(H1:Hp)(J:It)(xs:cV W)(keep:Mp ->Prop):Prop:=∀i M H,aY H1 H ->fK K M H ->keep M ->(xs.length=i ->J.stop i H) /\ (i<xs.length ->J.go i H) /\ ∀v H',i<xs.length ->J.OX i H v H' ->aY H H' /\ fK K M H' /\ ∃x,xs[i]? =some x /\ WR K H' x v
class II (K:PySem.W.Frag) (t:TI) (w:outParam WI):Prop where
 imp: ∀ (ρ:c8) (M:Mp) (σ:St) (H:Hp) (q:List W ->(Mp ->Prop) ->Mp ->Prop) (R:It ->Hp ->Prop),Ok K ρ M σ H ->w ρ M q ->(∀xs keep J M' H',q xs keep M' ->aY H H' ->fK K M' H' ->AI K H' J xs keep ->R J H') ->t σ H R
def Gv (a:WE):WI:=λρ M q=>a ρ M λx M1=>cx λp l=>cT (x=wr p) (M1 p=some (.lst l)) (q l (λM'=>M' p=some (.lst l)) M1)
def RN (a:WE):WI:=λρ M q=>a ρ M λx M1=> ∃l,x= .tup l /\ q l (λ_=>True) M1
def iC (lo:Int)(n:Nat):cV W:=(List.range n).map λ(k:Nat)=>wi (lo+(k:Int))
def Gu (a:WA):WI:=λρ M q=>a ρ M λxs M1=> ∃j:Int,eT (xs= [wi j]) (-(2 ^ 62) <=j) (j<2 ^ 62) (q (iC 0 j.toNat) (λ_=>True) M1)
def uU {H1:Hp}{p:gL}{l:cV W}:AI K H1 (U6 K p) l (λM'=>M' p=some (.lst l)):=by intro i M H ts m hk;let⟨vs,hv,rr⟩:=m p _ hk;have hl:=rr.length;exact#[λh=>#[vs,gT.of hv, ∅],λh=>#[vs,vs[i]'∅,gT.of hv,by simp],λv H' hi y=> ?_];let⟨rfl,y⟩:=y;have:=y vs (gT.of hv);let⟨d,hd,r⟩:=rr.back this;show#[aY.refl _,m,d,hd,r]
def yh {H1:Hp}{p:gL}{l:cV W}{vs:cV V}(hv:jY K H1 p vs)(rr:cM K H1 l vs):AI K H1 (U4 K p) l (λ_=>True):=by intro i M H ts m _;have J1:=Un.sqT ts hv;have Lw:=rr.ts ts;have hl:=Lw.length;exact#[λh=>#[vs,J1, ∅],λh=>#[vs,vs[i]'∅,J1,by simp],λv H' hi y=> ?_];let⟨rfl,y⟩:=y;have:=y vs J1;let⟨d,hd,r⟩:=Lw.back this;show#[aY.refl _,m,d,hd,r]
def GA {H1:Hp}{lo:Int}{n:Nat}:AI K H1 (U5 lo n) (iC lo n) (λ_=>True):=by
 intro i M H ts m _;have hl:(iC lo n).length=n:=by simp[iC]
 rw[hl];exact#[λh=>Nat.le_of_eq h,λh=>h,λv H' hi y=> ?_];let⟨rfl,y⟩:=y;exact#[aY.refl _,m,wi (lo+i),?_,by rw[y];show WR.v];simp[iC,hi]
instance {t:TE}{a:WE} [ia:IE K t a]:II K (GC K t) (Gv a) where
 imp:=λρ M σ H q R o h k=>ia.imp ρ M σ H _ _ o h λx M1 v H1 ⟨p,l,e,hp,h1⟩ t1 m1 r1=>by subst e;let⟨vs,hv,rr⟩:=m1 p _ hp;show#[p,r1.eq,#[vs,gT.of hv],k l _ _ M1 H1 h1 t1 m1 uU]
instance {t:TE}{a:WE} [ia:IE K t a]:II K (N7 K t) (RN a) where
 imp:=λρ M σ H q R o h k=>ia.imp ρ M σ H _ _ o h λx M1 v H1 ⟨l,e,h1⟩ t1 m1 r1=>by subst e;let⟨p,vs,rfl,hv,rr⟩:=r1.tup;show#[p,rfl,#[vs,hv],k l _ _ M1 H1 h1 t1 m1 (yh hv rr)]
instance {t:TA}{a:WA} [ia:IA K t a]:II K (L1 t) (Gu a) where
 imp:=λρ M σ H q R o h k=>ia.imp ρ M σ H _ _ o h λxs M1 v H1 ⟨j,e,h0,h1,h2⟩ t1 m1 r1=>by subst e;let⟨v,rfl,r⟩:=r1.one;cases r.eq;show#[j,rfl,h0,h1,k _ _ _ M1 H1 h2 t1 m1 GA]
def QU (it:WI)(g:WG)(b:WS):WS:=λD ρ M=>it ρ M λxs keep M1=> ∃I:Nat ->c8 ->Mp ->Prop,eT (I 0 ρ M1) (∀i ρ M,i<=xs.length ->I i ρ M ->keep M) (∀i x ρ M,xs[i]? =some x ->I i ρ M ->g x ρ M λρ2 M2=>b {D with nx:=I (i+1),ct:=I (i+1),bk:=D.nx} ρ2 M2) (∀ρ M,I xs.length ρ M ->D.nx ρ M)
instance {ti:TI}{g:TG}{t:TS}{it:WI}{w:WG}{b:WS} [ii:II K ti it] [ig:IG K g w] [ib:IS K t b]:IS K (QH ti g t) (QU it w b) where
 imp :=λρ M σ H D' D o h e=>ii.imp ρ M σ H _ _ o h λxs keep J M1 H1 h1 t1 m1 ok=>by let⟨I,h0,hk,hs,hd⟩:=h1;exact#[λi m σ' H'=>m=xs.length - i /\ i<=xs.length /\ cx λρ' M'=>cT (I i ρ' M') (aY H1 H') (Ok K ρ' M' σ' H'),#[_,rfl,cZ _,ρ,M1,h0,aY.refl _,o.mv t1 m1],?_];rintro i m σ' H' ⟨rfl,hi,ρ',M',hI,ts,o'⟩;let⟨k1,k2,k3⟩:=ok i M' H' ts o'.hp (hk i ρ' M' hi hI);by_cases lD:i<xs.length;exact .inr #[k2 lD,λσ2 H2=>cx λρ2 M2=>cT (I (i+1) ρ2 M2) (aY H1 H2) (Ok K ρ2 M2 σ2 H2),λσ2 H2 ⟨ρ2,M2,a,b,c⟩=>#[xs.length - (i+1), ∅,rfl,lD,ρ2,M2,a,b,c],λv H2 y=> ?_];let⟨ty,my,x,hx,r⟩:=k3 v H2 lD y;replace ts:=ts.trans ty;exact ig.imp x v ρ' M' σ' H2 _ _ (o'.mv ty my) r (hs i x ρ' M' hx hI) λρ3 M3 σ3 H3 h3 t3 o3=>ib.imp ρ3 M3 σ3 H3 _ _ o3 h3 #[λa b c d h t o=>#[a,b,h,(ts.trans t3).trans t,o],λa b c d h t=>e.rt a b c d h (t1.trans ((ts.trans t3).trans t)),λa b c d h t=>e.nx a b c d h (t1.trans ((ts.trans t3).trans t)),λa b c d h t o=>#[a,b,h,(ts.trans t3).trans t,o]];have e':i=xs.length:= ∅;subst e';show .inl #[k1 rfl,e.nx ρ' M' σ' H' (hd ρ' M' hI) (t1.trans ts) o']
def nS (own:Nat)(fr:cV Nat)(ρ:c8):c8:=List.replicate own none++fr.map λj=>(ρ[j]?).join
def Iy.Pw {H:Hp}{ρ:c8}{σ:St}(own:Nat)(fr:cV Nat)(h:Iy K H ρ σ):Iy K H (nS own fr ρ) (jR own fr σ):=by
 unfold nS jR;exact#[by simp,λi x e=> ?_];by_cases hi:i<own;rw[a7 ⇑hi,c6,am hi] at e;cases e;rw [aZ ⇑hi,List.length_replicate,aH] at e;rw[aZ ⇑hi,List.length_replicate,aH];cases ej:fr[i - own]? with
 | none=>rw[ej] at e;cases e
 | some j=>
  rw[ej] at e;simp![bG,Option.some.injEq] at e ⊢;cases er:ρ[j]? with
  | none=>rw[er] at e;cases e
  | some z=>rw[er] at e;simp![Option.join_some] at e;subst e;let⟨v,ev,r⟩:=h.2 j x er;show#[v,by rw[ev];rfl,r]
def K9 (it:WI)(own:Nat)(fr:cV Nat)(g:WG)(c:WT)(el:WE):WE:=λρ M q=>it ρ M λxs keep M1=>xs.length<=sizeLine /\ ∀p,M1 p=none -> ∃I:Nat ->cV W ->Mp ->Prop,eT (I 0 [] (um M1 p (.lst []))) (∀i ys M,i<=xs.length ->I i ys M ->keep M /\ M p=some (.lst ys) /\ ys.length<=i) (∀i x ys M,xs[i]? =some x ->I i ys M ->g x (nS own fr ρ) M λρ2 M2=>c ρ2 M2 λb M3=>if b=true then el ρ2 M3 λy M4=>M4 p=some (.lst ys) /\ I (i+1) (ys++ [y]) (um M4 p (.lst (ys++ [y]))) else I (i+1) ys M3) (∀ys M,I xs.length ys M ->q (wr p) M)
instance {ti:TI}{own:Nat}{fr:cV Nat}{g:TG}{tc:TT}{te:TE}{it:WI}{w:WG}{c:WT}{el:WE} [ii:II K ti it] [ig:IG K g w] [ic:IT K tc c] [ie:IE K te el]:IE K (Ln ti own fr g tc te) (K9 it own fr w c el) where
 imp :=λρ M σ H q Q o h k=>ii.imp ρ M σ H _ _ o h λxs keep J M1 H1 h1 t1 m1 ok=>by
  intro p hp;let⟨hz,h1⟩:=h1;let⟨I,h0,hk,hs,hd⟩:=h1 p (m1.fresh hp);have tp:=L2.fI.ts (bZ (o:= .lst []) hp);exact#[λi m vs H'=>m=xs.length - i /\ i<=xs.length /\ cx λys M'=>fS (I i ys M') (aY H1 H') (fK K M' H') (cM K H' ys vs) (H' p=some (.lst vs)),#[_,rfl,cZ _,[],_,h0,tp,m1.xV hp cM.nil,cM.nil,bP],?_];rintro i m vs H' ⟨rfl,hi,ys,M',hI,ts,m',rv,hv⟩;exact#[hv,?_];let⟨kp,hMp,hyl⟩:=hk i ys M' hi hI;let⟨k1,k2,k3⟩:=ok i M' H' ts m' kp;by_cases lD:i<xs.length;exact .inr #[k2 lD,by rw[rv.length];lia,λv H2 y=> ?_];let⟨ty,my,x,hx,r⟩:=k3 v H2 lD y;replace ts:=ts.trans ty;have oc:Ok K (nS own fr ρ) M' (jR own fr σ) H2:=#[(o.env.ts (t1.trans ts)).Pw own fr,my]
  exact ig.imp x v _ M' _ H2 _ _ oc r (hs i x ys M' hx hI) λρ3 M3 σ3 H3 h3 t3 o3=>ic.imp ρ3 M3 σ3 H3 _ _ o3 h3 λb M4 H4 h4 t4 m4=> ?_;cases b with
  | true=>simp![bX] at h4 ⊢;exact ie.imp ρ3 M4 σ3 H4 _ _ (o3.mv t4 m4) h4 λz M5 u H5 ⟨h5,h6⟩ t5 m5 r5=> ?_;let⟨Lc,J0,Je⟩:=m5 p _ h5;have V0:=(t3.trans t4).trans t5;have t6:=jh (u:= .lst (Lc++ [u])) J0;show#[Lc,J0,by rw[Je.length];lia,_, ∅,rfl,lD,_,_,h6,(ts.trans V0).trans t6,m5.putL J0 (Je.snoc r5),(Je.snoc r5).ts t6,bP]
  | false=>simp![ay,bv] at h4 ⊢;let⟨Lc,J0,Je⟩:=m4 p _ (hk (i+1) ys M4 lD h4).2.1;show#[Lc,_, ∅,rfl,lD,_,_,h4,ts.trans (t3.trans t4),m4,Je,J0]
  have e':i=xs.length:= ∅;subst e';show .inl #[k1 rfl,k _ M' _ H' (hd ys M' hI) (t1.trans ts) m' WR.v]
def PM:WT:=λ_ M q=>q true M
instance:IT K Qw PM where
 imp:=λρ M σ H q Q o h k=>k _ M H h (aY.refl H) o.hp
end
section
variable {K:RS}
theorem fK.sub {M M':Mp}{H:Hp}(s:Sm M M')(m:fK K M' H):fK K M H:=λa o e=>m a o (s a o e)
def Wn {P:RV}{w:W4}{mg:Str ->fP cW}{base:X4}{x qual:Str}{st:Stmt}{f:gL}{fd:X6}{N ps:cV Str}{k:Nat}{p:fC}(F:za K x qual st f fd)(S:cq N ps (aP st))(len: ∀vs M q,p vs M q ->vs.length=ps.length) (i_: ∀ (cdv:cW) (A:X7) (outer:cV Env) (s:df) (H:Hp) (E:XK),dX k (A.deeper (PyProof.Rows.envOfC qual (aP st) s.heap.objs.size f cdv)) ->∃t,wZ (d0 eU P w K mg base N qual (aP st) f cdv A outer s H E).Ia (dt st) t /\ ∃w',IS K t w' /\ ∀vs M q,p vs M q ->w' {nx:=λ_ M'=> ∃M0,Sm M0 M' /\ q wn M0,rt:=λx M'=> ∃M0,Sm M0 M' /\ q x M0} (vs.map some++List.replicate (N.length - vs.length) none) M): bA P w K mg base eU (k+1) f fd ps (fF K p):=by
 have h:=okW (K:=K) (P:=P) (w:=w) (mg:=mg) (base:=base) (k:=k) (p:=λvs M q=> ∃q',p vs M q' /\ q=λx M'=> ∃M0,Sm M0 M' /\ q' x M0) F S (λvs M q ⟨q',h,_⟩=>len vs M q' h) λcdv A outer s H E hr=>by let⟨t,h1,w',h2,h3⟩:=i_ cdv A outer s H E hr;exact#[t,w',h1,h2,?_];rintro vs M q ⟨q',h,rfl⟩;show h3 vs M q' h
 exact h.imp λvs H Q E ⟨xs,M,q,r,m,hp,hk⟩=>#[xs,M,_,r,m,#[q,hp,rfl],?_]
 rintro x M' v H' ⟨M0,s,hq⟩ ts m' r';show hk x M0 v H' hq ts (m'.sub s) r'
def DW {xs:cV W}{keep:Mp ->Prop}{M1:Mp}{own:Nat}{fr:cV Nat}{ρ:c8}{g:WG}{c:WT}{el:WE}{q:WK}(f:W ->fP W)(hz:xs.length<=sizeLine)(nw: ∀M,Sm M1 M ->keep M) (hs: ∀ (i:Nat) x,xs[i]? =some x -> ∀ (M:Mp) (N:fP W ->Mp ->Prop),Sm M1 M ->N (f x) M ->g x (nS own fr ρ) M λρ2 M2=>c ρ2 M2 λb M3=>if b=true then el ρ2 M3 λy M4=>N (some y) M4 else N none M3) (hq: ∀p,M1 p=none ->q (wr p) (um M1 p (.lst (xs.filterMap f)))): xs.length<=sizeLine /\ ∀p,M1 p=none -> ∃I:Nat ->cV W ->Mp ->Prop,eT (I 0 [] (um M1 p (.lst []))) (∀i ys M,i<=xs.length ->I i ys M ->keep M /\ M p=some (.lst ys) /\ ys.length<=i) (∀i x ys M,xs[i]? =some x ->I i ys M ->g x (nS own fr ρ) M λρ2 M2=>c ρ2 M2 λb M3=>if b=true then el ρ2 M3 λy M4=>M4 p=some (.lst ys) /\ I (i+1) (ys++ [y]) (um M4 p (.lst (ys++ [y]))) else I (i+1) ys M3) (∀ys M,I xs.length ys M ->q (wr p) M):=by
 exact#[hz,λp hp=>#[λi ys M=>M=um M1 p (.lst ys) /\ ys=(xs.take i).filterMap f,#[rfl,by simp],?_,?_,?_]];rintro i ys M hi ⟨rfl,rfl⟩;exact#[nw _ (bw hp),aq,av (List.length_filterMap_le _ _) ?_];rw[cj];lia;rintro i x ys M hx ⟨rfl,rfl⟩;exact hs i x hx _ (λo M4=>match o with
 | some y=>M4 p=some (.lst ((xs.take i).filterMap f)) /\ (um M4 p (.lst ((xs.take i).filterMap f++ [y]))=um M1 p (.lst ((xs.take i).filterMap f++ [y])) /\ (xs.take i).filterMap f++ [y]=(xs.take (i+1)).filterMap f)
 | none=>M4=um M1 p (.lst ((xs.take i).filterMap f)) /\ (xs.take i).filterMap f=(xs.take (i+1)).filterMap f) (bw hp) ?_
 have e:xs.take (i+1)=xs.take i++ [x]:=by rw[List.take_add_one,hx];rfl
 cases hf:f x with
 | none=>show#[rfl,by rw[e,List.filterMap_append];simp[hf]]
 | some y=>show#[aq,jv,by rw[e,List.filterMap_append];simp[hf]]
 rintro ys M ⟨rfl,rfl⟩;rw[List.take_length];show hq p hp
mutual
def DT:W ->fP Dt
 | .v .dO=>some .dO
 | .v (.bl b)=>some (.bl b)
 | .v (.int i)=>some (.int i)
 | .v (.str x)=>some (.str x)
 | .v _=>none
 | .tup l=>(lF l).map .tup
def lF:cV W ->fP (cV Dt)
 | []=>some []
 | x::r=>match DT x,lF r with
  | some d,some l=>some (d::l)
  | _,_=>none
end
mutual
theorem Ft {H:Hp}: ∀ (x:W) (d:Dt) (v:V),DT x=some d ->WR K H x v ->Rep K H d v
 | .v y,d,v,e,r=>by cases r.eq;cases y<;>simp![DT,Option.some.injEq,reduceCtorEq] at e<;>subst e<;>simp![Rep]
 | .tup l,d,v,e,r=>by
  let⟨a,vs,rfl,hv,rr⟩:=r.tup;simp![DT] at e;cases hd:lF l with
  | none=>rw[hd] at e;cases e
  | some ds=>rw[hd] at e;cases e;simp![Rep];show#[a,vs,rfl,hv,vQ l ds vs hd rr]
theorem vQ {H:Hp}: ∀ (l:cV W) (ds:cV Dt) (vs:cV V),lF l=some ds ->cM K H l vs ->fJ K H ds vs
 | [],ds,vs,e,r=>by simp![lF] at e;cases e;simp![cM] at r;simp![fJ];show r
 | x ::l,ds,vs,e,r=>by
  simp![lF] at e;cases hx:DT x with
  | none=>rw[hx] at e;cases e
  | some d=>
   cases hl:lF l with
   | none=>rw[hx,hl] at e;cases e
   | some OF=>rw[hx,hl] at e;cases e;simp![cM] at r;let⟨v,t,rfl,r1,r2⟩:=r;simp![fJ];show#[v,t,rfl,Ft x d v hx r1,vQ l OF t hl r2]
end
def DR (M:Mp)(x:W)(d:Dt):Prop:=DT x=some d \/ dQ λa l ds=>eT (x=wr a) (M a=some (.lst l)) (lF l=some ds) (d= .lst ds)
def DR.rep {M:Mp}{H:Hp}{x:W}{d:Dt}{v:V}(m:fK K M H)(r:WR K H x v)(h:DR M x d):Rep K H d v:=by obtain h | ⟨a,l,ds,rfl,hl,e,rfl⟩:=h;show Ft x d v h r;cases r.eq;let⟨vs,hv,rr⟩:=m a _ hl;simp![Rep];show#[a,vs,rfl,gT.of hv,vQ l ds vs e rr]
def My:qi:=λx y M q=>cx λd e=>fS (DR M x d) (DR M y e) (qW d e=true) (rj d<=50) (q (wb (!ul d e)) M)
instance:IR K (xJ K) My where
 imp:=by rintro x y v u M H q Q m r1 r2 ⟨d,e,h1,h2,h3,h4,h⟩ k;show#[d,e,h3,h4,h1.rep m r1,h2.rep m r2,k _ M _ H h (aY.refl H) m WR.v]
instance {r r':R2}{t u s:TE}{a b c:WE}{w w':qi} [ir:IR K r w] [ir':IR K r' w'] [ia:IE K t a] [ib:IE K u b] [ic:IE K s c]:IE K (zJ r r' t u s) (ET w w' a b c) where
 imp :=λρ M σ H q Q o h k=>ia.imp ρ M σ H _ _ o h λx M1 v H1 h1 t1 m1 r1=>ib.imp ρ M1 σ H1 _ _ (o.mv t1 m1) h1 λy M2 u H2 h2 t2 m2 r2=>ir.imp x y v u M2 H2 _ _ m2 (r1.ts t2) r2 h2 λz M3 v3 H3 ⟨kk,e,h3⟩ t3 m3 r3=>by
  subst e;exact#[kk,r3.eq,?_];cases kk with
  | true=>simp![bX] at h3 ⊢;show ic.imp ρ M3 σ H3 _ _ (o.mv ((t1.trans t2).trans t3) m3) h3 λy4 M4 v4 H4 h4 t4 m4 r4=>ir'.imp y y4 u v4 M4 H4 _ _ m4 (r2.ts (t3.trans t4)) r4 h4 λz5 M5 v5 H5 h5 t5 m5 r5=>k z5 M5 v5 H5 h5 ((((t1.trans t2).trans t3).trans t4).trans t5) m5 r5
  | false=>simp![ay,bv] at h3 ⊢;show k _ M3 _ H3 h3 ((t1.trans t2).trans t3) m3 WR.v
def TX (Pc:Bool):qi:=λx y M q=>cx λ(z:V) (l:cV V)=>fS (x= .v z) (y= .tup (l.map .v) \/ ∃a,y=wr a /\ M a=some (.lst (l.map .v))) (kJ z=true) (l.all kJ=true) (q (wb (if Pc then !LZ z l else LZ z l)) M)
theorem cM.vals {H:Hp}: ∀ {l us:cV V},cM K H (l.map .v) us ->us=l
 | [],us,h=>by simpa only[List.map_nil,cM] using h
 | n::r,vs,h=>by simp![aN,cM] at h;let⟨v,t,rfl,h1,h2⟩:=h;rw[cM.vals h2,h1.eq]
instance {Pc:Bool}:IR K (Q4 K Pc) (TX Pc) where
 imp :=by rintro x y v u M H q Q m r1 r2 ⟨z,l,rfl,hy,h1,h2,h⟩ k;cases r1.eq;obtain rfl | ⟨a,rfl,ha⟩:=hy;let⟨a,vs,rfl,hv,rr⟩:=r2.tup;cases rr.vals;show#[a,l,rfl, .inr hv,h1,h2,k _ M _ H h (aY.refl H) m WR.v];cases r2.eq;let⟨vs,hv,rr⟩:=m a _ ha;cases rr.vals;show#[a,l,rfl, .inl (gT.of hv),h1,h2,k _ M _ H h (aY.refl H) m WR.v]
def EJ:AF:=λxs M q=>dQ λ(d:gL) (kvs:cV (cg×W)) (ks:cV Int)=>fS (xs= [wr d]) (M d=some (.dK kvs)) (kvs.map (·.1)=ks.map Sum.inl) (ks.length<=sizeLine) (∀ (p:gL) (ns:cV Int),M p=none ->ns.Perm ks ->ns.Pairwise (· <= ·) ->q (wr p) (um M p (.lst (ns.map wi))))
instance:IC K xI EJ where
 imp:=by rintro xs v M H q Q m r1 ⟨d,kvs,ks,rfl,hd,hk,hl,h⟩ k;let⟨v,rfl,r⟩:=r1.one;cases r.eq;let⟨vs,hv,rr⟩:=m d _ hd;show#[d,vs,ks,rfl,hv,by rw[rr.keys];show hk,hl,λp ns hp h1 h2=>k _ _ _ _ (h p ns (m.fresh hp) h1 h2) (L2.fI.ts (bZ hp)) (m.xV hp (cM.ofInts ns)) WR.v]
end
end WL
namespace WL
open PySem L2
theorem S9 {α:Type}{a:α}{l:cV α}:hU (a::l) 0=some a:=e_ (j:=0) (by rfl)
theorem adt {α:Type}{a b:α}{l:cV α}:hU (a::b::l) 1=some b:=e_ (j:=1) (by rfl)
theorem ads {α:Type}{a b c:α}{l:cV α}:hU (a::b::c::l) 2=some c:=e_ (j:=2) (by rfl)
theorem adq {α:Type}{a b c d:α}{l:cV α}:hU (a::b::c::d::l) 3=some d:=e_ (j:=3) (by rfl)
def adl {n:Nat}:zt (n+1+1) 1=some 1:=by unfold zt;rw[am ∅,am ∅];rfl
def adk {n:Nat}:zt (n+1+1+1) 2=some 2:=by unfold zt;rw[am ∅,am ∅];rfl
def adj {n:Nat}:zt (n+1+1+1+1) 3=some 3:=by unfold zt;rw[am ∅,am ∅];rfl
def gu {α:Type}{l:cV α}{i:Int}{a:α}(h0:0<=i)(h:l[i.toNat]? =some a):hU l i=some a:=by have e:((i.toNat:Nat):Int)=i:= ∅;rw[<- e];show e_ h
theorem eC {M:Mp}{P:Mp ->Prop}(h:P M): ∃M0,Sm M0 M /\ P M0:=#[M,Sm.refl M,h]
def NB (d:gL)(M M':Mp):Prop:= ∀b,b≠d ->M' b=M b
theorem NB.refl (d:gL)(M:Mp):NB d M M:=λ_ _=>rfl
theorem NB.trans {d:gL}{M M1 M2:Mp}(a:NB d M M1)(b:NB d M1 M2):NB d M M2:=λc n=>(b c n).trans (a c n)
theorem NB.put {d:gL}{M:Mp}{o:MO}:NB d M (um M d o):=λb n=>aU n
def Dr (M:Mp)(d l:gL):Prop:=gb λ(ns:cV Int) (i c s:Int)=>eT (M d=some (.lst [wr l,wi i,wi c,wi s])) (M l=some (.lst (ns.map wi))) (0<=i) (d≠l)
def Dr.put {M:Mp}{d l p:gL}{o:MO}(h:Dr M d l)(hp:M p=none):Dr (um M p o) d l:=by let⟨ns,i,c,s,h1,h2,h3,h4⟩:=h;show#[ns,i,c,s,by rw[aU (cC h1 hp)];show h1,by rw[aU (cC h2 hp)];show h2,h3,h4]
def Dr.Ni {M:Mp}{d l p:gL}{o:MO}(h:Dr M d l)(hd:p≠d)(hl:p≠l):Dr (um M p o) d l:=by let⟨ns,i,c,s,h1,h2,h3,h4⟩:=h;show#[ns,i,c,s,by rw[aU hd.symm];show h1,by rw[aU hl.symm];show h2,h3,h4]
def Dr.ne {M:Mp}{d l p:gL}(h:Dr M d l)(hp:M p=none):p≠d /\ p≠l:=by let⟨ns,i,c,s,h1,h2,h3,h4⟩:=h;show#[(cC h1 hp).symm,(cC h2 hp).symm]
def bY (q:Int×Int):W:= .tup [wi q.1,wi q.2]
def fV (l:cV (Int×Int)):W:= .tup (l.map bY)
def pairs_at {l:cV (Int×Int)}{i:Nat}{x:W}(h:(l.map bY)[i]? =some x): ∃q,l[i]? =some q /\ x=bY q:=by
 rw[aH] at h;cases e:l[i]? with
 | none=>rw[e] at h;cases h
 | some q=>rw[e] at h;cases h;show#[q,rfl,rfl]
def yj {l:cV Int}{i:Nat}{x:W}(h:(l.map wi)[i]? =some x): ∃n,l[i]? =some n /\ x=wi n:=by
 rw[aH] at h;cases e:l[i]? with
 | none=>rw[e] at h;cases h
 | some q=>rw[e] at h;cases h;show#[q,rfl,rfl]
def iV {lo:Int}{n i:Nat}{x:W}(h:(iC lo n)[i]? =some x):i<n /\ x=wi (lo+i):=by unfold iC at h;rw[aH] at h;by_cases hi:i<n;rw[List.getElem?_range hi] at h;cases h;show#[hi,rfl];rw[List.getElem?_eq_none ⇑hi] at h;cases h
def iU {lo:Int}{n:Nat}:(iC lo n).length=n:=by simp[iC]
def lstK (o:fP MO)(k:cV W ->Prop):Prop:= ∃l,o=some (.lst l) /\ k l
def hJ (o:fP MO)(k:cV (cg×W) ->Prop):Prop:= ∃l,o=some (.dK l) /\ k l
def lC {α:Type}(o:fP α)(k:α ->Prop):Prop:= ∃a,o=some a /\ k a
def dW (C Q:Prop):Prop:=C /\ Q
def i8 (b:Bool)(A B:Prop):Prop:=if b=true then A else B
def Gb (M:Mp)(k:gL ->Prop):Prop:= ∀p,M p=none ->k p
def tt (p:fC)(xs:cV W)(M:Mp)(q:WK):Prop:=p xs M q
def Pm (x:W)(M:Mp)(q:Bool ->Mp ->Prop):Prop:= ∃k,x=wb k /\ q k M
def eI (x:W)(k:gL ->Prop):Prop:= ∃a,x=wr a /\ k a
def tupK (x:W)(k:cV W ->Prop):Prop:= ∃l,x= .tup l /\ k l
def jO (x:W)(k:cg ->Prop):Prop:= ∃y,x=g0 y /\ k y
def SJ (xs:cV W)(keep:Mp ->Prop)(g:WG)(b:WS)(D:fD)(ρ:c8)(M1:Mp):Prop:= ∃I:Nat ->c8 ->Mp ->Prop,eT (I 0 ρ M1) (∀i ρ M,i<=xs.length ->I i ρ M ->keep M) (∀i x ρ M,xs[i]? =some x ->I i ρ M ->g x ρ M λρ2 M2=>b {D with nx:=I (i+1),ct:=I (i+1),bk:=D.nx} ρ2 M2) (∀ρ M,I xs.length ρ M ->D.nx ρ M)
def yS (xs:cV W)(keep:Mp ->Prop)(own:Nat)(fr:cV Nat)(g:WG)(c:WT)(el:WE)(ρ:c8)(M1:Mp)(q:WK):Prop:=xs.length<=sizeLine /\ ∀p,M1 p=none -> ∃I:Nat ->cV W ->Mp ->Prop,eT (I 0 [] (um M1 p (.lst []))) (∀i ys M,i<=xs.length ->I i ys M ->keep M /\ M p=some (.lst ys) /\ ys.length<=i) (∀i x ys M,xs[i]? =some x ->I i ys M ->g x (nS own fr ρ) M λρ2 M2=>c ρ2 M2 λb M3=>if b=true then el ρ2 M3 λy M4=>M4 p=some (.lst ys) /\ I (i+1) (ys++ [y]) (um M4 p (.lst (ys++ [y]))) else I (i+1) ys M3) (∀ys M,I xs.length ys M ->q (wr p) M)
section
variable {M:Mp}{ρ:c8}{q:WK}{a b c:WE}{D:fD}
def WC {l:cV W}{k:cV W ->Prop}:lstK (some (.lst l)) k=k l:=by apply propext;symm;(· rintro⟨_,h,k⟩;cases h;show k);(· intro h;show#[_,rfl,h])
def acN {l:cV (cg×W)}{k:cV (cg×W) ->Prop}:hJ (some (.dK l)) k=k l:=by apply propext;symm;(· rintro⟨_,h,k⟩;cases h;show k);(· intro h;show#[_,rfl,h])
def Wl {α:Type}{x:α}{k:α ->Prop}:lC (some x) k=k x:=by apply propext;symm;(· rintro⟨_,h,k⟩;cases h;show k);(· intro h;show#[_,rfl,h])
def acW {Q:Prop}:dW True Q=Q:=by simp[dW]
def WZ {A B:Prop}:i8 true A B=A:=by simp[i8]
def W0 {A B:Prop}:i8 false A B=B:=by simp[i8]
def adn {k:Bool}{q:Bool ->Mp ->Prop}:Pm (.v (.bl k)) M q=q k M:=by apply propext;symm;(· rintro⟨_,h,k⟩;cases h;show k);(· intro h;show#[_,rfl,h])
def Wc {x:gL}{k:gL ->Prop}:eI (.v (.ref x)) k=k x:=by apply propext;symm;(· rintro⟨_,h,k⟩;cases h;show k);(· intro h;show#[_,rfl,h])
def VW {x:cV W}{k:cV W ->Prop}:tupK (.tup x) k=k x:=by apply propext;symm;(· rintro⟨_,h,k⟩;cases h;show k);(· intro h;show#[_,rfl,h])
def WJ {i:Int}{k:cg ->Prop}:jO (.v (.int i)) k=k (.inl i):=by apply propext;symm;(· rintro⟨y,h,z⟩;cases y<;>cases h;show z);(· intro h;show#[.inl i,rfl,h])
def WH {i:Str}{k:cg ->Prop}:jO (.v (.str i)) k=k (.inr i):=by apply propext;symm;(· rintro⟨y,h,z⟩;cases y<;>cases h;show z);(· intro h;show#[.inr i,rfl,h])
theorem Vm {x:W}{r:c8}:eV 0 (some x::r) M q=q x M:=rfl
theorem Vl {x0:fP W}{x:W}{r:c8}:eV 1 (x0::some x::r) M q=q x M:=rfl
theorem Vk {x0 x1:fP W}{x:W}{r:c8}:eV 2 (x0::x1::some x::r) M q=q x M:=rfl
theorem Vj {x0 x1 x2:fP W}{x:W}{r:c8}:eV 3 (x0::x1::x2::some x::r) M q=q x M:=rfl
theorem Vi {x0 x1 x2 x3:fP W}{x:W}{r:c8}:eV 4 (x0::x1::x2::x3::some x::r) M q=q x M:=rfl
theorem Vh {x0 x1 x2 x3 x4:fP W}{x:W}{r:c8}:eV 5 (x0::x1::x2::x3::x4::some x::r) M q=q x M:=rfl
theorem Vg {x0 x1 x2 x3 x4 x5:fP W}{x:W}{r:c8}:eV 6 (x0::x1::x2::x3::x4::x5::some x::r) M q=q x M:=rfl
theorem Vf {x0 x1 x2 x3 x4 x5 x6:fP W}{x:W}{r:c8}:eV 7 (x0::x1::x2::x3::x4::x5::x6::some x::r) M q=q x M:=rfl
theorem Ve {x0 x1 x2 x3 x4 x5 x6 x7:fP W}{x:W}{r:c8}:eV 8 (x0::x1::x2::x3::x4::x5::x6::x7::some x::r) M q=q x M:=rfl
theorem Vd {x0 x1 x2 x3 x4 x5 x6 x7 x8:fP W}{x:W}{r:c8}:eV 9 (x0::x1::x2::x3::x4::x5::x6::x7::x8::some x::r) M q=q x M:=rfl
theorem TK {x0 x1 x2 x3 x4 x5 x6 x7 x8 x9:fP W}{x:W}{r:c8}:eV 10 (x0::x1::x2::x3::x4::x5::x6::x7::x8::x9::some x::r) M q=q x M:=rfl
theorem TJ {x0 x1 x2 x3 x4 x5 x6 x7 x8 x9 qm:fP W}{x:W}{r:c8}:eV 11 (x0::x1::x2::x3::x4::x5::x6::x7::x8::x9::qm::some x::r) M q=q x M:=rfl
theorem TH {x0 x1 x2 x3 x4 x5 x6 x7 x8 x9 qm rB:fP W}{x:W}{r:c8}:eV 12 (x0::x1::x2::x3::x4::x5::x6::x7::x8::x9::qm::rB::some x::r) M q=q x M:=rfl
theorem TF {x0 x1 x2 x3 x4 x5 x6 x7 x8 x9 qm rB tZ:fP W}{x:W}{r:c8}:eV 13 (x0::x1::x2::x3::x4::x5::x6::x7::x8::x9::qm::rB::tZ::some x::r) M q=q x M:=rfl
theorem TD {x0 x1 x2 x3 x4 x5 x6 x7 x8 x9 qm rB tZ vC:fP W}{x:W}{r:c8}:eV 14 (x0::x1::x2::x3::x4::x5::x6::x7::x8::x9::qm::rB::tZ::vC::some x::r) M q=q x M:=rfl
theorem TC {x0 x1 x2 x3 x4 x5 x6 x7 x8 x9 qm rB tZ vC xb:fP W}{x:W}{r:c8}:eV 15 (x0::x1::x2::x3::x4::x5::x6::x7::x8::x9::qm::rB::tZ::vC::xb::some x::r) M q=q x M:=rfl
theorem TB {x0 x1 x2 x3 x4 x5 x6 x7 x8 x9 qm rB tZ vC xb zA:fP W}{x:W}{r:c8}:eV 16 (x0::x1::x2::x3::x4::x5::x6::x7::x8::x9::qm::rB::tZ::vC::xb::zA::some x::r) M q=q x M:=rfl
theorem Tz {x0 x1 x2 x3 x4 x5 x6 x7 x8 x9 qm rB tZ vC xb zA CO:fP W}{x:W}{r:c8}:eV 17 (x0::x1::x2::x3::x4::x5::x6::x7::x8::x9::qm::rB::tZ::vC::xb::zA::CO::some x::r) M q=q x M:=rfl
theorem Tx {x0 x1 x2 x3 x4 x5 x6 x7 x8 x9 qm rB tZ vC xb zA CO EE:fP W}{x:W}{r:c8}:eV 18 (x0::x1::x2::x3::x4::x5::x6::x7::x8::x9::qm::rB::tZ::vC::xb::zA::CO::EE::some x::r) M q=q x M:=rfl
theorem Tw {x0 x1 x2 x3 x4 x5 x6 x7 x8 x9 qm rB tZ vC xb zA CO EE IB:fP W}{x:W}{r:c8}:eV 19 (x0::x1::x2::x3::x4::x5::x6::x7::x8::x9::qm::rB::tZ::vC::xb::zA::CO::EE::IB::some x::r) M q=q x M:=rfl
theorem Tv {x0 x1 x2 x3 x4 x5 x6 x7 x8 x9 qm rB tZ vC xb zA CO EE IB Mw:fP W}{x:W}{r:c8}:eV 20 (x0::x1::x2::x3::x4::x5::x6::x7::x8::x9::qm::rB::tZ::vC::xb::zA::CO::EE::IB::Mw::some x::r) M q=q x M:=rfl
theorem Tu {x0 x1 x2 x3 x4 x5 x6 x7 x8 x9 qm rB tZ vC xb zA CO EE IB Mw PH:fP W}{x:W}{r:c8}:eV 21 (x0::x1::x2::x3::x4::x5::x6::x7::x8::x9::qm::rB::tZ::vC::xb::zA::CO::EE::IB::Mw::PH::some x::r) M q=q x M:=rfl
theorem Tt {x0 x1 x2 x3 x4 x5 x6 x7 x8 x9 qm rB tZ vC xb zA CO EE IB Mw PH Va:fP W}{x:W}{r:c8}:eV 22 (x0::x1::x2::x3::x4::x5::x6::x7::x8::x9::qm::rB::tZ::vC::xb::zA::CO::EE::IB::Mw::PH::Va::some x::r) M q=q x M:=rfl
theorem Ts {x0 x1 x2 x3 x4 x5 x6 x7 x8 x9 qm rB tZ vC xb zA CO EE IB Mw PH Va x22:fP W}{x:W}{r:c8}:eV 23 (x0::x1::x2::x3::x4::x5::x6::x7::x8::x9::qm::rB::tZ::vC::xb::zA::CO::EE::IB::Mw::PH::Va::x22::some x::r) M q=q x M:=rfl
theorem adx {x:W}:wC x ρ M q=q x M:=rfl
theorem ac5 {r:qi}:IH r a b ρ M q=a ρ M λx M1=>b ρ M1 λy M2=>r x y M2 q:=rfl
theorem ac1 {r:W ->Mp ->WK ->Prop}:wUn r a ρ M q=a ρ M λx M1=>r x M1 q:=rfl
def adw {C:Int ->Int ->Prop}{g:Int ->Int ->V}{i j:Int}:wI C g (.v (.int i)) (.v (.int j)) M q=dW (C i j) (q (.v (g i j)) M):=by apply propext;symm;(· rintro⟨_,_,h1,h2,k⟩;cases h1;cases h2;show k);(· intro h;show#[_,_,rfl,rfl,h])
def ac' {g:Int ->Int ->V}{i j:Int}:VC g (.v (.int i)) (.v (.int j)) M q=q (.v (g i j)) M:=by apply propext;symm;(· rintro⟨_,_,h1,h2,k⟩;cases h1;cases h2;show k);(· intro h;show#[_,_,rfl,rfl,h])
def adv {g:Int ->V}{i:Int}:wU g (.v (.int i)) M q=q (.v (g i)) M:=by apply propext;symm;(· rintro⟨_,h,k⟩;cases h;show k);(· intro h;show#[_,rfl,h])
def ade {i j:Int}:O3 (.v (.int i)) (.v (.int j)) M q=q (wb (decide (i=j))) M:=by apply propext;symm;(· rintro⟨_,_,h1,h2,_,k⟩;cases h1;cases h2;simpa using k);(· intro h;show#[_,_,rfl,rfl,rfl, ⇑h])
def ac7 {i j:Int}:Vs (.v (.int i)) (.v (.int j)) M q=q (wb (!decide (i=j))) M:=by apply propext;symm;(· rintro⟨_,_,h1,h2,_,k⟩;cases h1;cases h2;simpa using k);(· intro h;show#[_,_,rfl,rfl,rfl, ⇑h])
def adb {i j:Str}:O3 (.v (.str i)) (.v (.str j)) M q=q (wb (decide (i=j))) M:=by apply propext;symm;(· rintro⟨_,_,h1,h2,_,k⟩;cases h1;cases h2;simpa using k);(· intro h;show#[_,_,rfl,rfl,rfl, ⇑h])
def ac6 {i j:Str}:Vs (.v (.str i)) (.v (.str j)) M q=q (wb (!decide (i=j))) M:=by apply propext;symm;(· rintro⟨_,_,h1,h2,_,k⟩;cases h1;cases h2;simpa using k);(· intro h;show#[_,_,rfl,rfl,rfl, ⇑h])
theorem TN {q:Bool ->Mp ->Prop}:xg a ρ M q=a ρ M λx M1=>Pm x M1 q:=rfl
theorem VN {a b:WT}{q:Bool ->Mp ->Prop}:Ql a b ρ M q=a ρ M λc M1=>i8 c (b ρ M1 q) (q false M1):=rfl
theorem ac4 {a b:WT}{q:Bool ->Mp ->Prop}:wOr a b ρ M q=a ρ M λc M1=>i8 c (q true M1) (b ρ M1 q):=rfl
theorem Vq {a:WT}{q:Bool ->Mp ->Prop}:PX a ρ M q=a ρ M λc M1=>q (!c) M1:=rfl
theorem Ub:La a b ρ M q=a ρ M λx M1=>Pm x M1 λc M1=>i8 c (b ρ M1 q) (q (wb false) M1):=rfl
theorem Vp:PV a b ρ M q=a ρ M λx M1=>Pm x M1 λc M1=>i8 c (q (wb true) M1) (b ρ M1 q):=rfl
theorem TU:K3 a ρ M q=a ρ M λx M1=>Pm x M1 λc M1=>q (wb (!c)) M1:=rfl
theorem Qi {r r':qi}:ET r r' a b c ρ M q=a ρ M λx M1=>b ρ M1 λy M2=>r x y M2 λz M3=>Pm z M3 λk M3=>i8 k (c ρ M3 λy' M4=>r' y y' M4 q) (q (wb false) M3):=rfl
theorem Vr {q:cV W ->Mp ->Prop}:PY ρ M q=q [] M:=rfl
theorem T8 {r:WA}{q:cV W ->Mp ->Prop}:K8 a r ρ M q=a ρ M λx M1=>r ρ M1 λxs M2=>q (x::xs) M2:=rfl
theorem Vn {a:WA}:PN a ρ M q=a ρ M λxs M1=>dW (xs.length<=sizeLine) (q (.tup xs) M1):=rfl
theorem Vt {a:WA}:P9 a ρ M q=a ρ M λxs M1=>dW (xs.length<=sizeLine) (Gb M1 λp=>q (wr p) (um M1 p (.lst xs))):=rfl
def Vz {x:gL}{i:Int}:P_ (.v (.ref x)) (.v (.int i)) M q=lstK (M x) λl=>lC (hU l i) λu=>q u M:=by apply propext;symm;(· rintro⟨_,l,_,u,h1,h2,h3,h4,k⟩;cases h1;cases h2;show#[l,h3,u,h4,k]);(· rintro⟨l,h3,u,h4,k⟩;show#[_,l,_,u,rfl,rfl,h3,h4,k])
def Vx {l:cV W}{i:Int}:EM (.tup l) (.v (.int i)) M q=lC (hU l i) λu=>q u M:=by apply propext;symm;(· rintro⟨_,_,u,h1,h2,h4,k⟩;cases h1;cases h2;show#[u,h4,k]);(· rintro⟨u,h4,k⟩;show#[_,_,u,rfl,rfl,h4,k])
theorem OZ {q:fP Int ->Mp ->Prop}:A0 ρ M q=q none M:=rfl
def DD (x:W)(k:Int ->Prop):Prop:= ∃i,x=wi i /\ k i
def W2 {i:Int}{k:Int ->Prop}:DD (.v (.int i)) k=k i:=by apply propext;symm;(· rintro⟨_,h,k⟩;cases h;show k);(· intro h;show#[_,rfl,h])
theorem TR {q:fP Int ->Mp ->Prop}:K2 a ρ M q=a ρ M λx M1=>DD x λi=>q (some i) M1:=rfl
theorem ac2 {r:Te}{lo hi:WO}:wSl r a lo hi ρ M q=a ρ M λx M1=>lo ρ M1 λl M2=>hi ρ M2 λu M3=>r x l u M3 q:=rfl
theorem adf {r:AF}{a:WA}:wCB r a ρ M q=a ρ M λxs M1=>r xs M1 q:=rfl
theorem Ua {p:fC}{a:WA}:K_ p a ρ M q=a ρ M λxs M1=>tt p xs M1 q:=rfl
def Vv {x:gL}:Mz [.v (.ref x)] M q=lstK (M x) λl=>q (wi l.length) M:=by apply propext;symm;(· rintro(⟨_,l,h1,h2,k⟩ | ⟨_,h1,_⟩);(· cases h1;show#[l,h2,k]);cases h1);(· rintro⟨l,h3,k⟩;show .inl #[_,l,rfl,h3,k])
def Vu {l:cV W}:Mz [.tup l] M q=q (wi l.length) M:=by apply propext;symm;(· rintro(⟨_,l,h1,h2,k⟩ | ⟨_,h1,k⟩);(· cases h1);cases h1;show k);(· intro k;show .inr #[l,rfl,k])
def VP {i:Int}:Qm [.v (.int i)] M q=q (wi (if i<0 then -i else i)) M:=by apply propext;symm;(· rintro⟨_,h,k⟩;cases h;show k);(· intro h;show#[_,rfl,h])
def O1 {x:gL}:vD [.v (.ref x)] M q=lstK (M x) λl=>Gb M λp=>q (wr p) (um M p (.lst l)):=by apply propext;symm;(· rintro⟨l,⟨_,h1,h2⟩ | h1,k⟩;(· cases h1;show#[l,h2,k]);cases h1);(· rintro⟨l,h3,k⟩;show#[l, .inl #[_,rfl,h3],k])
def O0 {l:cV W}:vD [.tup l] M q=Gb M λp=>q (wr p) (um M p (.lst l)):=by apply propext;symm;(· rintro⟨l,⟨_,h1,h2⟩ | h1,k⟩;(· cases h1);cases h1;show k);(· intro k;show#[l, .inr rfl,k])
def Mx {x:gL}:xf [.v (.ref x)] M q=lstK (M x) λl=>q (.tup l) M:=by apply propext;symm;(· rintro⟨l,⟨_,h1,h2⟩ | h1,k⟩;(· cases h1;show#[l,h2,k]);cases h1);(· rintro⟨l,h3,k⟩;show#[l, .inl #[_,rfl,h3],k])
def VA {K:RS}{x:W}{T:String}:Qa K [x, .v (.ty T)] M q=lC (Uf M x) λt=>lC (W.kitOne K t (.type T)) λb=>q (wb b) M:=by apply propext;symm;(· rintro⟨_,_,t,b,h1,h2,h3,k⟩;cases h1;show#[t,h2,b,h3,k]);(· rintro⟨t,h2,b,h3,k⟩;show#[_,_,t,b,rfl,h2,h3,k])
theorem LX {K:RS}:W.kitOne K (.type "int") (.type "int")=some true:=rfl
theorem JW {K:RS}:W.kitOne K (.type "int") (.type "bool")=some false:=rfl
theorem LW {K:RS}:W.kitOne K (.type "int") (.type "str")=some false:=rfl
theorem Ij {K:RS}:W.kitOne K (.type "int") (.type "tuple")=some false:=rfl
theorem JV {K:RS}:W.kitOne K (.type "int") (.type "list")=some false:=rfl
theorem JY {K:RS}:W.kitOne K (.type "bool") (.type "int")=some true:=rfl
theorem Il {K:RS}:W.kitOne K (.type "bool") (.type "bool")=some true:=rfl
theorem JX {K:RS}:W.kitOne K (.type "bool") (.type "str")=some false:=rfl
theorem Gq {K:RS}:W.kitOne K (.type "bool") (.type "tuple")=some false:=rfl
theorem Ik {K:RS}:W.kitOne K (.type "bool") (.type "list")=some false:=rfl
theorem LV {K:RS}:W.kitOne K (.type "str") (.type "int")=some false:=rfl
theorem JS {K:RS}:W.kitOne K (.type "str") (.type "bool")=some false:=rfl
theorem LU {K:RS}:W.kitOne K (.type "str") (.type "str")=some true:=rfl
theorem Ig {K:RS}:W.kitOne K (.type "str") (.type "tuple")=some false:=rfl
theorem JR {K:RS}:W.kitOne K (.type "str") (.type "list")=some false:=rfl
theorem Dv {K:RS}:W.kitOne K (.type "NoneType") (.type "int")=some false:=rfl
theorem B6 {K:RS}:W.kitOne K (.type "NoneType") (.type "bool")=some false:=rfl
theorem Du {K:RS}:W.kitOne K (.type "NoneType") (.type "str")=some false:=rfl
theorem Ah {K:RS}:W.kitOne K (.type "NoneType") (.type "tuple")=some false:=rfl
theorem B0 {K:RS}:W.kitOne K (.type "NoneType") (.type "list")=some false:=rfl
theorem Ie {K:RS}:W.kitOne K (.type "tuple") (.type "int")=some false:=rfl
theorem Go {K:RS}:W.kitOne K (.type "tuple") (.type "bool")=some false:=rfl
theorem Ib {K:RS}:W.kitOne K (.type "tuple") (.type "str")=some false:=rfl
theorem Ez {K:RS}:W.kitOne K (.type "tuple") (.type "tuple")=some true:=rfl
theorem Gn {K:RS}:W.kitOne K (.type "tuple") (.type "list")=some false:=rfl
theorem JU {K:RS}:W.kitOne K (.type "list") (.type "int")=some false:=rfl
theorem Ii {K:RS}:W.kitOne K (.type "list") (.type "bool")=some false:=rfl
theorem JT {K:RS}:W.kitOne K (.type "list") (.type "str")=some false:=rfl
theorem Gp {K:RS}:W.kitOne K (.type "list") (.type "tuple")=some false:=rfl
theorem Ih {K:RS}:W.kitOne K (.type "list") (.type "list")=some true:=rfl
def adg {r:WM}{b:WA}:VL r a b ρ M q=a ρ M λx M1=>eI x λp=>lstK (M1 p) λ_=>b ρ M1 λxs M2=>r x xs M2 q:=by unfold VL IsL eI lstK;congr 1;funext x M1;apply propext;symm;(· rintro⟨⟨p,l,h1,h2⟩,k⟩;show#[p,h1,l,h2,k]);(· rintro⟨p,h1,l,h2,k⟩;show#[#[p,l,h1,h2],k])
def VJ {r:WM}:MF r a ρ M q=a ρ M λx M1=>eI x λp=>lstK (M1 p) λ_=>r x [] M1 q:=by unfold MF IsL eI lstK;congr 1;funext x M1;apply propext;symm;(· rintro⟨⟨p,l,h1,h2⟩,k⟩;show#[p,h1,l,h2,k]);(· rintro⟨p,h1,l,h2,k⟩;show#[#[p,l,h1,h2],k])
def O5 {x:gL}{y:W}:A2 (.v (.ref x)) [y] M q=lstK (M x) λl=>dW (l.length<sizeLine) (q wn (um M x (.lst (l++ [y])))):=by apply propext;symm;(· rintro⟨_,l,_,h1,h2,h3,h4,k⟩;cases h1;cases h2;show#[l,h3,h4,k]);(· rintro⟨l,h3,h4,k⟩;show#[_,l,_,rfl,rfl,h3,h4,k])
def O2 {x y:gL}:A1 (.v (.ref x)) [.v (.ref y)] M q=lstK (M x) λl=>lstK (M y) λl'=>dW (l.length+l'.length<=sizeLine) (q wn (um M x (.lst (l++l')))):=by apply propext;symm;(· rintro⟨_,_,l,l',h1,h2,h3,h4,h5,k⟩;cases h1;cases h2;show#[l,h3,l',h4,h5,k]);(· rintro⟨l,h3,l',h4,h5,k⟩;show#[_,_,l,l',rfl,rfl,h3,h4,h5,k])
def VH {x y:gL}:Qj (.v (.ref x)) (.v (.ref y)) M q=lstK (M x) λl=>lstK (M y) λl'=>dW (l.length+l'.length<=sizeLine) (Gb M λp=>q (wr p) (um M p (.lst (l++l')))):=by apply propext;symm;(· rintro⟨_,_,l,l',h1,h2,h3,h4,h5,k⟩;cases h1;cases h2;show#[l,h3,l',h4,h5,k]);(· rintro⟨l,h3,l',h4,h5,k⟩;show#[_,_,l,l',rfl,rfl,h3,h4,h5,k])
theorem TY:K7 ρ M q=Gb M λp=>q (wr p) (um M p (.dK [])):=rfl
def TZ:EQ a b ρ M q=a ρ M λx M1=>b ρ M1 λy M2=>eI x λp=>jO y λk=>hJ (M2 p) λkvs=>lC (eX kvs k) λz=>q z M2:=by unfold EQ eI jO hJ lC;congr 1;funext x M1;congr 1;funext y M2;apply propext;symm;(· rintro⟨p,kvs,k,z,h1,h2,h3,h4,h⟩;show#[p,h1,k,h3,kvs,h2,z,h4,h]);(· rintro⟨p,h1,k,h3,kvs,h2,z,h4,h⟩;show#[p,kvs,k,z,h1,h2,h3,h4,h])
def VG:MD a b ρ M q=a ρ M λy M1=>b ρ M1 λx M2=>eI x λp=>jO y λk=>hJ (M2 p) λkvs=>q (wb (eX kvs k).isSome) M2:=by unfold MD eI jO hJ;congr 1;funext x M1;congr 1;funext y M2;apply propext;symm;(· rintro⟨p,kvs,k,h1,h2,h3,h⟩;show#[p,h1,k,h3,kvs,h2,h]);(· rintro⟨p,h1,k,h3,kvs,h2,h⟩;show#[p,kvs,k,h1,h2,h3,h])
def O4:vE a b ρ M q=a ρ M λy M1=>b ρ M1 λx M2=>eI x λp=>jO y λk=>hJ (M2 p) λkvs=>q (wb (!(eX kvs k).isSome)) M2:=by unfold vE eI jO hJ;congr 1;funext x M1;congr 1;funext y M2;apply propext;symm;(· rintro⟨p,kvs,k,h1,h2,h3,h⟩;show#[p,h1,k,h3,kvs,h2,h]);(· rintro⟨p,h1,k,h3,kvs,h2,h⟩;show#[p,kvs,k,h1,h2,h3,h])
def Qf:zE a b c ρ M q=a ρ M λx M1=>eI x λp=>hJ (M1 p) λ_=>b ρ M1 λy M2=>c ρ M2 λz M3=>jO y λk=>hJ (M3 p) λkvs=>q ((eX kvs k).getD z) M3:=by
 unfold zE eI jO hJ;congr 1;funext x M1;apply propext;symm;rintro⟨p,h1,⟨kvs,h2⟩,h⟩;exact#[p,h1,kvs,h2,?_];have e:(λy M2=>c ρ M2 λz M3=>cx λkvs k=>cT (M3 p=some (.dK kvs)) (y=g0 k) (q ((eX kvs k).getD z) M3))=(λy M2=>c ρ M2 λz M3=> ∃k,y=g0 k /\ ∃kvs,M3 p=some (.dK kvs) /\ q ((eX kvs k).getD z) M3):=by funext y M2;congr 1;funext z M3;apply propext;symm;rintro⟨a,b,c,d,e⟩;show#[b,d,a,c,e];rintro⟨b,d,a,c,e⟩;show#[a,b,c,d,e]
 rw[<- e];show h;rintro⟨p,h1,kvs,h2,h⟩;exact#[p,h1,#[kvs,h2],?_];have e:(λy M2=>c ρ M2 λz M3=>cx λkvs k=>cT (M3 p=some (.dK kvs)) (y=g0 k) (q ((eX kvs k).getD z) M3))=(λy M2=>c ρ M2 λz M3=> ∃k,y=g0 k /\ ∃kvs,M3 p=some (.dK kvs) /\ q ((eX kvs k).getD z) M3):=by funext y M2;congr 1;funext z M3;apply propext;symm;rintro⟨a,b,c,d,e⟩;show#[b,d,a,c,e];rintro⟨b,d,a,c,e⟩;show#[a,b,c,d,e]
 rw[e];show h
theorem bx {a b:WS}:C2 a b D ρ M=a {nx:=b D,rt:=D.rt,bk:=D.bk,ct:=D.ct} ρ M:=rfl
theorem Ul:Bm D ρ M=D.nx ρ M:=rfl
theorem Uo:Ls a D ρ M=a ρ M λ_ M1=>D.nx ρ M1:=rfl
theorem V8:QT a D ρ M=a ρ M D.rt:=rfl
theorem adh {c:WT}{a b:WS}:O_ c a b D ρ M=c ρ M λk M1=>i8 k (a D ρ M1) (b D ρ M1):=rfl
theorem V_ {g:WG}:QZ a g D ρ M=a ρ M λx M1=>g x ρ M1 D.nx:=rfl
theorem V' {i:Nat}{r:qi}:QY i a r D ρ M=eV i ρ M λx M=>a ρ M λy M1=>r x y M1 λz M2=>D.nx (ρ.set i (some z)) M2:=rfl
def QW:zN a b c D ρ M=c ρ M λz M1=>a ρ M1 λx M2=>b ρ M2 λy M3=>eI x λp=>jO y λk=>hJ (M3 p) λkvs=>dW (kvs.length<sizeLine) (D.nx ρ (um M3 p (.dK (vS kvs k z)))):=by unfold zN eI jO hJ dW;congr 1;funext z M1;congr 1;funext x M2;congr 1;funext y M3;apply propext;symm;(· rintro⟨p,kvs,k,h1,h2,h3,h4,h⟩;show#[p,h1,k,h3,kvs,h2,h4,h]);(· rintro⟨p,h1,k,h3,kvs,h2,h4,h⟩;show#[p,kvs,k,h1,h2,h3,h4,h])
theorem V9 {it:WI}{g:WG}{b:WS}:QU it g b D ρ M=it ρ M λxs keep M1=>SJ xs keep g b D ρ M1:=rfl
theorem Ud {i:Nat}{x:W}{q:c8 ->Mp ->Prop}:Le i x ρ M q=q (ρ.set i (some x)) M:=rfl
def VT {q:c8 ->Mp ->Prop}:MJ [] ρ M q=q ρ M:=by simp[MJ]
def Ue {a:WG}{b:KA}{x:W}{r:cV W}{q:c8 ->Mp ->Prop}:Lf a b (x::r) ρ M q=a x ρ M λρ' M'=>b r ρ' M' q:=by apply propext;symm;(· rintro⟨_,_,h,k⟩;cases h;show k);(· intro h;show#[_,_,rfl,h])
def VR {n:Nat}{a:KA}{l:cV W}{q:c8 ->Mp ->Prop}:Qn n a (.tup l) ρ M q=dW (l.length=n) (a l ρ M q):=by apply propext;symm;(· rintro⟨_,h,k,l⟩;cases h;show#[k,l]);(· rintro⟨h,l⟩;show#[_,rfl,h,l])
theorem VS {s:HB}{x:W}{q:c8 ->Mp ->Prop}:Qo a b s x ρ M q=a ρ M λo M1=>b ρ M1 λi M2=>s o i x M2 λM3=>q ρ M3:=rfl
def TQ {x:gL}{i:Int}{z:W}{q:Mp ->Prop}:K1 (.v (.ref x)) (.v (.int i)) z M q=lstK (M x) λl=>lC (zt l.length i) λj=>q (um M x (.lst (l.set j z))):=by apply propext;symm;(· rintro⟨_,l,_,j,h1,h2,h3,h4,k⟩;cases h1;cases h2;show#[l,h3,j,h4,k]);(· rintro⟨l,h3,j,h4,k⟩;show#[_,l,_,j,rfl,rfl,h3,h4,k])
def UI {q:cV W ->(Mp ->Prop) ->Mp ->Prop}:Gv a ρ M q=a ρ M λx M1=>eI x λp=>lstK (M1 p) λl=>q l (λM'=>M' p=some (.lst l)) M1:=by unfold Gv eI lstK;congr 1;funext x M1;apply propext;symm;(· rintro⟨p,l,h1,h2,h⟩;show#[p,h1,l,h2,h]);(· rintro⟨p,h1,l,h2,h⟩;show#[p,l,h1,h2,h])
theorem WV {q:cV W ->(Mp ->Prop) ->Mp ->Prop}:RN a ρ M q=a ρ M λx M1=>tupK x λl=>q l (λ_=>True) M1:=rfl
def NH (xs:cV W)(k:W ->Prop):Prop:= ∃x,xs= [x] /\ k x
def Wm {x:W}{k:W ->Prop}:NH [x] k=k x:=by apply propext;symm;(· rintro⟨_,h,k⟩;cases h;show k);(· intro h;show#[_,rfl,h])
def UH {a:WA}{q:cV W ->(Mp ->Prop) ->Mp ->Prop}:Gu a ρ M q=a ρ M λxs M1=>NH xs λx=>DD x λj=>dW (-(2 ^ 62) <=j /\ j<2 ^ 62) (q (iC 0 j.toNat) (λ_=>True) M1):=by unfold Gu NH DD dW;congr 1;funext x M1;apply propext;symm;(· rintro⟨j,h1,h2,h3,h⟩;show#[_,h1,j,rfl,#[h2,h3],h]);(· rintro⟨_,h1,j,rfl,⟨h2,h3⟩,h⟩;show#[j,h1,h2,h3,h])
theorem T9 {it:WI}{own:Nat}{fr:cV Nat}{g:WG}{c:WT}{el:WE}:K9 it own fr g c el ρ M q=it ρ M λxs keep M1=>yS xs keep own fr g c el ρ M1 q:=rfl
theorem Vc {q:Bool ->Mp ->Prop}:PM ρ M q=q true M:=rfl
end
def sl1:(1<=sizeLine)=True:=by rw[sizeLine_eq];decide
def Lq:(2<=sizeLine)=True:=by rw[sizeLine_eq];decide
def sl3:(3<=sizeLine)=True:=by rw[sizeLine_eq];decide
def sl4:(4<=sizeLine)=True:=by rw[sizeLine_eq];decide
def sl5:(5<=sizeLine)=True:=by rw[sizeLine_eq];decide
def sl0:(0<=sizeLine)=True:=by simp
def dk {c A B:Prop} [Decidable c](h1:c ->A)(h2:¬c ->B):i8 (decide c) A B:=by unfold i8;by_cases h:c;rw[am (bC h)];show h1 h;rw[ak ⇑h];show h2 h
def N5 {c A B:Prop} [Decidable c](h1:¬c ->A)(h2:c ->B):i8 (!decide c) A B:=by unfold i8;by_cases h:c;rw[ak ⇑h];show h2 h;rw[am ⇑h];show h1 h
theorem gO {xs:cV W}{keep:Mp ->Prop}{M1:Mp}{own:Nat}{fr:cV Nat}{ρ:c8}{g:WG}{c:WT}{el:WE}{q:WK}(f:W ->fP W)(hz:xs.length<=sizeLine)(nw: ∀M,Sm M1 M ->keep M) (hs: ∀ (i:Nat) x,xs[i]? =some x -> ∀ (M:Mp) (N:fP W ->Mp ->Prop),Sm M1 M ->N (f x) M ->g x (nS own fr ρ) M λρ2 M2=>c ρ2 M2 λb M3=>i8 b (el ρ2 M3 λy M4=>N (some y) M4) (N none M3)) (hq: ∀p,M1 p=none ->q (wr p) (um M1 p (.lst (xs.filterMap f)))):yS xs keep own fr g c el ρ M1 q:=DW f hz nw hs hq
end WL
namespace WL
def hold (f:c8 ->Mp ->Prop)(ρ:c8)(M:Mp):Prop:=f ρ M
theorem ed {f:c8 ->Mp ->Prop}{ρ:c8}{M:Mp}(h:f ρ M):hold f ρ M:=h
theorem cA {a b:WS}{D:fD}{ρ:c8}{M:Mp}:C2 a b D ρ M=a {nx:=hold (b D),rt:=D.rt,bk:=D.bk,ct:=D.ct} ρ M:=rfl
theorem me {c:WT}{a b R:WS}{D:fD}{ρ:c8}{M:Mp}(Mid:c8 ->Mp ->Prop)(cU: ∀ρ M,Mid ρ M ->R D ρ M)(h: ∀N:c8 ->Mp ->Prop,(∀ρ M,Mid ρ M ->N ρ M) ->O_ c a b {nx:=N,rt:=D.rt,bk:=D.bk,ct:=D.ct} ρ M):C2 (O_ c a b) R D ρ M:=h _ cU
theorem kI {xs:cV W}{keep:Mp ->Prop}{g:WG}{b:WS}{D:fD}{ρ:c8}{M1:Mp}(I:Nat ->c8 ->Mp ->Prop)(h0:I 0 ρ M1)(hk: ∀i ρ M,i<=xs.length ->I i ρ M ->keep M) (hs: ∀i x ρ M,xs[i]? =some x ->I i ρ M -> ∀N:c8 ->Mp ->Prop,(∀ρ' M',I (i+1) ρ' M' ->N ρ' M') ->g x ρ M λρ2 M2=>b {nx:=N,rt:=D.rt,bk:=D.nx,ct:=N} ρ2 M2) (hd: ∀ρ M,I xs.length ρ M ->D.nx ρ M):SJ xs keep g b D ρ M1:=#[I,h0,hk,λi x ρ M hx hI=>hs i x ρ M hx hI _ λ_ _ h=>h,hd]
end WL
namespace WL
open L2
def Na:WS:=λ_ _ _=>False
instance {K:RS}:IS K E4 Na where
 imp:=λ_ _ _ _ _ _ _ h _=>h.elim
end WL
namespace WP
open PySem L2 WL
abbrev Pt:=cV (Int×Int)
def look:Pt ->Int ->Int
 | [],_=>0
 | q::r,x=>if q.1=x then q.2 else look r x
def dB (p:Int)(l:Pt):Prop:=(∀q∈l,0<q.2 /\ q.2<p) /\ l.Pairwise (λa b=>a.1<b.1)
def eY:Pt ->Int ->Int
 | [],_=>0
 | q::r,x=>(if q.1=x then q.2 else 0)+eY r x
def fL (a b:Pt)(x:Int):eY (a++b) x=eY a x+eY b x:=by
 induction a with
 | nil=>simp[eY]
 | cons q r ih=>rw[List.cons_append,eY,eY,ih];lia
def rH (a:Pt)(q:Int×Int)(x:Int):eY (a++ [q]) x=eY a x+if q.1=x then q.2 else 0:=by rw[fL];simp[eY]
def fY {l:Pt}{x:Int}(h: ∀q∈l,q.1≠x):look l x=0:=by
 induction l with
 | nil=>rfl
 | cons q r ih=>rw[look,ak (h q (by simp)),ih λz hz=>h z (by simp[hz])]
def mG {l:Pt}(h:l.Pairwise (λa b=>a.1<b.1))(x:Int):eY l x=look l x:=by
 induction l with
 | nil=>rfl
 | cons q r ih=>rw[bW] at h;rw[eY,look,ih h.2];by_cases e:q.1=x;rw[am e,am e,fY];lia;intro z hz;have:=h.1 z hz;lia;rw[ak e,ak e];lia
def Ae {p:Int}{l:Pt}(hp:0<p)(h:dB p l)(x:Int):0<=look l x /\ look l x<p:=by
 induction l with
 | nil=>rw[look];lia
 | cons q r ih=>rw[look];split;have:=h.1 q (by simp);lia;show ih #[λz hz=>h.1 z (by simp[hz]),(bW.mp h.2).2]
theorem dB.tail {p:Int}{q:Int×Int}{r:Pt}(h:dB p (q::r)):dB p r:=#[λz hz=>h.1 z (by simp[hz]),(bW.mp h.2).2]
theorem dB.nil {p:Int}:dB p []:=#[λ_ h=>absurd h (by simp),List.Pairwise.nil]
theorem q_ {p p':Int}: ∀ {a b:Pt},dB p a ->dB p' b ->(∀x,look a x=look b x) ->a=b
 | [],[],_,_,_=>rfl
 | [],q::r,_,hb,h=>by have:=h q.1;rw[look,look,am rfl] at this;have:=hb.1 q (by simp);lia
 | q::r,[],ha,_,h=>by have:=h q.1;rw[look,look,am rfl] at this;have:=ha.1 q (by simp);lia
 | q ::r,q'::r',ha,hb,h=>by
  have pa:=ha.1 q (by simp);have pb:=hb.1 q' (by simp);have sa:=(bW.mp ha.2).1;have sb:=(bW.mp hb.2).1;have e1:q.1=q'.1:=by obtain l | l | l:=Int.lt_trichotomy q.1 q'.1;have e:=h q.1;rw[look,am rfl,look,ak ∅,fY (λz hz=>by have:=sb z hz;lia)] at e;lia;show l;have e:=h q'.1;rw[look,ak ∅,fY (λz hz=>by have:=sa z hz;lia),look,am rfl] at e;lia
  have e2:q.2=q'.2:=by have e:=h q.1;rw[look,am rfl,look,am e1.symm] at e;show e
  have e:r=r':=q_ ha.tail hb.tail λx=>by by_cases hx:q.1=x;rw[fY (λz hz=>by have:=sa z hz;lia),fY (λz hz=>by have:=sb z hz;lia)];have e:=h x;rwa [look,ak hx,look,ak ∅] at e
  rw[e,Prod.ext e1 e2]
def gS (p:Int):Pt ->Int ->Int ->Pt
 | [],x,s=>if s % p=0 then [] else [(x,s % p)]
 | q::r,x,s=>if x<q.1 then(if s % p=0 then q::r else(x,s % p)::q::r) else if x=q.1 then(if(q.2+s) % p=0 then r else(x,(q.2+s) % p)::r) else q::gS p r x s
def oG (p:Int)(ps:Pt):Pt:=ps.foldl (λa q=>gS p a q.1 q.2) []
def Ee {p:Int}{l:Pt}{x s:Int}{z:Int×Int}(h:z∈gS p l x s):z.1=x \/ z∈l:=by
 induction l with
 | nil=>rw[gS] at h;split at h;cases h;left;rw[a_.mp h]
 | cons q r ih=>rw[gS] at h;split at h;split at h;show .inr h;obtain h | h:=aS.mp h;left;rw[h];show .inr h;split at h;split at h;show .inr (by simp[h]);obtain h | h:=aS.mp h;left;rw[h];show .inr (by simp[h]);obtain h | h:=aS.mp h;show .inr (by simp[h]);obtain h | h:=ih h;show .inl h;show .inr (by simp[h])
def z8 {p s:Int}(hp:0<p)(h:¬s % p=0):0<s % p /\ s % p<p:=by have:=Int.emod_nonneg s (show p≠0 by lia);have:=Int.emod_lt_of_pos s hp;lia
def Ed {p:Int}(hp:0<p){l:Pt}{x s:Int}(h:dB p l):dB p (gS p l x s):=by
 induction l with
 | nil=>rw[gS];split;show dB.nil;rename_i hs;show#[λq hq=>by rw[a_.mp hq];show z8 hp hs,by simp]
 | cons q r ih=>have sa:=(bW.mp h.2).1;rw[gS];split;rename_i hx;split;show h;rename_i hs;exact#[λz hz=> ?_,bW.mpr #[λz hz=> ?_,h.2]];obtain rfl | hz:=aS.mp hz;show z8 hp hs;show h.1 z hz;obtain rfl | hz:=aS.mp hz;show hx;have:=sa z hz;change x<z.1;lia;split;rename_i hx;split;show h.tail;rename_i hs;exact#[λz hz=> ?_,bW.mpr #[λz hz=> ?_,h.tail.2]];obtain rfl | hz:=aS.mp hz;show z8 hp hs;show h.1 z (by simp[hz]);have:=sa z hz;change x<z.1;lia;rename_i h1 h2;have ih':=ih h.tail;exact#[λz hz=> ?_,bW.mpr #[λz hz=> ?_,ih'.2]];obtain rfl | hz:=aS.mp hz;show h.1 z (by simp);show ih'.1 z hz;obtain e | hz:=Ee hz;lia;show sa z hz
def Af {p:Int}(hp:0<p){l:Pt}{x s:Int}(h:dB p l)(y:Int):look (gS p l x s) y=if y=x then(look l x+s) % p else look l y:=by
 induction l with
 | nil=>rw[gS];by_cases hs:s % p=0;rw[am hs];simp[look,hs];rw[ak hs];by_cases e:y=x;subst e;simp[look];rw[ak e];simp[look,de e]
 | cons q r ih=>
  have sa:=(bW.mp h.2).1;have qr:=h.1 q (by simp);rw[gS];split;rename_i hx;have hn:look (q::r) x=0:=fY (λz hz=>by obtain rfl | hz:=aS.mp hz;lia;have:=sa z hz;lia);rw[hn,Int.zero_add];split;rename_i hs;by_cases e:y=x;rw[am e,e,hn,hs];rw[ak e];by_cases e:y=x;rw[am e,look,am e.symm];rw[ak e,look,ak (de e)];split;rename_i hx;have hq:look (q::r) x=q.2:=by rw[look,am hx.symm]
  rw[hq];split;rename_i hs;by_cases e:y=x;rw[am e,hs,fY (λz hz=>by have:=sa z hz;lia)];rw[ak e,look,ak ∅];by_cases e:y=x;rw[am e,look,am e.symm];rw[ak e,look,ak (de e),look,ak ∅];rename_i h1 h2;rw[look,ih h.tail];by_cases e:y=x;rw[am e,am e,ak ∅];conv=>rhs;rw[look,ak ∅]
  rw[ak e,ak e,look]
def sq (p:Int)(ps:Pt)(q:Int×Int):oG p (ps++ [q])=gS p (oG p ps) q.1 q.2:=by unfold oG;rw[List.foldl_append];rfl
def lx {α:Type}{P:cV α ->Prop}(h0:P [])(h1: ∀l a,P l ->P (l++ [a]))(l:cV α):P l:=by
 have key: ∀n:Nat, ∀l:cV α,l.length=n ->P l:=by
  intro n;induction n with
  | zero=>intro l hl;rw[List.length_eq_zero_iff.mp hl];show h0
  | succ n ih=>
   intro l hl;have mB:l≠ []:=by intro e;rw[e] at hl;cases hl
   rw[<- List.dropLast_concat_getLast mB];show h1 _ _ (ih _ (by rw[List.length_dropLast];lia))
 show key _ l rfl
def fA {p:Int}(hp:0<p)(ps:Pt):dB p (oG p ps):=by
 induction ps using lx with
 | h0=>show dB.nil
 | h1 l a ih=>rw[sq];show Ed hp ih
def sw {p:Int}(hp:0<p)(ps:Pt)(x:Int):look (oG p ps) x=eY ps x % p:=by
 induction ps using lx with
 | h0=>simp[oG,look,eY]
 | h1 l a ih=>rw[sq,Af hp (fA hp l),rH];by_cases e:x=a.1;subst e;rw[am rfl,am rfl,ih,Int.emod_add_emod];rw[ak e,ak (de e),ih,Int.add_zero]
def Ef {p:Int}{l:Pt}{x s:Int}:(gS p l x s).length<=l.length+1:=by
 induction l with
 | nil=>rw[gS];split<;>simp
 | cons q r ih=>rw[gS];split;split<;>simp;split;split<;>simp<;>lia;simp;show ih
def im (p:Int)(ps:Pt):(oG p ps).length<=ps.length:=by
 induction ps using lx with
 | h0=>simp[oG]
 | h1 l a ih=>rw[sq,aK];show av Ef (by simp;show ih)
def tY (m:Pt):cV (cg×W):=m.map λq=>((Sum.inl q.1:cg),wi q.2)
def t_ (m:Pt)(x v:Int):Pt:=if(m.any λq=>decide (q.1=x))=true then m.map (λq=>if q.1=x then(q.1,v) else q) else m++ [(x,v)]
def rA {m:Pt}{x:Int}:(m.any λq=>decide (q.1=x))=true↔x∈m.map (·.1):=by rw[List.any_eq_true,List.mem_map];symm;rintro⟨q,hq,e⟩;show#[q,hq, ⇑e];rintro⟨q,hq,e⟩;show#[q,hq, ⇑e]
def B_ (a b:Int):decide ((Sum.inl a:cg)=Sum.inl b)=decide (a=b):=by simp
def Bv (m:Pt)(x v:Int):vS (tY m) (.inl x) (wi v)=tY (t_ m x v):=by
 unfold vS t_;have e:((tY m).any λkv=>decide (kv.1=(Sum.inl x:cg)))=m.any λq=>decide (q.1=x):=by unfold tY;rw[List.any_map];congr 1;funext q;show B_ _ _
 rw[e];split;unfold tY;rw[a4,a4];apply List.map_congr_left;intro q _;change(if(Sum.inl q.1:cg)=Sum.inl x then((Sum.inl q.1:cg),wi v) else(Sum.inl q.1,wi q.2))=((Sum.inl (if q.1=x then(q.1,v) else q).1:cg),wi (if q.1=x then(q.1,v) else q).2)
 by_cases hq:q.1=x;rw[am (by rw[hq]),am hq];rw[ak (λz=>hq (Sum.inl.inj z)),ak hq];unfold tY;rw[bn];rfl
def A3 (m:Pt)(x:Int):eX (tY m) (.inl x)=(m.find? λq=>decide (q.1=x)).map λq=>wi q.2:=by
 unfold eX tY;rw[List.find?_map,Option.map_map];have e:((λkv:cg×W=>decide (kv.1=(Sum.inl x:cg))) ∘ λq:Int×Int=>((Sum.inl q.1:cg),wi q.2))=λq=>decide (q.1=x):=by funext q;show B_ _ _
 rw[e];rfl
def u9 {m:Pt}{x:Int}:(m.find? λq=>decide (q.1=x))=none /\ look m x=0 /\ x∉m.map (·.1) \/ ∃q,(m.find? λq=>decide (q.1=x))=some q /\ look m x=q.2:=by
 induction m with
 | nil=>show .inl #[rfl,rfl,by simp]
 | cons q r ih=>
  rw[cE,look];by_cases e:q.1=x;simp![e,dm];show .inr #[q,rfl,by simp];simp![e,decide_false,bv];rcases ih with⟨h1,h2,h3⟩ | h
  show .inl #[h1,h2,by rw[aN,aS,not_or];show#[de e,h3]];show .inr h
def Ci (m:Pt)(x:Int):(eX (tY m) (.inl x)).getD (wi 0)=wi (look m x):=by rw[A3];rcases u9 (m:=m) (x:=x) with⟨h1,h2,_⟩ | ⟨q,h1,h2⟩ <;>rw[h1,h2] <;>rfl
def EV {m:Pt}{x:Int}(h:x∈m.map (·.1)):eX (tY m) (.inl x)=some (wi (look m x)):=by
 rw[A3];rcases u9 (m:=m) (x:=x) with⟨_,_,h3⟩ | ⟨q,h1,h2⟩
 show absurd h h3;rw[h1,h2];rfl
def yd (m:Pt):(tY m).map (·.1)=(m.map (·.1)).map Sum.inl:=by unfold tY;rw[a4,a4];rfl
def uT {m:Pt}{x v:Int}:(t_ m x v).map (·.1)=if x∈m.map (·.1) then m.map (·.1) else m.map (·.1)++ [x]:=by unfold t_;by_cases h:x∈m.map (·.1);rw[am (rA.mpr h),am h,a4];apply List.map_congr_left;intro q _;change(if q.1=x then(q.1,v) else q).1=q.1;split<;>rfl;rw[ak (λe=>h (rA.mp e)),ak h,bn];rfl
def BL {m:Pt}{x v:Int}(h:(m.map (·.1)).Nodup):((t_ m x v).map (·.1)).Nodup:=by rw[uT];by_cases e:x∈m.map (·.1);rw[am e];show h;rw[ak e];show BK h e
def yb {m:Pt}{x v:Int}:(t_ m x v).length<=m.length+1:=by unfold t_;split;rw[ai];lia;simp
def uQ {m:Pt}{x v y:Int}:look (t_ m x v) y=if y=x then v else look m y:=by
 unfold t_;by_cases h:x∈m.map (·.1);rw [am (rA.mpr h)];have key: ∀m:Pt,look (m.map (λq=>if q.1=x then(q.1,v) else q)) y=if y=x /\ x∈m.map (·.1) then v else look m y:=by
  intro m;induction m with
  | nil=>simp[look]
  | cons q r ih=>
   rw[aN,look,look,ih];by_cases hq:q.1=x;by_cases hy:y=x;subst hy;simp[hq];simp[hq,hy,de hy];by_cases hy:y=x;subst hy;have:(y∈(q::r).map (·.1))=(y∈r.map (·.1)):=by rw[aN,aS];simp[de hq]
   simp![this,hq,bv];simp[hq,hy]
 rw[key];simp[h];rw [ak (λe=>h (rA.mp e))];have key: ∀m:Pt,x∉m.map (·.1) ->look (m++ [(x,v)]) y=if y=x then v else look m y:=by
  intro m;induction m with
  | nil=>intro _;by_cases e:y=x;simp[look,e];simp[look,e,de e]
  | cons q r ih=>intro hn;rw[aN,aS,not_or] at hn;rw[List.cons_append,look,look,ih hn.2];by_cases e:y=x;subst e;simp[de hn.1];simp[e]
 show key m h
def O9 (m:Pt)(ns:cV Int):Pt:=ns.filterMap λx=>if look m x=0 then none else some (x,look m x)
theorem ya {m:Pt}{x:Int}: ∀ {ns:cV Int},ns.Nodup ->look (O9 m ns) x=if x∈ns then look m x else 0
 | [],_=>rfl
 | n ::r,h=>by rw[List.nodup_cons] at h;have ih:=ya (m:=m) (x:=x) h.2;unfold O9 at ih ⊢;rw[List.filterMap_cons];by_cases e:look m n=0;rw[am e];change look (r.filterMap _) x=_;rw[ih];by_cases hx:x=n;subst hx;rw[ak h.1,am (by simp),e];simp[hx];rw[ak e];change look ((n,look m n)::r.filterMap _) x=_;rw[look,ih];by_cases hx:x=n;subst hx;rw[am rfl,am (by simp)];rw[ak (de hx)];simp[hx]
def CW {ns:cV Int}(h1:ns.Pairwise (· <= ·))(h2:ns.Nodup):ns.Pairwise (· < ·):=by exact(List.Pairwise.and h1 h2).imp ?_;rintro a b ⟨h,n⟩;lia
def Bd {p:Int}(hp:0<p){ps m:Pt}{ns:cV Int}(hn:(m.map (·.1)).Nodup)(ht: ∀x,look m x=eY ps x % p)(i9:ns.Perm (m.map (·.1)))(hs:ns.Pairwise (· <= ·)):O9 m ns=oG p ps:=by have nd:=i9.nodup_iff.mpr hn;have st:=CW hs nd;exact q_ (p:=p) #[?_,?_] (fA hp ps) λx=> ?_;intro q hq;let⟨x,hx,e⟩:=List.mem_filterMap.mp hq;split at e;cases e;rename_i h0;cases e;have:=ht x;have:=Int.emod_nonneg (eY ps x) (show p≠0 by lia);have:=Int.emod_lt_of_pos (eY ps x) hp;change 0<look m x /\ look m x<p;lia;unfold O9;exact List.Pairwise.filterMap _ ?_ st;intro a b Ce c hc d hd;split at hc<;>cases hc;split at hd<;>cases hd;show Ce;rw[ya nd,sw hp];split;show ht x;rename_i hx;rw[<- ht x,fY];intro q hq e;show hx (i9.mem_iff.mpr (by rw[<- e];show List.mem_map_of_mem hq))
def EC (_:Pt):Prop:=True
theorem Ar {ps:Pt}:EC ps:=trivial
def x_ {m:Pt}{x v k:Int}(h:k∈(t_ m x v).map (·.1)):k=x \/ k∈m.map (·.1):=by rw[uT] at h;split at h;show .inr h;obtain h | h:=bh.mp h;show .inr h;show .inl (a_.mp h)
end WP
namespace WQ
open PySem L2 WL WP
def Rc:fC:=λxs M q=>dQ λ(d l:gL) (n:Int)=>fS (xs= [wr d,wi n]) (Dr M d l) (0<n) (n<1073741824) (∀ (r:Int) (M':Mp),0<=r ->r<n ->Dr M' d l ->NB d M M' ->q (wi r) M')
def pP:fC:=λxs M q=>cx λ(d l:gL)=>cT (xs= [wr d]) (Dr M d l) (∀ (p:Int) (M':Mp),(p=2 \/ p=3 \/ p=5 \/ p=7) ->Dr M' d l ->NB d M M' ->q (wi p) M')
def LF:fC:=λxs M q=>dQ λ(a:gL) (p:Int) (ps:Pt)=>jX (xs= [wi p,wr a]) (M a=some (.lst (ps.map bY))) (0<p) (EC ps) (ps.length<=16000000) (q (fV (oG p ps)) M)
def mv (by_:Int)(l:Pt):Pt:=l.map λz=>(z.1+by_,z.2)
def Nv:fC:=λxs M q=>cx λ(ua:Pt) (b:Int)=>cT (xs= [fV ua,wi b]) (ua.length<=16000000) (q (fV (mv b ua)) M)
def Wh:fC:=λxs M q=> ∃i:Int,xs= [wi i] /\ q (wb true) M
def Nw:fC:=λxs M q=>cx λ(p:Int) (ua:Pt)=>eT (xs= [wi p,fV ua]) (dB p ua) (ua.length<=16000000) (q (wb true) M)
def ND:fC:=λxs M q=>dQ λ(p:Int) (a b:Pt)=>jX (xs= [wi p,fV a,fV b]) (0<p) (EC (a++b)) (a.length<=8000000) (b.length<=8000000) (q (fV (oG p (a++b))) M)
def tm (n:Int)(l:Pt):Pt:=l.map λz=>(z.1,z.2*n)
def Nt:fC:=λxs M q=>dQ λ(p:Int) (a:Pt) (n:Int)=>jX (xs= [wi p,fV a,wi n]) (0<p) (EC (tm n a)) (a.length<=40000) (∀z∈a,0<=z.2 /\ z.2<1000) (q (fV (oG p (tm n a))) M)
def BM (b n:Int)(l:Pt):Pt:=l.map λz=>(z.1+b,z.2*n)
def Wg:fC:=λxs M q=>vx λ(p:Int) (a b:Pt) (y n:Int)=>Kz (xs= [wi p,fV a,fV b,wi y,wi n]) (0<p) (EC (a++BM y n b)) (a.length<=8000000) (b.length<=8000000) (∀z∈b,0<=z.2 /\ z.2<1000) (q (fV (oG p (a++BM y n b))) M)
theorem big {n:Nat}(h:n<=16000000):n<=sizeLine:=av h (by rw[sizeLine_eq];decide)
theorem nU {n:Nat}(h:n<=16000000):n<sizeLine:=Nat.lt_of_le_of_lt h (by rw[sizeLine_eq];decide)
theorem oJ {b:Int}{l:Pt}:(mv b l).length=l.length:=ai _
def JK {l:Pt}:mv 0 l=l:=by
 unfold mv;have:(λz:Int×Int=>(z.1+0,z.2))=id:=by funext z;rw[Int.add_zero];rfl
 rw[this,List.map_id]
def UF {b:Int}{l:Pt}{x:Int}:look (mv b l) x=look l (x - b):=by
 induction l with
 | nil=>rfl
 | cons q r ih=>change look ((q.1+b,q.2)::mv b r) x=_;rw[look,look,ih];by_cases e:q.1+b=x;rw[am e,am ∅];rw[ak e,ak ∅]
def zG {n:Int}{l:Pt}{x:Int}:eY (tm n l) x=eY l x*n:=by
 induction l with
 | nil=>simp[tm,eY]
 | cons q r ih=>change eY ((q.1,q.2*n)::tm n r) x=_;rw[eY,eY,ih,Int.add_mul];split<;>simp
def z7 {b n:Int}{l:Pt}:BM b n l=tm n (mv b l):=by unfold BM tm mv;rw[a4];rfl
def MS {l:Pt}:tm 1 l=l:=by
 unfold tm;have:(λz:Int×Int=>(z.1,z.2*1))=id:=by funext z;rw[Int.mul_one];rfl
 rw[this,List.map_id]
theorem F' {p:Int}(hp:0<p){a:Pt}(h:dB p a):oG p a=a:=q_ (fA hp a) h λx=>by rw[sw hp,mG h.2];have:=Ae hp h x;show Int.emod_eq_of_lt this.1 this.2
def lp {p:Int}(hp:0<p)(a:Pt)(x:Int):eY (oG p a) x=eY a x % p:=by rw[mG (fA hp a).2,sw hp]
def zH {b:Int}{l:Pt}{x:Int}:eY (mv b l) x=eY l (x - b):=by
 induction l with
 | nil=>rfl
 | cons q r ih=>change eY ((q.1+b,q.2)::mv b r) x=_;rw[eY,eY,ih];by_cases e:q.1+b=x;rw[am e,am ∅];rw[ak e,ak ∅]
theorem GX {n:Int}{a:Pt}(h:EC a):EC (tm n a):=trivial
def Hh (q:Int×Int):DT (bY q)=some (.tup [.int q.1, .int q.2]):=by simp[bY,DT,lF]
theorem s_: ∀l:Pt,lF (l.map bY)=some (l.map λq=> .tup [.int q.1, .int q.2])
 | []=>rfl
 | q::r=>by rw[aN,lF,Hh,s_ r];rfl
def FK (l:Pt):Dt:= .tup (l.map λq=> .tup [.int q.1, .int q.2])
def Kn (l:Pt):DT (fV l)=some (FK l):=by rw[fV,DT,s_];rfl
theorem sV: ∀l:Pt,jQ (l.map λq=> .tup [.int q.1, .int q.2]) <=1
 | []=>by simp[jQ]
 | q::r=>by rw[aN,jQ];have:=sV r;simp![rj,jQ];lia
def Bb (K:RS):Sp:=λvs H Q _=>cx λ(a:gL) (ns:cV Int)=>cT (vs= [.ref a]) (gT K H a (ns.map V.int)) (∀ (d l:gL) (ms:cV Int) (H':Hp),d≠l ->H' d=some (.lst [.ref l, .int 0, .int 0, .int 11]) ->H' l=some (.lst (ms.map V.int)) ->Q (.ref d) H')
def xt (K:RS):Sp:=λvs H Q _=>cx λ(a:gL) (ns:cV Int)=>cT (vs= [.ref a]) (gT K H a (ns.map V.int)) (∀H',Q (.bl true) H')
def Rv {P:RV}{w:W4}{K:RS}{mg:Str ->fP cW}{base:X4}{x qual z:Str}{st:Stmt}{f:gL}{fd:X6}{N:cV Str}{k:Nat}(F:za K x qual st f fd)(S:cq N [z] (aP st))(hN:2<=N.length) (i_: ∀ (cdv:cW) (A:X7) (outer:cV Env) (s:df) (H:Hp) (E:XK),dX k (A.deeper (PyProof.Rows.envOfC qual (aP st) s.heap.objs.size f cdv)) ->∃ R,wZ (d0 eU P w K mg base N qual (aP st) f cdv A outer s H E).Ia (dt st) (MT (Fc (uF (Bb K) [] E0 (Fa (IW 0) CU)) (kH 1)) R) /\∃w',IS K R w' /\ ∀d l M,Dr M d l ->w' {nx:=λ_ _=>False,rt:=λx _=>x=wb true} (none::some (wr d)::List.replicate (N.length - 2) none) M): bA P w K mg base eU (k+1) f fd [z] (xt K):=by
 exact za.ok F S (λvs H Q E ⟨a,ns,h,_,_⟩=>by rw[h];rfl) λcdv A outer s H vs Q E hr h=> ?_;let⟨R,h1,w',h2,h3⟩:=i_ cdv A outer s H E hr;let⟨a,ns,rfl,hs,hq⟩:=h;exact#[_,h1,?_];let⟨n,hn⟩: ∃n,N.length=n+2:=#[N.length - 2, ∅]
 have e0:L2.start N [V.ref a]=some (V.ref a)::none::List.replicate n none:=by unfold L2.start;rw[hn];rfl
 rw[e0];exact#[_,rfl,a,ns,rfl,hs,λd l ms H' mB hd hl=> ?_];change R _ _ H';exact h2.imp (none::some (wr d)::List.replicate (N.length - 2) none) (um (um (λ_=>none) l (.lst (ms.map wi))) d (.lst [wr l,wi 0,wi 0,wi 11])) _ H' _ _ #[#[?_,λi y e=> ?_],λb o e=> ?_] (h3 d l _ #[ms,0,0,11,aq,by rw[aU (de mB),aq],⋯,mB]) #[λ_ _ _ _ h=>h.elim,λy M' v H2 e _ _ r=> ?_,λ_ _ _ _ h=>h.elim,λ_ _ _ _ h=>h.elim];simp[hn];match i with
 | 0=>simp at e
 | 1=>simp at e;subst e;show#[.ref d,rfl,WR.v]
 | i+2=>simp[c6] at e
 by_cases hb:b=d;subst hb;rw[aq] at e;cases e;show#[_,hd,cM.cons WR.v (cM.cons WR.v (cM.cons WR.v (cM.cons WR.v cM.nil)))];rw[aU hb] at e;by_cases hb':b=l;subst hb';rw[aq] at e;cases e;show#[_,hl,cM.ofInts ms];rw[aU hb'] at e;cases e;subst e;rw[r.eq];show hq H2
abbrev Rd:=Int×Pt
def ge (r:Rd):W:= .tup [wi r.1,fV r.2]
def jn (p:Int)(a b:Rd):Rd:=(a.1+b.1,oG p (a.2++mv a.1 b.2))
def bk (p:Int)(a:Rd):Rd:=(-a.1,oG p (tm (-1) (mv (-a.1) a.2)))
def Jr:fC:=λxs M q=>dQ λ(p:Int) (a b:Rd)=>jX (xs= [wi p,ge a,ge b]) (0<p) (EC (a.2++mv a.1 b.2)) (a.2.length<=40000) (b.2.length<=40000) (q (ge (jn p a b)) M)
def Ri:fC:=λxs M q=>dQ λ(p:Int) (a b:Rd)=>Kz (xs= [wi p,ge a,ge b]) (0<p) (EC (a.2++mv a.1 b.2)) (a.2.length<=40000) (b.2.length<=40000) (∀z∈b.2,0<=z.2 /\ z.2<1000) (q (ge (jn p a b)) M)
def LJ:fC:=λxs M q=>cx λ(p:Int) (a:Rd)=>jX (xs= [wi p,ge a]) (0<p) (EC (mv (-a.1) a.2)) (a.2.length<=40000) (∀z∈a.2,0<=z.2 /\ z.2<1000) (q (ge (bk p a)) M)
def FR:fC:=λxs M q=>cx λ(p:Int) (a:Rd)=>eT (xs= [wi p,ge a]) (dB p a.2) (a.2.length<=100000) (q (wb true) M)
def Hg (r:Rd):DT (ge r)=some (.tup [.int r.1,FK r.2]):=by rw[ge,DT,lF,lF,Kn,lF];rfl
def OG (r:Rd):rj (.tup [.int r.1,FK r.2]) <=50:=by
 simp![rj,jQ];have:rj (FK r.2) <=2:=by unfold FK;rw[rj];have:=sV r.2;lia
 lia
def RC {M:Mp}{q:WK}{a b:Rd}(e:a=b)(h:q (wb false) M):My (ge a) (ge b) M q:=by subst e;show#[_,_, .inl (Hg a), .inl (Hg a),rfl,OG a,by rw[kU];show h]
theorem N2 {p:Int}(hp:0<p)(a b:Rd):dB p (jn p a b).2:=fA hp _
theorem AD {p:Int}(hp:0<p)(a:Rd):dB p (bk p a).2:=fA hp _
def Gr (p:Int)(a b:Rd):(jn p a b).2.length<=a.2.length+b.2.length:=by exact av (im _ _) ?_;rw[aK,oJ];lia
def AE (p:Int)(a:Rd):(bk p a).2.length<=a.2.length:=by exact av (im _ _) ?_;rw[tm,ai,oJ];lia
theorem Nd {a b:Rd}(h1:a.1=b.1)(h2:a.2=b.2):a=b:=Prod.ext h1 h2
def MQ {p:Int}(hp:0<p)(a:Rd)(x:Int):eY (bk p a).2 x=(-eY a.2 (x+a.1)) % p:=by rw[bk,lp hp,zG,zH];congr 1;rw[Int.mul_neg_one,Int.sub_neg]
theorem zU {p:Int}(hp:0<p){a b:Pt}(ha:dB p a)(hb:dB p b)(h: ∀x,eY a x=eY b x):a=b:=q_ ha hb λx=>by rw[<- mG ha.2, <- mG hb.2];show h x
theorem j9 {p:Int}{a:Pt}(h:dB p a)(hp:p<1000): ∀z∈a,0<=z.2 /\ z.2<1000:=λz hz=>by have:=h.1 z hz;lia
inductive ac0 where
 | go (k:Int) | turn (k:Int)
def adp (s:Int×Pt):ac0 ->Int×Pt
 | .go k=>(s.1+k,s.2)
 | .turn k=>(s.1,s.2++ [(s.1,k)])
end WQ
namespace WL
open PySem PySem.Spec PyProof.Rows L2
def Tn (ns:cV Int)(m:Int):Prop:=m∈ns /\ ∀x∈ns,x<=m
def Tl (ns:cV Int)(m:Int):Prop:=m∈ns /\ ∀x∈ns,m<=x
end WL
namespace WQ
open PySem L2 WL WP
def prc (p s:Int):Int:=if p - s<s then p - s else s
def Lp (a:Rd):cV Int:=0::a.1::a.2.map (·.1)
def Tb (i:Int):Int:=if i<0 then -i else i
def fwv (p:Int)(a:Rd)(lo hi:Int):Int:=2*(hi - lo) - Tb a.1+(a.2.map λz=>prc p z.2).sum
def GN (e n x:Int):Bool:=decide (x.fmod e=0) && (decide (0<=x.fdiv e) && decide (x.fdiv e<n))
def j8 (e n x:Int):Pt ->Int
 | []=>0
 | z::r=>(if GN e n (x - z.1) then z.2 else 0)+j8 e n x r
def rg {e n x:Int}(he:e≠0):GN e n x=true↔ ∃k,0<=k /\ k<n /\ x=k*e:=by have hd:=Int.mul_fdiv_add_fmod x e;unfold GN;simp![cI,dc];symm;rintro⟨h1,h2,h3⟩;show#[x.fdiv e,h2,h3,by rw[Int.mul_comm, <- hd,h1];simp[Int.mul_fdiv_cancel_left _ he]];rintro⟨k,h1,h2,rfl⟩;have:(k*e).fdiv e=k:=Int.mul_fdiv_cancel _ he;rw[this];show#[Int.mul_fmod_left _ _,h1,h2]
def GL {e x:Int}(he:e≠0):GN e 0 x=false:=by
 cases h:GN e 0 x with
 | false=>rfl
 | true=>let⟨k,h1,h2,_⟩:=(rg he).mp h;lia
def yo {e n x:Int}(he:e≠0)(hn:0<=n):(GN e (n+1) x=true)↔(GN e n x=true \/ x=n*e):=by rw[rg he,rg he];symm;rintro⟨k,h1,h2,h3⟩;obtain h | h:=Int.lt_or_le k n;show .inl #[k,h1,h,h3];have:k=n:= ∅;subst this;show .inr h3;rintro(⟨k,h1,h2,h3⟩ | h);show#[k,h1, ∅,h3];show#[n,hn, ∅,h]
def J8 {e n:Int}(he:e≠0):GN e n (n*e)=false:=by
 cases h:GN e n (n*e) with
 | false=>rfl
 | true=>let⟨k,h1,h2,h3⟩:=(rg he).mp h;have:k=n:=Int.eq_of_mul_eq_mul_right he h3.symm;lia
def xr {e n x:Int}(he:e≠0)(hn:0<=n)(l:Pt):j8 e (n+1) x l=j8 e n x l+eY l (x - n*e):=by
 induction l with
 | nil=>rfl
 | cons z r ih=>
  rw[j8,j8,eY,ih];by_cases h:z.1=x - n*e;have e1:x - z.1=n*e:= ∅;rw[am h,e1,am ((yo he hn).mpr (.inr rfl)),J8 he];simp;lia;rw [ak h];have:GN e (n+1) (x - z.1)=GN e n (x - z.1):=by apply Bool.eq_iff_iff.mpr;rw[yo he hn];symm;rintro(h' | h');show h';show absurd h' ∅;show .inl
  rw[this];lia
def xq {e x:Int}(he:e≠0)(l:Pt):j8 e 0 x l=0:=by
 induction l with
 | nil=>rfl
 | cons z r ih=>rw[j8,ih,GL he];simp
def mX (b:Rd):Nat ->Pt
 | 0=> []
 | n+1=>mX b n++mv ((n:Int)*b.1) b.2
theorem EZ {b:Rd}(he:b.1≠0)(x:Int): ∀n:Nat,eY (mX b n) x=j8 b.1 n x b.2
 | 0=>by rw[mX,Int.ofNat_zero,xq he];rfl
 | n+1=>by rw[mX,fL,EZ he x n,zH];have:=xr (n:=(n:Int)) (x:=x) he ∅ b.2;rw[Int.natCast_add,Int.ofNat_one,this]
theorem mW (b:Rd): ∀n:Nat,(mX b n).length=n*b.2.length
 | 0=>by simp[mX]
 | n+1=>by rw[mX,aK,mW b n,oJ,Nat.succ_mul]
end WQ
namespace WL
open PySem PySem.Spec PyProof.Rows L2
section
variable {X:Cx}
def Q8 (K:RS):cV V ->Hp ->VK ->Prop:=λxs H Q=>cx λ(l:gL) (bs:cV Bool)=>cT (xs= [.ref l]) (gT K H l (bs.map V.bl)) (Q (.bl (bs.all id)) H)
def Q7 (K:RS):cV V ->Hp ->VK ->Prop:=λxs H Q=>cx λ(l:gL) (bs:cV Bool)=>cT (xs= [.ref l]) (gT K H l (bs.map V.bl)) (Q (.bl (bs.any id)) H)
def Gy {bJ:cV cW}{bs:cV Bool}(rv:b_ (bs.map V.bl) bJ){i:Nat}{v:cW}(e:bJ.toArray[i]? =some v):v= .bool (bs.getD i false) /\ i<bs.length:=by
 have e':bJ[i]? =some v:= ⇑e;have d3:=rv.length;have hi:i<bs.length:=by have:=(bi.mp e').1;rw[ai] at d3;lia
 let⟨w',hw,vN⟩:=rv.get (i:=i) (x:= .bl bs[i]) (by rw[aH,aG hi];rfl);rw[e'] at hw;cases hw;cases vN;show#[by simp[List.getD,hi],hi]
def C6 (bs:cV Bool):(List.range bs.length).all (λi=>bs.getD i false)=bs.all id:=by apply Bool.eq_iff_iff.mpr;rw[List.all_eq_true,List.all_eq_true];symm;intro h x hx;let⟨i,hi,rfl⟩:=List.mem_iff_getElem.mp hx;have:=h i (List.mem_range.mpr hi);simpa [List.getD,hi] using this;intro h i hi;rw[List.mem_range] at hi;have:=h bs[i] (List.getElem_mem hi);simpa [List.getD,hi] using this
def C5 (bs:cV Bool):(List.range bs.length).any (λi=>bs.getD i false)=bs.any id:=by apply Bool.eq_iff_iff.mpr;rw[List.any_eq_true,List.any_eq_true];symm;rintro⟨i,hi,h⟩;rw[List.mem_range] at hi;show#[bs[i],List.getElem_mem hi,by simpa [List.getD,hi] using h];rintro⟨x,hx,h⟩;let⟨i,hi,rfl⟩:=List.mem_iff_getElem.mp hx;show#[i,List.mem_range.mpr hi,by simpa [List.getD,hi] using h]
def gx (hc:X.calm=true):fi X (.builtin "all") (Q8 X.K):=by
 intro af s σ H xs us Q I r h;let⟨l,bs,rfl,hs,q⟩:=h;let⟨u,rfl,ru⟩:=vals1 r;cases ru;let⟨bJ,rv,ht,hz⟩:=I.list hs;have hh:X.A.in1.handled=none:=I.ok.hd hc;have d3:bJ.toArray.size=bs.length:=by have:=rv.length;rw[ai] at this;simpa using this.symm
 have lD:l<s.heap.objs.size:=by let⟨_,e,_⟩:=ht.isList;show aO e
 exact PySem.call_all_walkS (wpAny_pyIter_list ht.isList ?_);exact#[s.heap.objs.size,_,_,_,bJ.toArray.size,_,_,λi=>bs.getD i false,rfl,(Walks.list hh s.heap.objs.size l (bu lD) bJ.toArray).toS,#[#[_,aT _ rfl,rfl,rfl],ht.isList.push _],λi v s' Q' E' e hq=> ?_,λs' hm=> ?_];let⟨rfl,_⟩:=Gy rv e;show cD hq;have hk: ∀b o,s.heap.get? b=some o ->s'.heap.get? b=some o:=λb o e=>hm.heap b o (λhI=>absurd (aO e) (by rw[a_.mp hI];show Nat.lt_irrefl _)) (ar _ e);rw[Moved.eq_with hm,d3,C6];show#[.bl _,H,I.kept (t':=s'.toks) hk,rfl,q]
def vn (hc:X.calm=true):fi X (.builtin "any") (Q7 X.K):=by
 intro af s σ H xs us Q I r h;let⟨l,bs,rfl,hs,q⟩:=h;let⟨u,rfl,ru⟩:=vals1 r;cases ru;let⟨bJ,rv,ht,hz⟩:=I.list hs;have hh:X.A.in1.handled=none:=I.ok.hd hc;have d3:bJ.toArray.size=bs.length:=by have:=rv.length;rw[ai] at this;simpa using this.symm
 have lD:l<s.heap.objs.size:=by let⟨_,e,_⟩:=ht.isList;show aO e
 exact PySem.call_any_walkS (wpAny_pyIter_list ht.isList ?_);exact#[s.heap.objs.size,_,_,_,bJ.toArray.size,_,_,λi=>bs.getD i false,rfl,(Walks.list hh s.heap.objs.size l (bu lD) bJ.toArray).toS,#[#[_,aT _ rfl,rfl,rfl],ht.isList.push _],λi v s' Q' E' e hq=> ?_,λs' hm=> ?_];let⟨rfl,_⟩:=Gy rv e;show cD hq;have hk: ∀b o,s.heap.get? b=some o ->s'.heap.get? b=some o:=λb o e=>hm.heap b o (λhI=>absurd (aO e) (by rw[a_.mp hI];show Nat.lt_irrefl _)) (ar _ e);rw[Moved.eq_with hm,d3,C5];show#[.bl _,H,I.kept (t':=s'.toks) hk,rfl,q]
variable {K:RS}
theorem cM.bools {H:Hp}: ∀ {bs:cV Bool} {vs:cV V},cM K H (bs.map wb) vs ->vs=bs.map V.bl
 | [],vs,h=>by simpa only[List.map_nil,cM] using h
 | n::r,vs,h=>by simp![aN,cM] at h;let⟨v,t,rfl,h1,h2⟩:=h;rw[cM.bools h2,h1.eq];rfl
def VO:AF:=λxs M q=>cx λ(a:gL) (bs:cV Bool)=>cT (xs= [wr a]) (M a=some (.lst (bs.map wb))) (q (wb (bs.all id)) M)
def VM:AF:=λxs M q=>cx λ(a:gL) (bs:cV Bool)=>cT (xs= [wr a]) (M a=some (.lst (bs.map wb))) (q (wb (bs.any id)) M)
instance:IC K (Q8 K) VO where
 imp:=by rintro xs v M H q Q m r1 ⟨a,ns,rfl,hl,h⟩ k;let⟨v,rfl,r⟩:=r1.one;cases r.eq;let⟨vs,hv,rr⟩:=m a _ hl;cases rr.bools;show#[a,ns,rfl,gT.of hv,k _ M _ H h (aY.refl H) m WR.v]
instance:IC K (Q7 K) VM where
 imp:=by rintro xs v M H q Q m r1 ⟨a,ns,rfl,hl,h⟩ k;let⟨v,rfl,r⟩:=r1.one;cases r.eq;let⟨vs,hv,rr⟩:=m a _ hl;cases rr.bools;show#[a,ns,rfl,gT.of hv,k _ M _ H h (aY.refl H) m WR.v]
end
end WL
namespace WL
open PySem L2
def OJ {xs:cV W}{keep:Mp ->Prop}{M1:Mp}{own:Nat}{fr:cV Nat}{ρ:c8}{g:WG}{c:WT}{el:WE}{q:WK}(hz:xs.length<=sizeLine) (h: ∀p,M1 p=none -> ∃I:Nat ->cV W ->Mp ->Prop,eT (I 0 [] (um M1 p (.lst []))) (∀i ys M,i<=xs.length ->I i ys M ->keep M /\ M p=some (.lst ys) /\ ys.length<=i) (∀i x ys M,xs[i]? =some x ->I i ys M -> ∀N:cV W ->Mp ->Prop,(∀ys M,I (i+1) ys M ->N ys M) ->g x (nS own fr ρ) M λρ2 M2=>c ρ2 M2 λb M3=>i8 b (el ρ2 M3 λy M4=>M4 p=some (.lst ys) /\ N (ys++ [y]) (um M4 p (.lst (ys++ [y])))) (N ys M3)) (∀ys M,I xs.length ys M ->q (wr p) M)):yS xs keep own fr g c el ρ M1 q:=by exact#[hz,λp hp=> ?_];let⟨I,h0,h1,h2,h3⟩:=h p hp;show#[I,h0,h1,λi x ys M hx hI=>h2 i x ys M hx hI _ λ_ _ z=>z,h3]
end WL
namespace WQ
open PySem L2 WL WP
def Mt (p:Int)(l:cV Int):Prop:=(∀x∈l,0<=x /\ x<p) /\ ∀x,l.getLast? =some x ->x≠0
def ON (row:cV Int)(k:Nat)(x:Int):cV Int:=row.set k (row.getD k 0+x)
def lB (row:cV Int)(o:Nat)(l:cV Int)(n:Nat):cV Int:=(List.range n).foldl (λr i=>ON r (o+i) (l.getD i 0)) row
def pw (p s:Int):Nat ->Int
 | 0=>1
 | n+1=>pw p s n*s % p
end WQ
namespace L2
open PySem PySem.Spec PyProof.Rows
def za.okE {P:RV}{w:W4}{K:RS}{mg:Str ->fP cW}{base:X4}{CX:zl}{x qual:Str}{st:Stmt}{f:gL}{fd:X6}{N ps:cV Str}{k:Nat}{sp:Sp}(F:za K x qual st f fd)(S:cq N ps (aP st))(len: ∀vs H Q E,sp vs H Q E ->vs.length=ps.length) (i_: ∀ (cdv:cW) (A:X7) (outer:cV Env) (s:df) (H:Hp) (vs:cV V) (Q:VK) (E:XK),dX k (A.deeper (envOfC qual (aP st) s.heap.objs.size f cdv)) ->sp vs H Q E ->∃t,wZ (d0 CX P w K mg base N qual (aP st) f cdv A outer s H E) (dt st) t /\ t {nx:=λ_ H'=>Q .dO H',rt:=Q} (start N vs) H):bA P w K mg base CX (k+1) f fd ps sp:=by let⟨oc,od,kV,iH,pm,an,cdv,ct,zX,rfl,lk,Cd⟩:=F.ex;show Me lk Cd S len λA outer s H vs Q E hr zu=>i_ cdv A outer s H vs Q E hr zu
end L2
namespace WL
open PySem L2 PySem.Spec PyProof.Rows
abbrev WX:=gL ->Mp ->Prop
abbrev gh:=cV W ->Mp ->WK ->WX ->Prop
section
variable {K:RS}
def up (e:WX):WX:=λC M'=> ∃M0,Sm M0 M' /\ e C M0
def Ex (K:RS)(e:WX):XK:=λcls _ H'=> ∃C M',cls= .ref C /\ e C M' /\ fK K M' H'
def qq (K:RS)(p:gh):Sp:=λvs H Q E=> ∃ (xs:cV W) (M:Mp) (q:WK) (e:WX),cM K H xs vs /\ fK K M H /\ p xs M q e /\ (∀x M' v H',q x M' ->aY H H' ->fK K M' H' ->WR K H' x v ->Q v H') /\ ∀C M' H',e C M' ->fK K M' H' ->E (.ref C) none H'
def EU (p:gh)(e:WX)(a:WA):WE:=λρ M q=>a ρ M λxs M1=>p xs M1 q (up e)
instance {p:gh}{e:WX}{t:TA}{a:WA} [ia:IA K t a]:IE K (uF (qq K p) [] (Ex K e) t) (EU p e a) where
 imp:=λρ M σ H q Q o h k=>ia.imp ρ M σ H _ _ o h λx M1 v H1 h1 t1 m1 r1=>#[x,M1,q,_,by rw[dn];show r1,m1,h1,λy M4 v4 H4 h4 t4 m4 r4=>k y M4 v4 H4 h4 (t1.trans t4) m4 r4,λC M' H' ⟨M0,s,h⟩ m=>#[C,M0,rfl,h,m.sub s]]
def EK (C:gL)(e:WX)(a:WA):WS:=λ_ ρ M=>a ρ M λxs M'=>xs.length<=sizeLine /\ up e C M'
instance {C:gL}{e:WX}{t:TA}{a:WA} [ia:IA K t a]:IS K (zI C (Ex K e) t) (EK C e a) where
 imp:=λρ M σ H D' D o h OE=>ia.imp ρ M σ H _ _ o h λx M1 v H1 ⟨hl,M0,s,h1⟩ t1 m1 r1=>#[by rw[r1.length];show hl,C,M0,rfl,h1,m1.sub s]
def zo {P:RV}{w:W4}{mg:Str ->fP cW}{base:X4}{x qual:Str}{st:Stmt}{f:gL}{fd:X6}{N ps:cV Str}{k:Nat}{p:gh}(F:za K x qual st f fd)(S:cq N ps (aP st))(len: ∀vs M q e,p vs M q e ->vs.length=ps.length) (i_: ∀ (cdv:cW) (A:X7) (outer:cV Env) (s:df) (H:Hp) (E:XK) (e:WX),dX k (A.deeper (envOfC qual (aP st) s.heap.objs.size f cdv)) ->CM (d0 (gX P w) P w K mg base N qual (aP st) f cdv A outer s H E) (Ex K e) ->gi (gX P w) (d0 (gX P w) P w K mg base N qual (aP st) f cdv A outer s H E) (Ex K e) ->∃ t,wZ (d0 (gX P w) P w K mg base N qual (aP st) f cdv A outer s H E) (dt st) t /\ ∃w',IS K t w' /\∀vs M q,p vs M q e ->w' {nx:=λ_ M'=> ∃M0,Sm M0 M' /\ q wn M0,rt:=λx M'=> ∃M0,Sm M0 M' /\ q x M0} (vs.map some++List.replicate (N.length - vs.length) none) M): bA P w K mg base (gX P w) (k+1) f fd ps (qq K p):=by
 exact za.okE F S (λvs H Q E ⟨xs,M,q,e,r,m,h,_⟩=>by rw[r.length];show len xs M q e h) λcdv A outer s H vs Q E hr h=> ?_;let⟨xs,M,q,e,r,m,h,k',kE⟩:=h;have hE: ∀c d H',Ex K e c d H' ->E c none H':=λc d H' ⟨C,M',ec,he,m'⟩=>by rw[ec];show kE C M' H' he m'
 let⟨t,h1,w',h2,h3⟩:=i_ cdv A outer s H E e hr (λaf σ H1 s1 h' ea cls us I mk z=>GW af σ H1 s1 h' ea cls us I mk (hE _ _ _ z)) (λaf σ H1 s1 ev s2 I z=>zV af σ H1 s1 ev s2 I (by let⟨ea,cls,a0,B,H',r1,r2,r3,r4,r5,r6,r7,r8,r9,r⟩:=z;show#[ea,cls,a0,B,H',r1,r2,r3,r4,r5,r6,r7,r8,r9,hE _ _ _ r]));exact#[t,h1,h2.imp _ M _ H _ _ #[#[?_,λi x e=> ?_],m] (h3 xs M q h) #[?_,?_,λ_ _ _ _ h=>h.elim,λ_ _ _ _ h=>h.elim]];have:=r.length;simp[L2.start,this];have hl:=r.length;unfold L2.start;by_cases hi:i<xs.length;rw[a7 ⇑hi,aH] at e;cases ex:xs[i]? with
 | none=>rw[ex] at e;cases e
 | some y=>rw[ex] at e;cases e;let⟨v,hv,rv⟩:=r.at ex;exact#[v,?_,rv];rw[a7 (by simp;lia),aH,hv];rfl
 rw[aZ ⇑hi,c6] at e;split at e<;>cases e;rintro ρ' M' σ' H' ⟨M0,s,hq⟩ ts o;show k' _ M0 _ H' hq ts (o.hp.sub s) WR.v;rintro x M' v H' ⟨M0,s,hq⟩ ts m' r';show k' x M0 v H' hq ts (m'.sub s) r'
end
end WL
namespace L2
open PySem PySem.Spec PyProof.Rows PySem.Calls
section
variable {X:Cx}
theorem Jv {P:RV}{w:W4}{K:RS}{mg:Str ->fP cW}{base:X4}{N:cV Str}{qual:Str}{scope:Scope}{f:gL}{cd:cW}{A:X7}{outer:cV Env}{s:df}{H:Hp}{E:XK}: PassesOwn (model P w) (d0 (gX P w) P w K mg base N qual scope f cd A outer s H E).A (d0 (gX P w) P w K mg base N qual scope f cd A outer s H E).env (d0 (gX P w) P w K mg base N qual scope f cd A outer s H E).xe:=PassesOwn.leaving (Q₁:=λe s2=>gX P w outer H s E e s2)
def QF (te:TE):TE:=λσ H Q=>te σ H λv H1=> ∃y,cT (v= .str y) (y.length<=sizeLine) (Q (.str y) H1)
def iF {e:Expr}{te:TE}{pos:Pos}(he:PE X e te):PE X (.FormattedValue e (-1) none pos) (QF te):=by
 intro af s σ H Q I h;exact FormattedValue_plain (cN (he af s σ H _ I h) ?_);rintro v s1 ⟨x,H1,I1,r,y,rfl,hy,q⟩;let⟨t,rfl⟩:=(show ∃t,v=Value.str y t from r)
 show formatField_str (λt' tk=>#[.str y,H1,I1.tok tk,#[t',rfl],q]) hy
def QG (te:TE):TE:=λσ H Q=>te σ H λv H1=> ∃i:Int,cT (v= .int i) (i.natAbs.log2<1920) (Q (.str (toString i)) H1)
def zS {e:Expr}{te:TE}{pos:Pos}(he:PE X e te):PE X (.FormattedValue e (-1) none pos) (QG te):=by
 intro af s σ H Q I h;exact FormattedValue_plain (cN (he af s σ H _ I h) ?_);rintro v s1 ⟨x,H1,I1,r,i,rfl,hi,q⟩;let⟨t,rfl⟩:=(show ∃t,v=Value.int i t from r)
 show formatField_int_small hi #[.str _,H1,I1.tok _,#[_,rfl],q]
def tJ0 (out:Str):TE:=λ_ H Q=>out.length<=sizeLine /\ Q (.str out) H
def tJ1 (te:TE)(k:Str ->TE)(out:Str):TE:=λσ H Q=>te σ H λv H1=> ∃y,cT (v= .str y) ((out++y).length<=sizeLine) (k (out++y) σ H1 Q)
def PJ (X:Cx)(es:cV Expr)(k:Str ->TE):Prop:= ∀ (out:Str) (af:cV (gL×Obj)) (s:df) (σ:St) (H:Hp) (Q:VK),Inv X af σ H s ->k out σ H Q ->wpAny (model X.prog X.w) X.A (joinParts out (evalEach es X.env)) (EP X af σ Q) X.xe s
theorem gI:PJ X [] tJ0:=λout af s σ H Q I ⟨hz,q⟩=>joinParts_nil #[.str out,H,I.tok _,#[_,rfl],q] hz
def cB {e:Expr}{es:cV Expr}{te:TE}{k:Str ->TE}(he:PE X e te)(hk:PJ X es k)(hs:evalEach (e::es) X.env=eval e X.env::evalEach es X.env:=by rfl):PJ X (e::es) (tJ1 te k):=by
 intro out af s σ H Q I h;rw[hs];exact joinParts_cons (cN (he af s σ H _ I h) ?_);rintro v s1 ⟨x,H1,I1,r,y,rfl,hz,q⟩;let⟨t,rfl⟩:=(show ∃t,v=Value.str y t from r)
 show#[hz,hk _ af s1 σ H1 Q I1 q]
theorem fw {e e':Expr}{es:cV Expr}{k:Str ->TE}{pos:Pos}(h:PJ X (e::e'::es) k):PE X (.JoinedStr (e::e'::es) pos) (k Str.empty):=λaf s σ H Q I hq=>JoinedStr_many (h Str.empty af s σ H Q I hq)
end
end L2
namespace WL
open PySem L2 PySem.Spec PyProof.Rows
section
variable {K:RS}
def MA (a:WE):WE:=λρ M q=>a ρ M λx M1=> ∃y,cT (x=ws y) (y.length<=sizeLine) (q (ws y) M1)
instance {t:TE}{a:WE} [ia:IE K t a]:IE K (QF t) (MA a) where
 imp:=λρ M σ H q Q o h k=>ia.imp ρ M σ H _ _ o h λx M1 v H1 ⟨y,e,hz,h1⟩ t1 m1 r1=>by subst e;show#[y,r1.eq,hz,k _ M1 _ H1 h1 t1 m1 WR.v]
def MB (a:WE):WE:=λρ M q=>a ρ M λx M1=> ∃i:Int,cT (x=wi i) (i.natAbs.log2<1920) (q (ws (toString i)) M1)
instance {t:TE}{a:WE} [ia:IE K t a]:IE K (QG t) (MB a) where
 imp:=λρ M σ H q Q o h k=>ia.imp ρ M σ H _ _ o h λx M1 v H1 ⟨y,e,hz,h1⟩ t1 m1 r1=>by subst e;show#[y,r1.eq,hz,k _ M1 _ H1 h1 t1 m1 WR.v]
def wJ0 (out:Str):WE:=λ_ M q=>out.length<=sizeLine /\ q (ws out) M
instance {out:Str}:IE K (tJ0 out) (wJ0 out) where
 imp:=λρ M σ H q Q o ⟨hz,h⟩ k=>#[hz,k _ M _ H h (aY.refl H) o.hp WR.v]
def Vw (a:WE)(f:Str ->WE)(out:Str):WE:=λρ M q=>a ρ M λx M1=> ∃y,cT (x=ws y) ((out++y).length<=sizeLine) (f (out++y) ρ M1 q)
instance {t:TE}{a:WE}{f:Str ->TE}{g:Str ->WE}{out:Str} [ia:IE K t a] [ig: ∀o,IE K (f o) (g o)]:IE K (tJ1 t f out) (Vw a g out) where
 imp:=λρ M σ H q Q o h k=>ia.imp ρ M σ H _ _ o h λx M1 v H1 ⟨y,e,hz,h1⟩ t1 m1 r1=>by subst e;show#[y,r1.eq,hz,(ig _).imp ρ M1 σ H1 q Q (o.mv t1 m1) h1 λx2 M2 v2 H2 q2 t2 m2 r2=>k x2 M2 v2 H2 q2 (t1.trans t2) m2 r2]
end
end WL
namespace L2
open PySem PySem.Spec PyProof.Rows PySem.Calls PySem.W
def BF {K:RS}{mg:Str ->fP cW}{h₀:X4}{x:Str}{C:gL}{bmB:cV cW}{LM:String}(m:Mod K mg h₀)(e:nsIn K mainGlobals x=some (some (.ref C)))(q:excIn K C bmB LM=true):OwnCls x C bmB LM mg h₀:=by
 have X:=m.LY;exact#[mg_of X m.glob e,?_];unfold excIn at q;split at q;rename_i dd cd sl ho;split at q;rename_i C' bm k0 k1 k2 k3 n k5 hm hs;simp![cI,beq_iff_eq,Bool.not_eq_true'] at q;let⟨⟨⟨⟨⟨rfl,rfl⟩,Sq⟩,ht⟩,cS⟩,DF⟩:=q;let⟨nm,bs,mro,ns,qn,hd,sn,sub,ab,col,del⟩:=cd;dsimp only at hm Sq cS DF;subst hm Sq;have hsl:sl= (List.toArray [k0,k1,k2,k3,some (.builtin n),k5]):=by let⟨l⟩:=sl;simp only at hs;rw[hs]
 subst hsl;show#[bm,ns,nm,qn,bs,hd,sn,sub,ab,col,dd,k0,k1,k2,k3,k5,_,X _ _ ho, .of_isNs (isNs_of_in X cS),nsMap_none_of_in X cS DF,tail_of_in X ht];cases q;cases q
structure nW (K:PySem.W.Frag)(x:Str)(C:Addr):Prop where
 ns:nsIn K mainGlobals x=some (some (.ref C))
 exc:excIn K C SX "ValueError.__new__" =true
 k:Tr K C
section
variable {X:Cx}
theorem dI {E:XK}{x:Str}{C:gL}{np dy pos:Pos}{e₀:Expr}{cU:cV Expr}{t:TA}(hF:CM X E)(hc:X.calm=true)(hg:Gl X x)(O:nW X.K x C)(ha:PA X (e₀::cU) t) (uW:(x==("__debug__" :Str))=false:=by decide) (he:starEach (e₀::cU) X.env=(false,eval e₀ X.env)::starEach cU X.env:=by rfl) (n_:(backTo dy (starEach cU X.env)).any (·.1)=false:=by rfl): PS X (.Raise (some (.Call (.Name x np) (e₀::cU) [] dy)) none pos) (zI C E t):=λaf s σ H D I h=>FD hF hc hg (BF I.ok.mod O.ns O.exc) ha uW he n_ af s σ H D I h
end
end L2
namespace WQ
open PySem L2 WL WP
def fo (d:Str×Int):W:= .tup [ws d.1,wi d.2]
def sstep (s:Int×Pt)(d:Str×Int):Int×Pt:=if d.1= "go" then(s.1+d.2,s.2) else(s.1,s.2++ [(s.1,d.2)])
def d9 (ds:cV (Str×Int)):Int×Pt:=ds.foldl sstep (0,[])
def iO (ds:cV (Str×Int))(d:Str×Int):d9 (ds++ [d])=sstep (d9 ds) d:=by unfold d9;rw[List.foldl_append];rfl
def iP (ds:cV (Str×Int)):(d9 ds).2.length<=ds.length:=by
 induction ds using lx with
 | h0=>simp[d9]
 | h1 l a ih=>rw[iO,aK];unfold sstep;split<;>simp<;>lia
def Mh {l:cV (Str×Int)}{i:Nat}{x:W}(h:(l.map fo)[i]? =some x): ∃q,l[i]? =some q /\ x=fo q:=by
 rw[aH] at h;cases e:l[i]? with
 | none=>rw[e] at h;cases h
 | some q=>rw[e] at h;cases h;show#[q,rfl,rfl]
def Good (d:Str×Int):Prop:=d.1= "go" \/ d.1= "turn"
def Nx (C:gL):gh:=λxs M q e=>dQ λ(a:gL) (p:Int) (ds:cV (Str×Int))=>zy (xs= [wi p,wr a]) (M a=some (.lst (ds.map fo))) (0<p) (EC (d9 ds).2) (ds.length<=50000) (∀d∈ds,d.1.length<=100) ((∀d∈ds,Good d) ->q (ge ((d9 ds).1,oG p (d9 ds).2)) M) ((∃d∈ds,¬Good d) ->e C M)
def Nq:fC:=λxs M q=>dQ λ(a:gL) (p:Int) (ds:cV (Str×Int))=>jX (xs= [wi p,wr a]) (M a=some (.lst (ds.map fo))) (0<p) (EC (d9 ds).2) (ds.length<=50000) (q (ge ((d9 ds).1,oG p (d9 ds).2)) M)
end WQ
namespace WL
open PySem L2
theorem oI {M:Mp}{q:WK}{x y:W}{d:Dt}(hx:DR M x d)(hy:DR M y d)(hd:rj d<=50)(hs:qW d d=true)(h:q (wb false) M):My x y M q:=#[d,d,hx,hy,hs,hd,by rw[kU];show h]
def Ko {α:Type}(f:α ->W)(g:α ->Dt):Prop:= ∀a,DT (f a)=some (g a)
theorem yO {α:Type}{f:α ->W}{g:α ->Dt}(h:Ko f g): ∀l:cV α,lF (l.map f)=some (l.map g)
 | []=>rfl
 | a::l=>by rw[aN,lF,h a,yO h l];rfl
theorem yF {α:Type}{g:α ->Dt}{n:Nat}(h: ∀a,rj (g a) <=n): ∀l:cV α,jQ (l.map g) <=n
 | []=>by simp[jQ]
 | a::l=>by rw[aN,jQ];have:=h a;have:=yF h l;lia
theorem DR.list {α:Type}{M:Mp}{a:gL}{f:α ->W}{g:α ->Dt}{l:cV α}(h:Ko f g)(ha:M a=some (.lst (l.map f))):DR M (wr a) (.lst (l.map g)):= .inr #[a,_,_,rfl,ha,yO h l,rfl]
end WL
namespace WQ
open PySem L2 WL WP
theorem Hi:Ko fo (λd=> .tup [.str d.1, .int d.2]):=λd=>rfl
def OH (l:cV (Str×Int)):rj (.lst (l.map λd=> .tup [.str d.1, .int d.2])) <=50:=by rw[rj];have:=yF (n:=1) (g:=λd:Str×Int=>Dt.tup [.str d.1, .int d.2]) (λa=>by simp[rj,jQ]) l;lia
end WQ
namespace WL
open PySem L2
theorem S8 {α:Type}{a b c d e:α}{l:cV α}:hU (a::b::c::d::e::l) 4=some e:=e_ (j:=4) (by rfl)
theorem S6 {α:Type}{a b c d e f:α}{l:cV α}:hU (a::b::c::d::e::f::l) 5=some f:=e_ (j:=5) (by rfl)
theorem S3 {α:Type}{a b c d e f g:α}{l:cV α}:hU (a::b::c::d::e::f::g::l) 6=some g:=e_ (j:=6) (by rfl)
theorem S2 {α:Type}{a b c d e f g h:α}{l:cV α}:hU (a::b::c::d::e::f::g::h::l) 7=some h:=e_ (j:=7) (by rfl)
theorem S1 {α:Type}{a b c d e f g h i:α}{l:cV α}:hU (a::b::c::d::e::f::g::h::i::l) 8=some i:=e_ (j:=8) (by rfl)
theorem S0 {α:Type}:(∀ (a b c d e:α) (l:cV α),hU (a::b::c::d::e::l) 4=some e) /\ (∀ (a b c d e f:α) (l:cV α),hU (a::b::c::d::e::f::l) 5=some f) /\ (∀ (a b c d e f g:α) (l:cV α),hU (a::b::c::d::e::f::g::l) 6=some g) /\ (∀ (a b c d e f g h:α) (l:cV α),hU (a::b::c::d::e::f::g::h::l) 7=some h) /\ (∀ (a b c d e f g h i:α) (l:cV α),hU (a::b::c::d::e::f::g::h::i::l) 8=some i):=#[λ_ _ _ _ _ _=>S8,λ_ _ _ _ _ _ _=>S6,λ_ _ _ _ _ _ _ _=>S3,λ_ _ _ _ _ _ _ _ _=>S2,λ_ _ _ _ _ _ _ _ _ _=>S1]
end WL
namespace L2
open PySem PySem.Spec PyProof.Rows
def Keeps (S:Nat ->Prop)(g:TG):Prop:= ∀ (σ:St) (v:V) (H:Hp) (Q:St ->Hp ->Prop),g v σ H Q ->g v σ H λσ2 H2=>(σ2.length=σ.length /\ ∀i,¬S i ->σ2[i]? =σ[i]?) /\ Q σ2 H2
def yf {S:Nat ->Prop}{n:Nat}(h:S n):Keeps S (kH n):=by intro σ v H Q q;exact#[#[by simp,λi hi=> ?_],q];rw[List.getElem?_set_ne];intro e;subst e;show hi h
def BZ {K:RS}{S:Nat ->Prop}{n m:Nat}(h:S n)(h':S m):Keeps S (Ke K 2 (u4 (kH n) (u4 (kH m) Kf))):=by rintro σ v H Q ⟨a,xs,e,hs,hl,x,r,rfl,y,r',rfl,rfl,q⟩;exact#[a,_,e,hs,hl,x,_,rfl,y,_,rfl,rfl,#[by simp,λi hi=> ?_],q];rw[List.getElem?_set_ne,List.getElem?_set_ne];intro e;subst e;show hi h;intro e;subst e;show hi h'
def CI {own:Nat}{fr:cV Nat}{σ:St}{i:Nat}{v:V}(h:(jR own fr σ)[i]? =some (some v)):own<=i:=by unfold jR at h;obtain c | c:=Nat.lt_or_ge i own;rw[a7 ⇑c,c6,am c] at h;cases h;show c
def inW (EG:TI)(g2:TG)(A7:TT)(te:TE)(σ2:St)(p:gL)(H4:Hp)(N:cV V ->Hp ->Prop):Prop:=EG σ2 H4 λJ2 H5=> ∃Z:Nat ->Nat ->cV V ->Hp ->Prop,(∃m zs,Z 0 m zs H5) /\ ∀j k zs H6,Z j k zs H6 ->H6 p=some (.lst zs) /\((J2.stop j H6 /\ N zs H6) \/ (J2.go j H6 /\ zs.length<sizeLine /\ ∀y H7,J2.OX j H6 y H7 ->g2 y σ2 H7 λσ3 H8=>A7 σ3 H8 λc H9=>if c=true then te σ3 H9 λz Pz=> ∃ws,Pz p=some (.lst ws) /\ ws.length<sizeLine /\ ∃k',k'<k /\ Z (j+1) k' (ws++ [z]) (cF Pz p (.lst (ws++ [z]))) else ∃ws k',k'<k /\ Z (j+1) k' ws H9))
def Hj (J:It)(own:Nat)(fr:cV Nat)(g:TG)(tc:TT)(EG:TI)(g2:TG)(A7:TT)(te:TE)(σ:St)(p:gL)(H1:Hp)(Q:VK):Prop:=∃ W :Nat ->Nat ->cV V ->Hp ->Prop,(∃m,W 0 m [] (cF H1 p (.lst []))) /\ ∀i m ys H',W i m ys H' ->H' p=some (.lst ys) /\((J.stop i H' /\ Q (.ref p) H') \/ (J.go i H' /\ ∀x H2,J.OX i H' x H2 ->g x (jR own fr σ) H2 λσ2 H3=>tc σ2 H3 λb H4=>if b=true then inW EG g2 A7 te σ2 p H4 λzs H5=> ∃m',m'<m /\ W (i+1) m' zs H5 else ∃zs m',m'<m /\ W (i+1) m' zs H4))
def Fb (wi:TI)(own:Nat)(fr:cV Nat)(g:TG)(tc:TT)(EG:TI)(g2:TG)(A7:TT)(te:TE):TE:=λσ H Q=>wi σ H λJ H1=> ∀p,H1 p=none ->Hj J own fr g tc EG g2 A7 te σ p H1 Q
section
variable {prog:RV}{w:W4}{A:X7}{R:Result ->df ->Prop}{s:df}
abbrev uR (hG tg iter:Expr)(g_:cV Expr)(jw cP:Expr)(eP:cV Expr)(scope:Scope)(pos:Pos):Expr:= .ListComp hG [#[tg,iter,g_,0],#[jw,cP,eP,0]] scope pos
def IP (hG tg iter:Expr)(g_:cV Expr)(jw cP:Expr)(eP:cV Expr)(scope:Scope)(pos:Pos)(it fq:cW)(env:Env): compTurn (uR hG tg iter g_ jw cP eP scope pos) 0 it fq env=(do
 standAt iter.pos
 let r <- pyNext it
 match r with
 | none=>pure (.done .next)
 | some v=>do
  letOwnedTupleGo tg it v
  assign tg env v
  let ok <- forIn g_ true λc r=>if r=true then do let ok <- isTrue c env (eval c env);pure (ForInStep.yield ok) else pure (ForInStep.yield r)
  if ok=true then do
   let x <- eval cP env
   standAt cP.pos
   let x <- foldedSetIterable cP env x
   let i2 <- holding [x] (pyIter x)
   let _ <- runOwn (.compStart (uR hG tg iter g_ jw cP eP scope pos) 1 i2 fq env) env
   again (.compLoop (uR hG tg iter g_ jw cP eP scope pos) 0 it fq env)
  else again (.compLoop (uR hG tg iter g_ jw cP eP scope pos) 0 it fq env)):=by rfl
def IN (hG tg iter:Expr)(g_:cV Expr)(jw cP:Expr)(eP:cV Expr)(scope:Scope)(pos:Pos)(it fq:cW)(env:Env): compTurn (uR hG tg iter g_ jw cP eP scope pos) 1 it fq env=(do
 standAt cP.pos
 let r <- pyNext it
 match r with
 | none=>pure (.done .next)
 | some v=>do
  letOwnedTupleGo jw it v
  assign jw env v
  let ok <- forIn eP true λc r=>if r=true then do let ok <- isTrue c env (eval c env);pure (ForInStep.yield ok) else pure (ForInStep.yield r)
  if ok=true then do
   ((do let _ <- call (.builtin "list.append") [fq, <- eval hG env]):Sem Unit)
   again (.compLoop (uR hG tg iter g_ jw cP eP scope pos) 1 it fq env)
  else again (.compLoop (uR hG tg iter g_ jw cP eP scope pos) 1 it fq env)):=by rfl
def Fe {hG tg iter:Expr}{g_:cV Expr}{jw cP:Expr}{eP:cV Expr}{scope:Scope}{pos:Pos}{it fq:cW}{env:Env} (h0:codeAny (model prog w) A (.compLoop (uR hG tg iter g_ jw cP eP scope pos) 1 it fq env) R s) (h:wpAny (model prog w) A (pyIter it) (λW1 s'=>codeAny (model prog w) A (.compLoop (uR hG tg iter g_ jw cP eP scope pos) 1 W1 fq env) R s') (notedBy (model prog w) A env λx s'=>R (.error x) s') s): codeAny (model prog w) A (.compStart (uR hG tg iter g_ jw cP eP scope pos) 1 it fq env) R s:=by
 exact codeAny_of_tree ?_;change wpAny _ _ ((compStart (uR hG tg iter g_ jw cP eP scope pos) 1 it fq env).onRaise (λx=>do noteFrame x env;standAt theWindowsPlace)) _ _ s;exact wpAny_notedAt ?_;unfold compStart;change wpAny _ _ (ask >>=_) _ _ s;exact aw (wpAny_askSetting (wpAny_ite ?_));split;first
 | show aw (aX (aX (And.intro rfl h0)))
 | show aX (And.intro rfl h0)
 first
 | show aw (wpAny_rule (aw (wpAny_standAt (aw (bz h (λW1 s' h'=>aX (And.intro rfl h')) λ_ _ x=>x)))))
 | (exact aw (wpAny_rule ?_);change wpAny _ _ (standAt cP.pos >>=_) _ _ s;show aw (wpAny_standAt (aw (bz h (λW1 s' h'=>aX (And.intro rfl h')) λ_ _ x=>x))))
theorem JP {hG tg iter:Expr}{g_:cV Expr}{jw cP:Expr}{eP:cV Expr}{scope:Scope}{pos:Pos}{it fq:cW}{env:Env}(I:Nat ->df ->Prop) (turn : ∀n s,I n s ->wpAny (model prog w) A (pyNext it) (λr s₁=>match r with
   | none=>R (.ok .next) s₁
   | some v=>wpAny (model prog w) A (letOwnedTupleGo jw it v) (λ_ s₀=>wpAny (model prog w) A (assign jw env v) (λ_ s₂=>
    wpAny (model prog w) A (forIn eP true λc r=>if r=true then do let ok <- isTrue c env (eval c env);pure (ForInStep.yield ok) else pure (ForInStep.yield r)) (λok s₃=>if ok=true then wpAny (model prog w) A (eval hG env) (λx s₄=>wpAny (model prog w) A (call (.builtin "list.append") [fq,x]) (λ_ s₅=> ∃m,m<n /\ I m s₅) (λ_ _=>False) s₄) (λ_ _=>False) s₃ else ∃m,m<n /\ I m s₃) (λ_ _=>False) s₂)
    (λ_ _=>False) s₀) (λ_ _=>False) s₁) (λ_ _=>False) s)
  (n:Nat) (h:I n s):codeAny (model prog w) A (.compLoop (uR hG tg iter g_ jw cP eP scope pos) 1 it fq env) R s:=by
 exact codeAny_loop rfl I (λn s hI=> ?_) n h
 change wpAny _ A ((compTurn (uR hG tg iter g_ jw cP eP scope pos) 1 it fq env).onRaise (λx=>do noteFrame x env;theTreesLotGoes x)) _ _ s
 exact wpAny_noted ?_
 rw[IN]
 exact aw (wpAny_standAt (aw (bz (turn n s hI) (λr s₁ h₁=> ?_) λ_ _ h'=>h'.elim)))
 cases r with
 | none=>show aX h₁
 | some v=>
  exact aw (bz h₁ (λ_ s₀ RX=> ?_) λ_ _ h'=>h'.elim);exact aw (bz RX (λ_ s₂ h₂=> ?_) λ_ _ h'=>h'.elim);exact aw (bz h₂ (λRu s₃ h₃=> ?_) λ_ _ h'=>h'.elim);cases Ru with
  | false=>show aX #[rfl,h₃]
  | true=>show aw (aw (bz h₃ (λx s₄ h₄=>aw (bz h₄ (λ_ s₅ h₅=>aX (aX #[rfl,h₅])) λ_ _ h'=>h'.elim)) λ_ _ h'=>h'.elim))
theorem JQ {hG tg iter:Expr}{g_:cV Expr}{jw cP:Expr}{eP:cV Expr}{scope:Scope}{pos:Pos}{it fq:cW}{env:Env}(I:Nat ->df ->Prop)(hs: ∀x,foldedSetIterable cP env x=pure x) (turn : ∀n s,I n s ->wpAny (model prog w) A (pyNext it) (λr s₁=>match r with
   | none=>R (.ok .next) s₁
   | some v=>wpAny (model prog w) A (letOwnedTupleGo tg it v) (λ_ s₀=>wpAny (model prog w) A (assign tg env v) (λ_ s₂=>
    wpAny (model prog w) A (forIn g_ true λc r=>if r=true then do let ok <- isTrue c env (eval c env);pure (ForInStep.yield ok) else pure (ForInStep.yield r)) (λok s₃=>if ok=true then wpAny (model prog w) A (eval cP env) (λx s₄=>wpAny (model prog w) A (pyIter x) (λi2 s₅=>codeAny (model prog w) (A.mark none) (.compStart (uR hG tg iter g_ jw cP eP scope pos) 1 i2 fq env) (λr s₆=>match r with | .ok _=> ∃m,m<n /\ I m s₆ | .error _=>False) s₅) (λ_ _=>False) s₄) (λ_ _=>False) s₃ else ∃m,m<n /\ I m s₃) (λ_ _=>False) s₂)
    (λ_ _=>False) s₀) (λ_ _=>False) s₁) (λ_ _=>False) s)
  (n:Nat) (h:I n s):codeAny (model prog w) A (.compLoop (uR hG tg iter g_ jw cP eP scope pos) 0 it fq env) R s:=by
 exact codeAny_loop rfl I (λn s hI=> ?_) n h
 change wpAny _ A ((compTurn (uR hG tg iter g_ jw cP eP scope pos) 0 it fq env).onRaise (λx=>do noteFrame x env;theTreesLotGoes x)) _ _ s
 exact wpAny_noted ?_
 rw[IP]
 exact aw (wpAny_standAt (aw (bz (turn n s hI) (λr s₁ h₁=> ?_) λ_ _ h'=>h'.elim)))
 cases r with
 | none=>show aX h₁
 | some v=>
  exact aw (bz h₁ (λ_ s₀ RX=> ?_) λ_ _ h'=>h'.elim);exact aw (bz RX (λ_ s₂ h₂=> ?_) λ_ _ h'=>h'.elim);exact aw (bz h₂ (λRu s₃ h₃=> ?_) λ_ _ h'=>h'.elim);cases Ru with
  | false=>show aX #[rfl,h₃]
  | true=>
   exact aw (bz h₃ (λx s₄ h₄=> ?_) λ_ _ h'=>h'.elim);exact aw (wpAny_standAt ?_);rw[hs];exact aw (aX (aw (wpAny_holding (bz h₄ (λi2 s₅ h₅=> ?_) λ_ _ h'=>h'.elim))));exact aw (wpAny_runOwn ?_);exact codeAny_mono h₅ λr s' z=> ?_;cases r with
   | ok f=>show aX #[rfl,z]
   | error e=>show z.elim
end
section
variable {X:Cx}{af:cV (gL×Obj)}{σ:St}{H:Hp}{s s3:df}
def yR {tg iter hG:Expr}{g_:cV Expr}{jw cP:Expr}{eP:cV Expr}{pos:Pos}{own N':cV Str}{fr:cV Nat}{n1:Nat}{scope:Scope}{cl:cV (Str×gL)}{fp:cV gL}{it:gL}{tn:Nat ->X4 ->Prop}{J:It}{g:TG}{tc:TT}{EG:TI}{g2:TG}{A7:TT}{te:TE}{Q:VK} {E:cW ->df ->Prop} {RR:cW ->gL ->Result ->df ->Prop} (kG:X.calm=true) (S:db X own fr N' scope) (hg: ∀s3 H3,PG (bN X N' scope cl fp s3 H3) tg g) (L':n1<=own.length) (hw:Keeps (λi=>i<n1) g) (hc: ∀s3 H3,Mr (bN X N' scope cl fp s3 H3) g_ tc) (XD: ∀s3 H3,PI (bN X N' scope cl fp s3 H3) jw cP EG) (zx: ∀s3 H3,PG (bN X N' scope cl fp s3 H3) jw g2) (W9:Keeps (λi=>n1<=i /\ i<own.length) g2) (DK: ∀s3 H3,Mr (bN X N' scope cl fp s3 H3) eP A7) (he: ∀s3 H3,PE (bN X N' scope cl fp s3 H3) hG te) (Ca: ∀s3 H3 x,foldedSetIterable cP (bN X N' scope cl fp s3 H3).env x=pure x) (mC: ∀x c,cl.lookup x=some c ->X.env.cells.lookup x=some c) (uj: ∀y∈scope.names,y.2= .free ->(cl.lookup y.1).isSome=true) (I:Inv X af σ H s) (T:wL X.prog X.w X.K tg J fp it tn) (st:tn 0 s.heap) (yr: ∀b∈fp,jS X af H b) (h: ∀p,H p=none ->Hj J own.length fr g tc EG g2 A7 te σ p H Q) (fin: ∀ (s3:df) (H3:Hp),Inv X af σ H3 s3 ->(∀b∈fp,jS X af H3 b) -> ∀ (D:gL) (σ':St) (H':Hp) (s':df) (t:Nat),D<s3.heap.objs.size ->Inv (bN X N' scope cl fp s3 H3) [] σ' H' s' ->Q (.ref D) H' ->RR (.ref D) s3.heap.objs.size (.ok .next) s'): wpAny (model X.prog X.w) X.A (newList []) (λfq s₃=>wpAny (model X.prog X.w) X.A (newFunctionEnv scope X.env.globals cl [] X.env.qual none .none (some X.env)) (λHl s₄=>codeAny (model X.prog X.w) X.A (.compStart (uR hG tg iter g_ jw cP eP scope pos) 0 (.ref it) fq {Hl with scope:=relabel scope X.env}) (RR fq Hl.locals) s₄) E s₃) E s:=by
 exact wpAny_newObj_type ?_;have hf:H s.heap.objs.size=none:=I.cS.fresh (ao _);let⟨W,⟨m0,w0⟩,turn⟩:=h _ hf;generalize e3:({s with heap:=s.heap.push {cls:= .type "list",dict:=none,data:= .seq ([]:cV cW).toArray}}:df)=s3;have MV:s3.heap.objs.size=s.heap.objs.size+1:=by rw[<- e3];show Heap.size_push ..
 have VU: ∀b o,s.heap.get? b=some o ->s3.heap.get? b=some o:=λb o e=>by rw[<- e3];show ar _ e
 have I3:Inv X af σ (cF H s.heap.objs.size (.lst [])) s3:=by rw[<- e3];show I.laid (t':=s.toks) (λb u e=>ar _ e) (ao _) #[cZ _,[],0, .nil,aT _ rfl]
 have Oz: ∀b∈fp,b<s.heap.objs.size:=λb hb=>by let⟨o,e,_⟩:=T.obj 0 _ st b hb;show aO e
 have Am: ∀b∈fp,jS X af (cF H s.heap.objs.size (.lst [])) b:=λb hb=>#[by rw[bK (bu (Oz b hb))];show(yr b hb).1,(yr b hb).2]
 exact wpAny_newFunctionEnv S.sr (by intro y hy;simp at hy) (λh₁ Og Oa=> ?_) S.kind;have old: ∀b o,s3.heap.get? b=some o ->h₁.get? b=some o:=λb o e=>Oa.extBut b o (bu (aO e)) (ar _ e);have Ic:=yi (t:=s3.toks+([]:cV (Str×cW)).length) S I3 mC uj Am (λb hb=>by rw[MV];show Nat.lt_succ_of_lt (Oz b hb)) Og old;have CY:tn 0 h₁:=T.keep 0 _ _ st λb hb o e=>old b o (VU b o e);have rM: ∀ {H':Hp},(∀b∈fp,H' b=none) -> ∀b∈fp,jS (bN X N' scope cl fp s3 (cF H s.heap.objs.size (.lst []))) [] H' b:=λhn b hb=>by exact#[hn b hb,?_,?_, .inl hb,λx c e=>(yr b hb).2.2.2.2.1 x c (mC x c e),λp hp=>absurd (show p∈([]:cV (gL×Obj)) from hp) (by simp)];change b≠s3.heap.objs.size;rw[MV];show bu (Nat.lt_succ_of_lt (Oz b hb));show Ic.ok.As b hb
 have loop : codeAny (model X.prog X.w) X.A (.compLoop (uR hG tg iter g_ jw cP eP scope pos) 0 (.ref it) (.ref s.heap.objs.size) (compEnvC scope cl s3.heap.objs.size X.env)) (RR (.ref s.heap.objs.size) s3.heap.objs.size) {s3 with heap:=h₁,toks:=s3.toks+([]:cV (Str×cW)).length}:=by
  exact JQ (λn s'=>dQ λi ys H'=>eT (Inv (bN X N' scope cl fp s3 (cF H s.heap.objs.size (.lst []))) [] (jR own.length fr σ) H' s') (tn i s'.heap) (∀b∈fp,H' b=none) (W i n ys H')) (Ca s3 H) ?_ m0 #[0,[],_,Ic,CY,λb hb=>(Am b hb).1,w0];rintro n s4 ⟨i,ys,H4,I4,fm,SG,w4⟩;let⟨An,alt⟩:=turn i n ys H4 w4;rcases alt with⟨stop,q⟩ | ⟨go,step⟩
  .exact cN (T.done (bN X N' scope cl fp s3 (cF H s.heap.objs.size (.lst []))) rfl rfl rfl kG i [] s4 _ H4 (λ_ _=>False) I4 (rM SG) fm stop) λr s5 ⟨hr,I5⟩=> ?_;subst hr;show fin s3 _ I3 Am _ _ H4 s5 s5.toks (by rw[MV];show Nat.lt_succ_self _) I5 q
  exact cN (T.item (bN X N' scope cl fp s3 (cF H s.heap.objs.size (.lst []))) rfl rfl rfl kG i [] s4 _ H4 (λ_ _=>False) I4 (rM SG) fm go) λr s5 ⟨u,hr,h5⟩=> ?_;subst hr;exact cN h5 λ_ s6 ⟨x,H6,I6,r6,y6,MY,fr6⟩=> ?_;have I6':=I6.pinned (rM fr6) (T.obj _ _ MY);have Uk:=hw _ x H6 _ (step x H6 y6);exact cN (hg s3 _ _ s6 _ H6 x u _ I6' r6 Uk) λ_ s7 ⟨σ7,H7,I7,wk,q7⟩=> ?_;have wk1: ∀ (j:Nat) v,(jR own.length fr σ)[j]? =some (some v) ->σ7[j]? =some (some v):=λj v e=>by rw[wk.2 j (by have:=CI e;lia)];show e
  have wk2: ∀j,n1<=j ->j<own.length -> ∀v,σ7[j]? ≠some (some v):=λj h1 h2 v e=>by rw[wk.2 j ∅] at e;have:=CI e;lia
  have again: ∀ {σ9:St} {H9:Hp} {s9:df} {Mu:cV V},σ9.length=σ7.length ->(∀ (j:Nat) v,σ7[j]? =some (some v) ->σ9[j]? =some (some v)) ->Inv (bN X N' scope cl fp s3 (cF H s.heap.objs.size (.lst []))) ([]++gJ fp s6.heap) σ9 H9 s9 ->(∃m',m'<n /\ W (i+1) m' Mu H9) ->∃m,m<n /\ dQ λi ys H'=>eT (Inv (bN X N' scope cl fp s3 (cF H s.heap.objs.size (.lst []))) [] (jR own.length fr σ) H' s9) (tn i s9.heap) (∀b∈fp,H' b=none) (W i m ys H'):=λ{σ9 H9 s9 Mu} hl9 hv9 I9 ⟨m',hm,w9⟩=>by exact#[m',hm,i+1,Mu,H9,(I9.iN).weak ?_ λj v e=>hv9 j v (wk1 j v e),T.keep _ _ _ MY λb hb o e=>(I9.pin (b,o) (aR _ (aR _ (eL hb e)))).1,λb hb=> ?_,w9];rw[hl9,wk.1];let⟨o,e,d⟩:=T.obj _ _ MY b hb;show(I9.pin (b,o) (aR _ (aR _ (eL hb e)))).2.1
  exact cN (hc s3 _ _ s7 σ7 H7 _ I7 q7) λok s8 ⟨H8,I8,q8⟩=> ?_;cases ok with
  | false=>simp![ay,bv] at q8 ⊢;let⟨zs,q8⟩:=q8;show again rfl (λ_ _ e=>e) I8 q8
  | true =>
   simp![bX] at q8 ⊢;exact cN (XD s3 _ _ s8 σ7 H8 _ I8 q8) λv2 s9 h9=>cN h9 λRP Pa X3=> ?_;let⟨B8,SI,tn2,J2,Pz,e10,I10,T2,QP,f10,Z,⟨mz,z0,N9⟩,Qp⟩:=X3;subst e10;have Fd: ∀ {H':Hp},(∀b∈SI,H' b=none) -> ∀b∈SI,jS (bN X N' scope cl fp s3 (cF H s.heap.objs.size (.lst []))) ([]++gJ fp s6.heap) H' b:=λhn b hb=>#[hn b hb,(f10 b hb).2]
   have LO:codeAny (model X.prog X.w) X.A (.compLoop (uR hG tg iter g_ jw cP eP scope pos) 1 (.ref B8) (.ref s.heap.objs.size) (compEnvC scope cl s3.heap.objs.size X.env)) (λr s₆=>match r with
   | .ok _=> ∃m,m<n /\ dQ λi ys H'=>eT (Inv (bN X N' scope cl fp s3 (cF H s.heap.objs.size (.lst []))) [] (jR own.length fr σ) H' s₆) (tn i s₆.heap) (∀b∈fp,H' b=none) (W i m ys H')
   | .error _=>False) Pa:=by
    exact JP (λk s'=>dQ λj zs H'=>eT (Inv (bN X N' scope cl fp s3 (cF H s.heap.objs.size (.lst []))) ([]++gJ fp s6.heap) σ7 H' s') (tn2 j s'.heap) (∀b∈SI,H' b=none) (Z j k zs H')) ?_ mz #[0,z0,Pz,I10,QP,λb hb=>(f10 b hb).1,N9]
    rintro k s11 ⟨j,zs,H11,I11,QO,SH,z11⟩
    let⟨adB,acX⟩:=Qp j k zs H11 z11
    rcases acX with⟨QM,qN⟩ | ⟨go2,hsz2,QN⟩
    exact cN (T2.done (bN X N' scope cl fp s3 (cF H s.heap.objs.size (.lst []))) rfl rfl rfl kG j _ s11 _ H11 (λ_ _=>False) I11 (Fd SH) QO QM) λr s12 ⟨hr,I12⟩=> ?_
    subst hr
    show again rfl (λ_ _ e=>e) I12 qN
    exact cN (T2.item (bN X N' scope cl fp s3 (cF H s.heap.objs.size (.lst []))) rfl rfl rfl kG j _ s11 _ H11 (λ_ _=>False) I11 (Fd SH) QO go2) λr s12 ⟨u2,hr,h12⟩=> ?_
    subst hr
    exact cN h12 λ_ s13 ⟨x2,H13,I13,r13,y13,MZ,acL⟩=> ?_
    have acZ:=I13.pinned (Fd acL) (T2.obj _ _ MZ)
    have V3:=W9 _ x2 H13 _ (QN x2 H13 y13)
    exact cN (zx s3 _ _ s13 _ H13 x2 u2 _ acZ r13 V3) λ_ s14 ⟨σ14,H14,I14,PK,q14⟩=> ?_
    have Mo: ∀ {H9:Hp} {s9:df} {ws:cV V},Inv (bN X N' scope cl fp s3 (cF H s.heap.objs.size (.lst []))) (([]++gJ fp s6.heap)++gJ SI s13.heap) σ14 H9 s9 ->(∃k',k'<k /\ Z (j+1) k' ws H9) ->∃m,m<k /\ dQ λj zs H'=>eT (Inv (bN X N' scope cl fp s3 (cF H s.heap.objs.size (.lst []))) ([]++gJ fp s6.heap) σ7 H' s9) (tn2 j s9.heap) (∀b∈SI,H' b=none) (Z j m zs H'):=λ{H9 s9 ws} I9 ⟨k',zw,z9⟩=>by exact#[k',zw,j+1,ws,H9,(I9.iN).weak PK.1.symm λa v e=> ?_,T2.keep _ _ _ MZ λb hb o e=>(I9.pin (b,o) (aR _ (aR _ (eL hb e)))).1,λb hb=> ?_,z9];rw[PK.2 a λhS=>wk2 a hS.1 hS.2 v e];show e;let⟨o,e,d⟩:=T2.obj _ _ MZ b hb;show(I9.pin (b,o) (aR _ (aR _ (eL hb e)))).2.1
    exact cN (DK s3 _ _ s14 σ14 H14 _ I14 q14) λWo s15 ⟨H15,I15,Pb⟩=> ?_
    cases Wo with
    | false=>simp![ay,bv] at Pb ⊢;let⟨ws,Pb⟩:=Pb;show Mo I15 Pb
    | true=>simp![bX] at Pb ⊢;exact cN (he s3 _ _ s15 σ14 H15 _ I15 Pb) λy s16 ⟨yv,H16,I16,ry,ws,Xo,W5,q16⟩=> ?_;exact cN (dR _ s16 σ14 H16 (.ref s.heap.objs.size) [yv] (.ref s.heap.objs.size) [y] (λv H'=>H'=cF H16 s.heap.objs.size (.lst (ws++ [yv]))) I16 rfl (.cons ry .nil) #[_,ws,yv,rfl,rfl,Xo,W5,rfl]) λv s17 ⟨_,H17,I17,_,e17⟩=> ?_;subst e17;show Mo I17 q16
   change codeAny _ X.A _ _ Pa;show Fe LO (T2.self _ 0 _ _ _ QP LO)
 show codeAny_compStart_list loop (T.self _ 0 _ _ _ CY loop)
end
section
variable {X:Cx}
def pE {i:Nat}{x:Str}{tg iter hG:Expr}{g_:cV Expr}{jw cP:Expr}{eP:cV Expr}{pos QQ ko:Pos}{own N':cV Str}{fr:cV Nat}{n1:Nat}{scope:Scope}{wi:TI}{g:TG}{tc:TT}{EG:TI}{g2:TG}{A7:TT}{te:TE}(kG:X.calm=true)(hN:X.N.Nodup)(hx:X.N[i]? =some x)(hl:Loc X.env.scope x)(S:db X own fr N' scope)(hi:PI X tg iter wi) (hg: ∀cl fp s3 H3,PG (bN X N' scope cl fp s3 H3) tg g) (L':n1<=own.length) (hw:Keeps (λi=>i<n1) g) (hc: ∀cl fp s3 H3,Mr (bN X N' scope cl fp s3 H3) g_ tc) (XD: ∀cl fp s3 H3,PI (bN X N' scope cl fp s3 H3) jw cP EG) (zx: ∀cl fp s3 H3,PG (bN X N' scope cl fp s3 H3) jw g2) (W9:Keeps (λi=>n1<=i /\ i<own.length) g2) (DK: ∀cl fp s3 H3,Mr (bN X N' scope cl fp s3 H3) eP A7) (he: ∀cl fp s3 H3,PE (bN X N' scope cl fp s3 H3) hG te) (Xd:swapsWith (.ListComp hG [#[tg,iter,g_,0],#[jw,cP,eP,0]] scope pos) (some (.Name x ko)) QQ.line X.env=pure true) (hs: ∀x,foldedSetIterable iter X.env x=pure x:=by intro _;rfl) (Ca: ∀cl fp s3 H3 x,foldedSetIterable cP (bN X N' scope cl fp s3 H3).env x=pure x:=by intro _ _ _ _ _;rfl) (hf:X.fn x=true \/ X.env.scope.names.lookup x=some .local:=by first | show .inl rfl | show .inr rfl | assumption): PS X (.Assign [.Name x ko] (.ListComp hG [#[tg,iter,g_,0],#[jw,cP,eP,0]] scope pos) QQ) (Fc (Fb wi own.length fr g tc EG g2 A7 te) (kH i)):=by
 intro af s σ H D I h;let⟨cl,GR,mC,uj⟩:=tq (I.ok.cellsOf S);rw[exec_Assign_Name_used _ _ _ _ Xd];exact aw (wpAny_standAt (aw ?_));change wpAny _ X.A (do let _ <- comprehension (uR hG tg iter g_ jw cP eP scope pos) scope X.env _ (newList []) false (eval iter X.env) (some (assign (.Name x ko) X.env))) _ _ s;exact aw (cN (wpAny_comprehension_free (use:=some (assign (.Name x ko) X.env)) (Q:=λ_ s'=>SP X af D .next s') rfl hs GR S.kind S.loc (cN (hi af s σ H _ I h) λv s1 h1=>cN h1 λRP s2 h2=> ?_)) λ_ s' hq=>aX (aX hq));let⟨it,fp,tn,J,H2,e,I2,T,mK,f2,h2⟩:=h2;subst e;exact yR (RR:=λfq C=>compPost (model X.prog X.w) X.A X.xe (some (assign (.Name x ko) X.env)) (λ_ s'=>SP X af D .next s') fq C) kG S (hg cl fp) L' hw (hc cl fp) (XD cl fp) (zx cl fp) W9 (DK cl fp) (he cl fp) (Ca cl fp) mC uj I2 T mK f2 h2 ?_;intro s3 H3 I3 f3 Da σ' H' s' t hD Ic q;let⟨m,hn,_⟩:=Ic.loc;have I5:=vm I3 f3 Ic;change wpAny _ X.A (assign (.Name x ko) X.env (.ref Da)) _ _ s';exact wpAny_assign_Name (uH I5 hN hx hl (show RelV (.ref Da) (.ref Da) from rfl) (λs6 I6 R9=> ?_) hf);let⟨a,sb,ha⟩:=R9;have mB:s3.heap.objs.size≠a:=by obtain rfl | ha:=ha;show Nat.ne_of_gt I3.lt;let⟨v,z⟩:=I3.cell x a ha;show Nat.ne_of_gt z.lt
 exact#[m,hn.sameBut sb mB,λh' Xf=>#[_,H',vk I3 rfl I6 Ic.free Xf,q]]
end
end L2
namespace WL
open PySem L2
section
variable {K:RS}
def RU (AV:cV W)(jE:Mp ->Prop)(g2:WG)(c2:WT)(el:WE)(ρ2:c8)(p:gL)(ys:cV W)(M4:Mp)(N:cV W ->Mp ->Prop):Prop:=∃I2:Nat ->cV W ->Mp ->Prop,eT (I2 0 ys M4) (∀j zs M,j<=AV.length ->I2 j zs M ->jE M /\ M p=some (.lst zs) /\ zs.length<sizeLine) (∀j y zs M,AV[j]? =some y ->I2 j zs M ->g2 y ρ2 M λρ3 M5=>c2 ρ3 M5 λb M6=>if b=true then el ρ3 M6 λz M7=>M7 p=some (.lst zs) /\ I2 (j+1) (zs++ [z]) (um M7 p (.lst (zs++ [z]))) else I2 (j+1) zs M6) (∀zs M,I2 AV.length zs M ->N zs M)
def Ax (xs:cV W)(keep:Mp ->Prop)(own:Nat)(fr:cV Nat)(g:WG)(c:WT)(B8:WI)(g2:WG)(c2:WT)(el:WE)(ρ:c8)(M1:Mp)(q:WK):Prop:= ∀p,M1 p=none -> ∃I:Nat ->cV W ->Mp ->Prop,eT (I 0 [] (um M1 p (.lst []))) (∀i ys M,i<=xs.length ->I i ys M ->keep M /\ M p=some (.lst ys)) (∀i x ys M,xs[i]? =some x ->I i ys M ->g x (nS own fr ρ) M λρ2 M2=>c ρ2 M2 λb M3=>if b=true then B8 ρ2 M3 λAV jE M4=>RU AV jE g2 c2 el ρ2 p ys M4 (I (i+1)) else I (i+1) ys M3) (∀ys M,I xs.length ys M ->q (wr p) M)
def ER (it:WI)(own:Nat)(fr:cV Nat)(g:WG)(c:WT)(B8:WI)(g2:WG)(c2:WT)(el:WE):WE:=λρ M q=>it ρ M λxs keep M1=>Ax xs keep own fr g c B8 g2 c2 el ρ M1 q
theorem Qg {it:WI}{own:Nat}{fr:cV Nat}{g:WG}{c:WT}{B8:WI}{g2:WG}{c2:WT}{el:WE}{ρ:c8}{M:Mp}{q:WK}:ER it own fr g c B8 g2 c2 el ρ M q=it ρ M λxs keep M1=>Ax xs keep own fr g c B8 g2 c2 el ρ M1 q:=rfl
instance {ti:TI}{own:Nat}{fr:cV Nat}{g:TG}{tc:TT}{ti2:TI}{g2:TG}{A7:TT}{te:TE}{it:WI}{w:WG}{c:WT}{B8:WI}{w2:WG}{c2:WT}{el:WE} [ii:II K ti it] [ig:IG K g w] [ic:IT K tc c] [ii2:II K ti2 B8] [ig2:IG K g2 w2] [ic2:IT K A7 c2] [ie:IE K te el]: IE K (Fb ti own fr g tc ti2 g2 A7 te) (ER it own fr w c B8 w2 c2 el) where
 imp := λρ M σ H q Q o h k=>ii.imp ρ M σ H _ _ o h λxs keep J M1 H1 h1 t1 m1 ok=>by
  intro p hp;let⟨I,h0,hk,hs,hd⟩:=h1 p (m1.fresh hp);have tp:=L2.fI.ts (bZ (o:= .lst []) hp);exact#[λi m vs H'=>m=xs.length - i /\ i<=xs.length /\ cx λys M'=>fS (I i ys M') (aY H1 H') (fK K M' H') (cM K H' ys vs) (H' p=some (.lst vs)),#[_,rfl,cZ _,[],_,h0,tp,m1.xV hp cM.nil,cM.nil,bP],?_];rintro i m vs H' ⟨rfl,hi,ys,M',hI,ts,m',rv,hv⟩;exact#[hv,?_];let⟨kp,hMp⟩:=hk i ys M' hi hI;let⟨k1,k2,k3⟩:=ok i M' H' ts m' kp;by_cases lD:i<xs.length;exact .inr #[k2 lD,λv H2 y=> ?_];let⟨ty,my,x,hx,r⟩:=k3 v H2 lD y;replace ts:=ts.trans ty;have oc:Ok K (nS own fr ρ) M' (jR own fr σ) H2:=#[(o.env.ts (t1.trans ts)).Pw own fr,my]
  exact ig.imp x v _ M' _ H2 _ _ oc r (hs i x ys M' hx hI) λρ3 M3 σ3 H3 h3 t3 o3=>ic.imp ρ3 M3 σ3 H3 _ _ o3 h3 λb M4 H4 h4 t4 m4=> ?_;cases b with
  | true=>
   simp![bX] at h4 ⊢;exact ii2.imp ρ3 M4 σ3 H4 _ _ (o3.mv t4 m4) h4 λAV jE J2 M5 H5 h5 t5 m5 Wo=> ?_;let⟨I2,h20,Sl,Ca,hd2⟩:=h5;have tt5:=ts.trans ((t3.trans t4).trans t5);have at5: ∀ {M6:Mp} {H6:Hp} {zs:cV W},M6 p=some (.lst zs) ->fK K M6 H6 -> ∃vs,H6 p=some (.lst vs) /\ cM K H6 zs vs:=λh m=>by let⟨vs,hv,rr⟩:=m p _ h;show#[vs,hv,rr]
   let⟨Lc,J0,Je⟩:=at5 (Sl 0 ys M5 (cZ _) h20).2.1 m5;exact#[λj m vs H'=>m=AV.length - j /\ j<=AV.length /\ cx λzs M'=>fS (I2 j zs M') (aY H5 H') (fK K M' H') (cM K H' zs vs) (H' p=some (.lst vs)),#[_,Lc,rfl,cZ _,ys,M5,h20,aY.refl _,m5,Je,J0],?_];rintro j m2 vs6 H6 ⟨rfl,hj,zs,M6,XY,Qq,m6,rv6,hv6⟩;exact#[hv6,?_];let⟨kp2,adD,UK⟩:=Sl j zs M6 hj XY;let⟨a1,a2,a3⟩:=Wo j M6 H6 Qq m6 kp2;by_cases GJ:j<AV.length;exact .inr #[a2 GJ,by rw[rv6.length];show UK,λu7 H7 y7=> ?_];let⟨VV,my7,x7,hx7,r7⟩:=a3 u7 H7 GJ y7;have o7:Ok K ρ3 M6 σ3 H7:=#[o3.env.ts ((t4.trans t5).trans (Qq.trans VV)),my7]
   exact ig2.imp x7 u7 ρ3 M6 σ3 H7 _ _ o7 r7 (Ca j x7 zs M6 hx7 XY) λρ8 M8 σ8 H8 h8 t8 o8=>ic2.imp ρ8 M8 σ8 H8 _ _ o8 h8 λb9 M9 H9 h9 t9 m9=> ?_;cases b9 with
   | true=>simp![bX] at h9 ⊢;exact ie.imp ρ8 M9 σ8 H9 _ _ (o8.mv t9 m9) h9 λz M10 u Pz ⟨X3,h11⟩ t10 m10 r10=> ?_;let⟨IK,GF,Fp⟩:=m10 p _ X3;have t11:=jh (u:= .lst (IK++ [u])) GF;exact#[IK,GF,by rw[Fp.length];show UK,_,?_,rfl,GJ,_,_,h11,((((Qq.trans VV).trans t8).trans t9).trans t10).trans t11,m10.putL GF (Fp.snoc r10),(Fp.snoc r10).ts t11,bP];lia
   | false=>simp![ay,bv] at h9 ⊢;let⟨IK,GF,Fp⟩:=at5 (Sl (j+1) zs M9 GJ h9).2.1 m9;exact#[IK,_,?_,rfl,GJ,_,_,h9,((Qq.trans VV).trans t8).trans t9,m9,Fp,GF];lia
   have e':j=AV.length:= ∅;subst e';exact .inl #[a1 rfl,_,?_,rfl,lD,zs,M6,hd2 zs M6 XY,tt5.trans Qq,m6,rv6,hv6];lia
  | false=>simp![ay,bv] at h4 ⊢;let⟨Lc,J0,Je⟩:=m4 p _ (hk (i+1) ys M4 lD h4).2;exact#[Lc,_,?_,rfl,lD,_,_,h4,ts.trans (t3.trans t4),m4,Je,J0];lia
  have e':i=xs.length:= ∅;subst e';show .inl #[k1 rfl,k _ M' _ H' (hd ys M' hI) (t1.trans ts) m' WR.v]
def z_ {α:Type}{f:α ->W}{l:cV α}{i:Nat}{x:W}(h:(l.map f)[i]? =some x): ∃a,l[i]? =some a /\ x=f a:=by
 rw[aH] at h;cases e:l[i]? with
 | none=>rw[e] at h;cases h
 | some a=>rw[e] at h;cases h;show#[a,rfl,rfl]
def DY {α β:Type}{l:cV α}{fW:α ->W}(cH:α ->cV β)(gW:β ->W)(eW:α ->β ->W){keep:Mp ->Prop}{M1:Mp}{own:Nat}{fr:cV Nat}{ρ:c8}{g:WG}{c:WT}{B8:WI}{g2:WG}{c2:WT}{el:WE}{q:WK} (hz:(l.map λa=>(cH a).length).sum<sizeLine) (nw: ∀M,Sm M1 M ->keep M) (hs: ∀a∈l, ∀M,Sm M1 M -> ∀ (B:c8 ->cV W ->(Mp ->Prop) ->Mp ->Prop) (N0:Mp ->Prop),(∀ρ2 jE,(∀M',Sm M1 M' ->jE M') ->(∀b∈cH a, ∀M',Sm M1 M' -> ∀N:fP W ->Mp ->Prop,N (some (eW a b)) M' ->g2 (gW b) ρ2 M' λρ3 M5=>c2 ρ3 M5 λb M6=>i8 b (el ρ3 M6 λz M7=>N (some z) M7) (N none M6)) ->B ρ2 ((cH a).map gW) jE M) ->g (fW a) (nS own fr ρ) M λρ2 M2=>c ρ2 M2 λb M3=>i8 b (B8 ρ2 M3 λAV jE M4=>B ρ2 AV jE M4) (N0 M3)) (hq: ∀p,M1 p=none ->q (wr p) (um M1 p (.lst (l.map λa=>(cH a).map (eW a)).flatten))): Ax (l.map fW) keep own fr g c B8 g2 c2 el ρ M1 q:=by
 intro p hp;have d3: ∀k:cV α,(k.map λa=>(cH a).map (eW a)).flatten.length=(k.map λa=>(cH a).length).sum:=λk=>by rw[List.length_flatten,a4];congr 1;apply List.map_congr_left;intro a _;simp
 have R1: ∀i:Nat,((l.take i).map λa=>(cH a).length).sum<=(l.map λa=>(cH a).length).sum:=λi=>by
  have e:(l.map λa=>(cH a).length)=((l.take i).map λa=>(cH a).length)++((l.drop i).map λa=>(cH a).length):=by rw[<- bn,bD]
  rw[e,List.sum_append];lia
 exact#[λi ys M=>M=um M1 p (.lst ys) /\ ys=((l.take i).map λa=>(cH a).map (eW a)).flatten,#[rfl,by simp],?_,?_,?_];rintro i ys M hi ⟨rfl,rfl⟩;show#[nw _ (bw hp),aq];rintro i x ys M hx ⟨rfl,rfl⟩;let⟨a,ha,rfl⟩:=z_ hx;have e:l.take (i+1)=l.take i++ [a]:=by rw[List.take_add_one,ha];rfl
 have eF:((l.take (i+1)).map λa=>(cH a).map (eW a)).flatten=((l.take i).map λa=>(cH a).map (eW a)).flatten++(cH a).map (eW a):=by rw[e,bn,List.flatten_append];simp
 have eS:((l.take (i+1)).map λa=>(cH a).length).sum=((l.take i).map λa=>(cH a).length).sum+(cH a).length:=by rw[e,bn,List.sum_append];simp
 exact hs a (be ha) _ (bw hp) (λρ2 AV jE M4=>RU AV jE g2 c2 el ρ2 p ((l.take i).map λa=>(cH a).map (eW a)).flatten M4 λys M=>M=um M1 p (.lst ys) /\ ys=((l.take (i+1)).map λa=>(cH a).map (eW a)).flatten) (λM=>M=um M1 p (.lst ((l.take i).map λa=>(cH a).map (eW a)).flatten) /\ ((l.take i).map λa=>(cH a).map (eW a)).flatten=((l.take (i+1)).map λa=>(cH a).map (eW a)).flatten) ?_;intro ρ2 jE Sl Ca;exact#[λj zs M=>M=um M1 p (.lst zs) /\ zs=((l.take i).map λa=>(cH a).map (eW a)).flatten++((cH a).take j).map (eW a),#[rfl,by simp],?_,?_,?_];rintro j zs M hj ⟨rfl,rfl⟩;exact#[Sl _ (bw hp),aq,?_];rw[aK,d3,ai,cj];have b3:=R1 (i+1);rw[eS] at b3;lia;rintro j y zs M hy ⟨rfl,rfl⟩;let⟨b,hb,rfl⟩:=z_ hy;have e2:(cH a).take (j+1)=(cH a).take j++ [b]:=by rw[List.take_add_one,hb];rfl
 exact Ca b (be hb) _ (bw hp) (λo M4=>match o with
 | some z=>M4 p=some (.lst (((l.take i).map λa=>(cH a).map (eW a)).flatten++((cH a).take j).map (eW a))) /\ (um M4 p (.lst (((l.take i).map λa=>(cH a).map (eW a)).flatten++((cH a).take j).map (eW a)++ [z]))=um M1 p (.lst (((l.take i).map λa=>(cH a).map (eW a)).flatten++((cH a).take j).map (eW a)++ [z])) /\ ((l.take i).map λa=>(cH a).map (eW a)).flatten++((cH a).take j).map (eW a)++ [z]=((l.take i).map λa=>(cH a).map (eW a)).flatten++((cH a).take (j+1)).map (eW a))
 | none=>M4=um M1 p (.lst (((l.take i).map λa=>(cH a).map (eW a)).flatten++((cH a).take j).map (eW a))) /\ ((l.take i).map λa=>(cH a).map (eW a)).flatten++((cH a).take j).map (eW a)=((l.take i).map λa=>(cH a).map (eW a)).flatten++((cH a).take (j+1)).map (eW a)) ?_
 show#[aq,jv,by rw[e2,bn];simp];rintro zs M ⟨rfl,rfl⟩;show#[rfl,by rw[eF,ai,List.take_length]];rintro ys M ⟨rfl,rfl⟩;rw[ai,List.take_length];show hq p hp
def tf {α:Type}{l:cV α}{fW:α ->W}(pr:α ->Bool)(eW:α ->W){keep:Mp ->Prop}{M1:Mp}{own:Nat}{fr:cV Nat}{ρ:c8}{g:WG}{c:WT}{el:WE}{q:WK}(hz:l.length<=sizeLine)(nw: ∀M,Sm M1 M ->keep M) (hs: ∀a∈l, ∀ (M:Mp) (N:fP W ->Mp ->Prop),Sm M1 M ->N (if pr a=true then some (eW a) else none) M ->g (fW a) (nS own fr ρ) M λρ2 M2=>c ρ2 M2 λb M3=>i8 b (el ρ2 M3 λy M4=>N (some y) M4) (N none M3)) (hq: ∀p,M1 p=none ->q (wr p) (um M1 p (.lst ((l.filter pr).map eW)))):yS (l.map fW) keep own fr g c el ρ M1 q:=by
 exact#[by rw[ai];show hz,λp hp=>#[λi ys M=>M=um M1 p (.lst ys) /\ ys=((l.take i).filter pr).map eW,#[rfl,by simp],?_,?_,?_]];rintro i ys M hi ⟨rfl,rfl⟩;exact#[nw _ (bw hp),aq,?_];rw[ai];exact av (List.length_filter_le _ _) ?_;rw[cj];lia;rintro i x ys M hx ⟨rfl,rfl⟩;let⟨a,ha,rfl⟩:=z_ hx;have e:l.take (i+1)=l.take i++ [a]:=by rw[List.take_add_one,ha];rfl
 exact hs a (be ha) _ (λo M4=>match o with
 | some y=>M4 p=some (.lst (((l.take i).filter pr).map eW)) /\ (um M4 p (.lst (((l.take i).filter pr).map eW++ [y]))=um M1 p (.lst (((l.take i).filter pr).map eW++ [y])) /\ ((l.take i).filter pr).map eW++ [y]=((l.take (i+1)).filter pr).map eW)
 | none=>M4=um M1 p (.lst (((l.take i).filter pr).map eW)) /\ ((l.take i).filter pr).map eW=((l.take (i+1)).filter pr).map eW) (bw hp) ?_
 cases hf:pr a with
 | false=>rw[ak (by simp)];show#[rfl,by rw[e,List.filter_append];simp[hf]]
 | true=>rw[am rfl];show#[aq,jv,by rw[e,List.filter_append];simp[hf]]
 rintro ys M ⟨rfl,rfl⟩;rw[ai,List.take_length];show hq p hp
def fB {α:Type}{l:cV α}{fW:α ->W}(eW:α ->W){keep:Mp ->Prop}{M1:Mp}{own:Nat}{fr:cV Nat}{ρ:c8}{g:WG}{c:WT}{el:WE}{q:WK}(hz:l.length<=sizeLine)(nw: ∀M,Sm M1 M ->keep M) (hs: ∀a∈l, ∀ (M:Mp) (N:fP W ->Mp ->Prop),Sm M1 M ->N (some (eW a)) M ->g (fW a) (nS own fr ρ) M λρ2 M2=>c ρ2 M2 λb M3=>i8 b (el ρ2 M3 λy M4=>N (some y) M4) (N none M3)) (hq: ∀p,M1 p=none ->q (wr p) (um M1 p (.lst (l.map eW)))):yS (l.map fW) keep own fr g c el ρ M1 q:=by exact tf (λ_=>true) eW hz nw (λa ha M N s h=>hs a ha M N s ⇑h) λp hp=> ?_;have e:l.filter (λ_=>true)=l:=List.filter_eq_self.mpr λ_ _=>rfl;rw[e];show hq p hp
end
def zW:fC:=λ_ _ _=>False
theorem yu {P:RV}{w:W4}{K:RS}{mg:Str ->fP cW}{base:X4}{CX:zl}{k:Nat}{f:gL}{fd:X6}{ps:cV Str}:bA P w K mg base CX k f fd ps (fF K zW):=#[λvs H Q E ⟨_,_,_,_,_,h,_⟩=>h.elim,λA outer s H args us vs Q E hr=>by
 intros;rename_i h;first
 | (let⟨_,_,_,_,_,h,_⟩:=h;show h.elim)]
end WL
namespace WQ
open PySem L2 WL WP
def ft (f:Int ->Int)(e:Int):Nat ->Int ->Int
 | 0,_=>0
 | n+1,x=>ft f e n x+f (x - e*n)
def l0 (f:Int ->Int)(e:Int):Nat ->Int ->Int
 | 0,_=>0
 | n+1,x=>l0 f e n x - f (x+e*(n+1:Nat))
def j7 (f:Int ->Int)(e n x:Int):Int:=if n<0 then l0 f e (-n).toNat x else ft f e n.toNat x
def uG (f:Int ->Int)(e n x:Int):j7 f e (n+1) x=j7 f e n x+f (x - e*n):=by
 unfold j7;by_cases h:n<0;rw[am h];let⟨m,hm⟩: ∃m:Nat,(-n).toNat=m+1:=#[(-n).toNat - 1, ∅]
 have en:n= -((m:Int)+1):= ∅;have ex:x - e*n=x+e*((m+1:Nat):Int):=by rw[en,Int.mul_neg];push_cast;lia
 rw[hm,l0,ex];by_cases h1:n+1<0;rw[am h1,show(-(n+1)).toNat=m by lia];lia;rw[ak h1,show(n+1).toNat=0 by lia];have:m=0:= ∅;subst this;simp![ft,l0];lia;rw[ak h,ak ∅,show(n+1).toNat=n.toNat+1 by lia,ft];have:((n.toNat:Nat):Int)=n:= ∅;rw[this]
theorem CV (f:Int ->Int)(e:Int): ∀ (n:Nat) (x:Int),j7 f e n x+j7 f e (-n) (x - e*n)=0
 | 0,x=>rfl
 | n + 1,x=>by
  have ih:=CV f e n x;have h1:=uG f e n x;have h2:=uG f e (-(n+1:Nat)) (x - e*(n+1:Nat));have e1:(-((n+1:Nat):Int))+1= -(n:Int):= ∅;rw[e1] at h2;have e2:(((n+1:Nat)):Int)=(n:Int)+1:= ∅;rw[e2] at h2 ⊢;have e3:x - e*((n:Int)+1) - e* -((n:Int)+1)=x:=by rw[Int.mul_neg];lia
  rw[e3] at h2;have sh: ∀ (m:Nat) (z:Int),l0 f e m (z - e)=l0 f e m z - f z+f (z+e*m):=by
   intro m;induction m with
   | zero=>intro z;simp![l0];rw[Int.ofNat_zero,Int.mul_zero,Int.add_zero];lia
   | succ m ihm=>
    intro z;have a1:z - e+e*((m+1:Nat):Int)=z+e*m:=by
     push_cast;rw[Int.mul_add,Int.mul_one];lia
    rw[l0,ihm,l0,a1];lia
  have hs:=sh (n+1) (x - e*n);have Ca:j7 f e (-((n:Int)+1)) (x - e*((n:Int)+1))=l0 f e (n+1) (x - e*n - e):=by unfold j7;rw[am ∅,show(- -((n:Int)+1)).toNat=n+1 by lia];congr 1;rw[Int.mul_add,Int.mul_one];lia
  have hs3:j7 f e (-(n:Int)) (x - e*n)=l0 f e n (x - e*n):=by unfold j7;by_cases h0:n=0;subst h0;rfl;rw[am ∅,show(- -(n:Int)).toNat=n by lia]
  have hs4:l0 f e (n+1) (x - e*n)=l0 f e n (x - e*n) - f (x - e*n+e*((n+1:Nat):Int)):=rfl;have e5:x - e*n+e*((n+1:Nat):Int)=x+e:=by push_cast;rw[Int.mul_add,Int.mul_one];lia
  rw[Ca,hs,hs4,e5,h1];rw[hs3] at ih;lia
theorem rK {f g:Int ->Int}{e:Int}(h: ∀x,g x= -f (x+e)): ∀ (n:Nat) (x:Int),ft g (-e) n x=l0 f e n x
 | 0,_=>rfl
 | n +1,x=>by
  rw[ft,l0,rK h n x,h];have:x - -e*n+e=x+e*((n+1:Nat):Int):=by rw[Int.neg_mul];push_cast;rw[Int.mul_add,Int.mul_one];lia
  rw[this];lia
theorem xo {p:Int}{f g:Int ->Int}{e:Int}(h: ∀x,f x % p=g x % p): ∀ (n:Nat) (x:Int),ft f e n x % p=ft g e n x % p
 | 0,_=>rfl
 | n+1,x=>by rw[ft,ft,Int.add_emod,xo h n x,h, <- Int.add_emod]
theorem ji (f:Int ->Int)(x:Int): ∀n:Nat,ft f 0 n x=f x*n
 | 0=>by simp[ft]
 | n+1=>by rw[ft,ji f x n,Int.zero_mul,Int.sub_zero];push_cast;rw[Int.mul_add,Int.mul_one]
structure gk (p:Int)(a:Rd)(n:Int)(r:Rd):Prop where
 en:r.1=a.1*n
 pt:dB p r.2
 at_: ∀x,eY r.2 x=j7 (eY a.2) a.1 n x % p
theorem gk.eq {p:Int}(hp:0<p){a:Rd}{n:Int}{r r':Rd}(h:gk p a n r)(h':gk p a n r'):r=r':=Nd (h.en.trans h'.en.symm) (zU hp h.pt h'.pt λx=>(h.at_ x).trans (h'.at_ x).symm)
def gk.wj {p:Int}(hp:0<p){a r:Rd}{n:Int}(hn:n<0)(h:gk p (bk p a) (-n) r):gk p a n r:=by exact#[?_,h.pt,λx=> ?_];rw[h.en];change -a.1* -n=a.1*n;rw[Int.neg_mul_neg];rw[h.at_];unfold j7;rw[ak ∅,am hn];change ft (eY (bk p a).2) (-a.1) (-n).toNat x % p=_;rw[<- rK (f:=eY a.2) (g:=λx=> -eY a.2 (x+a.1)) (λ_=>rfl)];show xo (λy=>by rw[MQ hp,Int.emod_emod_of_dvd _ (Int.dvd_refl p)]) _ _
def mU (e:Int)(n:Nat)(q:Int×Int):Pt:=(List.range n).map λ(k:Nat)=>(q.1+e*k,q.2)
def kF (e:Int)(n:Nat)(l:Pt):Pt:=(l.map (mU e n)).flatten
theorem xi (e x:Int)(q:Int×Int): ∀n:Nat,eY (mU e n q) x=ft (eY [q]) e n x
 | 0=>rfl
 | n +1=>by
  have:mU e (n+1) q=mU e n q++ [(q.1+e*n,q.2)]:=by unfold mU;rw[List.range_succ,bn];rfl
  rw[this,fL,xi e x q n,ft];congr 1;simp![eY];by_cases c:q.1+e*n=x;rw[am c,am ∅];rw[ak c,ak ∅]
theorem xp (f g:Int ->Int)(e x:Int): ∀n:Nat,ft (λy=>f y+g y) e n x=ft f e n x+ft g e n x
 | 0=>rfl
 | n+1=>by rw[ft,ft,ft,xp f g e x n];lia
theorem xn (e x:Int): ∀n:Nat,ft (λ_=>0) e n x=0
 | 0=>rfl
 | n+1=>by rw[ft,xn e x n];rfl
theorem xj (e:Int)(n:Nat)(x:Int): ∀l:Pt,eY (kF e n l) x=ft (eY l) e n x
 | []=>by have:eY ([]:Pt)=λ_=>0:=rfl;rw[this,xn];rfl
 | q ::l=>by
  have e1:kF e n (q::l)=mU e n q++kF e n l:=rfl;have e2:eY (q::l)=λy=>eY [q] y+eY l y:=by funext y;have:=fL [q] l y;show this
  rw[e1,fL,xi,xj e n x l,e2,xp]
theorem sv (e:Int)(n:Nat): ∀l:Pt,(kF e n l).length=l.length*n
 | []=>by simp[kF]
 | q::l=>by have e1:kF e n (q::l)=mU e n q++kF e n l:=rfl;rw[e1,aK,sv e n l,mU,ai,List.length_range,aL,Nat.succ_mul];lia
theorem uD (b:Rd)(x:Int): ∀n:Nat,eY (mX b n) x=ft (eY b.2) b.1 n x
 | 0=>rfl
 | n+1=>by
  rw[mX,fL,uD b x n,zH,ft];have:x - (n:Int)*b.1=x - b.1*n:=by rw[Int.mul_comm]
  rw[this]
def LH:fC:=λxs M q=>dQ λ(p:Int) (a:Rd) (n:Int)=>zy (xs= [wi p,ge a,wi n]) (0<p) (p<1000) (dB p a.2) (a.2.length<=40000) (0<=n) (a.1≠0 ->n<100000 /\ a.2.length*n.toNat<=100000) (∀r:Rd,gk p a n r ->(a.1=0 ->r.2.length<=a.2.length) ->(a.1≠0 ->r.2.length<=a.2.length*n.natAbs) ->q (ge r) M)
def Nu:fC:=λxs M q=>dQ λ(p:Int) (a:Rd) (n:Int)=>Kz (xs= [wi p,ge a,wi n]) (0<p) (p<1000) (dB p a.2) (a.2.length<=40000) (a.1≠0 -> -100000<n /\ n<100000 /\ a.2.length*n.natAbs<=100000) (∀r:Rd,gk p a n r ->(a.1=0 ->r.2.length<=a.2.length) ->(a.1≠0 ->r.2.length<=a.2.length*n.natAbs) ->q (ge r) M)
end WQ
namespace HT
open PySem PySem.Spec PyProof.Rows
section
variable {prog:RV}{w:W4}{A:X7}{E:cW ->df ->Prop}{s:df}
def Hm {t b:gL}{ws:cV cW}{Q:cW ->df ->Prop}(ht:IsTup s.heap t ([]:cV cW).toArray)(hb:IsTup s.heap b ws.toArray)(h1:Q (.ref b) s):wpAny (model prog w) A (binaryOp .Add (.ref t) (.ref b)) Q E s:=by let⟨⟨cls,dd,data,sl⟩,ho,hc,n,hd⟩:=id ht;let⟨⟨acR,U0,data2,Lq⟩,Of,DK,n2,hd2⟩:=id hb;simp only at hc hd DK hd2;subst hc hd DK hd2;show concat_meets #[_,ho,rfl] #[_,Of,rfl] noFill_tuple_add seq_tuple_add PySem.F.slot_tuple_add PySem.F.entry_tuple_add (PySem.F.args_tuple_add_2 _ _) (tuple_addW0 t b _ ws.toArray n n2 dd U0 sl Lq (by rfl)) #[ho,Of,h1]
end
end HT
namespace L2
open PySem PySem.Spec PyProof.Rows
section
variable {X:Cx}
def LC (K:RS):R2:=λx y H Q=>gb λa b xs ys=>zy (x= .ref a) (y= .ref b) (jY K H a xs) (jY K H b ys) (xs.length+ys.length<=sizeLine) (xs= [] ->Q (.ref b) H) (xs≠ [] ->ys= [] ->Q (.ref a) H) (xs≠ [] ->ys≠ [] -> ∀p,H p=none ->Q (.ref p) (cF H p (.tup (xs++ys))))
def BH:iJ X (binaryOp .Add) (LC X.K):=by
 intro af s σ H x y v u Q I rx ry h;let⟨a,b,xs,ys,rfl,rfl,ha,hb,hz,q0,q1,q2⟩:=h;by_cases hx:xs= []
 subst hx;cases rx;cases ry;let⟨bJ,r1,p1,_⟩:=I.tuple ha;let⟨wu,r2,p2,_⟩:=I.tuple hb;have e:bJ= []:=r1.jm.mpr rfl;subst e;show HT.Hm p1 p2 #[.ref b,H,I,rfl,q0 rfl];show Jy af s σ H _ _ v u Q I rx ry #[a,b,xs,ys,rfl,rfl,ha,hb,hx,hz,q1 hx,q2 hx]
end
end L2
namespace WL
open PySem L2
section
variable {K:RS}
def K':qi:=λx y M q=>cx λl l'=>eT (x= .tup l) (y= .tup l') (l.length+l'.length<=sizeLine) (q (.tup (l++l')) M)
def cM.jm {H:Hp}{l:cV W}{vs:cV V}(r:cM K H l vs):vs= []↔l= []:=by have:=r.length;cases l<;>cases vs<;>simp_all
instance:IR K (LC K) K' where
 imp :=by rintro x y v u M H q Q m r1 r2 ⟨l,l',rfl,rfl,hz,h⟩ k;let⟨a,vs,rfl,hv,r⟩:=r1.tup;let⟨b,us,rfl,hu,r'⟩:=r2.tup;exact#[a,b,vs,us,rfl,rfl,hv,hu,by rw[r.length,r'.length];show hz,λe=> ?_,λ_ e=> ?_,λ_ _ p hp=> ?_];rw[r.jm.mp e,List.nil_append] at h;show k _ M _ H h (aY.refl H) m (WR.NQ hu r');rw[r'.jm.mp e,dn] at h;show k _ M _ H h (aY.refl H) m (WR.NQ hv r);show k _ M _ _ h (L2.fI.ts (bZ hp)) (m.new hp) (WR.NQ (jY.of bP) ((r.append r').ts (L2.fI.ts (bZ hp))))
def T_ {l l':cV W}{M:Mp}{q:WK}:K' (.tup l) (.tup l') M q=dW (l.length+l'.length<=sizeLine) (q (.tup (l++l')) M):=by apply propext;symm;rintro⟨_,_,h1,h2,h3,k⟩;cases h1;cases h2;show#[h3,k];rintro⟨h3,k⟩;show#[_,_,rfl,rfl,h3,k]
end
end WL
namespace L2
open PySem PySem.Spec PyProof.Rows
section
variable {X:Cx}{tg:Expr}
def N8 (K:RS)(tl:TE):TI:=λσ H R=>tl σ H λx H1=> ∃a,x= .ref a /\ (((∃xs,gT K H1 a xs) /\ R (U6 K a) H1) \/ ((∃xs,jY K H1 a xs) /\ R (U4 K a) H1))
def Nk {l:Expr}{tl:TE}(hl:PE X l tl):PI X tg l (N8 X.K tl):=by
 intro af s σ H R I h;exact cN (hl af s σ H _ I h) λv s1 ⟨x,H1,I1,r1,q1⟩=> ?_;let⟨a,e,q1⟩:=q1;subst e;cases r1;have fin: ∀b∈ [s1.heap.objs.size],jS X af H1 b:=λb hb=>by have e:b=s1.heap.objs.size:= ⇑hb;subst e;show I1.Aq (ao _) (I1.cS.fresh (ao _))
 rcases q1 with⟨⟨xs,hq⟩,q⟩ | ⟨⟨xs,hq⟩,q⟩
 let⟨bJ,rv,p,hz⟩:=I1.list hq;exact wpAny_pyIter_list p.isList ?_;show#[s1.heap.objs.size,[s1.heap.objs.size],_,_,H1,rfl,I1.kept (t':=s1.toks) λb o e=>ar _ e,uB a _,#[_,aT _ rfl,rfl,rfl],fin,q];let⟨bJ,rv,p,hz⟩:=I1.tuple hq;exact wpAny_pyIter_tuple (show s1.heap.IsTuple a bJ.toArray from p) ?_;show#[s1.heap.objs.size,[s1.heap.objs.size],_,_,H1,rfl,I1.kept (t':=s1.toks) λb o e=>ar _ e,rG a _,#[_,aT _ rfl,rfl,rfl],fin,q]
end
end L2
namespace WL
open PySem L2
section
variable {K:RS}
def Ja (x:W)(M:Mp)(q:cV W ->(Mp ->Prop) ->Mp ->Prop):Prop:=(cx λp l=>cT (x=wr p) (M p=some (.lst l)) (q l (λM'=>M' p=some (.lst l)) M)) \/ ∃l,x= .tup l /\ q l (λ_=>True) M
def RO (a:WE):WI:=λρ M q=>a ρ M λx M1=>Ja x M1 q
instance {t:TE}{a:WE} [ia:IE K t a]:II K (N8 K t) (RO a) where
 imp :=λρ M σ H q R o h k=>ia.imp ρ M σ H _ _ o h λx M1 v H1 h1 t1 m1 r1=>by
  rcases h1 with⟨p,l,e,hp,h1⟩ | ⟨l,e,h1⟩
  subst e;let⟨vs,hv,rr⟩:=m1 p _ hp;show#[p,r1.eq, .inl #[#[vs,gT.of hv],k l _ _ M1 H1 h1 t1 m1 uU]];subst e;let⟨p,vs,rfl,hv,rr⟩:=r1.tup;show#[p,rfl, .inr #[#[vs,hv],k l _ _ M1 H1 h1 t1 m1 (yh hv rr)]]
theorem WY {a:WE}{ρ:c8}{M:Mp}{q:cV W ->(Mp ->Prop) ->Mp ->Prop}:RO a ρ M q=a ρ M λx M1=>Ja x M1 q:=rfl
def V6 {p:gL}{M:Mp}{q:cV W ->(Mp ->Prop) ->Mp ->Prop}:Ja (.v (.ref p)) M q=lstK (M p) λl=>q l (λM'=>M' p=some (.lst l)) M:=by apply propext;symm;rintro(⟨_,l,h1,h2,k⟩ | ⟨_,h1,_⟩);cases h1;show#[l,h2,k];cases h1;rintro⟨l,h2,k⟩;show .inl #[_,l,rfl,h2,k]
def V5 {l:cV W}{M:Mp}{q:cV W ->(Mp ->Prop) ->Mp ->Prop}:Ja (.tup l) M q=q l (λ_=>True) M:=by apply propext;symm;rintro(⟨_,_,h1,_⟩ | ⟨_,h1,k⟩);cases h1;cases h1;show k;intro k;show .inr #[l,rfl,k]
end
end WL
namespace WQ
open PySem L2 WL WP
def cv (a b:cV Int):Nat ->Nat ->Int
 | 0,_=>0
 | k+1,n=>cv a b k n+if k<=n then a.getD k 0*b.getD (n - k) 0 else 0
structure IsPart (p:Int)(one other q r:List Int):Prop where
 qs:Mt p q
 rs:Mt p r
 len:r.length<other.length
 ql:q.length<=one.length
 eq: ∀n,one.getD n 0 % p=(cv q other q.length n+r.getD n 0) % p
end WQ
namespace L2
open PySem PySem.Spec PyProof.Rows
theorem uA: ∀ {ss:cV Str} {us:cV cW},b_ (ss.map V.str) us -> ∃l:cV (Str×Tok),us=strValues l /\ l.map (·.1)=ss
 | [],_,h=>by cases h;show#[[],rfl,rfl]
 | x ::r,_,h=>by
  cases h with
  | cons h1 h2=>let⟨t,rfl⟩:=h1;let⟨l,rfl,e⟩:=uA h2;show#[(x,t)::l,rfl,by rw[aN,e]]
section
variable {X:Cx}
def Fw (K:RS):V ->cV V ->Hp ->VK ->Prop:=λx vs H Q=>dQ λ(iL:Str) (b:gL) (ss:cV Str)=>jX (x= .str iL) (vs= [.ref b]) (gT K H b (ss.map V.str)) (Builtin.Str.tooLong (ss.toArray.foldl (· + ·.length+iL.length) 0)=false) ((Builtin.Str.glued iL ss).length<=sizeLine) (Q (.str (Builtin.Str.glued iL ss)) H)
def JM:Tk X "str.join" (Fw X.K):=by
 intro af s σ H x xs v us Q I rx rv h;let⟨iL,b,ss,rfl,rfl,hb,hl,hg,q⟩:=h;let⟨t,rfl⟩:=rx;let⟨u,rfl,ru⟩:=vals1 rv;cases ru;let⟨bJ,r,p,hz⟩:=I.list hb;let⟨l,rfl,e⟩:=uA r;exact call_meets PySem.F.slot_str_join (typeIs_str _ _ _) PySem.F.entry_str_join (PySem.F.args_str_join_2 _ _) (meets_str_join_list iL t b l (by rw[e];show hl)) #[p.isList,?_];match l,e with
 | [],e=>have e:ss= []:=e.symm;subst e;show#[hg, .str _,H,I.tok _,#[_,rfl],q]
 | [y],e=>have e:ss= [y.1]:=e.symm;subst e;show#[.str y.1,H,I,#[y.2,rfl],q]
 | y::z::l',e=>subst e;show#[hg, .str _,H,I.tok _,#[_,rfl],q]
def LD:R2:=λx y H Q=>cx λi j=>eT (x= .str i) (y= .str j) (i.length+j.length<=sizeLine) (Q (.str (i++j)) H)
theorem BI:iJ X (binaryOp .Add) LD:=zY
end
end L2
namespace WL
open PySem L2
section
variable {K:RS}
def ME (r:WM)(a:WE)(b:WA):WE:=λρ M q=>a ρ M λx M1=> ∃y,x=ws y /\ b ρ M1 λxs M2=>r x xs M2 q
instance {r:V ->cV V ->Hp ->VK ->Prop}{w:WM}{t:TE}{u:TA}{a:WE}{b:WA} [ir:IM K r w] [ia:IE K t a] [ib:IA K u b]:IE K (VZ K "str" r t u) (ME w a b) where
 imp :=λρ M σ H q Q o h k=>ia.imp ρ M σ H _ _ o h λx M1 v H1 ⟨y,e,h1⟩ t1 m1 r1=>by subst e;cases r1.eq;show#[rfl,ib.imp ρ M1 σ H1 _ _ (o.mv t1 m1) h1 λz M2 u H2 h2 t2 m2 r2=>ir.imp (ws y) (.str y) z u M2 H2 _ _ m2 WR.v r2 h2 λz M3 v3 H3 h3 t3 m3 r3=>k z M3 v3 H3 h3 ((t1.trans t2).trans t3) m3 r3]
theorem cM.strs {H:Hp}: ∀ {ss:cV Str} {vs:cV V},cM K H (ss.map ws) vs ->vs=ss.map V.str
 | [],vs,h=>by simpa only[List.map_nil,cM] using h
 | n::r,vs,h=>by simp![aN,cM] at h;let⟨v,t,rfl,h1,h2⟩:=h;rw[cM.strs h2,h1.eq];rfl
def K6:WM:=λx ys M q=>dQ λ(iL:Str) (b:gL) (ss:cV Str)=>jX (x=ws iL) (ys= [wr b]) (M b=some (.lst (ss.map ws))) (Builtin.Str.tooLong (ss.toArray.foldl (· + ·.length+iL.length) 0)=false) ((Builtin.Str.glued iL ss).length<=sizeLine) (q (ws (Builtin.Str.glued iL ss)) M)
instance:IM K (Fw K) K6 where
 imp:=by rintro x v ys us M H q Q m r1 r2 ⟨iL,b,ss,rfl,rfl,hb,hl,hg,h⟩ k;cases r1.eq;let⟨u,rfl,r⟩:=r2.one;cases r.eq;let⟨vs,hv,rr⟩:=m b _ hb;cases rr.strs;show#[iL,b,ss,rfl,rfl,gT.of hv,hl,hg,k _ M _ H h (aY.refl H) m WR.v]
def Lb:qi:=λx y M q=>cx λi j=>eT (x=ws i) (y=ws j) (i.length+j.length<=sizeLine) (q (ws (i++j)) M)
instance:IR K LD Lb where
 imp:=by rintro x y v u M H q Q m r1 r2 ⟨i,j,rfl,rfl,hz,h⟩ k;cases r1.eq;cases r2.eq;show#[i,j,rfl,rfl,hz,k _ M _ H h (aY.refl H) m WR.v]
def Uc {i j:Str}{M:Mp}{q:WK}:Lb (.v (.str i)) (.v (.str j)) M q=dW (i.length+j.length<=sizeLine) (q (ws (i++j)) M):=by apply propext;symm;rintro⟨_,_,h1,h2,h3,k⟩;cases h1;cases h2;show#[h3,k];rintro⟨h3,k⟩;show#[_,_,rfl,rfl,h3,k]
def vG (x:W)(k:Str ->Prop):Prop:= ∃y,x=ws y /\ k y
def V2 {y:Str}{k:Str ->Prop}:vG (.v (.str y)) k=k y:=by apply propext;symm;rintro⟨_,h,k⟩;cases h;show k;intro h;show#[_,rfl,h]
def VI {r:WM}{a:WE}{b:WA}{ρ:c8}{M:Mp}{q:WK}:ME r a b ρ M q=a ρ M λx M1=>vG x λy=>b ρ M1 λxs M2=>r (ws y) xs M2 q:=by unfold ME vG;congr 1;funext x M1;apply propext;symm;rintro⟨y,rfl,h⟩;show#[y,rfl,h];rintro⟨y,rfl,h⟩;show#[y,rfl,h]
def VE {a:WE}{ρ:c8}{M:Mp}{q:WK}:MB a ρ M q=a ρ M λx M1=>DD x λi=>dW (i.natAbs.log2<1920) (q (ws (toString i)) M1):=by unfold MB DD dW;congr 1;funext x M1;show propext #[λ⟨i,a,b,c⟩=>#[i,a,b,c],λ⟨i,a,b,c⟩=>#[i,a,b,c]]
def VD {a:WE}{ρ:c8}{M:Mp}{q:WK}:MA a ρ M q=a ρ M λx M1=>vG x λy=>dW (y.length<=sizeLine) (q (ws y) M1):=by unfold MA vG dW;congr 1;funext x M1;show propext #[λ⟨i,a,b,c⟩=>#[i,a,b,c],λ⟨i,a,b,c⟩=>#[i,a,b,c]]
theorem ac9 {out:Str}{ρ:c8}{M:Mp}{q:WK}:wJ0 out ρ M q=dW (out.length<=sizeLine) (q (ws out) M):=rfl
def ac8 {a:WE}{f:Str ->WE}{out:Str}{ρ:c8}{M:Mp}{q:WK}:Vw a f out ρ M q=a ρ M λx M1=>vG x λy=>dW ((out++y).length<=sizeLine) (f (out++y) ρ M1 q):=by unfold Vw vG dW;congr 1;funext x M1;show propext #[λ⟨i,a,b,c⟩=>#[i,a,b,c],λ⟨i,a,b,c⟩=>#[i,a,b,c]]
end
end WL
namespace WQ
open PySem L2 WL WP
def IY {a b:Str}(h:a.cps.toList=b.cps.toList):a=b:=by cases a;cases b;congr 1;show Array.toList_inj.mp h
def CH (a b:Str):(a++b).cps.toList=a.cps.toList++b.cps.toList:=by change(a.cps++b.cps).toList=_;simp
def str_len (a:Str):a.length=a.cps.toList.length:=by change a.cps.size=_;simp
def gr (a b:Str):(a++b).length=a.length+b.length:=by rw[str_len,CH,aK, <- str_len, <- str_len]
def uZ (iL:Str): ∀ (x:Str) (ss:cV Str),(Builtin.Str.glued iL (x::ss)).cps.toList=x.cps.toList++(ss.map λy=>iL.cps.toList++y.cps.toList).flatten:=by
 intro x ss;unfold Builtin.Str.glued;change(ss.foldl (λfq p=>fq++iL.cps++p.cps) x.cps).toList=_;generalize x.cps=a;induction ss generalizing a with
 | nil=>simp
 | cons y ss ih=>rw[List.foldl_cons,ih,aN,List.flatten_cons];simp
theorem uY (iL:Str):Builtin.Str.glued iL []=Str.empty:=rfl
theorem ny (iL:Str){c:Nat}: ∀ (ss:cV Str),(∀x∈ss,x.length<=c) ->(Builtin.Str.glued iL ss).length<=ss.length*(c+iL.length)
 | [],_=>by rw[uY];show cZ _
 | x :: ss,h=>by
  rw[str_len,uZ,aK, <- str_len];have h1:=h x (by simp);have h2:((ss.map λy=>iL.cps.toList++y.cps.toList).flatten).length<=ss.length*(c+iL.length):=by
   have: ∀l:cV Str,(∀y∈l,y.length<=c) ->((l.map λy=>iL.cps.toList++y.cps.toList).flatten).length<=l.length*(c+iL.length):=by
    intro l hl;induction l with
    | nil=>simp
    | cons y l ih=>rw[aN,List.flatten_cons,aK,aK, <- str_len, <- str_len,aL,Nat.succ_mul];have:=hl y (by simp);have:=ih λz hz=>hl z (by simp[hz]);lia
   show this ss λy hy=>h y (by simp[hy])
  rw[aL,Nat.succ_mul];lia
def Qt (iL:Str){c:Nat}(ss:cV Str)(h: ∀x∈ss,x.length<=c)(hz:ss.length*(c+iL.length) <=sizeLine):Builtin.Str.tooLong (ss.toArray.foldl (· + ·.length+iL.length) 0)=false:=by
 have: ∀ (l:cV Str) (n:Nat),(∀y∈l,y.length<=c) ->l.foldl (λ(a:Nat) (y:Str)=>a+y.length+iL.length) n<=n+l.length*(c+iL.length):=by
  intro l;induction l with
  | nil=>intro n _;simp
  | cons y l ih=>intro n hl;rw[List.foldl_cons,aL,Nat.succ_mul];have h1:=hl y (by simp);have h2:=ih (n+y.length+iL.length) λz hz=>hl z (by simp[hz]);lia
 have h1:=this ss 0 h;unfold Builtin.Str.tooLong;rw[decide_eq_false_iff_not,List.foldl_toArray];lia
theorem N1 {M:Mp}{q:WK}{iL:Str}{b:gL}{ss:cV Str}{c:Nat}(hb:M b=some (.lst (ss.map ws)))(h: ∀x∈ss,x.length<=c)(hz:ss.length*(c+iL.length) <=sizeLine)(k:q (ws (Builtin.Str.glued iL ss)) M):K6 (ws iL) [wr b] M q:=#[iL,b,ss,rfl,rfl,hb,Qt iL ss h hz,av (ny iL ss h) hz,k]
theorem cz {n:Nat}(h:n<=5000):n<=sizeLine:=av h (by rw[sizeLine_eq];decide)
def cs (n r:Int)(l:Pt):Int:=((l.filter λz=>decide (z.1 % n=r)).map (·.2)).sum
end WQ
namespace L2
open PySem PySem.Spec PyProof.Rows
section
variable {X:Cx}{tg l:Expr}{tl:TE}{K:RS}
def kr (hK:X.K=K)(hl:PE X l tl):PI X tg l (GC K tl):=by subst hK;show qZ hl
def mZ (hK:X.K=K)(hl:PE X l tl):PI X tg l (N7 K tl):=by subst hK;show ox hl
def Bz (hK:X.K=K)(hl:PE X l tl):PI X tg l (N8 K tl):=by subst hK;show Nk hl
end
end L2
namespace WL
open PySem L2
def fe {X:Cx}{K:RS}(hK:X.K=K):fi X (.builtin "len") (Nf K):=by subst hK;show DZ
end WL
namespace WQ
open PySem L2 WL WP
abbrev Cf:=Nat ->Int
def U1:Nat ->Cf ->Cf ->Int
 | 0,f,g=>f 0*g 0
 | n+1,f,g=>f 0*g (n+1)+U1 n (λi=>f (i+1)) g
def co (l:cV Int):Cf:=λi=>l.getD i 0
def Mult (p:Int)(a g:Cf):Prop:=cx λ(E:Cf) (N:Nat)=>(∀i,N<=i ->E i % p=0) /\ ∀n,a n % p=U1 n E g % p
def vy (p:Int)(a g h:Cf):Prop:=dQ λ(A B:Cf) (N:Nat)=>(∀i,N<=i ->A i % p=0 /\ B i % p=0) /\ ∀n,a n % p=(U1 n A g+U1 n B h) % p
def FV (p:Int)(a:Rd)(v:Int):Prop:=cx λlo hi=>cT (Tl (Lp a) lo) (Tn (Lp a) hi) (v=fwv p a lo hi)
open Classical in
noncomputable def fv (p:Int) (a:Rd):Int:=if h: ∃v,FV p a v then h.choose else 0
def names:cV Str:= ["on","back","up","down"]
def Uk (p:Int)(s:Str):Rd:=if s= "on" then(1,[]) else if s= "back" then(-1,[]) else if s= "up" then(0,[(0,1)]) else(0,[(0,p - 1)])
end WQ
namespace L2
open PySem
def rX {X:Cx}{K:RS}(hK:X.K=K):iJ X (compareOp .In) (Q4 K false):=by subst hK;show Dc
def fg {X:Cx}{K:RS}(hK:X.K=K):fi X (.builtin "isinstance") (Nh K):=by subst hK;show Hn
end L2
namespace WQ
open PySem L2 WL WP
def pairsOf (p:Int)(z:Int×Int):Pt:=if z.2<=p - z.2 then List.replicate z.2.toNat (z.1,1) else List.replicate (p - z.2).toNat (z.1, -1)
def Vb:Int ->Pt ->Int
 | _,[]=>0
 | here,z::r=>Tb (here - z.1)+Vb z.1 r
end WQ
namespace L2
open PySem PySem.Spec PyProof.Rows
def Inv.freeze {X:Cx}{af:cV (gL×Obj)}{σ:St}{H:Hp}{s:df}{d:gL}{v:HO}{o:Obj}(I:Inv X af σ H s)(e:H d=some v)(ho:s.heap.get? d=some o)(n1: ∀xs,HO.tup xs≠v:=by intro _ q;cases q)(n2: ∀a b,HO.jV a b≠v:=by intro _ _ q;cases q)(n3: ∀a,HO.own a≠v:=by intro _ q;cases q)(n4: ∀a,HO.IQ a≠v:=by intro _ q;cases q): Inv X af σ (cF H d (.jV o v)) s:=by
 have ne: ∀ {b u},H b=some u ->u≠v ->b≠d:=λ{b u} h n z=>by subst z;rw[e] at h;show n (bg h).symm
 have JI: ∀ {b},H b=none ->b≠d:=λ{b} h z=>by subst z;rw[e] at h;cases h
 exact#[I.ok,I.os,I.bare,#[I.base.keep,I.base.slot,λb u h1 h2 h3=> ?_,I.base.there,λb xs h=> ?_,λb o' u h=> ?_,λb ps h=> ?_],I.loc,I.cell,?_,λx c h=> ?_,λp hp=> ?_,λb u h=> ?_,I.len];have z:=I.base.free b u h1 h2 h3;rw[bK (JI z)];show z;have z:=I.base.mF b xs h;rw[bK (ne z (n1 _))];show z;have z:=I.base.lE b o' u h;rw[bK (ne z (n2 _ _))];show z;let⟨more,z⟩:=I.base.ol b ps h;show#[more,by rw[bK (ne z (n4 _))];show z];rw[bK (JI I.free)];show I.free;rw[bK (JI (I.f6 x c h))];show I.f6 x c h;let⟨a1,a2,a3⟩:=I.pin p hp;show#[a1,by rw[bK (JI a2)];show a2,a3];have ow: ∀c,H c=some (.own b) ->cF H d (.jV o v) c=some (.own b):=λc r=>by rw[bK (ne r (n3 _))];show r
 have tu: ∀c xs,H c=some (.tup xs) ->cF H d (.jV o v) c=some (.tup xs):=λc xs r=>by rw[bK (ne r (n1 _))];show r
 by_cases hb:b=d;subst hb;rw[bP] at h;cases h;show#[ho,(I.cS b _ e).rL (λ_ _ _ h=>h) ow tu];rw[bK hb] at h;show(I.cS b u h).rL (λ_ _ _ h=>h) ow tu
def U7 (d:gL)(o:Obj)(kvs:cV (cg×V)):It:=#[λi H=>i<kvs.length /\ H d=some (.jV o (.dK kvs)),λi H x H'=>H'=H /\ ∃kv,kvs[i]? =some kv /\ x=kv.2,λi H=>kvs.length<=i /\ H d=some (.jV o (.dK kvs))]
theorem LR: ∀ {kvs:cV (cg×V)} {vs:cV (cg×cW)} {i:Nat} {q:cg×cW},KV kvs vs ->vs[i]? =some q -> ∃p,kvs[i]? =some p /\ RelV p.2 q.2
 | _,_,0,_, .cons ⟨_,r⟩ _,e=>by cases e;show#[_,rfl,r]
 | _,_,i+1,q, .cons _ t,e=>by have e':_=some q:=e;rw[List.getElem?_cons_succ] at e' ⊢;show LR t e'
def wA {X:Cx}{af:cV (gL×Obj)}{σ:St}{H:Hp}{s:df}{d:gL}{o:Obj}{kvs:cV (cg×V)}{es:RQ DictEntry}{ep:Nat}(I:Inv X af σ H s)(ho:o.data= .dict es ep)(e:H d=some (.jV o (.dK kvs))): ∃vs,KV kvs vs /\ s.heap.DictAt (cJ X.prog X.w) d vs ep:=by
 let⟨h0,_,_,vs,fG,o',UY,UZ,h1,h2,h3,h4⟩:=(show dG X.prog X.w H s.heap d (.jV o (.dK kvs)) from I.cS d _ e)
 rw[h0] at h1;cases h1;rw[ho] at h3;cases h3;show#[vs,fG,o,es,h0,h2,ho,h4]
def CQ {P:RV}{w:W4}{K:RS}{tg:Expr}{d it:gL}{o:Obj}{kvs:cV (cg×V)}{es:RQ DictEntry}{ep:Nat}(ho:o.data= .dict es ep): wL P w K tg (U7 d o kvs) [it] it (λi h=>h.IsValIter it d i kvs.length ep) where
 mem:=by simp
 obj:=λi h st b hb=>by have e:b=it:= ⇑hb;subst e;let⟨o,e,c,d⟩:=st;show#[o,e,λv z=>by rw[d] at z;cases z]
 keep:=λi h h' st k=>st.at λo e=>k it (by simp) o e
 item:=by
  intro X hP hw hK hc i af s σ H E I hf st hg;subst hP hw hK;let⟨hi,hH⟩:=hg;let⟨vs,fG,hd⟩:=wA I ho hH;have hl:=fG.length;rw[hl] at st hi;let⟨f0,f1,f2,f3,f4,f5⟩:=hf it (by simp);let⟨⟨k,x⟩,hx⟩: ∃q,vs[i]? =some q:=#[vs[i],by simp[hi]]
  let⟨p,hp,rp⟩:=LR fG hx;exact wpAny_pyNext_values_item st hd hx λh' Al fZ=> ?_;have I1:Inv X af σ H {s with heap:=h'}:=I.turned (t':=s.toks) (λb o hb e=>(fZ.2 b hb).trans e) f0 f1 f3 f4 f5;let⟨oo,e,c,dd⟩:=id Al;rw[<- hl] at Al;show#[x,rfl,uX (s:= {s with heap:=h'}) e c dd ⋯ #[p.2,H,I1,rp,#[rfl,p,hp,rfl],Al,λb hb=>(hf b hb).1]]
 done:=by intro X hP hw hK hc i af s σ H E I hf st hg;subst hP hw hK;let⟨hi,hH⟩:=hg;let⟨vs,fG,hd⟩:=wA I ho hH;have hl:=fG.length;rw[hl] at st hi;let⟨f0,f1,f2,f3,f4,f5⟩:=hf it (by simp);show wpAny_pyNext_values_end (I.ok.hd hc) st hd (by simp;omega) λh' eb=>#[rfl,I.turned (t':=s.toks) (λb o hb e=>eb b o hb e) f0 f1 f3 f4 f5]
 self:=λ_ _ _ _ _ st h=>wpAny_pyIter_valiter st h
section
variable {X:Cx}{tg o:Expr}{td:TE}{dz dy:Pos}
def L0 (td:TE):TI:=λσ H R=>td σ H λx H1=>cx λd kvs=>cT (x= .ref d) (H1 d=some (.dK kvs)) (∀o,R (U7 d o kvs) (cF H1 d (.jV o (.dK kvs))))
def Jj (ho:PE X o td)(yt:attributeBase o "values" X.env (eval o X.env)=eval o X.env:=by rfl)(yn:(dz.endLine==dy.line)=true:=by rfl):PI X tg (.Call (.Attribute o "values" dz) [] [] dy) (L0 td):=by
 intro af s σ H R I h;exact wpAny_Call_method0_late yt yn (cN (ho af s σ H _ I h) λv s1 ⟨x,H1,I1,r1,d,kvs,ex,hd,q1⟩=> ?_);subst ex;obtain rfl:v=Value.ref d:=r1;let⟨t1,t2,sys⟩:=Ai I1 (.inl #[kvs, .inl hd]);exact#["dict","dict.values",PySem.F.plainAttrs_dict,PySem.F.slot_dict_values,PySem.F.type_dict_values,t1,t2,Calls.callWith_builtin rfl (PySem.evalArgs_none ?_)];let⟨z,N_,vs,fG,dd⟩:=nJ I1.cS (.inl hd);exact call_meetsIn PySem.F.slot_dict_values dd.typeIs PySem.F.entry_dict_values (PySem.F.args_dict_values_1 _) (meets_dict_values (cJ X.prog X.w) d N_) #[#[vs,dd],?_];let⟨ob,es,ep,g1,g2,g3,g4⟩:=dd;have da:s1.heap.DictAt (cJ X.prog X.w) d vs ep:=#[ob,es,g1,g2,g3,g4]
 exact wpAny_pyIter_values (d:=d) (kvs:=vs) (ep:=ep) (knd:=cJ X.prog X.w) #[_,aT _ rfl,rfl,rfl] (da.push _) ?_;have I2:=I1.freeze hd g1;exact#[_,[_],_,U7 d ob kvs,_,rfl,I2.kept (t':=s1.toks) λb o e=>ar _ (ar _ e),CQ g3,?_,λb hb=> ?_,q1 ob];rw[fG.length];show#[_,aT _ rfl,rfl,rfl];have I3:Inv X af σ (cF H1 d (.jV ob (.dK kvs))) {s1 with heap:=s1.heap.push {cls:= .type "dict_values",data:= .fields #[.ref d]}}:=I2.kept (t':=s1.toks) λb o e=>ar _ e;have e:=a_.mp hb;subst e;show I3.Aq (ao _) (I3.cS.fresh (ao _))
end
end L2
namespace WL
open PySem L2
variable {K:RS}
def Gs (a:WE):WI:=λρ M q=>a ρ M λx M1=>cx λd kvs=>cT (x=wr d) (M1 d=some (.dK kvs)) (∀o ks,q (kvs.map (·.2)) (λM'=>M' d=some (.fz o ks kvs)) (um M1 d (.fz o ks kvs)))
theorem LS: ∀ {H:Hp} {kvs:cV (cg×W)} {vs:cV (cg×V)} {i:Nat} {q:cg×V},KR K H kvs vs ->vs[i]? =some q -> ∃p,kvs[i]? =some p /\ WR K H p.2 q.2
 | _,_,_,0,_, .cons ⟨_,r⟩ _,e=>by cases e;show#[_,rfl,r]
 | _,_,_,i+1,q, .cons _ t,e=>by have e':_=some q:=e;rw[List.getElem?_cons_succ] at e' ⊢;show LS t e'
theorem Ag {H:Hp}: ∀ {kvs:cV (cg×W)} {vs:cV (cg×V)},KR K H kvs vs ->kvs.length=vs.length
 | _,_, .nil=>rfl
 | _,_, .cons _ t=>by rw[aL,aL,Ag t]
def Dy {H1:Hp}{d:gL}{o:Obj}{kvs:cV (cg×W)}{ks:cV (cg×V)}:AI K H1 (U7 d o ks) (kvs.map (·.2)) (λM'=>M' d=some (.fz o ks kvs)):=by intro i M H t m hM;let⟨e1,r1⟩:=m d _ hM;have hl:=Ag r1;rw[ai];exact#[λh=>#[by omega,e1],λh=>#[by omega,e1],λv H' hi ⟨e2,kv,hk,e3⟩=> ?_];subst e2 e3;let⟨p,hp,rp⟩:=LS r1 hk;show#[aY.refl _,m,p.2,by rw[aH,hp];rfl,rp]
instance {t:TE}{a:WE} [ia:IE K t a]:II K (L0 t) (Gs a) where
 imp:=λρ M σ H q R o h k=>ia.imp ρ M σ H _ _ o h λx M1 v H1 ⟨d,kvs,ex,hd,h1⟩ t1 m1 r1=>by subst ex;let⟨ks,e,r⟩:=m1 d _ hd;exact#[d,ks,r1.eq,e,λob=>k _ _ _ _ _ (h1 ob ks) (t1.trans (j6 e)) (m1.put (j6 e) #[bP,KR.ts (j6 e) r]) Dy]
def UG {a:WE}{ρ:c8}{M:Mp}{q:cV W ->(Mp ->Prop) ->Mp ->Prop}:Gs a ρ M q=a ρ M λx M1=>eI x λd=>hJ (M1 d) λkvs=> ∀o ks,q (kvs.map (·.2)) (λM'=>M' d=some (.fz o ks kvs)) (um M1 d (.fz o ks kvs)):=by unfold Gs eI hJ;congr 1;funext x M1;apply propext;symm;(· rintro⟨p,l,h1,h2,h⟩;show#[p,h1,l,h2,h]);(· rintro⟨p,h1,l,h2,h⟩;show#[p,l,h1,h2,h])
end WL
namespace WQ
open PySem L2 WL WP
def SW (n:Int):Pt ->Int ->Int
 | [],_=>0
 | z::r,k=>(if z.1 % n=k then z.2 else 0)+SW n r k
def SK {P:RV}{w:W4}{K:RS}{mg:Str ->fP cW}{base:X4}{CX:zl}{k:Nat}{f:gL}{fd:X6}{ps:cV Str}{p1 p2 p3:fC}(F1:bA P w K mg base CX k f fd ps (fF K p1))(F2:bA P w K mg base CX k f fd ps (fF K p2)) (h: ∀xs M q,p3 xs M q ->p1 xs M q \/ p2 xs M q):bA P w K mg base CX k f fd ps (fF K p3):=by exact#[λvs H Q E ⟨xs,M,q,r,m,h3,k⟩=> ?_,λA outer s H args us vs Q E hr e b v ⟨xs,M,q,r,m,h3,k⟩=> ?_];obtain h4 | h4:=h xs M q h3;show F1.len vs H Q E #[xs,M,q,r,m,h4,k];show F2.len vs H Q E #[xs,M,q,r,m,h4,k];obtain h4 | h4:=h xs M q h3;show F1.run A outer s H args us vs Q E hr e b v #[xs,M,q,r,m,h4,k];show F2.run A outer s H args us vs Q E hr e b v #[xs,M,q,r,m,h4,k]
def fl (p:Int)(m:Nat)(f:Pt):cV Int:=(List.range m).map λ(k:Nat)=>SW m f k % p
end WQ
namespace L2
open PySem PySem.Spec PyProof.Rows
section
variable {X:Cx}{k:Nat}{f:gL}{fd:X6}{ps:cV Str}{sp:Sp}{E:XK}{x:Str}{p pos:Pos}{e:Expr}{es:cV Expr}{t:TA}{st:Stmt}
theorem gv (hP:gi (gX X.prog X.w) X E)(C:gV X.K X.mg x ps st f fd)(F:bA X.prog X.w X.K X.mg X.base (gX X.prog X.w) k f fd ps sp)(hr:dX k X.A)(hg:Gl X x) (ha:PA X (e::es) t) (uW:(x==("__debug__" :Str))=false:=by decide) (he:starEach (e::es) X.env=(false,eval e X.env)::starEach es X.env:=by rfl) (n_:(backTo pos (starEach es X.env)).any (·.1)=false:=by rfl): PE X (.Call (.Name x p) (e::es) [] pos) (uF sp [] E t):=BC F hr hg C.at_ C.fn.kp C.bd .nil hP ha uW he n_
end
end L2
namespace WQ
open PySem L2 WL WP
def acQ (s x:Int):Int:=if s=0 then x else x % s
def hI (s x:Int):Int:=if s=0 then 0 else x / s
def NU:cV Int ->Int
 | []=>0
 | a::r=>r.foldl (λm x=>if x<m then x else m) a
def plc (l:Pt):cV Int:=l.map (·.1)
end WQ
namespace L2
open PySem
structure PB (K:PySem.W.Frag)(mg:Str ->Option Value)(x qual:Str)(ps:List Str)(st:Stmt)(C f:Addr)(fd:FuncData):Prop where
 at_:mg x=some (.ref C)
 mkr:Mk K C f
 cl:zk K C
 fn:za K "__init__" qual st f fd
 bd:Binds K fd ps []
section
variable {X:Cx}{k:Nat}{f C:gL}{fd:X6}{ps:cV Str}{sp:Sp}{x qual:Str}{st:Stmt}{p pos:Pos}{e:Expr}{es:cV Expr}{t:TA}
theorem iX (M:PB X.K X.mg x qual ps st C f fd)(F:bA X.prog X.w X.K X.mg X.base eU k f fd ps sp)(hr:dX (k+1) X.A)(hg:Gl X x) (ha:PA X (e::es) t) (uW:(x==("__debug__" :Str))=false:=by decide) (he:starEach (e::es) X.env=(false,eval e X.env)::starEach es X.env:=by rfl) (n_:(backTo pos (starEach es X.env)).any (·.1)=false:=by rfl): PE X (.Call (.Name x p) (e::es) [] pos) (E5 C sp [] E0 t):=Jl M.mkr F hr hg M.at_ M.bd .nil BD ha uW he n_
end
end L2
namespace WL
open PySem L2
section
variable {K:RS}
theorem ye {H:Hp}{f:Str}{x:W}: ∀ {fs:cV (Str×W)} {ks:cV (Str×V)},KR K H fs ks ->fs.lookup f=Option.some x -> ∃v,ks.lookup f=Option.some v /\ WR K H x v
 | _,_, .nil,h=>by cases h
 | (g,y)::fs,(g',v)::ks, .cons ⟨e,r⟩ t,h=>by
  cases (show g=g' from e);rw[List.lookup_cons] at h ⊢;cases hb:f==g with
  | true=>rw[hb] at h;cases h;show#[v,rfl,r]
  | false=>rw[hb] at h;show ye t h
def hZ (f:Str)(v:W):cV (Str×W) ->cV (Str×W)
 | []=> [(f,v)]
 | (g,x)::r=>if g=f then(g,v)::r else(g,x)::hZ f v r
theorem BW {H:Hp}{f:Str}{x:W}{v:V}(rx:WR K H x v): ∀ {fs:cV (Str×W)} {ks:cV (Str×V)},KR K H fs ks ->KR K H (hZ f x fs) (L2.iW f v ks)
 | _,_, .nil=> .cons #[rfl,rx] .nil
 | (g,y)::fs,(g',u)::ks, .cons ⟨e,r⟩ t=>by cases (show g=g' from e);unfold hZ L2.iW;split;show .cons #[rfl,rx] t;show .cons #[rfl,r] (BW rx t)
theorem BX {H:Hp}: ∀ {kvs:cV (Str×W)} {vs:cV (Str×V)},KR K H kvs vs ->kvs.length=vs.length
 | _,_, .nil=>rfl
 | _,_, .cons _ t=>by rw[aL,aL,BX t]
def MC (K:RS)(a:WE)(f:Str):WE:=λρ M q=>a ρ M λx M1=>vx λp C dx fs v=>jX (x=wr p) (M1 p=some (.ins C dx fs)) (zk K C) (eh K C f) (fs.lookup f=some v) (q v M1)
instance {t:TE}{a:WE}{f:Str} [ia:IE K t a]:IE K (MU K t f) (MC K a f) where
 imp:=λρ M σ H q Q o h k=>ia.imp ρ M σ H _ _ o h λx M1 v H1 ⟨p,C,dx,fs,y,ex,hp,hc,hn,hl,h1⟩ t1 m1 r1=>by subst ex;let⟨ks,e,r⟩:=m1 p _ hp;let⟨u,hu,ru⟩:=ye r hl;show#[p,C,dx,ks,u,r1.eq,e,hc,hn,hu,k _ _ _ _ h1 t1 m1 ru]
def Fn (K:RS)(a b:WE)(f:Str):WS:=λD ρ M=>b ρ M λy M1=>a ρ M1 λx M2=>gb λp C dx fs=>jX (x=wr p) (M2 p=some (.ins C dx fs)) (zk K C) (eh K C f) (fs.length<1000) (D.nx ρ (um M2 p (.ins C dx (hZ f y fs))))
instance {t u:TE}{a b:WE}{f:Str} [ia:IE K t a] [ib:IE K u b]:IS K (QV K t u f) (Fn K a b f) where
 imp:=λρ M σ H D' D o h e=>ib.imp ρ M σ H _ _ o h λy M1 v1 H1 h1 t1 m1 r1=>ia.imp ρ M1 σ H1 _ _ (o.mv t1 m1) h1 λx M2 v2 H2 ⟨p,C,dx,fs,ex,hp,hc,hn,hl,h2⟩ t2 m2 r2=>by subst ex;let⟨ks,ek,r⟩:=m2 p _ hp;have ts:=MN (u:= .ins C dx (iW f v1 ks)) ek;exact#[p,C,dx,ks,r2.eq,ek,hc,hn,by rw[<- BX r];show hl,e.nx ρ _ σ _ h2 ((t1.trans t2).trans ts) (o.mv ((t1.trans t2).trans ts) (m2.put ts #[_,bP,KR.ts ts (BW (r1.ts t2) r)]))]
def K4 (C:gL)(p:fC)(a:WA):WE:=λρ M q=>a ρ M λxs M1=> ∀x dx,M1 x=none ->M1 dx=none ->dx≠x ->p (wr x::xs) (um M1 x (.ins C dx [])) λv M2=>v=wn /\ q (wr x) M2
instance {C:gL}{p:fC}{E:XK}{t:TA}{a:WA} [ia:IA K t a]:IE K (E5 C (fF K p) [] E t) (K4 C p a) where
 imp:=λρ M σ H q Q o h k=>ia.imp ρ M σ H _ _ o h λxs M1 vs H1 h1 t1 m1 r1=>λx dx hx Ip mB=>by
  have hx2:cF H1 dx (.own x) x=none:=by rw[bK (de mB)];show hx
  have ts1:aY H1 (cF H1 dx (.own x)):=L2.fI.ts (bZ Ip);have Qr:aY (cF H1 dx (.own x)) (cF (cF H1 dx (.own x)) x (.ins C dx [])):=L2.fI.ts (bZ hx2);exact#[wr x::xs,um M1 x (.ins C dx []),λv M2=>v=wn /\ q (wr x) M2,cM.cons WR.v (by rw[dn];show r1.ts (ts1.trans Qr)),(m1.new Ip).put Qr #[[],bP, .nil],h1 x dx (m1.fresh hx) (m1.fresh Ip) mB,?_];rintro y M' u H' ⟨rfl,hq⟩ ts m' r';show#[r'.eq,k _ _ _ _ hq (t1.trans ((ts1.trans Qr).trans ts)) m' WR.v]
def wv (o:fP MO)(k:gL ->gL ->cV (Str×W) ->Prop):Prop:=dQ λC dx fs=>o=some (.ins C dx fs) /\ k C dx fs
def W3 {C dx:gL}{fs:cV (Str×W)}{k:gL ->gL ->cV (Str×W) ->Prop}:wv (some (.ins C dx fs)) k=k C dx fs:=by apply propext;symm;rintro⟨_,_,_,e,h⟩;cases e;show h;intro h;show#[_,_,_,rfl,h]
def VF {a:WE}{f:Str}{ρ:c8}{M:Mp}{q:WK}:MC K a f ρ M q=a ρ M λx M1=>eI x λp=>wv (M1 p) λC dx fs=>dW (zk K C) (dW (eh K C f) (lC (fs.lookup f) λv=>q v M1)):=by unfold MC eI wv dW lC;congr 1;funext x M1;apply propext;symm;rintro⟨p,C,dx,fs,v,e1,e2,e3,e4,e5,h⟩;show#[p,e1,C,dx,fs,e2,e3,e4,v,e5,h];rintro⟨p,e1,C,dx,fs,e2,e3,e4,v,e5,h⟩;show#[p,C,dx,fs,v,e1,e2,e3,e4,e5,h]
def Um {a b:WE}{f:Str}{D:fD}{ρ:c8}{M:Mp}:Fn K a b f D ρ M=b ρ M λy M1=>a ρ M1 λx M2=>eI x λp=>wv (M2 p) λC dx fs=>dW (zk K C) (dW (eh K C f) (dW (fs.length<1000) (D.nx ρ (um M2 p (.ins C dx (hZ f y fs)))))):=by unfold Fn eI wv dW;congr 1;funext y M1;congr 1;funext x M2;apply propext;symm;rintro⟨p,C,dx,fs,e1,e2,e3,e4,e5,h⟩;show#[p,e1,C,dx,fs,e2,e3,e4,e5,h];rintro⟨p,e1,C,dx,fs,e2,e3,e4,e5,h⟩;show#[p,C,dx,fs,e1,e2,e3,e4,e5,h]
theorem ln {C:gL}{p:fC}{a:WA}{ρ:c8}{M:Mp}{q:WK}:K4 C p a ρ M q=a ρ M λxs M1=> ∀x dx,M1 x=none ->M1 dx=none ->dx≠x ->tt p (wr x::xs) (um M1 x (.ins C dx [])) λv M2=>v=wn /\ q (wr x) M2:=rfl
end
end WL
namespace L2
open PySem
nonrec def eA (s:Stmt)(j:Nat):Stmt:=match s with
 | .ClassDef _ _ _ b _ _ _ _ _ _ _=>b.getD j (.Pass #[0,0,0,0])
 | _=> .Pass #[0,0,0,0]
end L2
namespace L2
open PySem PySem.Spec PyProof.Rows
def Inv.VX {X:Cx}{af:cV (gL×Obj)}{σ:St}{H:Hp}{s:df}{d:gL}{kvs:cV (cg×V)}{o:Obj}(I:Inv X af σ H s)(e:H d=some (.jV o (.dK kvs)))(h0: ∀o u,X.H₀ d≠some (.jV o u)): Inv X af σ (cF H d (.dK kvs)) s:=by
 have ne: ∀ {b u},H b=some u ->u≠ .jV o (.dK kvs) ->b≠d:=λ{b u} h n z=>by subst z;rw[e] at h;show n (bg h).symm
 have JI: ∀ {b},H b=none ->b≠d:=λ{b} h z=>by subst z;rw[e] at h;cases h
 exact#[I.ok,I.os,I.bare,#[I.base.keep,I.base.slot,λb u h1 h2 h3=> ?_,I.base.there,λb xs h=> ?_,λb o' u h=> ?_,λb ps h=> ?_],I.loc,I.cell,?_,λx c h=> ?_,λp hp=> ?_,λb u h=> ?_,I.len];have z:=I.base.free b u h1 h2 h3;rw[bK (JI z)];show z;have z:=I.base.mF b xs h;rw[bK (ne z (λq=>nomatch q))];show z;have z:=I.base.lE b o' u h;have nb:b≠d:=λz=>h0 o' u (z▸h);rw[bK nb];show z;let⟨more,z⟩:=I.base.ol b ps h;show#[more,by rw[bK (ne z (λq=>nomatch q))];show z];rw[bK (JI I.free)];show I.free;rw[bK (JI (I.f6 x c h))];show I.f6 x c h;let⟨a1,a2,a3⟩:=I.pin p hp;show#[a1,by rw[bK (JI a2)];show a2,a3];have ow: ∀c,H c=some (.own b) ->cF H d (.dK kvs) c=some (.own b):=λc r=>by rw[bK (ne r (λq=>nomatch q))];show r
 have tu: ∀c xs,H c=some (.tup xs) ->cF H d (.dK kvs) c=some (.tup xs):=λc xs r=>by rw[bK (ne r (λq=>nomatch q))];show r
 by_cases hb:b=d;subst hb;rw[bP] at h;cases h;have z:=(I.cS b _ e).rL (H':=cF H b (.dK kvs)) (h':=s.heap) (λ_ _ _ h=>h) ow tu;show z.2;rw[bK hb] at h;show(I.cS b u h).rL (λ_ _ _ h=>h) ow tu
end L2
namespace WL
open PySem L2
variable {K:RS}
theorem Gm: ∀ {H:Hp} {kvs:cV (cg×W)} {vs:cV (cg×V)} {i:Nat} {q:cg×V},KR K H kvs vs ->vs[i]? =some q -> ∃p,cT (kvs[i]? =some p) (p.1=q.1) (WR K H p.2 q.2)
 | _,_,_,0,_, .cons ⟨e0,r⟩ _,e=>by cases e;show#[_,rfl,e0,r]
 | _,_,_,i+1,q, .cons _ t,e=>by have e':_=some q:=e;rw[List.getElem?_cons_succ] at e' ⊢;show Gm t e'
theorem MP {H:Hp}{a:gL}{o:Obj}{xs:cV (cg×V)}{u:HO}(h:H a=some (.jV o (.dK xs))):aY H (cF H a u):=A4 h (λ_ z=>nomatch z) λ_ _ z=>nomatch z
end WL
set_option maxHeartbeats 4000000
namespace WL
open PySem L2
def QX {a b:WE}{D:fD}{ρ:c8}{M:Mp}:zO a b D ρ M=a ρ M λx M1=>b ρ M1 λy M2=>eI x λp=>jO y λk=>hJ (M2 p) λkvs=>dW ((eX kvs k).isSome=true) (D.nx ρ (um M2 p (.dK (jc kvs k)))):=by unfold zO eI jO hJ dW;congr 1;funext x M1;congr 1;funext y M2;apply propext;symm;rintro⟨p,kvs,k,e1,e2,e3,e4,h⟩;show#[p,e1,k,e3,kvs,e2,e4,h];rintro⟨p,e1,k,e3,kvs,e2,e4,h⟩;show#[p,kvs,k,e1,e2,e3,e4,h]
end WL
namespace WQ
open PySem L2 WL WP
abbrev Th:=Int×Int×Int
def putL (s:Int)(V1:cV Pt)(tl:cV Th):Pt:=tl.flatMap λt=>(V1.getD t.1.toNat []).map λz=>(z.1+t.2.1*s,z.2*t.2.2)
def iW (s x:Int)(V1:cV Pt)(t:Th):Int:=eY (V1.getD t.1.toNat []) (x - t.2.1*s)*t.2.2
end WQ
namespace L2
open PySem
def AT:Nat ->(cV cW ->Prop) ->Prop
 | 0,p=>p []
 | n+1,p=> ∀v,AT n λus=>p (v::us)
theorem AT.to: ∀ {n:Nat} {p:cV cW ->Prop},AT n p -> ∀us,us.length=n ->p us
 | 0,_,h,[],_=>h
 | _+1,_,h,v::us,e=>AT.to (h v) us (Nat.succ.inj e)
section
variable {K:RS}{h:X4}{mg:Str ->fP cW}{x:Str}{ps:cV Str}{st:Stmt}{f C:gL}{oc:cW}{od an:fP gL}{zX:RQ (fP cW)}{kV iH pm cdv ct:cW}
theorem bQ (X:K.In h)(G:h.Ns mainGlobals mg)(a:W.nsIn K mainGlobals x=some (some (.ref f))) (l:K.lookup f=some #[oc,od, .func (W.fnOf x x (eD st) (dt st) (aP st) .none kV iH pm an cdv ct),zX]) (c:W.codeIn K cdv x=true) (k:W.keepIn K (.ref f)=true) (b: ∀ (kV iH pm:cW) (an:fP gL) (cdv ct:cW),AT ps.length λus=>bindArgs (W.fnOf x x (eD st) (dt st) (aP st) .none kV iH pm an cdv ct) #[us,[]]=pure (ps.zip us):=by(repeat intro _);rfl): gV K mg x ps st f (W.fnOf x x (eD st) (dt st) (aP st) .none kV iH pm an cdv ct):=#[W.mg_of X G a,oZ l c k,(oZ (st:=st) l c k).binds λkV iH pm an cdv ct us e=>(b kV iH pm an cdv ct).to us e]
theorem Hk {q:Str}(X:K.In h)(G:h.Ns mainGlobals mg)(a:W.nsIn K mainGlobals x=some (some (.ref C)))(g:W.findIn K (.ref C) "__init__" =some (some (.ref f))) (l:K.lookup f=some #[oc,od, .func (W.fnOf "__init__" q (eD st) (dt st) (aP st) .none kV iH pm an cdv ct),zX]) (c:W.codeIn K cdv q=true) (k:W.keepIn K (.ref f)=true) (h1:W.makesIn K C=true) (h2:W.isFn K (.ref f)=true) (h3:W.keepIn K (.ref C)=true) (h4:W.plainGet K C Str.empty=true) (h5:W.hasDictIn K C=true) (h6:W.plainOver K C=true) (h7:W.findIn K (.ref C) "__setattr__" =some (some (.builtin "object.__setattr__"))) (b: ∀ (kV iH pm:cW) (an:fP gL) (cdv ct:cW),AT ps.length λus=>bindArgs (W.fnOf "__init__" q (eD st) (dt st) (aP st) .none kV iH pm an cdv ct) #[us,[]]=pure (ps.zip us):=by(repeat intro _);rfl): PB K mg x q ps st C f (W.fnOf "__init__" q (eD st) (dt st) (aP st) .none kV iH pm an cdv ct):=#[W.mg_of X G a,#[h1,g,h2,h3],#[h4,h5,h6,h7],oZ l c k,(oZ (st:=st) l c k).binds λkV iH pm an cdv ct us e=>(b kV iH pm an cdv ct).to us e]
theorem su {q:Str}{fd:X6}(_:PB K mg x q ps st C f fd)(a:Str)(e:W.findIn K (.ref C) a=some none):eh K C a:=e
theorem PF {cd:ClassData}(a:W.nsIn K mainGlobals x=some (some (.ref C)))(e:W.excIn K C SX "ValueError.__new__" =true)(k1:W.clsIn K C=some cd)(k2:W.findIn K (.ref C) "__getattribute__" =some (some (.builtin "BaseException.__getattribute__")))(k3:W.findIn K (.ref C) "__getattr__" =some none)(k4:W.findIn K (.ref C) "__class__" =some (some (.builtin "object.__class__")))(k5:W.mroIn K C (.type "object")=some true)(k6:W.mroIn K C (.type "BaseException")=some true):nW K x C:=#[a,e,(by rw[k1];rfl),k2,k3,k4,k5,k6]
def NV {l:W.OpenLaw}{w:W4}{fa:gL}{fd:X6}{p:Str}{kd:Nat}(T:gV K mg "law" [p] st f fd)(hfa:mg "law" =some (.ref fa))(hb: ∀ (kV iH pm:cW) (an:fP gL) (cdv ct v:cW),bindArgs (W.fnOf "law" "law" (eD st) (dt st) (aP st) .none kV iH pm an cdv ct) #[[v],[]]=pure [(p,v)]) (ok: ∀base,bA l.prog w K mg base eU kd f fd [p] (WQ.xt K)): ∃fd:X6,(∀ (s:df) (v:cW),BindsTo s fd #[[v],[]] [(p,v)]) /\ ∀base:X4,K.In base ->base.Ns mainGlobals mg ->bA l.prog w K mg base eU kd fa fd [p] (WQ.xt K):=by have e:=hfa.symm.trans T.at_;cases e;let⟨oc,od,kV,iH,pm,an,cdv,ct,zX,rfl,lk,Cd⟩:=T.fn.ex;show#[_,λs v=> .of_eq (hb kV iH pm an cdv ct v),λbase _ _=>ok base]
end
end L2
namespace WQ
open PySem L2 WL WP
def fam (s:Int)(b:Pt):Int ->Nat ->cV (Int ->Int)
 | _,0=> []
 | lo,n+1=>(λx=>look b (x - s*lo))::fam s b (lo+1) n
def cps (s:Int)(G:cV (Pt×Int×Nat)):cV (Int ->Int):=G.flatMap λg=>fam s g.1 g.2.1 g.2.2
def Kg (q js:Pt):Pt:=js.flatMap λj=>tm j.2 (mv j.1 q)
def Wb (s Z c:Int):Nat:=if s=0 then(Z - c+1).toNat else(s - c).toNat
def fW (s:Int)(a:Pt):W:=if plc a= [] then wn else wi (NU ((plc a).map (acQ s)))
def mz (s Z K c:Int)(q:Nat):Nat:=Wb s Z c*(K.toNat+2)+q
end WQ
namespace L2
open PySem
def bL {X:Cx}{K:RS}{e:Expr}{f:Str}{pos:Pos}{ta:TE}(hK:X.K=K)(he:PE X e ta)(hb:attributeBase e f X.env (eval e X.env)=eval e X.env):PE X (.Attribute e f pos) (MU K ta f):=by subst hK;show Nn he hb
end L2
namespace L2
open PySem PySem.Spec PyProof.Rows
section
variable {X:Cx}
def Bs:V ->cV V ->Hp ->VK ->Prop:=λx vs H Q=>dQ λl xs y=> ∃i:Nat,jX (x= .ref l) (vs= [.int i,y]) (H l=some (.lst xs)) (xs.length<sizeLine) (i<=xs.length) (Q .dO (cF H l (.lst (xs.take i++y::xs.drop i))))
def uO:U3 X "list.insert" Bs:=by
 intro af s σ H x vs v us Q I rx rv h;let⟨l,xs,y,i,rfl,rfl,hH,hz,hi,q⟩:=h;cases rx;let⟨u0,u,rfl,⟨tk,rfl⟩,ru⟩:=rv.two;let⟨z,bJ,n,r,hl,e⟩:=I.Ad hH;have hf:Builtin.List.listFitsIndex (i:Int)=true:=by have hs:=sizeLine_eq;unfold Builtin.List.listFitsIndex;rw[cI,dc,dc];lia
 let⟨x,hx⟩: ∃x:Int,x=(i:Int):=#[_,rfl]
 rw[<- hx] at hf ⊢;exact call_meets F.slot_list_insert #[_,e,rfl] F.entry_list_insert (F.args_list_insert_3 _ _ _) (PySem.AutoSeq1.list_insert_list_int_val_1 l bJ.toArray n x tk u (by simp[hf]) (by rw[aI];lia)) #[e,?_];exact#[.dO,_,I.JO (its':=bJ.take i++u::bJ.drop i) hH e ?_ ((r.take i).append (.cons ru (r.drop i))) ?_,rfl,q];have hk:(if x<0 then(x+(bJ.toArray.size:Int)).toNat else min x.toNat bJ.toArray.size)=i:=by rw[ak ∅,aI];lia
 change(bJ.toArray.extract 0 (if x<0 then(x+(bJ.toArray.size:Int)).toNat else min x.toNat bJ.toArray.size)).push u++bJ.toArray.extract (if x<0 then(x+(bJ.toArray.size:Int)).toNat else min x.toNat bJ.toArray.size)=_;rw[hk];apply Array.toList_inj.mp;simp;show List.take_of_length_le (by simp);rw[aK,aL,cj,List.length_drop];lia
end
end L2
namespace WL
open PySem L2
section
variable {K:RS}{M:Mp}{q:WK}
def IJ:WM:=λx ys M q=>dQ λa l y=> ∃i:Nat,jX (x=wr a) (ys= [wi i,y]) (M a=some (.lst l)) (l.length<sizeLine) (i<=l.length) (q wn (um M a (.lst (l.take i++y::l.drop i))))
instance:IM K Bs IJ where
 imp:=by rintro x v ys us M H q Q m r1 r2 ⟨a,l,y,i,rfl,rfl,hl,hn,hi,h⟩ k;cases r1.eq;let⟨u0,u,rfl,r0,r⟩:=r2.two;cases r0.eq;let⟨vs,hv,rr⟩:=m a _ hl;show#[a,vs,u,i,rfl,rfl,hv,by rw[rr.length];show hn,by rw[rr.length];show hi,k _ _ _ _ h (jh hv) (m.putL hv ((rr.take i).append (.cons r (rr.drop i)))) WR.v]
end
end WL
namespace L2
open PySem
structure oa (K:PySem.W.Frag)(m qual:Str)(ps:List Str)(st:Stmt)(C f:Addr)(fd:FuncData):Prop where
 Pd:HG K C m f
 cl:zk K C
 fn:za K m qual st f fd
 bd:Binds K fd ps []
section
variable {X:Cx}{k:Nat}{f C:gL}{fd:X6}{ps:cV Str}{sp:Sp}{m qual:Str}{st:Stmt}{pos dz:Pos}{o e:Expr}{es:cV Expr}{ta:TE}{t:TA}
theorem eJ {pl:Sem Bool}(M:oa X.K m qual ps st C f fd)(F:bA X.prog X.w X.K X.mg X.base eU k f fd ps sp)(hr:dX k X.A)(he:PE X o ta)(ha:PA X (e::es) t) (sN:starEach (e::es) X.env=(false,eval e X.env)::starEach es X.env:=by rfl) (n_:(backTo pos (starEach es X.env)).any (·.1)=false:=by rfl) (ht:eval (.Call (.Attribute o m dz) (e::es) [] pos) X.env=(do
  let ov <- eval o X.env
  standAt dz.atName
  let (f,first) <- holding [ov] (getMethod ov m pl)
  callWith pos f first (backTo pos (starEach (e::es) X.env)) (backToKw pos (keywordEach [] X.env))):=by rfl):
 PE X (.Call (.Attribute o m dz) (e::es) [] pos) (pq C m sp [] E0 ta t):=BB he M.cl M.Pd F hr M.bd .nil BD ha sN n_ ht
theorem oB {pl:Sem Bool}(M:oa X.K m qual ps st C f fd)(F:bA X.prog X.w X.K X.mg X.base eU k f fd ps sp)(hr:dX k X.A)(he:PE X o ta) (ht:eval (.Call (.Attribute o m dz) [] [] pos) X.env=(do
  let ov <- eval o X.env
  standAt dz.atName
  let (f,first) <- holding [ov] (getMethod ov m pl)
  callWith pos f first (backTo pos (starEach [] X.env)) (backToKw pos (keywordEach [] X.env))):=by rfl):
 PE X (.Call (.Attribute o m dz) [] [] pos) (pq C m sp [] E0 ta CU):=xL he M.cl M.Pd F hr M.bd .nil BD ht
end
section
variable {K:RS}{h:X4}{mg:Str ->fP cW}{x:Str}{ps:cV Str}{st:Stmt}{f g C:gL}{oc:cW}{od an:fP gL}{zX:RQ (fP cW)}{kV iH pm cdv ct:cW}
theorem sF {n:Int}{t:Tok}(X:K.In h)(G:h.Ns mainGlobals mg)(a:W.nsIn K mainGlobals x=some (some (.int n t))): ∃t,mg x=some (.int n t):=#[t,W.mg_of X G a]
theorem dH {m q q':Str}{ps':cV Str}{bE:Stmt}{fd':X6}(c0:PB K mg x q' ps' bE C g fd')(a:W.findIn K (.ref C) m=some (some (.ref f))) (l:K.lookup f=some #[oc,od, .func (W.fnOf m q (eD st) (dt st) (aP st) .none kV iH pm an cdv ct),zX]) (c:W.codeIn K cdv q=true) (k:W.keepIn K (.ref f)=true) (h2:W.isFn K (.ref f)=true) (b: ∀ (kV iH pm:cW) (an:fP gL) (cdv ct:cW),AT ps.length λus=>bindArgs (W.fnOf m q (eD st) (dt st) (aP st) .none kV iH pm an cdv ct) #[us,[]]=pure (ps.zip us):=by(repeat intro _);rfl): oa K m q ps st C f (W.fnOf m q (eD st) (dt st) (aP st) .none kV iH pm an cdv ct):=#[#[a,h2,k],c0.cl,oZ l c k,(oZ (st:=st) l c k).binds λkV iH pm an cdv ct us e=>(b kV iH pm an cdv ct).to us e]
end
end L2
namespace WL
open PySem L2
section
variable {K:RS}
theorem sD {H:Hp}{f:Str}: ∀ {fs:cV (Str×W)} {ks:cV (Str×V)},KR K H fs ks ->fs.lookup f=Option.none ->ks.lookup f=Option.none
 | _,_, .nil,_=>rfl
 | (g,y)::fs,(g',v)::ks, .cons ⟨e,r⟩ t,h=>by
  cases (show g=g' from e);rw[List.lookup_cons] at h ⊢;cases hb:f==g with
  | true=>rw[hb] at h;cases h
  | false=>rw[hb] at h;show sD t h
def EL (C:gL)(m:Str)(p:fC)(a:WE)(b:WA):WE:=λρ M q=>a ρ M λx M1=>dQ λ(o dx:gL) (fs:cV (Str×W))=>eT (x=wr o) (M1 o=some (.ins C dx fs)) (fs.lookup m=none) (b ρ M1 λxs M2=>p (x::xs) M2 q)
instance {C:gL}{m:Str}{p:fC}{E:XK}{t:TE}{u:TA}{a:WE}{b:WA} [ia:IE K t a] [ib:IA K u b]:IE K (pq C m (fF K p) [] E t u) (EL C m p a b) where
 imp:=λρ M σ H q Q o h k=>ia.imp ρ M σ H _ _ o h λx M1 v H1 ⟨ad,dx,fs,ex,hp,hl,h1⟩ t1 m1 r1=>by subst ex;let⟨ks,e,r⟩:=m1 ad _ hp;exact#[ad,dx,ks,r1.eq,e,sD r hl,ib.imp ρ M1 σ H1 _ _ (o.mv t1 m1) h1 λxs M2 vs H2 h2 t2 m2 r2=> ?_];exact#[wr ad::xs,M2,q,cM.cons (r1.ts t2) (by rw[dn];show r2),m2,h2,?_];intro y M' u H' hq ts m' r';show k _ _ _ _ hq ((t1.trans t2).trans ts) m' r'
def TV {C:gL}{m:Str}{p:fC}{a:WE}{b:WA}{ρ:c8}{M:Mp}{q:WK}:EL C m p a b ρ M q=a ρ M λx M1=>eI x λo=>wv (M1 o) λC' _ fs=>dW (C'=C /\ fs.lookup m=none) (b ρ M1 λxs M2=>tt p (x::xs) M2 q):=by unfold EL eI wv dW tt;congr 1;funext x M1;apply propext;symm;rintro⟨o,dx,fs,e1,e2,e3,h⟩;show#[o,e1,C,dx,fs,e2,#[rfl,e3],h];rintro⟨o,e1,C',dx,fs,e2,⟨rfl,e3⟩,h⟩;show#[o,dx,fs,e1,e2,e3,h]
end
end WL
namespace WQ
open PySem L2 WL WP
def LG:fC:=λxs M q=>dQ λ(p:Int) (a:Rd) (n:Int)=>zy (xs= [wi p,ge a,wi n]) (0<p) (p<1000) (dB p a.2) (a.2.length<=40000) (n<0) (a.1≠0 -> -100000<n /\ n<100000 /\ a.2.length*n.natAbs<=100000) (∀r:Rd,gk p a n r ->(a.1=0 ->r.2.length<=a.2.length) ->(a.1≠0 ->r.2.length<=a.2.length*n.natAbs) ->q (ge r) M)
def Jn {xs:cV W}{M:Mp}{q:WK}:Nu xs M q ->LH xs M q \/ LG xs M q:=by rintro⟨p,a,n,rfl,p0,p1,hP,hl,hb,k⟩;by_cases hn:n<0;show .inr #[p,a,n,rfl,p0,p1,hP,hl,hn,hb,k];exact .inl #[p,a,n,rfl,p0,p1,hP,hl, ∅,λh=> ?_,k];let⟨_,h2,h3⟩:=hb h;have e:n.toNat=n.natAbs:= ∅;rw[e];show#[h2,h3]
end WQ
namespace L2
open PySem PyProof.Rows PyProof.V PySem.Calls PySem.Spec
inductive yY (X:Cx):List ExceptHandler ->List (Addr×TS) ->Prop
 | nil:yY X [] []
 | cons {x:Str} {np Ob:Pos} {b₀:Stmt} {A_:List Stmt} {C:Addr} {ts:TS} {cU:List ExceptHandler} {al:List (Addr×TS)} (hg:Gl X x) (O:nW X.K x C) (hsu: ∀ea,wZ (X.pN (.ref ea)) (b₀::A_) ts) (r:yY X cU al) (uW:(x==("__debug__" :Str))=false:=by decide): yY X (.ExceptHandler (some (.Name x np)) none (b₀::A_) Ob::cU) ((C,ts)::al)
def rJ (K:RS):cV (gL×TS) ->gL ->TS
 | [],_=>λ_ _ _=>False
 | (D,ts)::r,C=>λE σ H=> ∃b,cT (W.kitOne K (.ref C) (.ref D)=some b) (b=true ->ts E σ H) (b=false ->rJ K r C E σ H)
def Kj {K:RS}{M:Model}{h:X4}{C D e:gL}{b:Bool}{oe:Obj}(X:K.In h)(kD:Tr K D)(mB:C≠D)(he:h.get? e=some oe)(hc:oe.cls= .ref C)(hk:W.kitOne K (.ref C) (.ref D)=some b): W.Looks M h (excMatches (.ref e) (.ref D)) b:=by
 exact W.exm_one (cls:= .ref C) X (OC he hc) ?_;have e1:(W.subIn K (.ref D) (.type "BaseException")==some true)=true:=by change(W.mroIn K D (.type "BaseException")==some true)=true;rw[kD.mb];rfl
 unfold W.exmOne;rw[am e1];unfold W.kitOne at hk;rwa [ak (λz=>mB (Value.ref.inj (beq_iff_eq.mp z)))] at hk
section
variable {X:Cx}{af:cV (gL×Obj)}{σ:St}{s':df}
def qe {E0:XK}{ev:cW}{H1:Hp}{s1:df}{D:tR}{hs:cV ExceptHandler}{al:cV (gL×TS)}(sN:X.stack=X.env::X.outer)(DJ:X.env.frame=some X.env.locals) (I:Inv X af σ H1 s1) (fl:gX X.prog X.w X.stack H1 s1 E0 ev s') (ph:yY X hs al) (k: ∀cls d H',E0 cls d H' -> ∃C,cls= .ref C /\ ∀ea,H' ea=none ->aY H1 (cF H' ea (.ext (gl ea C))) ->rJ X.K al C D σ (cF H' ea (.ext (gl ea C)))): wpAny (model X.prog X.w) X.A (noteFrame ev X.env) (λ_ s₂=>wpAny (model X.prog X.w) X.A (setFlight ev none) (λ_ s₃=>wpAny (model X.prog X.w) X.A (handleBy ev X.env hs) (SP X af D) X.xe s₃) X.xe s₂) X.xe s':=by
 let⟨ea,cls,a0,B,H2,rfl,os,bare,fl,cS,Cb,un,kb,kt,hE⟩:=fl;let⟨C,rfl,kk⟩:=k _ _ _ hE;exact wpAny_looks_onW (by rw[I.ok.frames,sN]) DJ (sN▸fl) λh₄ So up₄=> ?_;exact wpAny_landsW So λh₅ UX up₅=> ?_;rw[<- sN] at UX;let⟨I5,ts5⟩:=sE I os bare fl cS Cb un kb kt UX (up₄.trans up₅) (tk:=s'.toks);let⟨ob,hob,Sa⟩:=UX.there;have key:=kk ea Cb ts5;clear kk k;induction ph with
 | nil=>show key.elim
 | @cons x np Ob b₀ A_ D' ts cU al' hg O hsu r uW ih=>
  let⟨b,hk,ht,hf⟩:=key;have O':=BF I.ok.mod O.ns O.exc;exact wpAny_handleBy_cons (codeAny_handlers_test (JJ I5 hg O'.bound ?_ uW)) (by intro q;cases q);have good:b=true ->codeAny (model X.prog X.w) (X.A.mark (some (.ref ea))) (.handlers (.ref ea) [.ExceptHandler none none (b₀::A_) Ob] X.env) (λr s₂=>match r with
  | .ok f=>SP X af D f s₂
  | .error x=>cameBackBy (model X.prog X.w) X.A X.env X.xe x s₂) {s' with heap:=h₅}:=λhb=>by
   exact codeAny_handlers_suite ?_
   exact PyProof.Rows.lands_againW UX λh₆ fl₆ up₆=> ?_
   let⟨I6,ts⟩:=sE I os bare fl cS Cb un kb kt fl₆ ((up₄.trans up₅).trans up₆) (tk:=s'.toks)
   exact bz (hsu ea af _ σ _ D (I6.pN (.ref ea)) (ht hb)) (λf s8 h8=> ?_) λ_ _ z=>z.elim
   cases f with
   | next=>let⟨σ',H3,I8,q⟩:=h8;show#[_,_,I8.vZ I.ok,q]
   | brk=>let⟨σ',H3,I8,q⟩:=h8;show#[_,_,I8.vZ I.ok,q]
   | cont=>let⟨σ',H3,I8,q⟩:=h8;show#[_,_,I8.vZ I.ok,q]
   | ret u=>let⟨v,σ',H3,I8,r,q⟩:=h8;show#[v,_,_,I8.vZ I.ok,r,q]
  by_cases hCD:C=D';subst hCD;have hb:b=true:=by unfold W.kitOne at hk;rw[am (beq_self_eq_true _)] at hk;show(bg hk).symm
  let⟨bm,N,nm,qn,bs,hdct,sn,sub,ab,col,dd,k0,k1,k2,k3,k5,mN,hC,Ma,DF,TL⟩:=(O'.keeps I5.bk).obj;exact wpAny_excMatches_sub_self hC hob Sa (TL.hasType (by decide+kernel)) ?_;show good hb;exact(Kj (M:=model X.prog X.w) I5.lO O.k hCD hob Sa hk).here ?_;cases b with
  | true=>show good rfl
  | false=>show ih (hf rfl)
end
section
variable {X:Cx}
def Lh (K:RS)(sp:Sp)(iy:Nat)(ta:TA)(al:cV (gL×TS)):TS:=λD σ H=>ta σ H λvs H1=>sp (vs++ []) H1 (λv H2=>D.nx (σ.set iy (some v)) H2) λcls _ H'=> ∃C,cls= .ref C /\ ∀ea,H' ea=none ->aY H1 (cF H' ea (.ext (gl ea C))) ->rJ K al C D σ (cF H' ea (.ext (gl ea C)))
def Jh {k:Nat}{f:gL}{fd:X6}{ps:cV Str}{sp:Sp}{fx y:Str}{p yp dy dz pos:Pos}{e₀:Expr}{es:cV Expr}{ta:TA}{iy:Nat}{h₀:ExceptHandler}{hs:cV ExceptHandler}{al:cV (gL×TS)}{st:Stmt} (sN:X.stack=X.env::X.outer) (DJ:X.env.frame=some X.env.locals) (C:gV X.K X.mg fx ps st f fd) (F:bA X.prog X.w X.K X.mg X.base (gX X.prog X.w) k f fd ps sp) (hr:dX k X.A) (hgf:Gl X fx) (ha:PA X.Ia (e₀::es) ta) (hN:X.N.Nodup) (hiy:X.N[iy]? =some y) (hy:X.env.kindOf y=some .local) (ph:yY X (h₀::hs) al) (fZ:swapsWith (.Call (.Name fx p) (e₀::es) [] dy) (some (.Name y yp)) dz.line X.env=pure false:=by rfl) (Ot:(fx==("__debug__" :Str))=false:=by decide) (he:starEach (e₀::es) X.env=(false,eval e₀ X.env)::starEach es X.env:=by rfl) (n_:(backTo dy (starEach es X.env)).any (·.1)=false:=by rfl): PS X (.Try [.Assign [.Name y yp] (.Call (.Name fx p) (e₀::es) [] dy) dz] (h₀::hs) [] [] pos) (Lh X.K sp iy ta al):=by
 intro af s σ H D I h;exact wpAny_Try_except (wpAny_execs_cons (wpAny_Assign_Name (wpAny_Call_Name_kw (nh I hgf C.at_ ?_ Ot)) fZ));exact W.callWith_K (h₀:=X.base) I.ok.mod.LY C.fn.kp (bz (ha dy af s σ H _ (I.oh _) h) (λus s1 ⟨vs,H1,I1,r,q⟩=>#[I1.lO,?_]) λ_ _ z=>z.elim) he n_;have I1:=I1.gy;have r2:b_ (vs++ []) (us++ []):=r.append .nil;have hl:(us++ []).length=ps.length:=by rw[<- r2.length];show F.len _ _ _ _ q
 exact wpAny_call (codeAny_mono (F.run X.A X.stack s1 H1 #[us,[]] (us++ []) (vs++ []) _ _ hr I1.Kk (C.bd s1 us I1.lO hl) r2 q) λr s2 hq=> ?_);cases r with
 | error ev=>have Xm:gX X.prog X.w X.stack H1 s1 (λcls _ H'=> ∃C,cls= .ref C /\ ∀ea,H' ea=none ->aY H1 (cF H' ea (.ext (gl ea C))) ->rJ X.K al C D σ (cF H' ea (.ext (gl ea C)))) ev s2:=hq;show qe sN DJ I1 Xm ph λcls d H' z=>z
 | ok fl=>
  cases fl with
  | ret u=>let⟨v,H2,I2,r,q2⟩:=I1.after hq;show mJ I2 hN hiy (.inl hy) r (λs3 I3=>wpAny_execs_nil (wpAny_execs_nil #[_,_,I3,q2])) (.inr hy)
  | next=>show False.elim hq
  | brk=>show False.elim hq
  | cont=>show False.elim hq
def Qy (K:RS)(C:gL)(m:Str)(sp:Sp)(te:TE)(ta:TA)(al:cV (gL×TS)):TS:=λD σ H=>te σ H λx H0=>dQ λ(a dx:gL) (fs:cV (Str×V))=>eT (x= .ref a) (H0 a=some (.ins C dx fs)) (fs.lookup m=none) (ta σ H0 λvs H1=>sp (.ref a::(vs++ [])) H1 (λv H2=>D.nx σ H2) λcls _ H'=> ∃C,cls= .ref C /\ ∀ea,H' ea=none ->aY H1 (cF H' ea (.ext (gl ea C))) ->rJ K al C D σ (cF H' ea (.ext (gl ea C))))
theorem Uq {k:Nat}{f C:gL}{fd:X6}{ps:cV Str}{sp:Sp}{m qual:Str}{dy dz SR pos:Pos}{o e₀:Expr}{es:cV Expr}{te:TE}{ta:TA}{h₀:ExceptHandler}{hs:cV ExceptHandler}{al:cV (gL×TS)}{st:Stmt}{pl:Sem Bool} (sN:X.stack=X.env::X.outer) (DJ:X.env.frame=some X.env.locals) (M:oa X.K m qual ps st C f fd) (F:bA X.prog X.w X.K X.mg X.base (gX X.prog X.w) k f fd ps sp) (hr:dX k X.A) (ho:PE X.Ia o te) (ha:PA X.Ia (e₀::es) ta) (ph:yY X (h₀::hs) al) (he:starEach (e₀::es) X.env=(false,eval e₀ X.env)::starEach es X.env:=by rfl) (n_:(backTo dy (starEach es X.env)).any (·.1)=false:=by rfl) (ht:eval (.Call (.Attribute o m dz) (e₀::es) [] dy) X.env=(do
   let ov <- eval o X.env
   standAt dz.atName
   let (f,first) <- holding [ov] (getMethod ov m pl)
   callWith dy f first (backTo dy (starEach (e₀::es) X.env)) (backToKw dy (keywordEach [] X.env))):=by rfl)
  (Xd:swapsWith (.Call (.Attribute o m dz) (e₀::es) [] dy) none SR.line X.env=pure false:=by rfl):
  PS X (.Try [.Expr (.Call (.Attribute o m dz) (e₀::es) [] dy) SR] (h₀::hs) [] [] pos) (Qy X.K C m sp te ta al):=by
 intro af s σ H D I h
 exact wpAny_Try_except (wpAny_execs_cons (wpAny_Expr_any ?_ I.quiet Xd))
 exact W.methodCall_KW (pl:=pl) (bz (ho af s σ H _ (I.oh _) h) (λu s1 ⟨x,H0,I0,rx,a,dx,fs,ex,ea,l,q⟩=> ?_) λ_ _ z=>z.elim) ht
 subst ex
 obtain rfl:u=Value.ref a:=rx
 have I0:=I0.gy
 exact jo I0 ea M.cl M.Pd l ?_
 exact W.callWith_K (first:= [.ref a]) (h₀:=X.base) I.ok.mod.LY M.Pd.kp (bz (ha dy af s1 σ H0 _ (I0.oh _) q) (λus s2 ⟨vs,H1,I1,r,q⟩=>#[I1.lO,?_]) λ_ _ z=>z.elim) he n_
 have I1:=I1.gy
 have r2:b_ (.ref a::(vs++ [])) (.ref a::us++ []):= .cons rfl (r.append .nil)
 have hl:(Value.ref a::us++ []).length=ps.length:=by rw[<- r2.length];show F.len _ _ _ _ q
 exact wpAny_call (codeAny_mono (F.run X.A X.stack s2 H1 #[.ref a::us,[]] (.ref a::us++ []) (.ref a::(vs++ [])) _ _ hr I1.Kk (M.bd s2 (.ref a::us) I1.lO hl) r2 q) λr s3 hq=> ?_)
 cases r with
 | error ev=>have Xm:gX X.prog X.w X.stack H1 s2 (λcls _ H'=> ∃C,cls= .ref C /\ ∀ea,H' ea=none ->aY H1 (cF H' ea (.ext (gl ea C))) ->rJ X.K al C D σ (cF H' ea (.ext (gl ea C)))) ev s3:=hq;show qe sN DJ I1 Xm ph λcls d H' z=>z
 | ok fl=>
  cases fl with
  | ret u=>let⟨v,H2,I2,r,q2⟩:=I1.after hq;show wpAny_execs_nil (wpAny_execs_nil #[_,_,I2,q2])
  | next=>show False.elim hq
  | brk=>show False.elim hq
  | cont=>show False.elim hq
end
section
variable {X:Cx}{k:Nat}{f C:gL}{fd:X6}{ps:cV Str}{sp:Sp}{E:XK}{m qual:Str}{st:Stmt}{pos dz:Pos}{o e:Expr}{es:cV Expr}{ta:TE}{t:TA}
theorem cb {pl:Sem Bool}(hP:gi (gX X.prog X.w) X E)(M:oa X.K m qual ps st C f fd)(F:bA X.prog X.w X.K X.mg X.base (gX X.prog X.w) k f fd ps sp)(hr:dX k X.A)(he:PE X o ta)(ha:PA X (e::es) t) (sN:starEach (e::es) X.env=(false,eval e X.env)::starEach es X.env:=by rfl) (n_:(backTo pos (starEach es X.env)).any (·.1)=false:=by rfl) (ht:eval (.Call (.Attribute o m dz) (e::es) [] pos) X.env=(do
  let ov <- eval o X.env
  standAt dz.atName
  let (f,first) <- holding [ov] (getMethod ov m pl)
  callWith pos f first (backTo pos (starEach (e::es) X.env)) (backToKw pos (keywordEach [] X.env))):=by rfl):
 PE X (.Call (.Attribute o m dz) (e::es) [] pos) (pq C m sp [] E ta t):=BB he M.cl M.Pd F hr M.bd .nil hP ha sN n_ ht
theorem uM {pl:Sem Bool}(hP:gi (gX X.prog X.w) X E)(M:oa X.K m qual ps st C f fd)(F:bA X.prog X.w X.K X.mg X.base (gX X.prog X.w) k f fd ps sp)(hr:dX k X.A)(he:PE X o ta) (ht:eval (.Call (.Attribute o m dz) [] [] pos) X.env=(do
  let ov <- eval o X.env
  standAt dz.atName
  let (f,first) <- holding [ov] (getMethod ov m pl)
  callWith pos f first (backTo pos (starEach [] X.env)) (backToKw pos (keywordEach [] X.env))):=by rfl):
 PE X (.Call (.Attribute o m dz) [] [] pos) (pq C m sp [] E ta CU):=xL he M.cl M.Pd F hr M.bd .nil hP ht
theorem bA.calm {P:RV}{w:W4}{K:RS}{mg:Str ->fP cW}{base:X4}{sp QR:Sp}(F:bA P w K mg base (gX P w) k f fd ps sp)(h: ∀vs H Q E,QR vs H Q E ->sp vs H Q E0):bA P w K mg base eU k f fd ps QR:=#[λvs H Q E z=>F.len vs H Q _ (h vs H Q E z),λA outer s H args us vs Q E hr e0 hb hv z=>codeAny_mono (F.run A outer s H args us vs Q E0 hr e0 hb hv (h vs H Q E z)) λr s' hq=>by
 cases r with
 | error ev=>let⟨_,_,_,_,_,_,_,_,_,_,_,_,_,_,q⟩:=(show gX P w outer H s E0 ev s' from hq);show q.elim
 | ok fl=>cases fl<;>show hq]
end
end L2
namespace WL
open PySem L2
section
variable {K:RS}
def Ur:gh:=λ_ _ _ _=>False
theorem FU {P:RV}{w:W4}{mg:Str ->fP cW}{base:X4}{CX:zl}{k:Nat}{f:gL}{fd:X6}{ps:cV Str}:bA P w K mg base CX k f fd ps (qq K Ur):=#[λvs H Q E ⟨_,_,_,_,_,_,h,_⟩=>h.elim,λA outer s H args us vs Q E _ _ _ _ ⟨_,_,_,_,_,_,h,_⟩=>h.elim]
def QS (p:gh):fC:=λxs M q=>p xs M q λ_ _=>False
theorem Mn {P:RV}{w:W4}{mg:Str ->fP cW}{base:X4}{k:Nat}{f:gL}{fd:X6}{ps:cV Str}{p:gh}(F:bA P w K mg base (gX P w) k f fd ps (qq K p)):bA P w K mg base eU k f fd ps (fF K (QS p)):=F.calm λvs H Q E ⟨xs,M,q,r,m,h,k⟩=>#[xs,M,q,_,r,m,h,k,λ_ _ _ z=>z.elim]
def zC (C:gL)(m:Str)(p:gh)(e:WX)(a:WE)(b:WA):WE:=λρ M q=>a ρ M λx M1=>dQ λ(o dx:gL) (fs:cV (Str×W))=>eT (x=wr o) (M1 o=some (.ins C dx fs)) (fs.lookup m=none) (b ρ M1 λxs M2=>p (x::xs) M2 q (up e))
instance {C:gL}{m:Str}{p:gh}{e:WX}{t:TE}{u:TA}{a:WE}{b:WA} [ia:IE K t a] [ib:IA K u b]:IE K (pq C m (qq K p) [] (Ex K e) t u) (zC C m p e a b) where
 imp :=λρ M σ H q Q o h k=>ia.imp ρ M σ H _ _ o h λx M1 v H1 ⟨ad,dx,fs,ex,hp,hl,h1⟩ t1 m1 r1=>by subst ex;let⟨ks,e,r⟩:=m1 ad _ hp;exact#[ad,dx,ks,r1.eq,e,sD r hl,ib.imp ρ M1 σ H1 _ _ (o.mv t1 m1) h1 λxs M2 vs H2 h2 t2 m2 r2=> ?_];exact#[wr ad::xs,M2,q,_,cM.cons (r1.ts t2) (by rw[dn];show r2),m2,h2,?_,?_];intro y M' u H' hq ts m' r';show k _ _ _ _ hq ((t1.trans t2).trans ts) m' r';rintro C M' H' ⟨M0,s,h⟩ m;show#[C,M0,rfl,h,m.sub s]
def CJ (p:gh)(xs:cV W)(M:Mp)(q:WK)(e:WX):Prop:=p xs M q e
def PZ {C:gL}{m:Str}{p:gh}{e:WX}{a:WE}{b:WA}{ρ:c8}{M:Mp}{q:WK}:zC C m p e a b ρ M q=a ρ M λx M1=>eI x λo=>wv (M1 o) λC' _ fs=>dW (C'=C /\ fs.lookup m=none) (b ρ M1 λxs M2=>CJ p (x::xs) M2 q (up e)):=by unfold zC eI wv dW CJ;congr 1;funext x M1;apply propext;symm;rintro⟨o,dx,fs,e1,e2,e3,h⟩;show#[o,e1,C,dx,fs,e2,#[rfl,e3],h];rintro⟨o,e1,C',dx,fs,e2,⟨rfl,e3⟩,h⟩;show#[o,dx,fs,e1,e2,e3,h]
theorem Qk {p:gh}{e:WX}{a:WA}{ρ:c8}{M:Mp}{q:WK}:EU p e a ρ M q=a ρ M λxs M1=>CJ p xs M1 q (up e):=rfl
theorem PU {C:gL}{e:WX}{a:WA}{D:fD}{ρ:c8}{M:Mp}:EK C e a D ρ M=a ρ M λxs M'=>dW (xs.length<=sizeLine) (up e C M'):=rfl
def pk (K:RS):cV (gL×WS) ->gL ->WS
 | [],_=>λ_ _ _=>False
 | (D,s)::r,C=>λE ρ M=> ∃b,cT (W.kitOne K (.ref C) (.ref D)=some b) (b=true ->s E ρ M) (b=false ->pk K r C E ρ M)
class U9 (K:PySem.W.Frag) (t:List (Addr×TS)) (w:outParam (List (Addr×WS))):Prop where
 imp: ∀ (C:Addr) (ρ:c8) (M:Mp) (σ:L2.St) (H:Hp) (D':fD) (D:tR),Ok K ρ M σ H ->pk K w C D' ρ M ->ll K H D' D ->rJ K t C D σ H
instance:U9 K [] [] where
 imp:=λ_ _ _ _ _ _ _ _ h _=>h.elim
instance {D:gL}{t:TS}{s:WS}{r:cV (gL×TS)}{r':cV (gL×WS)} [is:IS K t s] [ir:U9 K r r']:U9 K ((D,t)::r) ((D,s)::r') where
 imp:=λC ρ M σ H D' D o ⟨b,hk,h1,h2⟩ e=>#[b,hk,λhb=>is.imp ρ M σ H D' D o (h1 hb) e,λhb=>ir.imp C ρ M σ H D' D o (h2 hb) e]
theorem Ta {D C:gL}{s:WS}{r:cV (gL×WS)}{E:fD}{ρ:c8}{M:Mp}(hk:W.kitOne K (.ref C) (.ref D)=some true)(h:s E ρ M):pk K ((D,s)::r) C E ρ M:=#[true, .mk hk (λ_=>h) λz=>nomatch z]
theorem dP {D C:gL}{s:WS}{r:cV (gL×WS)}{E:fD}{ρ:c8}{M:Mp}(hk:W.kitOne K (.ref C) (.ref D)=some false)(h:pk K r C E ρ M):pk K ((D,s)::r) C E ρ M:=#[false, .mk hk (λz=>nomatch z) λ_=>h]
theorem qh {C:gL}{s:WS}{r:cV (gL×WS)}{E:fD}{ρ:c8}{M:Mp}(h:s E ρ M):pk K ((C,s)::r) C E ρ M:=Ta (by unfold W.kitOne;rw[am (beq_self_eq_true _)]) h
theorem ll.of {H H1 H2:Hp}{D':fD}{D:tR}(e:ll K H D' D)(t1:aY H H1)(t2:aY H1 H2):ll K H2 D' D:=(e.mv t1).mv t2
def K0 (K:RS)(p:gh)(iy:Nat)(a:WA)(al:cV (gL×WS)):WS:=λD ρ M=>a ρ M λxs M1=>p xs M1 (λx M2=>D.nx (ρ.set iy (some x)) M2) λC M'=> ∀ea,M' ea=none ->pk K al C D ρ (um M' ea (.exc C))
instance {p:gh}{iy:Nat}{t:TA}{a:WA}{al:cV (gL×TS)}{wl:cV (gL×WS)} [ia:IA K t a] [il:U9 K al wl]:IS K (Lh K (qq K p) iy t al) (K0 K p iy a wl) where
 imp:=λρ M σ H D' D o h OE=>ia.imp ρ M σ H _ _ o h λx M1 v H1 h1 t1 m1 r1=>#[x,M1,_,_,by rw[dn];show r1,m1,h1,λy M4 v4 H4 h4 t4 m4 r4=>OE.nx _ _ _ _ h4 (t1.trans t4) #[(o.env.ts (t1.trans t4)).set iy r4,m4],λC M' H' h2 m=>#[C,rfl,λea Cb tsm=>il.imp C _ (um M' ea (.exc C)) _ _ D' D #[o.env.ts (t1.trans tsm),m.put (L2.fI.ts (bZ Cb)) bP] (h2 ea (m.fresh Cb)) (OE.of t1 tsm)]]
theorem TM {p:gh}{iy:Nat}{a:WA}{al:cV (gL×WS)}{D:fD}{ρ:c8}{M:Mp}:K0 K p iy a al D ρ M=a ρ M λxs M1=>CJ p xs M1 (λx M2=>D.nx (ρ.set iy (some x)) M2) λC M'=> ∀ea,M' ea=none ->pk K al C D ρ (um M' ea (.exc C)):=rfl
end
end WL
namespace L2
open PySem PySem.Spec PyProof.Rows
section
variable {X:Cx}{tg:Expr}
def Q1:V ->fP Int ->fP Int ->Hp ->VK ->Prop:=λx lo hi H Q=> ∃z:Str,cT (x= .str z) (z.length<=sizeLine) (Q (.str (Txt.slice z lo hi)) H)
def Fg:SlR X Q1:=by
 intro af s σ H x v vl vu lo hi sl Q I rx hs pl pu h;let⟨z,rfl,hz,q⟩:=h;let⟨t,rfl⟩:=rx;exact#["str",_,F.slot_str_getitem.lookup,typeIs_str _ _ _,?_];have fin: ∀t' k,EP X af σ Q (.str (Txt.slice z lo hi) t') {s with toks:=k}:=λt' k=>#[.str (Txt.slice z lo hi),H,I.tok _,#[_,rfl],q]
 cases pl with
 | none=>
  cases pu with
  | none=>show wpAny_getItem_str_slice (l:=none) (u:=none) (st:=none) hs rfl (post_val_or_str #[av (Txt.slice_le z _ _) hz,fin])
  | int j tj=>show wpAny_getItem_str_slice (l:=none) (u:=some (j,tj)) (st:=none) hs rfl (post_val_or_str #[av (Txt.slice_le z _ _) hz,fin])
 | int i ti=>
  cases pu with
  | none=>show wpAny_getItem_str_slice (l:=some (i,ti)) (u:=none) (st:=none) hs rfl (post_val_or_str #[av (Txt.slice_le z _ _) hz,fin])
  | int j tj=>show wpAny_getItem_str_slice (l:=some (i,ti)) (u:=some (j,tj)) (st:=none) hs rfl (post_val_or_str #[av (Txt.slice_le z _ _) hz,fin])
def gz (z:Str)(n:Nat):Str:=if n=0 then Str.empty else if n=1 \/ z.length=0 then z else⟨(List.replicate n z.cps).foldl (· ++ ·) #[]⟩
def Bo (z:Str)(n:Nat):(⟨(List.replicate n z.cps).foldl (· ++ ·) #[]⟩:Str).length=n*z.length:=by
 have: ∀ (n:Nat) (a:RQ Nat),((List.replicate n z.cps).foldl (· ++ ·) a).size=a.size+n*z.cps.size:=by
  intro n;induction n with
  | zero=>intro a;simp
  | succ n ih=>intro a;rw[List.replicate_succ,List.foldl_cons,ih,Array.size_append,Nat.succ_mul];omega
 change((List.replicate n z.cps).foldl (· ++ ·) #[]).size=n*z.cps.size;rw[this];simp
def LA:R2:=λx y H Q=>cx λ(z:Str) (n:Nat)=>fS (x= .str z) (y= .int n) (n<=1000) (z.length<=1000) (Q (.str (gz z n)) H)
def Jx:iJ X (binaryOp .Mult) LA:=by
 intro af s σ H x y v u Q I rx ry h;let⟨z,n,rfl,rfl,hn,hz,q⟩:=h;let⟨t,rfl⟩:=rx;let⟨t',rfl⟩:=ry;have hs:z.length*n<=sizeLine:=av (Nat.mul_le_mul hz hn) (by rw[sizeLine_eq];decide);exact PySem.P.mul_str ?_ (λ_ _=> ?_) (λ_ _=> ?_) ?_;have e1:decide ((n:Int) < -(2 ^ 63:Int))=false:=aF (by omega);have e2:decide ((n:Int)≥2 ^ 63)=false:=aF (by omega);rw[e1,e2];rfl;intro h;have h1:(2 ^ 63 - 1:Int) / 1000<=(2 ^ 63 - 1) / n:=by rw[Int.le_ediv_iff_mul_le (by omega)];have:((2 ^ 63 - 1:Int) / 1000)*n<=((2 ^ 63 - 1:Int) / 1000)*1000:=Int.mul_le_mul_of_nonneg_left (by omega) ⋯;omega
 omega;unfold Builtin.Str.tooLong;rw[decide_eq_false_iff_not];have:(n:Int).toNat=n:=rfl;rw[this];omega;unfold gz at q;by_cases h0:n=0;subst h0;rw[am rfl] at q;rw[am ⋯];show#[⋯,#[.str _,H,I.tok _,#[_,rfl],q]];rw [ak h0] at q;rw[ak (by omega)];by_cases h1:n=1 \/ z.length=0;rw[am h1] at q;rw[am (by obtain h | h:=h1 <;>simp[h])];show#[.str z,H,I,#[t,rfl],q];rw[ak h1] at q;rw[ak (by intro c;rw[Bool.or_eq_true,beq_iff_eq,beq_iff_eq] at c;show h1 (c.imp (by omega) id))];have e:(n:Int).toNat=n:=rfl;rw[e];exact#[?_,#[.str _,H,I.tok _,#[_,rfl],q]];rw[Bo];rw[Nat.mul_comm];show hs
def ItS (z:Str):It:=#[λi _=>i<z.cps.size,λi H x H'=>H'=H /\ ∃c,z.cps[i]? =some c /\ x= .str ⟨#[c]⟩,λi _=>z.cps.size<=i]
def EY {P:RV}{w:W4}{K:RS}{tg:Expr}(z:Str)(t:Tok)(it:gL):wL P w K tg (ItS z) [it] it (λi h=>h.IsStrIter it "str_ascii_iterator" z t i) where
 mem:=by simp
 obj:=λi h st b hb=>by have e:b=it:= ⇑hb;subst e;let⟨o,e,c,d⟩:=st;show#[o,e,λv z=>by rw[d] at z;cases z]
 keep:=λi h h' ⟨o,ho,r⟩ k=>#[o,k it (by simp) o ho,r]
 item:=by intro X hP hw hK hc i af s σ H E I hf st hg;subst hP hw hK;let⟨f0,f1,f2,f3,f4,f5⟩:=hf it (by simp);have hg:i<z.cps.size:=hg;exact wpAny_pyNext_ascii_item st (c:=z.cps[i]) (by simp[hg]) λh' bE sb=> ?_;have I1:Inv X af σ H {s with heap:=h',toks:=s.toks+1}:=I.turned (t':=s.toks+1) (λb o hb e=>(sb.2 b hb).trans e) f0 f1 f3 f4 f5;let⟨o,e,c,d⟩:=id bE;show#[_,rfl,uX (s:= {s with heap:=h',toks:=s.toks+1}) e c d ⋯ #[.str ⟨#[z.cps[i]]⟩,H,I1,#[_,rfl],#[rfl,_,by simp[hg],rfl],bE,λb hb=>(hf b hb).1]]
 done:=by intro X hP hw hK hc i af s σ H E I hf st hg;subst hP hw hK;let⟨f0,f1,f2,f3,f4,f5⟩:=hf it (by simp);have hg:z.cps.size<=i:=hg;show wpAny_pyNext_ascii_end (I.ok.hd hc) st (by simp[hg]) λh' eb=>#[rfl,I.turned (t':=s.toks) (λb o hb e=>eb b o hb e) f0 f1 f3 f4 f5]
 self:=λ_ _ _ _ _ st h=>wpAny_pyIter_striter_ascii st h
def RW (tl:TE):TI:=λσ H R=>tl σ H λx H1=> ∃z:Str,cT (x= .str z) (z.cps.all (· <128)=true) (R (ItS z) H1)
def FF {l:Expr}{tl:TE}(hl:PE X l tl):PI X tg l (RW tl):=by intro af s σ H R I h;exact cN (hl af s σ H _ I h) λv s1 ⟨x,H1,I1,r1,q1⟩=> ?_;let⟨z,e,ha,q⟩:=q1;subst e;let⟨t,rfl⟩:=r1;exact wpAny_pyIter_ascii ha ?_;exact#[s1.heap.objs.size,[s1.heap.objs.size],_,_,H1,rfl,I1.kept (t':=s1.toks) λb o e=>ar _ e,EY z t _,#[_,aT _ rfl,rfl,rfl],λb hb=> ?_,q];have e:b=s1.heap.objs.size:= ⇑hb;subst e;show I1.Aq (ao _) (I1.cS.fresh (ao _))
def LB:cV V ->Hp ->VK ->Prop:=λxs H Q=> ∃z,cT (xs= [.str z]) (z.length<=sizeLine) (Q (.int z.length) H)
theorem o_:fi X (.builtin "len") LB:=wF
def zp (i j:Str):Bool:= !(Builtin.Str.occurrences j i 0 j.length 1).isEmpty
def Q3:R2:=λx y H Q=>cx λi j=>cT (x= .str i) (y= .str j) (Q (.bl (zp i j)) H)
def Bq:R2:=λx y H Q=>cx λi j=>cT (x= .str i) (y= .str j) (Q (.bl (!zp i j)) H)
theorem NF:iJ X (compareOp .In) Q3:=Db
theorem C_:iJ X (compareOp .NotIn) Bq:=v7
end
end L2
namespace WL
open PySem L2
section
variable {K:RS}
def P':qi:=λx y M q=>dQ λz i c=>fS (x=ws z) (y=wi i) (z.length<=sizeLine) (hU z.cps.toList i=some c) (q (ws ⟨#[c]⟩) M)
instance:IR K Q2 P' where
 imp:=by rintro x y v u M H q Q m r1 r2 ⟨z,i,c,rfl,rfl,hz,e,h⟩ k;cases r1.eq;cases r2.eq;show#[z,i,c,rfl,rfl,hz,e,k _ M _ H h (aY.refl H) m WR.v]
def Vy {z:Str}{i:Int}{M:Mp}{q:WK}:P' (.v (.str z)) (.v (.int i)) M q=dW (z.length<=sizeLine) (lC (hU z.cps.toList i) λc=>q (ws ⟨#[c]⟩) M):=by apply propext;symm;rintro⟨_,_,c,h1,h2,h3,h4,k⟩;cases h1;cases h2;show#[h3,c,h4,k];rintro⟨h3,c,h4,k⟩;show#[_,_,c,rfl,rfl,h3,h4,k]
def PQ:Te:=λx lo hi M q=> ∃z:Str,cT (x=ws z) (z.length<=sizeLine) (q (ws (Txt.slice z lo hi)) M)
instance:ISl K Q1 PQ where
 imp:=by rintro x v lo hi M H q Q m r1 ⟨z,rfl,hz,h⟩ k;cases r1.eq;show#[z,rfl,hz,k _ M _ H h (aY.refl H) m WR.v]
def Vo {z:Str}{lo hi:fP Int}{M:Mp}{q:WK}:PQ (.v (.str z)) lo hi M q=dW (z.length<=sizeLine) (q (ws (Txt.slice z lo hi)) M):=by apply propext;symm;rintro⟨_,h1,h3,k⟩;cases h1;show#[h3,k];rintro⟨h3,k⟩;show#[_,rfl,h3,k]
def PR:qi:=λx y M q=>cx λ(z:Str) (n:Nat)=>fS (x=ws z) (y=wi n) (n<=1000) (z.length<=1000) (q (ws (gz z n)) M)
instance:IR K LA PR where
 imp:=by rintro x y v u M H q Q m r1 r2 ⟨z,n,rfl,rfl,hn,hz,h⟩ k;cases r1.eq;cases r2.eq;show#[z,n,rfl,rfl,hn,hz,k _ M _ H h (aY.refl H) m WR.v]
def Qb:qi:=λx y M q=>cx λi j=>cT (x=ws i) (y=ws j) (q (wb (zp i j)) M)
def AZ:qi:=λx y M q=>cx λi j=>cT (x=ws i) (y=ws j) (q (wb (!zp i j)) M)
instance:IR K Q3 Qb where
 imp:=by rintro x y v u M H q Q m r1 r2 ⟨i,j,rfl,rfl,h⟩ k;cases r1.eq;cases r2.eq;show#[i,j,rfl,rfl,k _ M _ H h (aY.refl H) m WR.v]
instance:IR K Bq AZ where
 imp:=by rintro x y v u M H q Q m r1 r2 ⟨i,j,rfl,rfl,h⟩ k;cases r1.eq;cases r2.eq;show#[i,j,rfl,rfl,k _ M _ H h (aY.refl H) m WR.v]
def VB {i j:Str}{M:Mp}{q:WK}:Qb (.v (.str i)) (.v (.str j)) M q=q (wb (zp i j)) M:=by apply propext;symm;rintro⟨_,_,h1,h2,k⟩;cases h1;cases h2;show k;intro k;show#[_,_,rfl,rfl,k]
def OY {i j:Str}{M:Mp}{q:WK}:AZ (.v (.str i)) (.v (.str j)) M q=q (wb (!zp i j)) M:=by apply propext;symm;rintro⟨_,_,h1,h2,k⟩;cases h1;cases h2;show k;intro k;show#[_,_,rfl,rfl,k]
def K5:AF:=λxs M q=> ∃z,cT (xs= [ws z]) (z.length<=sizeLine) (q (wi z.length) M)
instance:IC K LB K5 where
 imp:=by rintro xs v M H q Q m r1 ⟨z,rfl,hz,h⟩ k;let⟨v,rfl,r⟩:=r1.one;cases r.eq;show#[z,rfl,hz,k _ M _ H h (aY.refl H) m WR.v]
def TW {z:Str}{M:Mp}{q:WK}:K5 [.v (.str z)] M q=dW (z.length<=sizeLine) (q (wi z.length) M):=by apply propext;symm;rintro⟨_,h1,h3,k⟩;cases h1;show#[h3,k];rintro⟨h3,k⟩;show#[_,rfl,h3,k]
def zn (z:Str):cV Str:=z.cps.toList.map λc=>⟨#[c]⟩
def N4 (a:WE):WI:=λρ M q=>a ρ M λx M1=> ∃z:Str,cT (x=ws z) (z.cps.all (· <128)=true) (q ((zn z).map ws) (λ_=>True) M1)
def Gz {H1:Hp}{z:Str}:AI K H1 (ItS z) ((zn z).map ws) (λ_=>True):=by
 intro i M H ts m _;have hl:((zn z).map ws).length=z.cps.size:=by unfold zn;simp
 exact#[λh=>by change z.cps.size<=i;omega,λh=>by change i<z.cps.size;omega,λv H' hi y=> ?_];let⟨rfl,c,hc,rfl⟩:=y;exact#[aY.refl _,m,ws ⟨#[c]⟩,?_,WR.v];unfold zn;rw[a4,aH,Array.getElem?_toList,hc];rfl
instance {t:TE}{a:WE} [ia:IE K t a]:II K (RW t) (N4 a) where
 imp:=λρ M σ H q R o h k=>ia.imp ρ M σ H _ _ o h λx M1 v H1 ⟨z,e,ha,h1⟩ t1 m1 r1=>by subst e;show#[z,r1.eq,ha,k _ _ _ M1 H1 h1 t1 m1 Gz]
def WW {a:WE}{ρ:c8}{M:Mp}{q:cV W ->(Mp ->Prop) ->Mp ->Prop}:N4 a ρ M q=a ρ M λx M1=>vG x λz=>dW (z.cps.all (· <128)=true) (q ((zn z).map ws) (λ_=>True) M1):=by unfold N4 vG dW;congr 1;funext x M1;show propext #[λ⟨i,a,b,c⟩=>#[i,a,b,c],λ⟨i,a,b,c⟩=>#[i,a,b,c]]
end
end WL
namespace TS
open PySem PyProof.Rows
def sx (x y:kB):Bool:=decide ((strOf x.1).cps.toList< (strOf y.1).cps.toList)
def Wi:Ord sx:=by exact#[λx y h=> ?_,λx y z h1 h2=> ?_];unfold sx at*;rw[dc] at h;show aF λh'=>List.lt_irrefl _ (List.lt_trans h h');unfold LE sx at*;rw[decide_eq_false_iff_not] at*;show λh=>(List.le_trans (List.not_lt.mp h1) (List.not_lt.mp h2)) h
section
variable {prog:RV}{w:W4}{A:X7}{E:cW ->df ->Prop}{s:df}
def ltS {vs:cV cW}(h0: ∀v,v∈vs -> ∃x t,v= .str x t):gU prog w A E s oneType' (pairsOf vs) sx:=by
 intro x y st Q hx hy hk hq;have hm: ∀p:kB,p∈(pairsOf vs).toList -> ∃a t,p.1= .str a t:=λp hp=>by rw[pairsOf_toList] at hp;show h0 _ (mem_zip_self hp).2
 let⟨n,t,e1⟩:=hm x hx;let⟨m,u,e2⟩:=hm y hy;rw[lt'_eq];exact au (wpS_get ?_);rw[hk,keyLt'_oneType,e1,e2];exact au (wpS_lift (wpAny_attempt (oneLt_str #[rfl,?_])));have e:sx x y=decide (n.cps.toList<m.cps.toList):=by unfold sx;rw[e1,e2];rfl
 rw[e] at hq;show aA hq
def CZ {a:gL}{vs:cV cW}{ss:cV Str}{n:Nat}{P:Fin ->df ->Prop}(ho:s.heap.get? a=some (seqObj "list" vs.toArray n)) (hI:StrsAre vs ss) (hsz:vs.length<=sizeLine) (h: ∀ (out:RQ cW) (V4:cV Str),StrsAre out.toList V4 ->V4.Perm ss ->V4.Pairwise (λx y=>¬y.cps.toList<x.cps.toList) ->P (.done (.ret .none)) {s with heap:=sortedHeap s.heap a vs out}): wpAny (model prog w) A (Builtin.«list.sort» #[[.ref a],[]]) P E s:=by
 exact xv Wi ho hsz (kd:=oneType') (λh2 Q hq=> ?_) (ltS hI.all) λus hp hs=> ?_;let⟨v₁,v₂,cU,rfl⟩:dQ λv₁ v₂ cU=>vs=v₁::v₂::cU:=by
  match vs,h2 with
  | [],h2=>simp at h2
  | [_],h2=>simp at h2
  | v₁::v₂::cU,_=>show#[v₁,v₂,cU,rfl]
 rw[keyKind_strs hI];show aX hq;have uk: ∀v,v∈us -> ∃x t,v= .str x t:=λv hv=>hI.all v (hp.mem_iff.mp hv);exact h us.toArray (us.map strOf) ⇑(strsAre_map us uk) ?_ ?_;have:=hp.map strOf;rwa [hI.strs] at this;rw[List.pairwise_map];exact hs.imp λ{x y} e=> ?_;unfold sx at e;rw[decide_eq_false_iff_not] at e;show e
end
end TS
namespace L2
open PySem PySem.Spec PyProof.Rows
theorem Ba: ∀ {ks:cV Str} {vs:cV cW},vs.length=ks.length ->(∀ (j:Nat) (v:cW),vs[j]? =some v ->cx λ(k:Str) (t:Tok)=>ks[j]? =some k /\ v= .str k t) ->StrsAre vs ks
 | [],[],_,_=> .nil
 | [],_::_,h,_=>by simp at h
 | _::_,[],h,_=>by simp at h
 | k::ks,v::vs,h,hv=>by let⟨k',t,e1,e2⟩:=hv 0 v rfl;simp at e1;subst e1 e2;show .cons k t (Ba ⇑h λj u e=> ⇑(hv (j+1) u ⇑e))
theorem mE: ∀ {ks:cV Str} {vs:cV cW},StrsAre vs ks ->b_ (ks.map V.str) vs
 | _,_, .nil=> .nil
 | _,_, .cons x t r=> .cons #[t,rfl] (mE r)
section
variable {X:Cx}{tg o e:Expr}{td ty:TE}{dz dy:Pos}
def xH:cV V ->Hp ->VK ->Prop:=λxs H Q=>dQ λ(d:gL) (kvs:cV (cg×V)) (ks:cV Str)=>fS (xs= [.ref d]) (H d=some (.dK kvs)) (kvs.map (·.1)=ks.map Sum.inr) (ks.length<=sizeLine) (∀ (p:gL) (ns:cV Str),H p=none ->ns.Perm ks ->ns.Pairwise (λx y=>¬y.cps.toList<x.cps.toList) ->Q (.ref p) (cF H p (.lst (ns.map V.str))))
def gs (hc:X.calm=true):fi X (.builtin "sorted") xH:=by
 intro af s σ H xs us Q I r h;let⟨d,kvs,ks,rfl,hd,hk,Ka,q⟩:=h;let⟨u,rfl,ru⟩:=vals1 r;cases ru;have hh:X.A.in1.handled=none:=I.ok.hd hc;let⟨hz,lo,vs,fG,dd⟩:=ve I.cS hd;let⟨ep,XR⟩:=dd.dictAt;have d3:vs.length=ks.length:=by have e1:=congrArg List.length hk;rw[ai,ai] at e1;rw[<- fG.length,e1]
 exact Calls.call_function_entry kind_sorted plain_sorted entry_sorted (args_sorted1 _) ?_;unfold Builtin.«sorted»;exact aw (m:=checkCount "sorted" 1 1 _) (aX ?_);exact aw (W.kdu_collect (A:=X.A.in1) (W.kdl_dict (knd:=cJ X.prog X.w) (kvs:=vs) (ep:=ep) lo) hh XR (by rw[<- fG.length];show hz) λh' tk fq XA An=> ?_);have hl:fq.toList.length=ks.length:=by rw[dh,An.1,d3]
 have hI:StrsAre fq.toList ks:=Ba hl λj v e=>by
  let⟨k,x,hx,Sk⟩:=An.2 j v (by rw[<- Array.getElem?_toList];show e);have GK:(kvs.map (·.1))[j]? =some k:=by
   have:(vs.map (·.1))[j]? =some k:=by rw[aH,hx];rfl
   rw[<- fG.keys] at this;show this
  rw[hk,aH] at GK;cases e2:ks[j]? with
  | none=>rw[e2] at GK;cases GK
  | some n=>
   rw[e2] at GK;cases GK;have Ol:nq (Sum.inr n) v=true:=Sk;rcases cY Ol with⟨i,t,e3,e4⟩ | ⟨x,t,e3,e4⟩
   cases e3;cases e3;show#[n,t,rfl,e4]
 exact aw (wpAny_newList ?_ (by rw[hl];show Ka));have ho:(h'.push (seqObj "list" fq.toList.toArray 0)).get? h'.objs.size=some (seqObj "list" fq.toList.toArray 0):=aT _ rfl;exact aw (wpAny_holding (wpAny_call_entry slot_list_sort #[_,ho,rfl] entry_list_sort (TS.CZ (s:= {s with heap:=h'.push (seqObj "list" fq.toList.toArray 0),toks:=tk}) ho hI (by rw[hl];show Ka) λout zr a1 a2 a3=>#[_,rfl,?_]) (args_list_sort _)));let⟨ee,Ov⟩:=sortedHeap_at (out:=out) ho;have I':Inv X af σ H {s with heap:=h',toks:=tk}:=I.kept (t':=tk) XA;exact aX #[_,rfl, .ref h'.objs.size,_,I'.laid (t':=tk) (o:= .lst (zr.map V.str)) (λb o hb=> ?_) (ao _) ?_,rfl,q _ zr (I'.cS.fresh (ao _)) a2 a3];have lD:b<h'.objs.size:=aO hb;rw[sortedHeap_old (bu lD) (by rw[Heap.size_push];show Nat.lt_succ_of_lt lD)];show ar _ hb;exact#[?_,out.toList,ee,mE a1, ⇑Ov];rw[ai,a2.length_eq];show Ka
def Fx:cV V ->Hp ->VK ->Prop:=λxs H Q=>cx λ(d:gL) (kvs:cV (cg×V))=>cT (xs= [.ref d]) (H d=some (.dK kvs)) (∀p,H p=none ->Q (.ref p) (cF H p (.dK kvs)))
def jr:fi X (.type "dict") Fx:=by intro af s σ H xs us Q I r h;let⟨d,kvs,rfl,hd,q⟩:=h;let⟨u,rfl,ru⟩:=vals1 r;cases ru;let⟨hz,lo,vs,fG,dd⟩:=ve I.cS hd;exact kt_call_dict lo dd (by rw[<- fG.length];show hz) λh' Sr sb=> ?_;have big:=I.big;exact#[.ref s.heap.objs.size,_,I.laid (a:=s.heap.objs.size) (o:= .dK kvs) (t':=s.toks) (λb u e=> ?_) (ao _) #[hz,?_,vs,fG,Sr],rfl,q _ (I.cS.fresh (ao _))];rw[sb.2 b (bu (aO e))];show ar _ e;show beq_eq_false_iff_ne.mpr (λz=>by rw[z] at big;show Nat.lt_irrefl _ big)
def KH (d:gL)(o:Obj)(kvs:cV (cg×V)):It:=#[λi H=>i<kvs.length /\ H d=some (.jV o (.dK kvs)),λi H x H'=>H'=H /\ ∃kv,kvs[i]? =some kv /\ x=kV kv.1,λi H=>kvs.length<=i /\ H d=some (.jV o (.dK kvs))]
theorem Gk: ∀ {kvs:cV (cg×V)} {vs:cV (cg×cW)} {i:Nat} {q:cg×cW},KV kvs vs ->vs[i]? =some q -> ∃p,kvs[i]? =some p /\ p.1=q.1
 | _,_,0,_, .cons ⟨e0,r⟩ _,e=>by cases e;show#[_,rfl,e0]
 | _,_,i+1,q, .cons _ t,e=>by have e':_=some q:=e;rw[List.getElem?_cons_succ] at e' ⊢;show Gk t e'
def CS {P:RV}{w:W4}{K:RS}{tg:Expr}{d it:gL}{o:Obj}{kvs:cV (cg×V)}{es:RQ DictEntry}{ep:Nat}(ho:o.data= .dict es ep): wL P w K tg (KH d o kvs) [it] it (λi h=>h.IsKeyIter it d i kvs.length ep) where
 mem:=by simp
 obj:=λi h st b hb=>by have e:b=it:= ⇑hb;subst e;let⟨o,e,c,d⟩:=st;show#[o,e,λv z=>by rw[d] at z;cases z]
 keep:=λi h h' st k=>st.at λo e=>k it (by simp) o e
 item:=by
  intro X hP hw hK hc i af s σ H E I hf st hg;subst hP hw hK;let⟨hi,hH⟩:=hg;let⟨vs,fG,hd⟩:=wA I ho hH;have hl:=fG.length;rw[hl] at st hi;let⟨f0,f1,f2,f3,f4,f5⟩:=hf it (by simp);let⟨⟨k,x⟩,hx⟩: ∃q,vs[i]? =some q:=#[vs[i],by simp[hi]]
  let⟨p,hp,rp⟩:=Gk fG hx;exact wpAny_pyNext_dict_item st hd hx λkey h' Om Al fZ=> ?_;have I1:Inv X af σ H {s with heap:=h'}:=I.turned (t':=s.toks) (λb o hb e=>(fZ.2 b hb).trans e) f0 f1 f3 f4 f5;let⟨oo,e,c,dd⟩:=id Al;rw[<- hl] at Al;have rk:RelV (kV p.1) key:=by
   rw[show p.1=k from rp];rcases cY (show nq k key=true from Om) with⟨i,t,e,e2⟩ | ⟨x,t,e,e2⟩
   subst e;show#[t,e2];subst e;show#[t,e2]
  show#[key,rfl,uX (s:= {s with heap:=h'}) e c dd ⋯ #[kV p.1,H,I1,rk,#[rfl,p,hp,rfl],Al,λb hb=>(hf b hb).1]]
 done:=by intro X hP hw hK hc i af s σ H E I hf st hg;subst hP hw hK;let⟨hi,hH⟩:=hg;let⟨vs,fG,hd⟩:=wA I ho hH;have hl:=fG.length;rw[hl] at st hi;let⟨f0,f1,f2,f3,f4,f5⟩:=hf it (by simp);show wpAny_pyNext_dict_end (I.ok.hd hc) st hd (by simp;omega) λh' eb=>#[rfl,I.turned (t':=s.toks) (λb o hb e=>eb b o hb e) f0 f1 f3 f4 f5]
 self:=λ_ _ _ _ _ st h=>wpAny_pyIter_keyiter st h
def L3 (td:TE):TI:=λσ H R=>td σ H λx H1=>cx λd kvs=>cT (x= .ref d) (H1 d=some (.dK kvs)) (∀o,R (KH d o kvs) (cF H1 d (.jV o (.dK kvs))))
def Jk (ho:PE X o td):PI X tg o (L3 td):=by
 intro af s σ H R I h;exact cN (ho af s σ H _ I h) λv s1 ⟨x,H1,I1,r1,d,kvs,ex,hd,q1⟩=> ?_;subst ex;obtain rfl:v=Value.ref d:=r1;let⟨z,N_,vs,fG,dd⟩:=nJ I1.cS (.inl hd);let⟨ob,es,ep,g1,g2,g3,g4⟩:=dd;have da:s1.heap.DictAt (cJ X.prog X.w) d vs ep:=#[ob,es,g1,g2,g3,g4]
 exact wpAny_pyIter_dict (knd:=cJ X.prog X.w) N_ da ?_;have I2:=I1.freeze hd g1;exact#[_,[_],_,KH d ob kvs,_,rfl,I2.kept (t':=s1.toks) λb o e=>ar _ e,CS g3,?_,λb hb=> ?_,q1 ob];rw[fG.length];show#[_,aT _ rfl,rfl,rfl];have e:=a_.mp hb;subst e;show I2.Aq (ao _) (I2.cS.fresh (ao _))
def Li (t:TE):TE:=λσ H Q=>cx λd kvs=>H d=some (.dK kvs) /\ t σ H λv H'=>cx λo us=>H' d=some (.jV o (.dK us)) /\ Q v (cF H' d (.dK us))
def BA {e:Expr}{t:TE}(h:PE X e t):PE X e (Li t):=by
 rintro af s σ H Q I ⟨d,kvs,hd,ht⟩;have h0: ∀o u,X.H₀ d≠some (.jV o u):=λo u e=>by have:=I.base.lE d o u e;rw[hd] at this;cases this
 exact cN (h af s σ H _ I ht) λv s' ⟨x,H',I',r,o,us,e,q⟩=>#[x,_,I'.VX e h0,?_,q]
 show r
structure OO (K:PySem.W.Frag)(mg:Str ->Option Value)(x:Str)(ns:List Int):Prop where
 ex: ∃a,mg x=some (.ref a) /\ ∀H,jY K H a (ns.map V.int)
def tGT (K:RS)(ns:cV Int):TE:=λ_ H Q=> ∀a,jY K H a (ns.map V.int) ->Q (.ref a) H
def Jm {x:Str}{ns:cV Int}{pos:Pos}(hg:Gl X x)(T:OO X.K X.mg x ns)(hd:(x==("__debug__" :Str))=false:=by decide):PE X (.Name x pos) (tGT X.K ns):=by let⟨a,hm,hs⟩:=T.ex;intro af s σ H Q I h;show fu (v:= .ref a) hg hm rfl hd af s σ H Q I (h a (hs H))
end
end L2
namespace WL
open PySem L2
section
variable {K:RS}
def wGT (ns:cV Int):WE:=λ_ M q=>q (.tup (ns.map wi)) M
instance {ns:cV Int}:IE K (tGT K ns) (wGT ns) where
 imp:=λρ M σ H q Q o h k=>λa hs=>k _ M _ H h (aY.refl H) o.hp (WR.NQ hs (by
  exact cM.mk (by simp) λj d v e1 e2=> ?_;rw[aH] at e1 e2;cases hj:ns[j]? with
  | none=>rw[hj] at e1;cases e1
  | some n=>rw[hj] at e1 e2;cases e1;cases e2;show WR.v))
theorem ada {ns:cV Int}{ρ:c8}{M:Mp}{q:WK}:wGT ns ρ M q=q (.tup (ns.map wi)) M:=rfl
def EI:AF:=λxs M q=>dQ λ(d:gL) (kvs:cV (cg×W)) (ks:cV Str)=>fS (xs= [wr d]) (M d=some (.dK kvs)) (kvs.map (·.1)=ks.map Sum.inr) (ks.length<=sizeLine) (∀ (p:gL) (ns:cV Str),M p=none ->ns.Perm ks ->ns.Pairwise (λx y=>¬y.cps.toList<x.cps.toList) ->q (wr p) (um M p (.lst (ns.map ws))))
theorem BY {H:Hp}: ∀ {kvs:cV (cg×W)} {vs:cV (cg×V)},KR K H kvs vs ->kvs.map (·.1)=vs.map (·.1)
 | _,_, .nil=>rfl
 | _,_, .cons ⟨e,_⟩ t=>by rw[aN,aN,BY t,e]
theorem xc {H:Hp}: ∀ (ns:cV Str),cM K H (ns.map ws) (ns.map V.str)
 | []=>cM.nil
 | _::r=>cM.cons WR.v (xc r)
instance:IC K xH EI where
 imp:=by rintro xs v M H q Q m r1 ⟨d,kvs,ks,rfl,hd,hk,hl,h⟩ k;let⟨v,rfl,r⟩:=r1.one;cases r.eq;let⟨us,e,rr⟩:=m d _ hd;show#[d,us,ks,rfl,e,by rw[<- BY rr];show hk,hl,λp ns hp h1 h2=>k _ _ _ _ (h p ns (m.fresh hp) h1 h2) (L2.fI.ts (bZ hp)) (m.xV hp (xc ns)) WR.v]
def EN:AF:=λxs M q=>cx λ(d:gL) (kvs:cV (cg×W))=>cT (xs= [wr d]) (M d=some (.dK kvs)) (∀p,M p=none ->q (wr p) (um M p (.dK kvs)))
instance:IC K Fx EN where
 imp:=by rintro xs v M H q Q m r1 ⟨d,kvs,rfl,hd,h⟩ k;let⟨v,rfl,r⟩:=r1.one;cases r.eq;let⟨us,e,rr⟩:=m d _ hd;show#[d,us,rfl,e,λp hp=>k _ _ _ _ (h p (m.fresh hp)) (L2.fI.ts (bZ hp)) (m.put (L2.fI.ts (bZ hp)) #[us,bP,KR.ts (L2.fI.ts (bZ hp)) rr]) WR.v]
def Qc {d:gL}{M:Mp}{q:WK}:EN [.v (.ref d)] M q=hJ (M d) λkvs=> ∀p,M p=none ->q (wr p) (um M p (.dK kvs)):=by apply propext;symm;rintro⟨_,kvs,h1,h2,k⟩;cases h1;show#[kvs,h2,k];rintro⟨kvs,h2,k⟩;show#[_,kvs,rfl,h2,k]
def Gw (a:WE):WI:=λρ M q=>a ρ M λx M1=>cx λd kvs=>cT (x=wr d) (M1 d=some (.dK kvs)) (∀o ks,q (kvs.map λkv=>g0 kv.1) (λM'=>M' d=some (.fz o ks kvs)) (um M1 d (.fz o ks kvs)))
def Dz {H1:Hp}{d:gL}{o:Obj}{kvs:cV (cg×W)}{ks:cV (cg×V)}:AI K H1 (KH d o ks) (kvs.map λkv=>g0 kv.1) (λM'=>M' d=some (.fz o ks kvs)):=by intro i M H t m hM;let⟨e1,r1⟩:=m d _ hM;have hl:=Ag r1;rw[ai];exact#[λh=>#[by omega,e1],λh=>#[by omega,e1],λv H' hi ⟨e2,kv,hk,e3⟩=> ?_];subst e2 e3;let⟨p,hp,e4,rp⟩:=Gm r1 hk;exact#[aY.refl _,m,g0 p.1,by rw[aH,hp];rfl,?_];rw[e4];cases kv.1<;>show WR.v
instance {t:TE}{a:WE} [ia:IE K t a]:II K (L3 t) (Gw a) where
 imp:=λρ M σ H q R o h k=>ia.imp ρ M σ H _ _ o h λx M1 v H1 ⟨d,kvs,ex,hd,h1⟩ t1 m1 r1=>by subst ex;let⟨ks,e,r⟩:=m1 d _ hd;exact#[d,ks,r1.eq,e,λob=>k _ _ _ _ _ (h1 ob ks) (t1.trans (j6 e)) (m1.put (j6 e) #[bP,KR.ts (j6 e) r]) Dz]
def UJ {a:WE}{ρ:c8}{M:Mp}{q:cV W ->(Mp ->Prop) ->Mp ->Prop}:Gw a ρ M q=a ρ M λx M1=>eI x λd=>hJ (M1 d) λkvs=> ∀o ks,q (kvs.map λkv=>g0 kv.1) (λM'=>M' d=some (.fz o ks kvs)) (um M1 d (.fz o ks kvs)):=by unfold Gw eI hJ;congr 1;funext x M1;apply propext;symm;rintro⟨d,kvs,e1,e2,h⟩;show#[d,e1,kvs,e2,h];rintro⟨d,e1,kvs,e2,h⟩;show#[d,kvs,e1,e2,h]
def PP (t:WE):WE:=λρ M q=>cx λd kvs=>M d=some (.dK kvs) /\ t ρ M λv M'=>dQ λo ks us=>M' d=some (.fz o ks us) /\ q v (um M' d (.dK us))
instance {t:TE}{a:WE} [ia:IE K t a]:IE K (Li t) (PP a) where
 imp:=λρ M σ H q Q o ⟨d,kvs,hd,h⟩ k=>by let⟨ks,ek,r⟩:=o.hp d _ hd;exact#[d,ks,ek,ia.imp ρ M σ H _ _ o h ?_];rintro x M' v H' ⟨ob,us,ws,hM,hq⟩ ts m' r';let⟨e1,r1⟩:=m' d _ hM;have t2:=MP (u:= .dK us) e1;show#[ob,us,e1,k _ _ _ _ hq (ts.trans t2) (m'.put t2 #[us,bP,KR.ts t2 r1]) (r'.ts t2)]
end
end WL
namespace L2
open PySem
def lw {X:Cx}{K:RS}(hK:X.K=K):iJ X (compareOp .NotIn) (Q4 K true):=by subst hK;show v8
theorem iI {K:RS}{h:X4}{mg:Str ->fP cW}{x:Str}{C:gL}(X:K.In h)(G:h.Ns mainGlobals mg)(a:W.nsIn K mainGlobals x=some (some (.ref C))):mg x=some (.ref C):=W.mg_of X G a
theorem iz {K:RS}{h:X4}{x:Str}{C:gL}{cd:ClassData}(_:K.In h)(a:W.nsIn K mainGlobals x=some (some (.ref C)))(e:W.excIn K C SX "ValueError.__new__" =true)(k1:W.clsIn K C=some cd)(k2:W.findIn K (.ref C) "__getattribute__" =some (some (.builtin "BaseException.__getattribute__")))(k3:W.findIn K (.ref C) "__getattr__" =some none)(k4:W.findIn K (.ref C) "__class__" =some (some (.builtin "object.__class__")))(k5:W.mroIn K C (.type "object")=some true)(k6:W.mroIn K C (.type "BaseException")=some true):nW K x C:=PF a e k1 k2 k3 k4 k5 k6
theorem MW {K:RS}{h:X4}{mg:Str ->fP cW}{x z:Str}{t:Tok}(X:K.In h)(G:h.Ns mainGlobals mg)(a:W.nsIn K mainGlobals x=some (some (.str z t))): ∃t,mg x=some (.str z t):=#[t,W.mg_of X G a]
theorem MM {K:RS}{h:X4}{mg:Str ->fP cW}{x:Str}{ad:gL}{n1 n2 n3 n4:Int}{t1 t2 t3 t4:Tok}{n:Nat}{sl:RQ (fP cW)}(X:K.In h)(G:h.Ns mainGlobals mg)(a:W.nsIn K mainGlobals x=some (some (.ref ad))) (l:K.lookup ad=some #[.type "tuple",none, .seq (List.toArray [.int n1 t1, .int n2 t2, .int n3 t3, .int n4 t4]) n,sl]):OO K mg x [n1,n2,n3,n4]:=#[ad,W.mg_of X G a,λH=> .inr #[_,_,_,l,rfl,rfl,rfl,by change 4<=sizeLine;decide, .cons #[_,rfl] (.cons #[_,rfl] (.cons #[_,rfl] (.cons #[_,rfl] .nil)))]]
end L2
namespace WL
open PySem L2
section
variable {K:RS}
def zD (a b:WE):WE:=λρ M q=>a ρ M λx M1=> ∃p,cT (x=wr p) (∃kvs,M1 p=some (.dK kvs)) (b ρ M1 λy M2=>dQ λkvs k z=>eT (M2 p=some (.dK kvs)) (y=g0 k) (eX kvs k=some z) (q z (um M2 p (.dK (jc kvs k)))))
instance {t u:TE}{a b:WE} [ia:IE K t a] [ib:IE K u b]:IE K (E6 t u) (zD a b) where
 imp :=λρ M σ H q Q o h k=>ia.imp ρ M σ H _ _ o h λx M1 v H1 ⟨p,e,⟨kvs,hp⟩,h1⟩ t1 m1 r1=>by
  subst e;let⟨ks,hk,rr⟩:=m1 p _ hp;exact#[p,r1.eq, .inl #[ks, .inl hk],ib.imp ρ M1 σ H1 _ _ (o.mv t1 m1) h1 λy M2 u H2 ⟨kvs,ky,z,e2,e3,e4,h2⟩ t2 m2 r2=> ?_];subst e3;let⟨ks,hk,rr⟩:=m2 p _ e2;have ts:=j6 (u:= .dK (kW ks ky)) hk;rcases rr.val ky with⟨n1,_⟩ | ⟨x',v',n1,n2,rx⟩
  rw[n1] at e4;cases e4;rw[n1] at e4;cases e4;show#[ks,ky,v',hk,ip r2,n2,k _ _ _ _ h2 ((t1.trans t2).trans ts) (m2.putD hk rr.drop) (rx.ts ts)]
def Qd {a b:WE}{ρ:c8}{M:Mp}{q:WK}:zD a b ρ M q=a ρ M λx M1=>eI x λp=>hJ (M1 p) λ_=>b ρ M1 λy M2=>jO y λk=>hJ (M2 p) λkvs=>lC (eX kvs k) λz=>q z (um M2 p (.dK (jc kvs k))):=by
 unfold zD eI hJ jO lC;congr 1;funext x M1;apply propext;symm;rintro⟨p,e1,⟨kvs,e2⟩,h⟩;exact#[p,e1,kvs,e2,?_];have:(λy M2=>dQ λkvs k z=>eT (M2 p=some (.dK kvs)) (y=g0 k) (eX kvs k=some z) (q z (um M2 p (.dK (jc kvs k)))))=(λy M2=> ∃k,y=g0 k /\ ∃l,M2 p=some (.dK l) /\ ∃z,eX l k=some z /\ q z (um M2 p (.dK (jc l k)))):=by funext y M2;apply propext;symm;rintro⟨kvs,k,z,h1,h2,h3,h4⟩;show#[k,h2,kvs,h1,z,h3,h4];rintro⟨k,h2,kvs,h1,z,h3,h4⟩;show#[kvs,k,z,h1,h2,h3,h4]
 rw[this] at h;show h;rintro⟨p,e1,kvs,e2,h⟩;exact#[p,e1,#[kvs,e2],?_];have:(λy M2=>dQ λkvs k z=>eT (M2 p=some (.dK kvs)) (y=g0 k) (eX kvs k=some z) (q z (um M2 p (.dK (jc kvs k)))))=(λy M2=> ∃k,y=g0 k /\ ∃l,M2 p=some (.dK l) /\ ∃z,eX l k=some z /\ q z (um M2 p (.dK (jc l k)))):=by funext y M2;apply propext;symm;rintro⟨kvs,k,z,h1,h2,h3,h4⟩;show#[k,h2,kvs,h1,z,h3,h4];rintro⟨k,h2,kvs,h1,z,h3,h4⟩;show#[kvs,k,z,h1,h2,h3,h4]
 rw[this];show h
end
end WL
namespace WQ
open PySem L2 WL WP
section
variable {α:Type}
def qp (f:α ->W)(l:cV (Str×α)):cV (cg×W):=l.map λz=>(.inr z.1,f z.2)
def cw (l:cV (Str×α))(n:Str):fP α:=(l.find? λz=>decide (z.1=n)).map (·.2)
def gf (l:cV (Str×α))(n:Str)(a:α):cV (Str×α):=if(l.any λz=>decide (z.1=n))=true then l.map (λz=>if z.1=n then(z.1,a) else z) else l++ [(n,a)]
def mn (l:cV (Str×α))(n:Str):cV (Str×α):=l.filter λz=>decide (z.1≠n)
theorem rc {a b:Str}:((Sum.inr a:cg)= .inr b)↔a=b:=#[Sum.inr.inj,λh=>by rw[h]]
def cQ (f:α ->W)(l:cV (Str×α))(n:Str):eX (qp f l) (.inr n)=(cw l n).map f:=by
 unfold eX qp cw;induction l with
 | nil=>rfl
 | cons z l ih=>rw[aN,cE,cE];simp![rc];by_cases h:z.1=n;simp[h];simpa [h] using ih
def fO (f:α ->W)(l:cV (Str×α))(n:Str)(a:α):vS (qp f l) (.inr n) (f a)=qp f (gf l n a):=by
 have e:((qp f l).any λkv=>decide (kv.1= .inr n))=(l.any λz=>decide (z.1=n)):=by unfold qp;rw[List.any_map];congr 1;funext z;simp![Function.comp,rc]
 unfold vS gf;rw[e];split;unfold qp;rw[a4,a4];apply List.map_congr_left;intro z _;simp![Function.comp,rc];split<;>rfl;unfold qp;rw[bn];rfl
def nH (f:α ->W)(l:cV (Str×α))(n:Str):jc (qp f l) (.inr n)=qp f (mn l n):=by unfold jc qp mn;rw[List.filter_map];congr 2;funext z;simp![Function.comp,ne_eq,rc]
def mI (f:α ->W)(l:cV (Str×α)):(qp f l).map (·.1)=(l.map (·.1)).map Sum.inr:=by unfold qp;rw[a4,a4];rfl
def mH (f:α ->W)(l:cV (Str×α)):(qp f l).length=l.length:=by unfold qp;rw[ai]
def lr (l:cV (Str×α))(n:Str)(a:α):(gf l n a).length<=l.length+1:=by unfold gf;split<;>simp
theorem rm (l:cV (Str×α))(n:Str):(mn l n).length<=l.length:=List.length_filter_le _ _
def eB {l:cV (Str×α)}{n:Str}{a:α}(h:cw l n=some a): ∃z∈l,z.1=n /\ z.2=a:=by
 unfold cw at h;cases e:l.find? λz=>decide (z.1=n) with
 | none=>rw[e] at h;cases h
 | some z=>rw[e] at h;cases h;show#[z,List.mem_of_find?_eq_some e, ⇑(List.find?_some e),rfl]
def Kc {l:cV (Str×α)}{z:Str×α}(h:z∈l): ∃a,cw l z.1=some a:=by
 unfold cw;cases e:l.find? λy=>decide (y.1=z.1) with
 | none=>simpa using List.find?_eq_none.mp e z h
 | some y=>show#[_,rfl]
def mY {l:cV (Str×α)}{n:Str}{a:α}{z:Str×α}(h:z∈gf l n a):z∈l \/ z=(n,a):=by unfold gf at h;split at h;let⟨y,hy,rfl⟩:=List.mem_map.mp h;split;rename_i e;rw[e];show .inr rfl;show .inl hy;obtain h | h:=bh.mp h;show .inl h;show .inr (a_.mp h)
theorem nK {l:cV (Str×α)}{n:Str}{z:Str×α}(h:z∈mn l n):z∈l:=(List.mem_filter.mp h).1
def FA (l:cV (Str×α))(n:Str)(a:α):(gf l n a).map (·.1)=if(l.any λz=>decide (z.1=n))=true then l.map (·.1) else l.map (·.1)++ [n]:=by unfold gf;split;rw[a4];apply List.map_congr_left;intro z _;simp![Function.comp];split<;>rfl;rw[bn];rfl
def Fz {l:cV (Str×α)}{n:Str}{a:α}(h:(l.map (·.1)).Nodup):((gf l n a).map (·.1)).Nodup:=by rw[FA];split;show h;rename_i hn;rw[List.nodup_append];exact#[h,by simp,λx hx y hy=> ?_];rw[a_.mp hy];rintro rfl;apply hn;let⟨z,hz,e⟩:=List.mem_map.mp hx;show List.any_eq_true.mpr #[z,hz, ⇑e]
theorem Ha {l:cV (Str×α)}{n:Str}(h:(l.map (·.1)).Nodup):((mn l n).map (·.1)).Nodup:=h.sublist (List.Sublist.map _ List.filter_sublist)
def xu {a b c:cV Str}(h1:a.Perm c)(h2:b.Perm c)(s1:a.Pairwise λx y=>¬y.cps.toList<x.cps.toList)(s2:b.Pairwise λx y=>¬y.cps.toList<x.cps.toList):a=b:=by exact List.Perm.eq_of_pairwise (le:=λx y=>¬y.cps.toList<x.cps.toList) (λx y _ _ UL hyx=> ?_) s1 s2 (h1.trans h2.symm);show IY (List.le_antisymm UL hyx)
end
inductive Rf where
 | BadName | NoDeed | NoRound | NoCrew | Taken | InUse | TooMany | TooFar | NoMore | NoState
def C4:Rf ->Str
 | .BadName=> "BadName" | .NoDeed=> "NoDeed" | .NoRound=> "NoRound" | .NoCrew=> "NoCrew" | .Taken=> "Taken" | .InUse=> "InUse" | .TooMany=> "TooMany" | .TooFar=> "TooFar" | .NoMore=> "NoMore" | .NoState=> "NoState"
abbrev w5:Str:= "abcdefghijklmnopqrstuvwxyz"
abbrev Rm:=cV (Str×Rd)
abbrev Tm:=cV (Str×cV Str)
def eQ (l:cV Str):W:= .tup (l.map ws)
abbrev tX (R:Rm):cV (cg×W):=qp ge R
abbrev mx (T:Tm):cV (cg×W):=qp eQ T
def pM (n:Str)(l:cV Str):Bool:=LZ (.str n) (l.map V.str)
def qo (T:Tm)(n:Str):Bool:=T.any λz=>pM n z.2
def b8 (n:Str):Bool:=decide (1<=n.length) && decide (n.length<=12) && (zn n).all λc=>zp c w5
def f7 (a:Rd)(m r:Int):Bool:= !(decide ((if a.1<0 then -a.1 else a.1) <=m) && a.2.all λz=>decide ((if z.1<0 then -z.1 else z.1) <=r))
abbrev f_ (n:Str):Prop:=n.cps.all (· <128)=true
def ku (r t:gL):cV (Str×W):= [("rounds",wr r),("teams",wr t)]
def fb (p:Int)(now la lu lh:gL):cV (Str×W):= [("p",wi p),("now",wr now),("past",wr la),("undone",wr lu),("held",wr lh)]
section
variable {p:Int}{r t now la lu lh x:gL}
theorem oz:(ku r t).lookup ("rounds" :Str)=some (wr r):=rfl
theorem l7:(ku r t).lookup ("teams" :Str)=some (wr t):=rfl
theorem Hv:(fb p now la lu lh).lookup ("p" :Str)=some (wi p):=rfl
theorem jt:(fb p now la lu lh).lookup ("now" :Str)=some (wr now):=rfl
theorem acV:(fb p now la lu lh).lookup ("past" :Str)=some (wr la):=rfl
theorem acT:hZ "now" (wr x) (fb p now la lu lh)=fb p x la lu lh:=rfl
theorem acS:hZ "undone" (wr x) (fb p now la lu lh)=fb p now la x lh:=rfl
theorem acU:((fb p now la lu lh).length<1000)=True:=aC (by change 5<1000;decide)
theorem gQ:(fb p now la lu lh).lookup ("turn_to" :Str)=none:=rfl
theorem tD:(fb p now la lu lh).lookup ("put" :Str)=none:=rfl
theorem lg:(fb p now la lu lh).lookup ("put_team" :Str)=none:=rfl
theorem qf:(fb p now la lu lh).lookup ("enlisted" :Str)=none:=rfl
theorem rq:(fb p now la lu lh).lookup ("team" :Str)=none:=rfl
theorem Ku:(fb p now la lu lh).lookup ("tell" :Str)=none:=rfl
theorem Az:(fb p now la lu lh).lookup ("join_as" :Str)=none:=rfl
theorem AC:(fb p now la lu lh).lookup ("back_as" :Str)=none:=rfl
theorem yU:(fb p now la lu lh).lookup ("times_as" :Str)=none:=rfl
theorem Kv:(fb p now la lu lh).lookup ("drop" :Str)=none:=rfl
theorem Ht:(fb p now la lu lh).lookup ("found" :Str)=none:=rfl
theorem AB:(fb p now la lu lh).lookup ("disband" :Str)=none:=rfl
theorem Eb:(fb p now la lu lh).lookup ("enlist" :Str)=none:=rfl
theorem AA:(fb p now la lu lh).lookup ("dismiss" :Str)=none:=rfl
theorem Hs:(fb p now la lu lh).lookup ("names" :Str)=none:=rfl
theorem Hu:(fb p now la lu lh).lookup ("crews" :Str)=none:=rfl
theorem eO:(fb p now la lu lh).lookup ("round_of" :Str)=none:=rfl
theorem Ay:(fb p now la lu lh).lookup ("members" :Str)=none:=rfl
end
def E1 {α:Type}(f:α ->W)(l:cV (Str×α)):(qp f l).map (λx=>x.2)=l.map λz=>f z.2:=by unfold qp;rw[a4];rfl
def u8 (l:cV Str):(l.map V.str).all kJ=true:=by rw[List.all_map];show List.all_eq_true.mpr λ_ _=>rfl
theorem re {n:Str}{l:cV Str}{M:Mp}{q:WK}(h:q (wb (pM n l)) M):TX false (ws n) (eQ l) M q:=#[.str n,l.map V.str,rfl, .inl (by unfold eQ;rw[a4];rfl),rfl,u8 l,h]
theorem md {n:Str}{l:cV Str}{M:Mp}{q:WK}(h:q (wb (!pM n l)) M):TX true (ws n) (eQ l) M q:=#[.str n,l.map V.str,rfl, .inl (by unfold eQ;rw[a4];rfl),rfl,u8 l,h]
theorem A5 {M:Mp}{t u:gL}{o f:MO}{l:MO}(h:M t=some o)(hu:um M t f u=none):Sm M (um (um (um M t f) u l) t o):=λa x e=>by by_cases ht:a=t;subst ht;rw[aq];rw[h] at e;show e;rw[aU ht,aU (cC (M:=um M t f) (by rw[aU ht];show e) hu),aU ht];show e
def Pg (C:gL)(M:Mp)(a:gL)(R:Rm)(T:Tm):Prop:=dQ λ(dx r t:gL)=>cT (M a=some (.ins C dx (ku r t))) (M r=some (.dK (tX R))) (M t=some (.dK (mx T)))
structure Bk (B C:Addr)(M:Mp)(b la lu lh:Addr)(p:Int)(now:Addr)(pa un he:List Addr)(R:Rm)(T:Tm):Prop where
 ob: ∃dx,M b=some (.ins B dx (fb p now la lu lh))
 pa:M la=some (.lst (pa.map wr))
 un:M lu=some (.lst (un.map wr))
 he:M lh=some (.lst (he.map wr))
 ne:la≠lu /\ la≠lh /\ lu≠lh
 pg:Pg C M now R T
def CL (b la:gL)(M M':Mp):Prop:= ∀a o,M a=some o ->a≠b ->a≠la ->M' a=some o
def Pg.sm {C a:gL}{M M':Mp}{R:Rm}{T:Tm}(h:Pg C M a R T)(s:Sm M M'):Pg C M' a R T:=by let⟨dx,r,t,h1,h2,h3⟩:=h;show#[dx,r,t,s _ _ h1,s _ _ h2,s _ _ h3]
def Bk.sm {B C b la lu lh now:gL}{M M':Mp}{p:Int}{pa un he:cV gL}{R:Rm}{T:Tm}(h:Bk B C M b la lu lh p now pa un he R T)(s:Sm M M'):Bk B C M' b la lu lh p now pa un he R T:=by let⟨⟨dx,h1⟩,h2,h3,h4,h5,h6⟩:=h;show#[#[dx,s _ _ h1],s _ _ h2,s _ _ h3,s _ _ h4,h5,h6.sm s]
theorem CL.sm {b la:gL}{M M1 M':Mp}(F:CL b la M1 M')(s:Sm M M1):CL b la M M':=λa o h n1 n2=>F a o (s a o h) n1 n2
theorem CL.Mi {b la:gL}{M M':Mp}(F:CL b la M M'){B dx:gL}{fs:cV (Str×W)}{l:cV W}(hb:M b=some (.ins B dx fs))(ha:M la=some (.lst l)){r:gL}{kvs:cV (cg×W)}(h:M r=some (.dK kvs)):M' r=some (.dK kvs):=F _ _ h (λz=>by subst z;rw[hb] at h;cases h) λz=>by subst z;rw[ha] at h;cases h
def CL.pg {b la:gL}{M M':Mp}(F:CL b la M M'){B C dx now la' lu lh a:gL}{p:Int}{l:cV W}{R:Rm}{T:Tm}(hb:M b=some (.ins B dx (fb p now la' lu lh)))(ha:M la=some (.lst l))(h:Pg C M a R T):Pg C M' a R T:=by let⟨ly,r,t,h1,h2,h3⟩:=h;exact#[ly,r,t,F _ _ h1 (λz=> ?_) (λz=> ?_),F.Mi hb ha h2,F.Mi hb ha h3];subst z;rw[hb] at h1;injection h1 with h1;injection h1 with _ _ h1;have:=congrArg List.length h1;revert this;change 5=2 ->False;decide;subst z;rw[ha] at h1;cases h1
def Fs (s:gL)(M M':Mp):Prop:= ∀a o,M a=some o ->a≠s ->M' a=some o
theorem Fs.trans {s:gL}{M M1 M2:Mp}(f:Fs s M M1)(g:Fs s M1 M2):Fs s M M2:=λa o h n=>g a o (f a o h n) n
theorem Fs.self {s:gL}{M:Mp}{o:MO}:Fs s M (um M s o):=λa u h n=>by rw[aU n];show h
theorem Fs.new {s p:gL}{M M':Mp}{o:MO}(f:Fs s M M')(hp:M' p=none):Fs s M (um M' p o):=λa u h n=>by rw[aU (cC (f a u h n) hp)];show f a u h n
theorem Fs.put {s:gL}{M M':Mp}{o:MO}(f:Fs s M M'):Fs s M (um M' s o):=λa u h n=>by rw[aU n];show f a u h n
def Fs.free {s p:gL}{M M':Mp}(f:Fs s M M')(hp:M' p=none)(n:p≠s):M p=none:=by
 cases e:M p with
 | none=>rfl
 | some o=>rw[f p o e n] at hp;cases hp
structure pe (p:Int)(R:Rm):Prop where
 nd:(R.map (·.1)).Nodup
 len:R.length<=1000
 ok: ∀z∈R,dB p z.2.2 /\ z.2.2.length<=401 /\ f7 z.2 200 200=false
def Nz (C:gL):gh:=λxs M q e=> ∃n:Str,fS (xs= [ws n]) (f_ n) (n.length<=100) (b8 n=true ->q wn M) (b8 n=false ->e C M)
def Np:fC:=λxs M q=>gb λ(d:gL) (kvs:cV (cg×W)) (n:Str) (x:W)=>eT (xs= [wr d,ws n,x]) (M d=some (.dK kvs)) (kvs.length<=2000) (∀r,M r=none ->q (wr r) (um M r (.dK (vS kvs (.inr n) x))))
def FL:fC:=λxs M q=>dQ λ(d:gL) (kvs:cV (cg×W)) (n:Str)=>eT (xs= [wr d,ws n]) (M d=some (.dK kvs)) ((eX kvs (.inr n)).isSome=true) (∀r,M r=none ->q (wr r) (um M r (.dK (jc kvs (.inr n)))))
def Rh (C:gL):fC:=λxs M q=>gb λ(s dx r t:gL)=>cT (xs= [wr s,wr r,wr t]) (M s=some (.ins C dx [])) (q wn (um M s (.ins C dx (ku r t))))
def Rq (B C:gL):fC:=λxs M q=>dQ λ(s dx:gL) (p:Int)=>eT (xs= [wr s,wi p]) (p=2 \/ p=3 \/ p=5 \/ p=7) (M s=some (.ins B dx [])) (∀M' la lu lh now,Bk B C M' s la lu lh p now [] [] [] [] [] ->Fs s M M' ->M la=none ->M lu=none ->M lh=none ->la≠s ->q wn M')
def Ra (B C:gL):fC:=λxs M q=>Td λ(b la lu lh now pg:gL)=>gb λ(p:Int) (pa un he:cV gL)=>gb λ(R:Rm) (T:Tm) (R':Rm) (T':Tm)=>fS (xs= [wr b,wr pg]) (Bk B C M b la lu lh p now pa un he R T) (Pg C M pg R' T') (pa.length<=1000) (∀M' eR,Bk B C M' b la eR lh p pg (pa++ [now]) [] he R' T' ->CL b la M M' ->M eR=none ->q wn M')
def C9 (B C:gL):fC:=λxs M q=>vx λ(b la lu lh now:gL)=>gb λ(p:Int) (pa un he:cV gL)=>dQ λ(R:Rm) (T:Tm) (n:Str)=>eT (xs= [wr b,ws n]) (Bk B C M b la lu lh p now pa un he R T) (T.length<=1000) (q (wb (qo T n)) M)
def c9 (T:Tm)(n:Str)(a:Rd):Bool:=f7 a 200 200 || (qo T n && f7 a 8 24)
def C8 (B C X:gL):gh:=λxs M q e=>vx λ(b la lu lh now:gL)=>gb λ(p:Int) (pa un he:cV gL)=>gb λ(R:Rm) (T:Tm) (n:Str) (a:Rd)=>zy (xs= [wr b,ws n,ge a]) (Bk B C M b la lu lh p now pa un he R T) (pa.length<=1000) (R.length<=1000) (T.length<=1000) (a.2.length<=1000000) (c9 T n a=false -> ∀M' eR pg,Bk B C M' b la eR lh p pg (pa++ [now]) [] he (gf R n a) T ->CL b la M M' ->M eR=none ->M pg=none ->q wn M') (c9 T n a=true ->e X M)
def FM:fC:=λxs M q=>dQ λ(a:Rd) (e r:Int)=>cT (xs= [ge a,wi e,wi r]) (a.2.length<=1000000) (q (wb (!f7 a e r)) M)
def Ny:fC:=λxs M q=> ∃a:Rd,cT (xs= [ge a]) (a.2.length<=1000000) (q (wb (!f7 a 8 24)) M)
inductive dq where
 | tell (n:Str) (ds:List (Str×Int)) | join (n x y:Str) | back (n x:Str) | times (n x:Str) (k:Int) | drop (n:Str)
inductive Oc (α:Type) where
 | ok (R:α) | bad (r:Rf)
noncomputable def Fu (p:Int) (a:Rd) (n:Int):Rd:=Classical.epsilon λr=>gk p a n r
theorem Bp {p:Int}(hp:0<p){a r:Rd}{n:Int}(h:gk p a n r):Fu p a n=r:=(Classical.epsilon_spec (p:=λr=>gk p a n r) #[r,h]).eq hp h
def Q0 {p:Int}(hp:0<p){a:Rd}(h:dB p a.2):gk p a 1 a:=by
 exact#[by rw[Int.mul_one],h,λx=> ?_];have e:j7 (eY a.2) a.1 1 x=eY a.2 x:=by simp[j7,ft]
 rw[e, <- lp hp,F' hp h]
theorem Nc {p:Int}(hp:0<p){a:Rd}:gk p a (-1) (bk p a):=(Q0 hp (AD hp a)).wj hp ⋯
def iG (ds:cV (Str×Int)):Bool:=ds.all λd=>decide (d.1= "go") || decide (d.1= "turn")
def sP {ds:cV (Str×Int)}:iG ds=true↔ ∀d∈ds,Good d:=by unfold iG Good;rw[List.all_eq_true];simp![Bool.or_eq_true,dc]
def gZ (R:Rm)(T:Tm)(n:Str)(a:Rd):Oc Rm:=if c9 T n a=true then .bad .TooFar else .ok (gf R n a)
noncomputable def cc (p:Int) (R:Rm) (T:Tm):dq ->Oc Rm
 | .tell n ds=>if b8 n=false then .bad .BadName else if iG ds=false then .bad .NoDeed else gZ R T n ((d9 ds).1,oG p (d9 ds).2)
 | .join n x y=>if b8 n=false then .bad .BadName else match cw R x,cw R y with
  | some a,some b=>gZ R T n (jn p a b)
  | _,_=> .bad .NoRound
 | .back n x=>if b8 n=false then .bad .BadName else match cw R x with
  | some a=>gZ R T n (bk p a)
  | none=> .bad .NoRound
 | .times n x k=>if b8 n=false then .bad .BadName else match cw R x with
  | some a=>gZ R T n (Fu p a k)
  | none=> .bad .NoRound
 | .drop n=>match cw R n with
  | none=> .bad .NoRound
  | some _=>if qo T n=true then .bad .InUse else .ok (mn R n)
structure Nm (n:Str):Prop where
 as:f_ n
 len:n.length<=100
def AS:dq ->Prop
 | .tell n ds=>cT (Nm n) (ds.length<=50) (∀d∈ds,d.1.length<=100)
 | .join n x y=>cT (Nm n) (Nm x) (Nm y)
 | .back n x=>Nm n /\ Nm x
 | .times n x k=>eT (Nm n) (Nm x) (-100<=k) (k<=100)
 | .drop n=>Nm n
structure KZ (p:Int)(R:Rm)(T:Tm)(pa:List Addr):Prop where
 p4:p=2 \/ p=3 \/ p=5 \/ p=7
 pa:pa.length<=900
 r:pe p R
 t:T.length<=900
def qk (B C:gL)(M:Mp)(b la lh:gL)(p:Int)(now:gL)(pa he:cV gL)(R:Rm)(T:Tm)(q:WK):Prop:=∀M' eR pg,Bk B C M' b la eR lh p pg (pa++ [now]) [] he R T ->CL b la M M' ->M eR=none ->M pg=none ->q wn M'
def Rp (B C:gL)(tw:Rf ->gL)(f:cV W ->Mp ->dq ->Prop):gh:=λxs M q e=>vx λ(b la lu lh now:gL)=>gb λ(p:Int) (pa un he:cV gL)=>gb λ(R:Rm) (T:Tm) (dd:dq) (ys:cV W)=>Kz (xs=wr b::ys) (f ys M dd) (AS dd) (Bk B C M b la lu lh p now pa un he R T) (KZ p R T pa) (∀R',cc p R T dd= .ok R' ->qk B C M b la lh p now pa he R' T q) (∀r,cc p R T dd= .bad r ->e (tw r) M)
def vR {B C X:gL}{M:Mp}{b la lu lh now:gL}{p:Int}{pa un he:cV gL}{R:Rm}{T:Tm}{n:Str}{a:Rd}{O:Oc Rm}{q:WK}{e:WX}{tw:Rf ->gL}(hB:Bk B C M b la lu lh p now pa un he R T)(hS:KZ p R T pa)(hl:a.2.length<=1000000)(ho:O=gZ R T n a) (kq: ∀R',O= .ok R' ->qk B C M b la lh p now pa he R' T q) (ke: ∀r,O= .bad r ->up e (tw r) M) (hX:X=tw .TooFar:=by rfl):C8 B C X [wr b,ws n,ge a] M (λ_ M1=> ∃M0,Sm M0 M1 /\ q wn M0) (up e):=by have h1:=hS.pa;have h2:=hS.r.len;have h3:=hS.t;exact#[b,la,lu,lh,now,p,pa,un,he,R,T,n,a,rfl,hB,by omega,h2,by omega,hl,λhb M' eR pg B' F hu hp=>eC (kq _ (by rw[ho,gZ,ak (by rw[hb];decide)]) M' eR pg B' F hu hp),λhb=> ?_];rw[hX];show ke .TooFar (by rw[ho,gZ,am hb])
def SM (ys:cV W)(M:Mp)(dd:dq):Prop:=dQ λ(n:Str) (a:gL) (ds:cV (Str×Int))=>cT (ys= [ws n,wr a]) (dd= .tell n ds) (M a=some (.lst (ds.map fo)))
def SN (ys:cV W)(_:Mp)(dd:dq):Prop:=dQ λ(n x y:Str)=>ys= [ws n,ws x,ws y] /\ dd= .join n x y
def SQ (ys:cV W)(_:Mp)(dd:dq):Prop:=cx λ(n x:Str)=>ys= [ws n,ws x] /\ dd= .back n x
def OA (ys:cV W)(_:Mp)(dd:dq):Prop:=dQ λ(n x:Str) (k:Int)=>ys= [ws n,ws x,wi k] /\ dd= .times n x k
def SO (ys:cV W)(_:Mp)(dd:dq):Prop:= ∃n:Str,ys= [ws n] /\ dd= .drop n
def FN (B C X:gL):gh:=λxs M q e=>vx λ(b la lu lh now:gL)=>gb λ(p:Int) (pa un he:cV gL)=>dQ λ(R:Rm) (T:Tm) (n:Str)=>fS (xs= [wr b,ws n]) (Bk B C M b la lu lh p now pa un he R T) (n.length<=100) (∀a,cw R n=some a ->q (ge a) M) (cw R n=none ->e X M)
def Jq (B C:gL):fC:=λxs M q=>vx λ(b la lu lh now:gL)=>gb λ(p:Int) (pa un he:cV gL)=>cx λ(R:Rm) (T:Tm)=>eT (xs= [wr b]) (Bk B C M b la lu lh p now pa un he R T) (R.length<=1000) (∀ (u:gL) (ns:cV Str),M u=none ->ns.Perm (R.map (·.1)) ->ns.Pairwise (λx y=>¬y.cps.toList<x.cps.toList) ->q (wr u) (um M u (.lst (ns.map ws))))
def Ju (B C:gL):fC:=λxs M q=>vx λ(b la lu lh now:gL)=>gb λ(p:Int) (pa un he:cV gL)=>cx λ(R:Rm) (T:Tm)=>eT (xs= [wr b]) (Bk B C M b la lu lh p now pa un he R T) (T.length<=1000) (∀ (u:gL) (ns:cV Str),M u=none ->ns.Perm (T.map (·.1)) ->ns.Pairwise (λx y=>¬y.cps.toList<x.cps.toList) ->q (wr u) (um M u (.lst (ns.map ws))))
theorem Md {a n:Str}(h:a.length<=100)(hn:n.length<=100):(a++n).length<=sizeLine:=cz (by rw[gr];omega)
theorem Mc {a n c:Str}(h:a.length<=100)(hn:n.length<=100)(hc:c.length<=100):(a++n++c).length<=sizeLine:=cz (by rw[gr,gr];omega)
theorem UW {a n c d:Str}(h:a.length<=100)(hn:n.length<=100)(hc:c.length<=100)(hd:d.length<=100):(a++n++c++d).length<=sizeLine:=cz (by rw[gr,gr,gr];omega)
theorem xF {lo hi:Int}: ∀ {l:Pt} {a:Int},l.Pairwise (λx y=>x.1<y.1) ->(∀z∈l,a<=z.1 /\ z.1<=hi) ->a<=hi+1 ->(l.length:Int) <=hi+1 - a
 | [],a,_,_,h=>by simp;omega
 | z::l,a,hp,hb,h=>by have h0:=hb z (by simp);have:=xF (lo:=lo) (hi:=hi) (l:=l) (a:=z.1+1) (bW.mp hp).2 (λy hy=>#[by have:=(bW.mp hp).1 y hy;omega,(hb y (by simp[hy])).2]) (by omega);rw[aL];push_cast;omega
def Kh {a:Rd}{p:Int}(h:f7 a 200 200=false)(hp:dB p a.2):a.2.length<=401:=by unfold f7 at h;rw[Bool.not_eq_false',cI,List.all_eq_true] at h;have:=xF (lo:=0) (hi:=200) (a:= -200) hp.2 (λz hz=>by have:=bI (h.2 z hz);split at this<;>omega) ⋯;omega
def pe.put {p:Int}{R:Rm}{T:Tm}{n:Str}{a:Rd}(h:pe p R)(hl:R.length<1000)(ha:dB p a.2)(hb:c9 T n a=false):pe p (gf R n a):=by
 have hf:f7 a 200 200=false:=by unfold c9 at hb;rw[Bool.or_eq_false_iff] at hb;show hb.1
 show#[Fz h.nd,av (lr _ _ _) hl,λz hz=>(mY hz).elim (h.ok z) λe=>by rw[e];show#[ha,Kh hf ha,hf]]
theorem pe.del {p:Int}{R:Rm}{n:Str}(h:pe p R):pe p (mn R n):=#[Ha h.nd,av (rm _ _) h.len,λz hz=>h.ok z (nK hz)]
def lj {x:Str}:f_ x↔ ∀c∈x.cps.toList,c<128:=by unfold f_;rw[<- Array.all_toList,List.all_eq_true];simp![dc]
def Nm.app {x y:Str}(hx:f_ x)(hy:f_ y):f_ (x++y):=by rw[lj] at*;intro c hc;rw[CH] at hc;show(bh.mp hc).elim (hx c) (hy c)
def yW {x:Str}{lo hi:fP Int}(hx:f_ x):f_ (Txt.slice x lo hi):=by unfold Txt.slice;split;show hx;rw[lj] at*;intro c hc;rw[List.mem_filterMap] at hc;let⟨i,_,hi⟩:=hc;show hx c (Array.mem_toList_iff.mpr (Array.mem_of_getElem? hi))
def Hy {x:Str}{n:Nat}(hx:f_ x):f_ (gz x n):=by
 unfold gz;split;decide+kernel;split;show hx;rw [lj] at*;have: ∀ (n:Nat) (a:RQ Nat),(∀c∈a.toList,c<128) -> ∀c∈((List.replicate n x.cps).foldl (· ++ ·) a).toList,c<128:=by
  intro n;induction n with
  | zero=>intro a ha c hc;show ha c hc
  | succ n ih=>intro a ha c hc;rw[List.replicate_succ,List.foldl_cons] at hc;exact ih (a++x.cps) (λc hc=> ?_) c hc;rw[bM] at hc;show(bh.mp hc).elim (ha c) (hx c)
 show this n #[] (by simp)
def CT {x:Str}{n:Nat}:(gz x n).length<=n*x.length:=by unfold gz;split;change 0<=_;omega;split;rename_i h0 h;obtain h | h:=h;subst h;omega;rw[h];omega;rw[Bo];show ao _
def Hz {ss:cV Str}{iL:Str}(h0:f_ iL)(h: ∀x∈ss,f_ x):f_ (Builtin.Str.glued iL ss):=by
 cases ss with
 | nil=>rw[uY];decide+kernel
 | cons x ss=>rw[lj];intro c hc;rw[uZ,bh] at hc;obtain hc | hc:=hc;show lj.mp (h x (by simp)) c hc;let⟨l,hl,hc⟩:=List.mem_flatten.mp hc;let⟨y,hy,rfl⟩:=List.mem_map.mp hl;obtain hc | hc:=bh.mp hc;show lj.mp h0 c hc;show lj.mp (h y (by simp[hy])) c hc
def Ge {i:Int}(h0:0<=i)(h1:i<26): ∃c,hU w5.cps.toList i=some c /\ f_ ⟨#[c]⟩:=by
 have hl:w5.cps.toList.length=26:=by decide+kernel
 have hj:i.toNat<w5.cps.toList.length:=by omega
 have ha: ∀c∈w5.cps.toList,c<128:=by decide+kernel
 exact#[w5.cps.toList[i.toNat],gu h0 (aG hj),lj.mpr λc hc=> ?_];have e:c=w5.cps.toList[i.toNat]:= ⇑hc;rw[e];show ha _ (List.getElem_mem _)
def Jp:fC:=λxs M q=>dQ λ(d l:gL) (m:Int)=>fS (xs= [wr d,wi m]) (Dr M d l) (0<=m) (m<=20) (∀ (u:gL) (ns:cV Str) (M':Mp),M' u=some (.lst (ns.map ws)) ->(ns.length:Int)=m ->(∀n∈ns,Nm n) ->u≠d ->u≠l ->Dr M' d l ->q (wr u) M')
end WQ
namespace WL
open PySem L2
section
variable {K:RS}
def ES:WM:=λx ys M q=>cx λa l=>eT (x=wr a) (ys= []) (M a=some (.lst l)) (q wn (um M a (.lst [])))
instance:IM K Fy ES where
 imp:=by
  rintro x v ys us M H q Q m r1 r2 ⟨a,l,rfl,rfl,ha,h⟩ k;cases r1.eq;let⟨vs,hv,rr⟩:=m a _ ha;have e:us= []:=by simpa only[cM] using r2
  subst e;show#[a,vs,rfl,rfl,hv,k _ _ _ _ h (jh hv) (m.putL hv cM.nil) WR.v]
def Qh {a:gL}{M:Mp}{q:WK}:ES (.v (.ref a)) [] M q=lstK (M a) λ_=>q wn (um M a (.lst [])):=by apply propext;symm;rintro⟨_,l,h1,_,h2,k⟩;cases h1;show#[l,h2,k];rintro⟨l,h2,k⟩;show#[_,l,rfl,rfl,h2,k]
end
end WL
namespace WQ
open PySem L2 WL WP
def RT (x:Str):LZ (.str x) [.str "go", .str "turn"]=(decide (x= "go") || decide (x= "turn")):=by
 change(EB (.str "go") (.str x) || (EB (.str "turn") (.str x) || false))=_;rw[Bool.or_false,Bool.eq_iff_iff,Bool.or_eq_true,Bool.or_eq_true,dc,dc];have e: ∀y:Str,EB (.str y) (.str x)=true↔x=y:=λy=>by simp[EB];show eq_comm
 rw[e,e]
theorem o6:Ko ws Dt.str:=λ_=>rfl
def Au (l:cV Str):rj (.lst (l.map Dt.str)) <=50:=by
 have: ∀l:cV Str,jQ (l.map Dt.str) <=1:=λl=>by
  induction l with
  | nil=>simp[jQ]
  | cons x l ih=>simp[jQ,rj];omega
 have:=this l;simp![rj];omega
theorem Fh {p:gh}{xs:cV W}{M:Mp}{q:WK}(h:p xs M q λ_ _=>False):tt (QS p) xs M q:=h
def lv {xs:cV W}{y:Int}{k:W ->Prop}(P:W ->Prop)(h0:0<=y)(h1:y<xs.length)(hP: ∀x∈xs,P x)(hk: ∀x,P x ->k x):lC (hU xs y) k:=by
 have hj:y.toNat<xs.length:=by omega
 show#[xs[y.toNat],gu h0 (aG hj),hk _ (hP _ (List.getElem_mem _))]
structure tE (T:Tm):Prop where
 nd:(T.map (·.1)).Nodup
 len:T.length<=900
 key: ∀z∈T,z.1.length<=100
 mem: ∀z∈T,z.2.length<=100
def GS {α:Type}{l:cV (Str×α)}(h:(l.map (·.1)).Nodup){z:Str×α}(hz:z∈l):cw l z.1=some z.2:=by
 induction l with
 | nil=>cases hz
 | cons y l ih=>rw[aN,List.nodup_cons] at h;unfold cw;rw[cE];obtain e | e:=aS.mp hz;subst e;simp;have mB:y.1≠z.1:=λe2=>h.1 (List.mem_map.mpr #[z,e,e2.symm]);rw[aF mB];show ih h.2 e
def Fq (M:Mp)(h:gL):Mp:=λa=>if a=h then none else M a
theorem ot {M:Mp}{h a:gL}(n:a≠h):Fq M h a=M a:=ak n
theorem Jf {M M2:Mp}{h:gL}{o:MO}(s:Sm M M2):Sm (Fq M h) (um M2 h o):=λa u e=>by by_cases n:a=h;subst n;unfold Fq at e;rw[am rfl] at e;cases e;rw[ot n] at e;rw[aU n];show s _ _ e
def Bk.Fq {B C b la lu lh now h:gL}{M:Mp}{p:Int}{pa un he:cV gL}{R:Rm}{T:Tm}{l:cV W}(hB:Bk B C M b la lu lh p now pa un he R T)(hh:M h=some (.lst l))(n1:la≠h)(n2:lu≠h)(n3:lh≠h):Bk B C (Fq M h) b la lu lh p now pa un he R T:=by
 let⟨⟨dx,h1⟩,h2,h3,h4,h5,ly,r,t,h6,h7,h8⟩:=hB;have ni: ∀ {a:gL} {o:MO},M a=some o ->(∀l,o≠ .lst l) ->WQ.Fq M h a=some o:=λ{a o} e n=>by rw[ot (λz=>by subst z;rw[e] at hh;cases hh;show n _ rfl)];show e
 show#[#[dx,ni h1 (λ_ z=>nomatch z)],by rw[ot n1];show h2,by rw[ot n2];show h3,by rw[ot n3];show h4,h5,ly,r,t,ni h6 (λ_ z=>nomatch z),ni h7 (λ_ z=>nomatch z),ni h8 (λ_ z=>nomatch z)]
theorem CL.Fq {b la h:gL}{M M1 M':Mp}(F:CL b la M1 M')(s:Sm M M1)(hh:M h=none):CL b la M (Fq M' h):=λa o e n1 n2=>by rw[ot (cC e hh)];show F a o (s a o e) n1 n2
def DV (M:Mp):dq ->W ->Prop
 | .tell n ds,w=> ∃a:gL,w= .tup [ws "tell",ws n,wr a] /\ M a=some (.lst (ds.map fo))
 | .join n x y,w=>w= .tup [ws "join",ws n, .tup [ws x,ws y]]
 | .back n x,w=>w= .tup [ws "back",ws n, .tup [ws x],wi (-1)]
 | .times n x k,w=>w= .tup [ws "times",ws n, .tup [ws x],wi k]
 | .drop n,w=>w= .tup [ws "drop",ws n]
def DV.mv {M M':Mp}{dd:dq}{w:W}(h:DV M dd w)(f: ∀a l,M a=some (.lst l) ->(∃n,w= .tup [ws "tell",n,wr a]) ->M' a=some (.lst l)):DV M' dd w:=by
 cases dd with
 | tell n ds=>let⟨a,rfl,ha⟩:=h;show#[a,rfl,f a _ ha #[_,rfl]]
 | _=>show h
theorem DV.sm {M M':Mp}{dd:dq}{w:W}(h:DV M dd w)(s:Sm M M'):DV M' dd w:=h.mv λa l e _=>s a _ e
noncomputable def hV (p:Int) (R:Rm):dq ->fP Rd
 | .tell _ ds=>some ((d9 ds).1,oG p (d9 ds).2)
 | .join _ x y=>match cw R x,cw R y with
  | some a,some b=>some (jn p a b)
  | _,_=>none
 | .back _ x=>(cw R x).map λa=>Fu p a (-1)
 | .times _ x k=>(cw R x).map λa=>Fu p a k
 | .drop _=>none
def fH:dq ->Str
 | .tell n _=>n | .join n _ _=>n | .back n _=>n | .times n _ _=>n | .drop n=>n
def kdOf:dq ->Str
 | .tell _ _=> "tell" | .join _ _ _=> "join" | .back _ _=> "back" | .times _ _ _=> "times" | .drop _=> "drop"
def Js:fC:=λxs M q=> ∃n:Str,cT (xs= [ws n]) (Nm n) (q (wb (b8 n)) M)
def Rj:fC:=λxs M q=>dQ λ(a:Rd) (m r:Int)=>cT (xs= [ge a,wi m,wi r]) (a.2.length<=1000000) (q (wb (f7 a m r)) M)
def Nr:fC:=λxs M q=>vx λ(p:Int) (r:gL) (R:Rm) (dd:dq) (w:W)=>zy (xs= [wi p,wr r,w]) (p=2 \/ p=3 \/ p=5 \/ p=7) (M r=some (.dK (tX R))) (pe p R) (DV M dd w) (AS dd) ((hV p R dd).isSome=true) (∀a,hV p R dd=some a ->dB p a.2 ->a.2.length<=1000000 ->q (ge a) M)
def Rk:fC:=λxs M q=>Tc λ(p:Int) (r t:gL) (R:Rm) (T:Tm) (dd:dq) (w:W)=>zy (xs= [wi p, .tup [wr r,wr t],w]) (p=2 \/ p=3 \/ p=5 \/ p=7) (M r=some (.dK (tX R)) /\ M t=some (.dK (mx T))) (pe p R /\ tE T) (DV M dd w) (AS dd) (∀R',cc p R T dd= .ok R' ->pe p R /\ (R.length<1000 ->pe p R') -> ∀r' M',Sm M M' ->M r'=none ->M' r'=some (.dK (tX R')) ->q (.tup [ws "", .tup [wr r',wr t]]) M') (∀f,cc p R T dd= .bad f ->q (.tup [ws (C4 f), .tup [wr r,wr t]]) M)
def BJ {p:Int}{R:Rm}{T:Tm}{dd:dq}(h:b8 (fH dd)=false)(hd: ∀n,dd≠ .drop n):cc p R T dd= .bad .BadName:=by
 cases dd with
 | drop n=>show absurd rfl (hd n)
 | _=>rw[cc];show am h
def FZ {p:Int}(p0:0<p){R:Rm}{T:Tm}{dd:dq}{a:Rd}(h:b8 (fH dd)=true)(hg: ∀n ds,dd= .tell n ds ->iG ds=true)(hv:hV p R dd=some a):cc p R T dd=gZ R T (fH dd) a:=by
 have hn:¬b8 (fH dd)=false:=by rw[h];decide
 cases dd with
 | tell n ds=>replace hn:¬b8 n=false:=hn;rw[cc,ak hn,ak (by rw[hg n ds rfl];decide)];cases hv;rfl
 | join n x y=>
  replace hn:¬b8 n=false:=hn;rw[cc,ak hn];rw[hV] at hv;cases hx:cw R x with
  | none=>rw[hx] at hv;cases hv
  | some a1=>
   cases hy:cw R y with
   | none=>rw[hx,hy] at hv;cases hv
   | some a2=>rw[hx,hy] at hv;cases hv;rfl
 | back n x=>
  replace hn:¬b8 n=false:=hn;rw[cc,ak hn];rw[hV] at hv;cases hx:cw R x with
  | none=>rw[hx] at hv;cases hv
  | some a1=>rw[hx] at hv;cases hv;change gZ R T n (bk p a1)=gZ R T n (Fu p a1 (-1));rw[Bp p0 (Nc p0)]
 | times n x k=>
  replace hn:¬b8 n=false:=hn;rw[cc,ak hn];rw[hV] at hv;cases hx:cw R x with
  | none=>rw[hx] at hv;cases hv
  | some a1=>rw[hx] at hv;cases hv;rfl
 | drop n=>cases hv
def Jw {R:Rm}{T:Tm}{n:Str}{a:Rd}{r:Rf}(h:gZ R T n a= .bad r):r= .TooFar:=by unfold gZ at h;split at h;cases h;rfl;cases h
def Rw {p:Int}{R:Rm}{T:Tm}{dd:dq}{r:Rf}(h:cc p R T dd= .bad r):r= .BadName \/ r= .NoDeed \/ r= .NoRound \/ r= .InUse \/ r= .TooFar:=by
 cases dd<;>rw[cc] at h;all_goals
  repeat' split at h
  all_goals first
  | (cases h;done)
  | (cases h;simp;done)
  | (have:=Jw h;simp[this];done)
def DN (la:gL)(w:W):Prop:= ∀n,w≠ .tup [ws "tell",n,wr la]
def BE (B C:gL):fC:=λxs M q=>Tc λ(b la lu lh now r t:gL)=>gb λ(p:Int) (pa un he:cV gL)=>cx λ(R:Rm) (T:Tm)=>jX (xs= [wi p,wr b, .tup [wr r,wr t]]) (Bk B C M b la lu lh p now pa un he R T) (M r=some (.dK (tX R)) /\ M t=some (.dK (mx T))) (pe p R) (tE T /\ ∀z∈R,z.1.length<=100) (q (wb true) M)
def Jt:fC:=λxs M q=>cx λ(d l:gL)=>cT (xs= [wr d]) (Dr M d l) (∀ (u:gL) (ds:cV (Str×Int)) (M':Mp),M u=none ->M' u=some (.lst (ds.map fo)) ->ds.length<=50 ->(∀z∈ds,z.1.length<=100) ->Dr M' d l ->Fs d M M' ->q (wr u) M')
def vY:fC:=λxs M q=>gb λ(d l nl:gL) (ns:cV Str)=>Kz (xs= [wr d,wr nl]) (Dr M d l) (M nl=some (.lst (ns.map ws))) (nl≠d) (0<ns.length /\ ns.length<=100) (∀n∈ns,Nm n) (∀ (n:Str) (M':Mp),Nm n ->Dr M' d l ->NB d M M' ->q (ws n) M')
def FO:fC:=λxs M q=>gb λ(d l nl:gL) (ns:cV Str)=>Kz (xs= [wr d,wr nl]) (Dr M d l) (M nl=some (.lst (ns.map ws))) (nl≠d) (0<ns.length /\ ns.length<=100) (∀n∈ns,Nm n) (∀ (dd:dq) (w:W) (M':Mp),DV M' dd w ->AS dd ->(∀a n,w= .tup [ws "tell",n,wr a] ->M a=none) ->Dr M' d l ->Fs d M M' ->q w M')
def Rb (B C X:gL):gh:=λxs M q e=>vx λ(b la lu lh now:gL)=>gb λ(p:Int) (pa un he:cV gL)=>dQ λ(R:Rm) (T:Tm) (n:Str)=>fS (xs= [wr b,ws n]) (Bk B C M b la lu lh p now pa un he R T) (n.length<=100) (∀a,cw T n=some a ->q (eQ a) M) (cw T n=none ->e X M)
def FQ (B C X:gL):gh:=λxs M q e=>vx λ(b la lu lh now:gL)=>gb λ(p:Int) (pa un he:cV gL)=>dQ λ(R:Rm) (T:Tm) (n:Str)=>fS (xs= [wr b,ws n]) (Bk B C M b la lu lh p now pa un he R T) (n.length<=100) (∀a,cw T n=some a -> ∀u,M u=none ->q (wr u) (um M u (.lst (a.map ws)))) (cw T n=none ->e X M)
def v6 {R R':Rm}{T:Tm}{n:Str}{a:Rd}(h:gZ R T n a= .ok R'):R'=gf R n a:=by unfold gZ at h;split at h;cases h;cases h;rfl
def Rx {p:Int}{R R':Rm}{T:Tm}{dd:dq}(h:cc p R T dd= .ok R'):(∃a,R'=gf R (fH dd) a /\ b8 (fH dd)=true) \/ R'=mn R (fH dd):=by
 cases dd<;>rw[cc] at h;case drop n=>
  repeat' split at h
  all_goals first
  | (cases h;done)
  | (cases h;show .inr rfl)
 all_goals
  repeat' split at h
  all_goals first
  | (cases h;done)
  | (rename_i h1 _;exact .inl #[_,v6 h,?_];show(Bool.not_eq_false _).mp h1)
  | (rename_i h1 _ _ _;exact .inl #[_,v6 h,?_];show(Bool.not_eq_false _).mp h1)
  | (rename_i h1 _ _ _ _ _ _;exact .inl #[_,v6 h,?_];show(Bool.not_eq_false _).mp h1)
def Gc {n:Str}(h:b8 n=true):n.length<=100:=by unfold b8 at h;rw[cI,cI] at h;have:=bI h.1.2;omega
def JD {p:Int}{R R':Rm}{T:Tm}{dd:dq}(h:cc p R T dd= .ok R')(hk: ∀z∈R,z.1.length<=100):(∀z∈R',z.1.length<=100) /\ R'.length<=R.length+1:=by
 rcases Rx h with⟨a,rfl,hn⟩ | rfl
 show#[λz hz=>(mY hz).elim (hk z) λe=>by rw[e];show Gc hn,lr _ _ _];show#[λz hz=>hk z (nK hz),av (rm _ _) (by omega)]
def DV.head {M:Mp}{dd:dq}{w:W}(h:DV M dd w): ∃cU,w= .tup (ws (kdOf dd)::cU):=by
 cases dd with
 | tell n ds=>let⟨a,rfl,_⟩:=h;show#[_,rfl]
 | _=>cases h;show#[_,rfl]
def Bk.fs {B C b la lu lh now d:gL}{M M':Mp}{p:Int}{pa un he:cV gL}{R:Rm}{T:Tm}{x:cV W}(hB:Bk B C M b la lu lh p now pa un he R T)(F:Fs d M M')(hd:M d=some (.lst x))(n1:la≠d)(n2:lu≠d)(n3:lh≠d):Bk B C M' b la lu lh p now pa un he R T:=by let⟨⟨dx,h1⟩,h2,h3,h4,h5,ly,r,t,h6,h7,h8⟩:=hB;have ni: ∀ {a:gL} {o:MO},M a=some o ->(∀l,o≠ .lst l) ->M' a=some o:=λ{a o} e n=>F a o e (λz=>by subst z;rw[e] at hd;cases hd;show n _ rfl);show#[#[dx,ni h1 (λ_ z=>nomatch z)],F _ _ h2 n1,F _ _ h3 n2,F _ _ h4 n3,h5,ly,r,t,ni h6 (λ_ z=>nomatch z),ni h7 (λ_ z=>nomatch z),ni h8 (λ_ z=>nomatch z)]
theorem Fs.Mi {d r:gL}{M M':Mp}{x:cV W}{kvs:cV (cg×W)}(F:Fs d M M')(hd:M d=some (.lst x))(h:M r=some (.dK kvs)):M' r=some (.dK kvs):=F _ _ h λz=>by subst z;rw[hd] at h;cases h
def G9 {M M':Mp}{d l:gL}(h:Dr M d l)(s:Sm M M'):Dr M' d l:=by let⟨ns,i,c,sd,h1,h2,h3,h4⟩:=h;show#[ns,i,c,sd,s _ _ h1,s _ _ h2,h3,h4]
def G' {M:Mp}{d l:gL}(h:Dr M d l): ∃x,M d=some (.lst x):=by let⟨ns,i,c,sd,h1,h2,h3,h4⟩:=h;show#[_,h1]
def Lx (f:Rf):C4 f≠ "" :=by cases f<;>decide+kernel
end WQ
namespace L2
open PySem
def E8 (td ty:TE):TE:=E_ td ty
theorem FH {X:Cx}{o i:Expr}{td ty:TE}{pos:Pos}(hu:X.A.units+1<cLine)(ho:PE X o td)(hi:PE X i ty)(hs:OQ i):PE X (.Subscript o i pos) (E8 td ty):=eo hu ho hi hs
end L2
namespace WL
open PySem L2
section
variable {K:RS}
def Kl (o:fP MO)(k:cV (cg×W) ->Prop):Prop:= ∃l,(o=some (.dK l) \/ cx λb ks=>o=some (.fz b ks l)) /\ k l
def EO (a b:WE):WE:=λρ M q=>a ρ M λx M1=>b ρ M1 λy M2=>eI x λp=>jO y λk=>Kl (M2 p) λkvs=>lC (eX kvs k) λz=>q z M2
instance {t u:TE}{a b:WE} [ia:IE K t a] [ib:IE K u b]:IE K (E8 t u) (EO a b) where
 imp :=λρ M σ H q Q o h k=>ia.imp ρ M σ H _ _ o h λx M1 v H1 h1 t1 m1 r1=>ib.imp ρ M1 σ H1 _ _ (o.mv t1 m1) h1 λy M2 u H2 h2 t2 m2 r2=>by
  let⟨p,e1,ky,e3,kvs,e2,z,e4,h2⟩:=h2;subst e1 e3;have fin: ∀ks,KR K H2 kvs ks ->Rd H2 p (.dK ks) ->cx λa v=>cT (V.ref p= .ref a) (lG H2 a (kV ky) (some v)) (Q v H2):=λks rr hk=>by
   rcases rr.val ky with⟨n1,_⟩ | ⟨x',v',n1,n2,rx⟩
   rw[n1] at e4;cases e4;rw[n1] at e4;cases e4;show#[p,v',rfl, .inl #[ks,ky,hk,rfl,n2.symm],k _ M2 _ H2 h2 (t1.trans t2) m2 rx]
  rw[ip r2,r1.eq];obtain e2 | ⟨ob,ks,e2⟩:=e2;let⟨ks,hk,rr⟩:=m2 p _ e2;show fin ks rr (.inl hk);let⟨hk,rr⟩:=m2 p _ e2;show fin ks rr (.inr #[ob,hk])
def acO {l:cV (cg×W)}{b:Obj}{ks:cV (cg×V)}{k:cV (cg×W) ->Prop}:Kl (some (.fz b ks l)) k=k l:=by unfold Kl;apply propext;symm;rintro⟨_,h | ⟨_,_,h⟩,k⟩;cases h;cases h;show k;intro h;show#[l, .inr #[b,ks,rfl],h]
theorem Qe {a b:WE}{ρ:c8}{M:Mp}{q:WK}:EO a b ρ M q=a ρ M λx M1=>b ρ M1 λy M2=>eI x λp=>jO y λk=>Kl (M2 p) λkvs=>lC (eX kvs k) λz=>q z M2:=rfl
end
end WL
namespace WQ
open PySem L2 WL WP
inductive fj where
 | found (c:Str) | disband (c:Str) | enlist (c n:Str) | dismiss (c n:Str)
def cr (R:Rm)(T:Tm):fj ->Oc Tm
 | .found c=>if b8 c=false then .bad .BadName else match cw T c with
  | some _=> .bad .Taken
  | none=> .ok (gf T c [])
 | .disband c=>match cw T c with
  | none=> .bad .NoCrew
  | some _=> .ok (mn T c)
 | .enlist c n=>match cw T c with
  | none=> .bad .NoCrew
  | some l=>match cw R n with
   | none=> .bad .NoRound
   | some a=>if pM n l=true then .bad .Taken else if 6<=l.length then .bad .TooMany else if f7 a 8 24=true then .bad .TooFar else .ok (gf T c (l++ [n]))
 | .dismiss c n=>match cw T c with
  | none=> .bad .NoCrew
  | some l=>if pM n l=false then .bad .NoRound else .ok (gf T c (l.filter λm=>decide (m≠n)))
def zm:fj ->Prop
 | .found c=>Nm c
 | .disband c=>Nm c
 | .enlist c n=>Nm c /\ Nm n
 | .dismiss c n=>Nm c /\ Nm n
def FP (B C:gL):fC:=λxs M q=>vx λ(b la lu lh now:gL)=>gb λ(p:Int) (pa un he:cV gL)=>gb λ(R:Rm) (T:Tm) (c:Str) (l:cV Str)=>fS (xs= [wr b,ws c,eQ l]) (Bk B C M b la lu lh p now pa un he R T) (pa.length<=900) (T.length<=900) (qk B C M b la lh p now pa he R (gf T c l) q)
def ra (B C:gL)(tw:Rf ->gL)(f:cV W ->fj ->Prop):gh:=λxs M q e=>vx λ(b la lu lh now:gL)=>gb λ(p:Int) (pa un he:cV gL)=>gb λ(R:Rm) (T:Tm) (dd:fj) (ys:cV W)=>zy (xs=wr b::ys) (f ys dd) (zm dd) (Bk B C M b la lu lh p now pa un he R T) (KZ p R T pa) (tE T) (∀T',cr R T dd= .ok T' ->qk B C M b la lh p now pa he R T' q) (∀r,cr R T dd= .bad r ->e (tw r) M)
def OB (ys:cV W)(dd:fj):Prop:= ∃c:Str,ys= [ws c] /\ dd= .found c
def G3 (ys:cV W)(dd:fj):Prop:= ∃c:Str,ys= [ws c] /\ dd= .disband c
def Ki (ys:cV W)(dd:fj):Prop:=cx λ(c n:Str)=>ys= [ws c,ws n] /\ dd= .enlist c n
def G2 (ys:cV W)(dd:fj):Prop:=cx λ(c n:Str)=>ys= [ws c,ws n] /\ dd= .dismiss c n
inductive gm where
 | r (d:dq) | c (d:fj) | undo | redo | hold | ret (k:Int)
def uh:gm ->Prop
 | .r _=>True | .c _=>True | _=>False
structure tF where
 R:Rm
 T:Tm
 past:List (Addr×Rm×Tm)
 Lg:List (Addr×Rm×Tm)
 held:List (Addr×Rm×Tm)
def HE (C:gL)(M:Mp)(l:cV (gL×Rm×Tm)):Prop:= ∀z∈l,Pg C M z.1 z.2.1 z.2.2
structure AR (B C:Addr)(M:Mp)(b la lu lh:Addr)(p:Int)(now:Addr)(S:tF):Prop where
 bk:Bk B C M b la lu lh p now (S.past.map (·.1)) (S.Lg.map (·.1)) (S.held.map (·.1)) S.R S.T
 pp:HE C M S.past
 pu:HE C M S.Lg
 ph:HE C M S.held
theorem HE.sm {C:gL}{M M':Mp}{l:cV (gL×Rm×Tm)}(h:HE C M l)(s:Sm M M'):HE C M' l:=λz hz=>(h z hz).sm s
theorem HE.snoc {C:gL}{M:Mp}{l:cV (gL×Rm×Tm)}(h:HE C M l){z:gL×Rm×Tm}(hz:Pg C M z.1 z.2.1 z.2.2):HE C M (l++ [z]):=λy hy=>(bh.mp hy).elim (h y) λe=>by rw[a_.mp e];show hz
theorem AR.sm {B C b la lu lh now:gL}{M M':Mp}{p:Int}{S:tF}(h:AR B C M b la lu lh p now S)(s:Sm M M'):AR B C M' b la lu lh p now S:=#[h.bk.sm s,h.pp.sm s,h.pu.sm s,h.ph.sm s]
def OR (b la lu lh:gL)(M M':Mp):Prop:= ∀a o,M a=some o ->a≠b ->a≠la ->a≠lu ->a≠lh ->M' a=some o
def keep (s:tF)(now:gL):tF:= {s with past:=s.past++ [(now,s.R,s.T)],Lg:= []}
noncomputable def zq (p:Int) (R:Rm) (T:Tm):gm ->Oc (Rm×Tm)
 | .r d=>match cc p R T d with
  | .ok R'=> .ok (R',T)
  | .bad f=> .bad f
 | .c d=>match cr R T d with
  | .ok T'=> .ok (R,T')
  | .bad f=> .bad f
 | _=> .bad .NoMore
noncomputable def oA (p:Int) (now:gL) (S:tF):gm ->Oc (tF×W)
 | .undo=>match S.past.getLast? with
  | none=> .bad .NoMore
  | some z=> .ok (#[z.2.1,z.2.2,S.past.dropLast,S.Lg++ [(now,S.R,S.T)],S.held],wn)
 | .redo=>match S.Lg.getLast? with
  | none=> .bad .NoMore
  | some z=> .ok (#[z.2.1,z.2.2,S.past++ [(now,S.R,S.T)],S.Lg.dropLast,S.held],wn)
 | .hold=> .ok ({S with held:=S.held++ [(now,S.R,S.T)]},wi S.held.length)
 | .ret k=>if 0<=k then match S.held[k.toNat]? with
   | none=> .bad .NoState
   | some z=> .ok (#[z.2.1,z.2.2,S.past++ [(now,S.R,S.T)],[],S.held],wn)
  else .bad .NoState
 | dd=>match zq p S.R S.T dd with
  | .ok z=> .ok (#[z.1,z.2,S.past++ [(now,S.R,S.T)],[],S.held],wn)
  | .bad f=> .bad f
theorem pF {p:Int}{now:gL}{S:tF}{dd:gm}(h:uh dd):oA p now S dd=match zq p S.R S.T dd with
  | .ok z=> .ok (#[z.1,z.2,S.past++ [(now,S.R,S.T)],[],S.held],wn)
  | .bad f=> .bad f:=by
 cases dd with
 | r d=>rfl
 | c d=>rfl
 | _=>cases h
def AU (B C:gL)(M:Mp)(b la lu lh:gL)(p:Int)(S:tF)(q:WK)(v:W):Prop:= ∀M' eR Dk,AR B C M' b la eR lh p Dk S ->OR b la lu lh M M' ->(eR=lu \/ M eR=none) ->q v M'
theorem HA {B C b la lu lh now:gL}{M:Mp}{p:Int}{S:tF}{R':Rm}{T':Tm}{q:WK}(hS:AR B C M b la lu lh p now S)(k:AU B C M b la lu lh p #[R',T',S.past++ [(now,S.R,S.T)],[],S.held] q wn):qk B C M b la lh p now (S.past.map (·.1)) (S.held.map (·.1)) R' T' q:=λM' eR pg B' F hu _=>by let⟨dx,hb⟩:=hS.bk.ob;have pm: ∀ {l},HE C M l ->HE C M' l:=λh z hz=>F.pg hb hS.bk.pa (h z hz);exact k M' eR pg #[?_,(pm hS.pp).snoc (F.pg hb hS.bk.pa hS.bk.pg),λz hz=>(by cases hz),pm hS.ph] (λa o h n1 n2 _ _=>F a o h n1 n2) (.inr hu);change Bk B C M' b la eR lh p pg ((S.past++ [(now,S.R,S.T)]).map (·.1)) [] (S.held.map (·.1)) R' T';rw[bn];show B'
def DA (M:Mp):gm ->W ->Prop
 | .r d,w=>DV M d w
 | .c (.found c),w=>w= .tup [ws "found",ws c]
 | .c (.disband c),w=>w= .tup [ws "disband",ws c]
 | .c (.enlist c n),w=>w= .tup [ws "enlist",ws c,ws n]
 | .c (.dismiss c n),w=>w= .tup [ws "dismiss",ws c,ws n]
 | .undo,w=>w= .tup [ws "undo"]
 | .redo,w=>w= .tup [ws "redo"]
 | .hold,w=>w= .tup [ws "hold"]
 | .ret k,w=>w= .tup [ws "return",wi k]
def DA.sm {M M':Mp}{dd:gm}{w:W}(h:DA M dd w)(s:Sm M M'):DA M' dd w:=by
 cases dd with
 | r d=>show DV.sm h s
 | c d=>cases d<;>show h
 | _=>show h
def PD:gm ->Prop
 | .r d=>AS d
 | .c d=>zm d
 | _=>True
structure yX (p:Int)(R:Rm)(T:Tm):Prop where
 r:pe p R
 t:tE T
 k: ∀z∈R,z.1.length<=100
 m: ∀z∈T, ∀n∈z.2,n.length<=100
structure HD (p:Int)(S:tF):Prop where
 p4:p=2 \/ p=3 \/ p=5 \/ p=7
 s:yX p S.R S.T
 pa:S.past.length<=900
 un:S.Lg.length<=900
 he:S.held.length<=900
theorem HD.bk {p:Int}{S:tF}(h:HD p S):KZ p S.R S.T (S.past.map (·.1)):=#[h.p4,by rw[ai];show h.pa,h.s.r,h.s.t.len]
def Rg (ok:gm ->Prop)(B C:gL)(tw:Rf ->gL):gh:=λxs M q e=>Td λ(b la lu lh now:gL) (p:Int)=>dQ λ(S:tF) (dd:gm) (w:W)=>zy (xs= [wr b,w]) (DA M dd w /\ ok dd) (DN la w) (PD dd) (AR B C M b la lu lh p now S) (HD p S) (∀S' v,oA p now S dd= .ok (S',v) ->AU B C M b la lu lh p S' q v) (∀r,oA p now S dd= .bad r ->e (tw r) M)
def NA (ok:gm ->Prop)(B C:gL):fC:=λxs M q=>Td λ(b la lu lh now:gL) (p:Int)=>dQ λ(S:tF) (dd:gm) (w:W)=>zy (xs= [wr b,w]) (DA M dd w /\ ok dd) (DN la w) (PD dd) (AR B C M b la lu lh p now S) (HD p S) (∀S' v,oA p now S dd= .ok (S',v) ->AU B C M b la lu lh p S' (λv M'=>q (.tup [ws "",v]) M') v) (∀r,oA p now S dd= .bad r ->q (.tup [ws (C4 r),wn]) M)
def l_ (R:Rm)(l:cV Str):fj ->Oc (cV Str)
 | .dismiss _ n=>if pM n l=false then .bad .NoRound else .ok (l.filter λm=>decide (m≠n))
 | .enlist _ n=>match cw R n with
  | none=> .bad .NoRound
  | some a=>if pM n l=true then .bad .Taken else if 6<=l.length then .bad .TooMany else if f7 a 8 24=true then .bad .TooFar else .ok (l++ [n])
 | _=> .bad .NoMore
def Ks:fj ->Str
 | .found c=>c | .disband c=>c | .enlist c _=>c | .dismiss c _=>c
def GB:fj ->Prop
 | .enlist _ _=>True | .dismiss _ _=>True | _=>False
theorem yQ {R:Rm}{T:Tm}{d:fj}(h:GB d){l:cV Str}(hg:cw T (Ks d)=some l):cr R T d=match l_ R l d with
  | .ok l'=> .ok (gf T (Ks d) l')
  | .bad f=> .bad f:=by
 cases d with
 | found c=>cases h
 | disband c=>cases h
 | enlist c n=>
  rw[cr,l_];replace hg:cw T c=some l:=hg;rw[hg];dsimp only;cases cw R n with
  | none=>rfl
  | some a=>dsimp only;by_cases h1:pM n l=true;rw[am h1,am h1];rw[ak h1,ak h1];by_cases h2:6<=l.length;rw[am h2,am h2];rw[ak h2,ak h2];by_cases h3:f7 a 8 24=true;rw[am h3,am h3];rw[ak h3,ak h3];rfl
 | dismiss c n=>rw[cr,l_];replace hg:cw T c=some l:=hg;rw[hg];dsimp only;by_cases h1:pM n l=false;rw[am h1,am h1];rw[ak h1,ak h1];rfl
def LI:fC:=λxs M q=>vx λ(r t:gL) (R:Rm) (T:Tm) (d:fj)=>cx λ(w:W) (l:cV Str)=>zy (xs= [.tup [wr r,wr t],w]) (M r=some (.dK (tX R)) /\ M t=some (.dK (mx T))) (GB d /\ zm d) (DA M (.c d) w) (cw T (Ks d)=some l) (l.length<=100 /\ ∀z∈R,z.2.2.length<=1000) (∀l',l_ R l d= .ok l' ->q (.tup [ws "",eQ l']) M) (∀f,l_ R l d= .bad f ->q (.tup [ws (C4 f), .tup []]) M)
def Rl:fC:=λxs M q=>Td λ(r t:gL) (R:Rm) (T:Tm) (d:fj) (w:W)=>zy (xs= [.tup [wr r,wr t],w]) (M r=some (.dK (tX R)) /\ M t=some (.dK (mx T))) (zm d) (DA M (.c d) w) (tE T) (∀z∈R,z.2.2.length<=1000) (∀T',cr R T d= .ok T' -> ∀t' M',Sm M M' ->M' t'=some (.dK (mx T')) ->q (.tup [ws "", .tup [wr r,wr t']]) M') (∀f,cr R T d= .bad f ->q (.tup [ws (C4 f), .tup [wr r,wr t]]) M)
def Ro:fC:=λxs M q=>Tc λ(p:Int) (r t:gL) (R:Rm) (T:Tm) (dd:gm) (w:W)=>zy (xs= [wi p, .tup [wr r,wr t],w]) (p=2 \/ p=3 \/ p=5 \/ p=7) (M r=some (.dK (tX R)) /\ M t=some (.dK (mx T))) (yX p R T) (DA M dd w /\ uh dd) (PD dd) (∀R' T',zq p R T dd= .ok (R',T') ->(R.length<1000 ->T.length<900 ->yX p R' T') ->(R'.length<=R.length+1 /\ T'.length<=T.length+1) -> ∀r' t' M',Sm M M' ->M' r'=some (.dK (tX R')) ->M' t'=some (.dK (mx T')) ->q (.tup [ws "", .tup [wr r',wr t']]) M') (∀f,zq p R T dd= .bad f ->q (.tup [ws (C4 f), .tup [wr r,wr t]]) M)
def Cg {T:Tm}(h:tE T){c:Str}{l:cV Str}(hg:cw T c=some l):l.length<=100:=by let⟨z,hz,_,rfl⟩:=eB hg;show h.mem z hz
theorem tE.put {T:Tm}(h:tE T)(hl:T.length<900){c:Str}(hc:c.length<=100){l:cV Str}(hm:l.length<=100):tE (gf T c l):=#[Fz h.nd,av (lr _ _ _) hl,λz hz=>(mY hz).elim (h.key z) λe=>by rw[e];show hc,λz hz=>(mY hz).elim (h.mem z) λe=>by rw[e];show hm]
def Kq {R:Rm}{T T':Tm}{d:fj}(hd:zm d)(h:tE T)(ho:cr R T d= .ok T'):(T.length<900 ->tE T') /\ T'.length<=T.length+1:=by
 cases d with
 | found c=>
  rw[cr] at ho;repeat' split at ho
  all_goals first
  | (cases ho;done)
  | (cases ho;show#[λhl=>h.put hl hd.len (by simp),lr _ _ _])
 | disband c=>rw[cr] at ho;split at ho;cases ho;cases ho;show#[λhl=>#[Ha h.nd,av (rm _ _) h.len,λz hz=>h.key z (nK hz),λz hz=>h.mem z (nK hz)],av (rm _ _) (by omega)]
 | enlist c n=>
  rw[cr] at ho;split at ho;cases ho;split at ho;cases ho;repeat' split at ho
  all_goals first
  | (cases ho;done)
  | (cases ho;show#[λhl=>h.put hl hd.1.len (by rw[aK];simp;omega),lr _ _ _])
 | dismiss c n=>rw[cr] at ho;split at ho;cases ho;rename_i l hg;split at ho;cases ho;cases ho;show#[λhl=>h.put hl hd.1.len (av (List.length_filter_le _ _) (Cg h hg)),lr _ _ _]
def Kr {R:Rm}{T T':Tm}{d:fj}(hd:zm d)(h: ∀z∈T, ∀n∈z.2,n.length<=100)(ho:cr R T d= .ok T'): ∀z∈T', ∀n∈z.2,n.length<=100:=by
 have pt: ∀ {c:Str} {l:cV Str},(∀n∈l,n.length<=100) -> ∀z∈gf T c l, ∀n∈z.2,n.length<=100:=λhl z hz=>(mY hz).elim (h z) λe=>by rw[e];show hl
 have gt: ∀ {c:Str} {l:cV Str},cw T c=some l -> ∀n∈l,n.length<=100:=λhg=>by let⟨z,hz,_,rfl⟩:=eB hg;show h z hz
 cases d with
 | found c=>
  rw[cr] at ho;repeat' split at ho
  all_goals first
  | (cases ho;done)
  | (cases ho;show pt (by simp))
 | disband c=>rw[cr] at ho;split at ho;cases ho;cases ho;show λz hz=>h z (nK hz)
 | enlist c n=>
  rw[cr] at ho;split at ho;cases ho;rename_i l hg;split at ho;cases ho;repeat' split at ho
  all_goals first
  | (cases ho;done)
  | (cases ho;show pt λy hy=>(bh.mp hy).elim (gt hg y) λe=>by rw[a_.mp e];show hd.2.len)
 | dismiss c n=>rw[cr] at ho;split at ho;cases ho;rename_i l hg;split at ho;cases ho;cases ho;show pt λy hy=>gt hg y (List.mem_filter.mp hy).1
def Kp {R:Rm}{T:Tm}{d:fj}{r:Rf}(h:cr R T d= .bad r):r= .BadName \/ r= .NoRound \/ r= .NoCrew \/ r= .Taken \/ r= .TooMany \/ r= .TooFar:=by
 cases d<;>rw[cr] at h;all_goals
  repeat' split at h
  all_goals first
  | (cases h;done)
  | (cases h;simp;done)
def RA {p:Int}{now:gL}{S:tF}{dd:gm}{r:Rf}(Aj:uh dd)(h:oA p now S dd= .bad r):r≠ .NoMore /\ r≠ .NoState:=by
 cases dd with
 | r d=>
  rw[pF Aj,zq] at h;cases ho:cc p S.R S.T d with
  | ok R'=>rw[ho] at h;cases h
  | bad f=>rw[ho] at h;cases h;obtain rfl | rfl | rfl | rfl | rfl:=Rw ho <;>show#[nofun,nofun]
 | c d=>
  rw[pF Aj,zq] at h;cases ho:cr S.R S.T d with
  | ok R'=>rw[ho] at h;cases h
  | bad f=>rw[ho] at h;cases h;obtain rfl | rfl | rfl | rfl | rfl | rfl:=Kp ho <;>show#[nofun,nofun]
 | _=>cases Aj
def NC:fC:=λxs M q=>gb λ(d l nl:gL) (ns:cV Str)=>Kz (xs= [wr d,wr nl]) (Dr M d l) (M nl=some (.lst (ns.map ws))) (nl≠d) (2<=ns.length /\ ns.length<=100) (∀n∈ns,Nm n) (∀ (dd:fj) (w:W) (M':Mp),DA M' (.c dd) w ->zm dd ->Dr M' d l ->NB d M M' ->q w M')
def Pg.fs {C a d:gL}{M M':Mp}{R:Rm}{T:Tm}{x:cV W}(h:Pg C M a R T)(F:Fs d M M')(hd:M d=some (.lst x)):Pg C M' a R T:=by let⟨ly,r,t,h6,h7,h8⟩:=h;have ni: ∀ {a:gL} {o:MO},M a=some o ->(∀l,o≠ .lst l) ->M' a=some o:=λ{a o} e n=>F a o e (λz=>by subst z;rw[e] at hd;cases hd;show n _ rfl);show#[ly,r,t,ni h6 (λ_ z=>nomatch z),ni h7 (λ_ z=>nomatch z),ni h8 (λ_ z=>nomatch z)]
structure Ap (x la lu lh:Addr):Prop where
 a:la≠x
 u:lu≠x
 h:lh≠x
theorem Ap.step {x la lu lh eR:gL}{M:Mp}{o:MO}(h:Ap x la lu lh)(hx:M x=some o)(hu:eR=lu \/ M eR=none):Ap x la eR lh:=#[h.a,(by obtain rfl | hu:=hu;show h.u;show(cC hx hu).symm),h.h]
theorem AR.fs {B C b la lu lh now d:gL}{M M':Mp}{p:Int}{S:tF}{x:cV W}(h:AR B C M b la lu lh p now S)(F:Fs d M M')(hd:M d=some (.lst x))(n:Ap d la lu lh):AR B C M' b la lu lh p now S:=#[h.bk.fs F hd n.a n.u n.h,λz hz=>(h.pp z hz).fs F hd,λz hz=>(h.pu z hz).fs F hd,λz hz=>(h.ph z hz).fs F hd]
def OR.lst {B C b la lu lh now x:gL}{M M':Mp}{p:Int}{S:tF}{l:cV W}(F:OR b la lu lh M M')(hB:AR B C M b la lu lh p now S)(h:M x=some (.lst l))(n:Ap x la lu lh):M' x=some (.lst l):=by let⟨dx,hb⟩:=hB.bk.ob;show F _ _ h (λz=>by subst z;rw[hb] at h;cases h) n.a.symm n.u.symm n.h.symm
def OR.Mi {B C b la lu lh now x:gL}{M M':Mp}{p:Int}{S:tF}{l:cV (cg×W)}(F:OR b la lu lh M M')(hB:AR B C M b la lu lh p now S)(h:M x=some (.dK l)):M' x=some (.dK l):=by let⟨dx,hb⟩:=hB.bk.ob;show F _ _ h (λz=>by subst z;rw[hb] at h;cases h) (λz=>by subst z;rw[hB.bk.pa] at h;cases h) (λz=>by subst z;rw[hB.bk.un] at h;cases h) λz=>by subst z;rw[hB.bk.he] at h;cases h
def OR.dr {B C b la lu lh now d l:gL}{M M':Mp}{p:Int}{S:tF}(F:OR b la lu lh M M')(hB:AR B C M b la lu lh p now S)(h:Dr M d l)(n1:Ap d la lu lh)(n2:Ap l la lu lh):Dr M' d l:=by let⟨ns,i,c,sd,h1,h2,h3,h4⟩:=h;show#[ns,i,c,sd,F.lst hB h1 n1,F.lst hB h2 n2,h3,h4]
def SU {M:Mp}{d l:gL}(h:Dr M d l): ∃x,M l=some (.lst x):=by let⟨ns,i,c,sd,h1,h2,h3,h4⟩:=h;show#[_,h2]
def Ld (B C:gL)(p:Int)(d l nl b r t la lu lh now:gL)(ns:cV Str)(S:tF)(M:Mp):Prop:=eT (AR B C M b la lu lh p now S) (Dr M d l) (M nl=some (.lst (ns.map ws))) (M r=some (.dK (tX S.R)) /\ M t=some (.dK (mx S.T)))
def Ld.sm {B C d l nl b r t la lu lh now:gL}{p:Int}{ns:cV Str}{S:tF}{M M':Mp}(h:Ld B C p d l nl b r t la lu lh now ns S M)(s:Sm M M'):Ld B C p d l nl b r t la lu lh now ns S M':=by let⟨h1,h2,h3,h4,h5⟩:=h;show#[h1.sm s,G9 h2 s,s _ _ h3,s _ _ h4,s _ _ h5]
def Ld.fs {B C d l nl b r t la lu lh now:gL}{p:Int}{ns:cV Str}{S:tF}{M M':Mp}(h:Ld B C p d l nl b r t la lu lh now ns S M)(wo:nl≠d)(n:Ap d la lu lh)(D:Dr M' d l)(F:Fs d M M'):Ld B C p d l nl b r t la lu lh now ns S M':=by let⟨h1,h2,h3,h4,h5⟩:=h;let⟨x,hx⟩:=G' h2;show#[h1.fs F hx n,D,F _ _ h3 wo,F.Mi hx h4,F.Mi hx h5]
def k_join_tell:decide (("join" :Str)= "tell")=false:=by decide+kernel
def k_back_tell:decide (("back" :Str)= "tell")=false:=by decide+kernel
def k_back_join:decide (("back" :Str)= "join")=false:=by decide+kernel
def k_times_tell:decide (("times" :Str)= "tell")=false:=by decide+kernel
def k_times_join:decide (("times" :Str)= "join")=false:=by decide+kernel
def k_times_back:decide (("times" :Str)= "back")=false:=by decide+kernel
def k_drop_tell:decide (("drop" :Str)= "tell")=false:=by decide+kernel
def k_drop_join:decide (("drop" :Str)= "join")=false:=by decide+kernel
def k_drop_back:decide (("drop" :Str)= "back")=false:=by decide+kernel
def k_drop_times:decide (("drop" :Str)= "times")=false:=by decide+kernel
def k_found_tell:decide (("found" :Str)= "tell")=false:=by decide+kernel
def k_found_join:decide (("found" :Str)= "join")=false:=by decide+kernel
def k_found_back:decide (("found" :Str)= "back")=false:=by decide+kernel
def k_found_times:decide (("found" :Str)= "times")=false:=by decide+kernel
def k_found_drop:decide (("found" :Str)= "drop")=false:=by decide+kernel
def k_disband_tell:decide (("disband" :Str)= "tell")=false:=by decide+kernel
def k_disband_join:decide (("disband" :Str)= "join")=false:=by decide+kernel
def k_disband_back:decide (("disband" :Str)= "back")=false:=by decide+kernel
def k_disband_times:decide (("disband" :Str)= "times")=false:=by decide+kernel
def k_disband_drop:decide (("disband" :Str)= "drop")=false:=by decide+kernel
def k_disband_found:decide (("disband" :Str)= "found")=false:=by decide+kernel
def k_enlist_tell:decide (("enlist" :Str)= "tell")=false:=by decide+kernel
def k_enlist_join:decide (("enlist" :Str)= "join")=false:=by decide+kernel
def k_enlist_back:decide (("enlist" :Str)= "back")=false:=by decide+kernel
def k_enlist_times:decide (("enlist" :Str)= "times")=false:=by decide+kernel
def k_enlist_drop:decide (("enlist" :Str)= "drop")=false:=by decide+kernel
def k_enlist_found:decide (("enlist" :Str)= "found")=false:=by decide+kernel
def k_enlist_disband:decide (("enlist" :Str)= "disband")=false:=by decide+kernel
def k_dismiss_tell:decide (("dismiss" :Str)= "tell")=false:=by decide+kernel
def k_dismiss_join:decide (("dismiss" :Str)= "join")=false:=by decide+kernel
def k_dismiss_back:decide (("dismiss" :Str)= "back")=false:=by decide+kernel
def k_dismiss_times:decide (("dismiss" :Str)= "times")=false:=by decide+kernel
def k_dismiss_drop:decide (("dismiss" :Str)= "drop")=false:=by decide+kernel
def k_dismiss_found:decide (("dismiss" :Str)= "found")=false:=by decide+kernel
def k_dismiss_disband:decide (("dismiss" :Str)= "disband")=false:=by decide+kernel
def k_dismiss_enlist:decide (("dismiss" :Str)= "enlist")=false:=by decide+kernel
def k_enlist_dismiss:decide (("enlist" :Str)= "dismiss")=false:=by decide+kernel
section
variable {i:Nat}{s k:Str}{l:cV W}{a cU:WS}{D:fD}{ρ:c8}{M:Mp}
def at0 {q:WK}(hρ:ρ[i]? =some (some (.tup (ws k::l))))(h:q (wb (decide (k=s))) M):IH O3 (IH EM (eV i) (wC (W.v (V.int 0)))) (wC (W.v (V.str s))) ρ M q:=by
 unfold IH eV wC;rw[hρ];exact#[_,0,_,rfl,rfl,S9,_,_,rfl,rfl,rfl,?_];have e:decide (V.str k=V.str s)=decide (k=s):=by simp
 rw[e];show h
theorem jT (hρ:ρ[i]? =some (some (.tup (ws k::l))))(mB:decide (k=s)=false)(h:cU D ρ M):C2 (O_ (xg (IH O3 (IH EM (eV i) (wC (W.v (V.int 0)))) (wC (W.v (V.str s))))) a Bm) cU D ρ M:=at0 hρ #[false,by rw[mB],h]
theorem IV (hρ:ρ[i]? =some (some (.tup (ws s::l))))(h:a {nx:=hold (cU D),rt:=D.rt,bk:=D.bk,ct:=D.ct} ρ M):C2 (O_ (xg (IH O3 (IH EM (eV i) (wC (W.v (V.int 0)))) (wC (W.v (V.str s))))) a Bm) cU D ρ M:=at0 hρ #[true,by rw[bC rfl],h]
end
def iM:dq ->cV Str
 | .join _ x y=> [x,y] | .back _ x=> [x] | .times _ x _=> [x] | _=> []
def Pl:dq ->Prop
 | .join _ _ _=>True | .back _ _=>True | .times _ _ _=>True | _=>False
def dvn {M:Mp}{dd:dq}{w:W}(h:DV M dd w)(hn:Pl dd): ∃tail,w= .tup (ws (kdOf dd)::ws (fH dd):: .tup ((iM dd).map ws)::tail):=by cases dd<;>first | cases hn;done | (cases h;show#[_,rfl])
def kdn {dd:dq}(hn:Pl dd):cT (decide (kdOf dd= "drop")=false) (decide (kdOf dd= "tell")=false) (decide (kdOf dd≠ "tell")=true):=by
 have h: ∀k:Str,k= "join" \/ k= "back" \/ k= "times" ->cT (decide (k= "drop")=false) (decide (k= "tell")=false) (decide (k≠ "tell")=true):=by rintro k (rfl | rfl | rfl) <;>show#[by decide+kernel,by decide+kernel,by decide+kernel]
 cases dd<;>first | cases hn;done | show h _ (.inl rfl) | show h _ (.inr (.inl rfl)) | show h _ (.inr (.inr rfl))
def nmn {dd:dq}(hn:Pl dd)(h:AS dd):Nm (fH dd):=by cases dd<;>first | cases hn;done | show h.1
def Ry {p:Int}{R:Rm}{T:Tm}{dd:dq}(hn:Pl dd)(jP:b8 (fH dd)=true)(h:((iM dd).all λx=>(cw R x).isSome)=false):cc p R T dd= .bad .NoRound:=by
 have ym:¬b8 (fH dd)=false:=by rw[jP];decide
 cases dd with
 | join n x y=>
  replace ym:¬b8 n=false:=ym;rw[cc,ak ym];simp![iM,List.all_cons,List.all_nil,Bool.and_true] at h;cases hx:cw R x with
  | none=>rfl
  | some a=>
   cases hy:cw R y with
   | none=>rfl
   | some b=>rw[hx,hy] at h;cases h
 | back n x=>
  replace ym:¬b8 n=false:=ym;rw[cc,ak ym];simp![iM,List.all_cons,List.all_nil,Bool.and_true] at h;cases hx:cw R x with
  | none=>rfl
  | some a=>rw[hx] at h;cases h
 | times n x k=>
  replace ym:¬b8 n=false:=ym;rw[cc,ak ym];simp![iM,List.all_cons,List.all_nil,Bool.and_true] at h;cases hx:cw R x with
  | none=>rfl
  | some a=>rw[hx] at h;cases h
 | _=>cases hn
def IL {p:Int}{R:Rm}{dd:dq}(hn:Pl dd)(h:((iM dd).all λx=>(cw R x).isSome)=true):(hV p R dd).isSome=true:=by
 cases dd with
 | join n x y=>simp![iM,List.all_cons,List.all_nil,Bool.and_true,cI] at h;let⟨a,ha⟩:=Option.isSome_iff_exists.mp h.1;let⟨b,hb⟩:=Option.isSome_iff_exists.mp h.2;rw[hV,ha,hb];rfl
 | back n x=>simp![iM,List.all_cons,List.all_nil,Bool.and_true] at h;rw[hV,bR];show h
 | times n x k=>simp![iM,List.all_cons,List.all_nil,Bool.and_true] at h;rw[hV,bR];show h
 | _=>cases hn
def Mv (dd:dq):(iM dd).length<=2:=by cases dd<;>simp[iM]
end WQ
set_option synthInstance.maxSize 100000
set_option synthInstance.maxHeartbeats 0
open PySem L2 WL WP WQ PyProof.Rows
local macro_rules | `(tactic| simp? [$xs,*]) => do let a <- ("WC acN Wl acW WZ W0 adn Wc VW WJ WH Vm Vl Vk Vj Vi Vh Vg Vf Ve Vd TK TJ TH TF TD TC TB Tz Tx Tw Tv Tu Tt Ts adx ac5 ac1 adw ac' adv ade ac7 adb ac6 TN VN ac4 Vq Ub Vp TU Qi Vr T8 Vn Vt Vz Vx OZ W2 TR ac2 adf Ua Vv Vu VP O1 O0 Mx VA adg VJ O5 O2 VH TY TZ VG O4 Qf Ul Uo V8 adh V_ V' QW V9 Ud VT Ue VR VS TQ UI WV Wm UH T9 Vc Qg Uc V2 VI VE VD ac9 ac8 WY V6 V5 T_ VF Um W3 QX WW Vy Vo VB OY TW Qc UJ UG ada PZ TV Qk PU TM Qd Qh Qe acO".splitOn " ").toArray.mapM λs => `(Lean.Parser.Tactic.simpLemma| ↓ $(Lean.mkIdent s.toName):term); let b <- ("LX JW LW Ij JV JY Il JX Gq Ik LV JS LU Ig JR Dv B6 Du Ah B0 Ie Go Ib Ez Gn JU Ii JT Gp Ih sl1 Lq sl3 sl4 sl5 sl0 List.map_cons List.map_nil List.length_cons List.length_nil Nat.zero_add List.cons_append List.nil_append List.set_cons_zero List.set_cons_succ aq jv S9 adt ads adq adl adk adj Bool.not_true Bool.not_false List.getElem?_cons_zero List.getElem?_cons_succ Option.join_some and_self and_true true_and Option.getD_some Option.getD_none Uf nS".splitOn " ").toArray.mapM λs => `(Lean.Parser.Tactic.simpLemma| $(Lean.mkIdent s.toName):term); `(tactic| try simp only [$a,*, $b,*, Nat.reduceAdd, Nat.reduceSub, List.reduceReplicate, $xs,*])
local macro_rules | `(tactic| dsimp? [$xs,*]) => `(tactic| (simp? [↓cA, $xs,*]; repeat (with_reducible refine ed ?_; simp? [↓cA, $xs,*])))
local macro_rules | `(tactic| trivial) => `(tactic| first | exact Or.inl rfl | exact Or.inr rfl)
local macro_rules | `(tactic| right) => `(tactic| decide +kernel)
local macro_rules | `(tactic| left) => `(tactic| (intro _ _ _ h; (repeat (cases h; rename_i h)); subst_vars; rfl))
set_option hygiene false
local macro_rules | `(tactic| exists $a, $n, $c) => `(tactic| (have nd : List.Nodup ($n : List Str) := (by decide +kernel); refine Wn (N := $n) $a ⟨rfl, rfl, rfl, nd, rfl, by decide +kernel, by decide +kernel⟩ (by left) λcdv A' outer s H E hr => ?_; refine ⟨_, $c, ?_⟩; (try dsimp only [d0]); refine ⟨_, inferInstance, ?_⟩))
set_option hygiene true
namespace eE
open PySem L2 WL WP WQ PyProof.Rows
nonrec def top (i:Nat):Stmt:=PySem.Challenge.pw_duskround_k45_crews_of_a_book.main.body.getD i (.Pass #[0,0,0,0])
nonrec abbrev zL:Stmt:=top 15
nonrec abbrev Bl:Stmt:=top 16
nonrec abbrev vL:Stmt:=top 17
nonrec abbrev vK:Stmt:=top 18
nonrec abbrev zM:Stmt:=top 21
nonrec abbrev xD:Stmt:=top 22
nonrec abbrev rQ:Stmt:=top 23
nonrec abbrev gA:Stmt:=top 24
nonrec abbrev iA:Stmt:=top 25
nonrec abbrev pB:Stmt:=top 53
nonrec abbrev jj:Stmt:=top 64
nonrec abbrev mP:Stmt:=top 65
nonrec abbrev uI:Stmt:=top 66
nonrec abbrev Fl:Stmt:=eA (top 67) 0
nonrec abbrev Fm:Stmt:=eA (top 68) 0
nonrec abbrev ki:Stmt:=eA (top 68) 2
nonrec abbrev l4:Stmt:=eA (top 68) 3
nonrec abbrev jC:Stmt:=eA (top 68) 4
nonrec abbrev jD:Stmt:=eA (top 68) 5
nonrec abbrev kl:Stmt:=eA (top 68) 6
nonrec abbrev kj:Stmt:=eA (top 68) 7
nonrec abbrev gC:Stmt:=eA (top 68) 8
nonrec abbrev gF:Stmt:=eA (top 68) 9
nonrec abbrev gc:Stmt:=eA (top 68) 10
nonrec abbrev km:Stmt:=eA (top 68) 11
nonrec abbrev jk:Stmt:=eA (top 68) 12
nonrec abbrev gE:Stmt:=eA (top 68) 13
nonrec abbrev iB:Stmt:=eA (top 68) 14
nonrec abbrev gD:Stmt:=eA (top 68) 15
nonrec abbrev kh:Stmt:=eA (top 68) 16
nonrec abbrev pC:Stmt:=eA (top 68) 17
nonrec abbrev pD:Stmt:=eA (top 68) 18
nonrec abbrev iT:Stmt:=eA (top 68) 19
nonrec abbrev mS:Stmt:=eA (top 68) 21
nonrec abbrev mT:Stmt:=eA (top 68) 22
nonrec abbrev gd:Stmt:=eA (top 68) 23
nonrec abbrev gB:Stmt:=eA (top 68) 24
nonrec abbrev oq:Stmt:=top 70
nonrec abbrev xz:Stmt:=top 71
nonrec abbrev Lr:Stmt:=top 72
nonrec abbrev uL:Stmt:=top 73
nonrec abbrev xy:Stmt:=top 74
nonrec abbrev Bg:Stmt:=top 75
nonrec abbrev xA:Stmt:=top 76
nonrec abbrev xC:Stmt:=top 77
nonrec abbrev uK:Stmt:=top 78
nonrec abbrev pA:Stmt:=top 79
nonrec abbrev Bi:Stmt:=top 80
nonrec abbrev xx:Stmt:=top 81
nonrec abbrev uJ:Stmt:=top 82
nonrec abbrev lK:Stmt:=top 83
nonrec abbrev kf:Stmt:=top 84
nonrec abbrev mR:Stmt:=top 85
nonrec abbrev Bj:Stmt:=top 86
nonrec abbrev vM:Stmt:=top 87
nonrec abbrev xB:Stmt:=top 88
nonrec abbrev Bh:Stmt:=top 89
nonrec abbrev kc:Stmt:=top 90
nonrec abbrev mQ:Stmt:=top 91
nonrec abbrev rP:Stmt:=top 92
nonrec abbrev kg:Stmt:=top 93
nonrec abbrev rO:Stmt:=top 94
nonrec abbrev ka:Stmt:=top 95
nonrec abbrev lL:Stmt:=top 96
nonrec abbrev pz:Stmt:=top 97
nonrec abbrev Fk:Stmt:=top 98
set_option genInjectivity false in
set_option genSizeOf false in
structure U_ where
 GY:Addr
 Hc:FuncData
 Cr:Addr
 CG:FuncData
 Ck:Addr
 Cz:FuncData
 Cj:Addr
 Cy:FuncData
 GZ:Addr
 Hd:FuncData
 yC:Addr
 yN:FuncData
 sS:Addr
 sY:FuncData
 gM:Addr
 gN:FuncData
 lQ:Addr
 lU:FuncData
 pT:Addr
 p8:FuncData
 nD:Addr
 nO:FuncData
 nA:Addr
 nL:FuncData
 u_:Addr
 vf:FuncData
 G0:Addr
 He:FuncData
 G1:Addr
 Hf:FuncData
 kO:Addr
 k8:FuncData
 sT:Addr
 sZ:FuncData
 jI:Addr
 jM:FuncData
 jJ:Addr
 jN:FuncData
 pW:Addr
 qa:FuncData
 pV:Addr
 p_:FuncData
 kQ:Addr
 k_:FuncData
 kT:Addr
 lf:FuncData
 jG:Addr
 jK:FuncData
 pZ:Addr
 qd:FuncData
 nF:Addr
 nQ:FuncData
 kS:Addr
 lc:FuncData
 lT:Addr
 lX:FuncData
 kR:Addr
 lb:FuncData
 pU:Addr
 p9:FuncData
 pX:Addr
 qb:FuncData
 pY:Addr
 qc:FuncData
 ja:Addr
 jd:FuncData
 nE:Addr
 nP:FuncData
 nG:Addr
 nR:FuncData
 jH:Addr
 jL:FuncData
 kP:Addr
 k9:FuncData
 vd:Addr
 vj:FuncData
 yy:Addr
 yJ:FuncData
 Mg:Addr
 Ml:FuncData
 vc:Addr
 vi:FuncData
 yx:Addr
 yI:FuncData
 Cm:Addr
 CA:FuncData
 yz:Addr
 yK:FuncData
 yB:Addr
 yM:FuncData
 vb:Addr
 vh:FuncData
 pS:Addr
 p7:FuncData
 Cp:Addr
 CD:FuncData
 yw:Addr
 yH:FuncData
 va:Addr
 vg:FuncData
 lR:Addr
 lV:FuncData
 kM:Addr
 kZ:FuncData
 nC:Addr
 nN:FuncData
 Cq:Addr
 CF:FuncData
 Cn:Addr
 CB:FuncData
 yA:Addr
 yL:FuncData
 Co:Addr
 CC:FuncData
 kL:Addr
 kY:FuncData
 nB:Addr
 nM:FuncData
 sR:Addr
 sX:FuncData
 kN:Addr
 k7:FuncData
 sQ:Addr
 sW:FuncData
 kK:Addr
 kX:FuncData
 lS:Addr
 lW:FuncData
 pR:Addr
 p6:FuncData
 Mf:Addr
 Mj:FuncData
 dU:Addr
 fR:Addr
 d4:Addr
 eN:Addr
 tz:Addr
 dS:Addr
 pc:Addr
 fQ:Addr
 dD:Addr
 d7:Addr
 br:Addr
 aW:Addr
structure e8 (K:PySem.W.Frag)(mg:Str ->Option Value)(A:U_):Prop where
 qg:mg "abs" =none
 vw:mg "all" =none
 Mq:mg "any" =none
 OM:mg "bool" =none
 wH:mg "dict" =none
 SY:mg "int" =none
 dM:mg "isinstance" =none
 li:mg "len" =none
 gR:mg "list" =none
 ix:mg "range" =none
 je:mg "sorted" =none
 iw:mg "tuple" =none
 tidy:gV K mg "tidy" ["p","pairs"] zL A.GY A.Hc
 added:gV K mg "added" ["p","one","other"] Bl A.Cr A.CG
 moved:gV K mg "moved" ["pattern","by"] vL A.Ck A.Cz
 timed:gV K mg "timed" ["p","pattern","n"] vK A.Cj A.Cy
 gone:gV K mg "gone" ["p","deeds"] zM A.GZ A.Hd
 joined:gV K mg "joined" ["p","one","other"] xD A.yC A.yN
 backward:gV K mg "backward" ["p","one"] rQ A.sS A.sY
 repeated:gV K mg "repeated" ["p","one","n"] gA A.gM A.gN
 lies_within:gV K mg "lies_within" ["one","farthest_end","farthest_place"] iA A.lQ A.lU
 fits_crew:gV K mg "fits_crew" ["one"] pB A.pT A.p8
 check_name:gV K mg "check_name" ["name"] jj A.nD A.nO
 with_thing:gV K mg "with_thing" ["things","name","thing"] mP A.nA A.nL
 without:gV K mg "without" ["things","name"] uI A.u_ A.vf
 Page:PB K mg "Page" "Page.__init__" ["self","rounds","teams"] Fl A.br A.G0 A.He
 Book:PB K mg "Book" "Book.__init__" ["self","p"] Fm A.aW A.G1 A.Hf
 fE:oa K "turn_to" "Book.turn_to" ["self","page"] ki A.aW A.kO A.k8
 lm:oa K "put" "Book.put" ["self","name","one"] l4 A.aW A.sT A.sZ
 fT:oa K "put_team" "Book.put_team" ["self","crew","team"] jC A.aW A.jI A.jM
 iK:oa K "enlisted" "Book.enlisted" ["self","name"] jD A.aW A.jJ A.jN
 jg:oa K "team" "Book.team" ["self","crew"] kl A.aW A.pW A.qa
 vz:oa K "tell" "Book.tell" ["self","name","deeds"] kj A.aW A.pV A.p_
 nY:oa K "join_as" "Book.join_as" ["self","name","one","other"] gC A.aW A.kQ A.k_
 n9:oa K "back_as" "Book.back_as" ["self","name","one"] gF A.aW A.kT A.lf
 lY:oa K "times_as" "Book.times_as" ["self","name","one","n"] gc A.aW A.jG A.jK
 vA:oa K "drop" "Book.drop" ["self","name"] km A.aW A.pZ A.qd
 tU:oa K "found" "Book.found" ["self","crew"] jk A.aW A.nF A.nQ
 n6:oa K "disband" "Book.disband" ["self","crew"] gE A.aW A.kS A.lc
 qj:oa K "enlist" "Book.enlist" ["self","crew","name"] iB A.aW A.lT A.lX
 nZ:oa K "dismiss" "Book.dismiss" ["self","crew","name"] gD A.aW A.kR A.lb
 Ev:oa K "undo" "Book.undo" ["self"] kh A.aW A.pU A.p9
 Ew:oa K "redo" "Book.redo" ["self"] pC A.aW A.pX A.qb
 Ey:oa K "hold" "Book.hold" ["self"] pD A.aW A.pY A.qc
 tS:oa K "return_to" "Book.return_to" ["self","k"] iT A.aW A.ja A.jd
 tT:oa K "names" "Book.names" ["self"] mS A.aW A.nE A.nP
 tV:oa K "crews" "Book.crews" ["self"] mT A.aW A.nG A.nR
 dC:oa K "round_of" "Book.round_of" ["self","name"] gd A.aW A.jH A.jL
 nX:oa K "members" "Book.members" ["self","crew"] gB A.aW A.kP A.k9
 BV:gV K mg "_law_begin" ["_law_script"] oq A.vd A.vj
 cR:gV K mg "_law_take" ["_law_draw","_law_many"] xz A.yy A.yJ
 l_p:gV K mg "_law_p" ["_law_draw"] Lr A.Mg A.Ml
 BR:gV K mg "_law_names" ["_law_draw","_law_many"] uL A.vc A.vi
 wt:gV K mg "_law_tidy" ["_law_p_here","_law_pairs"] xy A.yx A.yI
 BQ:gV K mg "_law_sum" ["_law_p_here","_law_one","_law_other","_law_by","_law_many"] Bg A.Cm A.CA
 Gh:gV K mg "_law_join" ["_law_p_here","_law_one","_law_other"] xA A.yz A.yK
 Gj:gV K mg "_law_back" ["_law_p_here","_law_one"] xC A.yB A.yM
 BP:gV K mg "_law_times" ["_law_p_here","_law_one","_law_n"] uK A.vb A.vh
 oM:gV K mg "_law_is_name" ["_law_name"] pA A.pS A.p7
 BU:gV K mg "_law_far" ["_law_one","_law_most","_law_reach"] Bi A.Cp A.CD
 Gg:gV K mg "_law_walk" ["_law_p_here","_law_deeds"] xx A.yw A.yH
 BO:gV K mg "_law_value" ["_law_p_here","_law_rounds","_law_deed"] uJ A.va A.vg
 pJ:gV K mg "_law_due_round" ["_law_p_here","_law_stand","_law_deed"] lK A.lR A.lV
 nn:gV K mg "_law_due_member" ["_law_stand","_law_deed"] kf A.kM A.kZ
 sC:gV K mg "_law_due_crew" ["_law_stand","_law_deed"] mR A.nC A.nN
 LQ:gV K mg "_law_due" ["_law_p_here","_law_stand","_law_deed"] Bj A.Cq A.CF
 LP:gV K mg "_law_run" ["_law_book","_law_deed"] vM A.Cn A.CB
 Gi:gV K mg "_law_call" ["_law_book","_law_deed"] xB A.yA A.yL
 BS:gV K mg "_law_int" ["_law_thing"] Bh A.Co A.CC
 nk:gV K mg "_law_is_pattern" ["_law_p_here","_law_thing"] kc A.kL A.kY
 sB:gV K mg "_law_is_round" ["_law_p_here","_law_thing"] mQ A.nB A.nM
 yc:gV K mg "_law_stands" ["_law_p_here","_law_book","_law_stand"] rP A.sR A.sX
 no:gV K mg "_law_draw_deeds" ["_law_draw"] kg A.kN A.k7
 i7:gV K mg "_law_target" ["_law_draw","_law_names_here"] rO A.sQ A.sW
 nj:gV K mg "_law_round_deed" ["_law_draw","_law_names_here"] ka A.kK A.kX
 pK:gV K mg "_law_crew_deed" ["_law_draw","_law_names_here"] lL A.lS A.lW
 uS:gV K mg "_law_planned" ["_law_k","_law_names_here"] pz A.pR A.p6
 law:gV K mg "law" ["_law_script"] Fk A.Mf A.Mj
 n_Book_held:eh K A.aW "held"
 n_Book_now:eh K A.aW "now"
 n_Book_p:eh K A.aW "p"
 n_Book_past:eh K A.aW "past"
 n_Book_undone:eh K A.aW "undone"
 n_Page_rounds:eh K A.br "rounds"
 n_Page_teams:eh K A.br "teams"
 lZ: ∃t,mg "FARTHEST" =some (.int 200 t)
 rE: ∃t,mg "FARTHEST_END" =some (.int 8 t)
 oj: ∃t,mg "FARTHEST_PLACE" =some (.int 24 t)
 j5: ∃t,mg "LONGEST_NAME" =some (.int 12 t)
 jZ: ∃t,mg "MOST_MEMBERS" =some (.int 6 t)
 CP: ∃t,mg "LETTERS" =some (.str "abcdefghijklmnopqrstuvwxyz" t)
 E2:OO K mg "COUNTS" [2,3,5,7]
 Pj:mg "BadName" =some (.ref A.dU)
 UE:mg "InUse" =some (.ref A.fR)
 RK:mg "NoCrew" =some (.ref A.d4)
 RJ:mg "NoDeed" =some (.ref A.eN)
 RI:mg "NoMore" =some (.ref A.tz)
 Ph:mg "NoRound" =some (.ref A.dS)
 Pf:mg "NoState" =some (.ref A.pc)
 UD:mg "Taken" =some (.ref A.fQ)
 RH:mg "TooFar" =some (.ref A.dD)
 Pe:mg "TooMany" =some (.ref A.d7)
 uz:nW K "BadName" A.dU
 AW:nW K "InUse" A.fR
 xa:nW K "NoCrew" A.d4
 w_:nW K "NoDeed" A.eN
 ED:nW K "NoMore" A.tz
 og:nW K "NoRound" A.dS
 CN:nW K "NoState" A.pc
 vB:nW K "Taken" A.fQ
 mD:nW K "TooFar" A.dD
 uy:nW K "TooMany" A.d7
 qL:PySem.W.kitOne K (.ref A.fR) (.ref A.dU)=some false
 sL:PySem.W.kitOne K (.ref A.fR) (.ref A.d4)=some false
 sK:PySem.W.kitOne K (.ref A.fR) (.ref A.eN)=some false
 qK:PySem.W.kitOne K (.ref A.fR) (.ref A.dS)=some false
 ui:PySem.W.kitOne K (.ref A.fR) (.ref A.fQ)=some false
 oX:PySem.W.kitOne K (.ref A.d4) (.ref A.dU)=some false
 qJ:PySem.W.kitOne K (.ref A.d4) (.ref A.eN)=some false
 oW:PySem.W.kitOne K (.ref A.d4) (.ref A.dS)=some false
 oV:PySem.W.kitOne K (.ref A.eN) (.ref A.dU)=some false
 nv:PySem.W.kitOne K (.ref A.dS) (.ref A.dU)=some false
 oU:PySem.W.kitOne K (.ref A.dS) (.ref A.eN)=some false
 qI:PySem.W.kitOne K (.ref A.fQ) (.ref A.dU)=some false
 sJ:PySem.W.kitOne K (.ref A.fQ) (.ref A.d4)=some false
 sI:PySem.W.kitOne K (.ref A.fQ) (.ref A.eN)=some false
 qH:PySem.W.kitOne K (.ref A.fQ) (.ref A.dS)=some false
 oT:PySem.W.kitOne K (.ref A.dD) (.ref A.dU)=some false
 sH:PySem.W.kitOne K (.ref A.dD) (.ref A.fR)=some false
 qG:PySem.W.kitOne K (.ref A.dD) (.ref A.d4)=some false
 qF:PySem.W.kitOne K (.ref A.dD) (.ref A.eN)=some false
 oS:PySem.W.kitOne K (.ref A.dD) (.ref A.dS)=some false
 sG:PySem.W.kitOne K (.ref A.dD) (.ref A.fQ)=some false
 oR:PySem.W.kitOne K (.ref A.dD) (.ref A.d7)=some false
 nu:PySem.W.kitOne K (.ref A.d7) (.ref A.dU)=some false
 qE:PySem.W.kitOne K (.ref A.d7) (.ref A.fR)=some false
 oQ:PySem.W.kitOne K (.ref A.d7) (.ref A.d4)=some false
 oP:PySem.W.kitOne K (.ref A.d7) (.ref A.eN)=some false
 nr:PySem.W.kitOne K (.ref A.d7) (.ref A.dS)=some false
 qD:PySem.W.kitOne K (.ref A.d7) (.ref A.fQ)=some false
theorem Be:cq ["p","deeds","place","pairs","deed","word"] ["p","deeds"] (aP zM):=#[rfl,rfl,rfl,by right,rfl,by right,by right]
theorem hW:cq ["p","one","n","end","pattern","pairs"] ["p","one","n"] (aP gA):=#[rfl,rfl,rfl,by right,rfl,by right,by right]
theorem lI:cq ["name"] ["name"] (aP jj):=#[rfl,rfl,rfl,by right,rfl,by right,by right]
theorem px:cq ["self","name","one"] ["self","name","one"] (aP l4):=#[rfl,rfl,rfl,by right,rfl,by right,by right]
theorem mM:cq ["self","crew"] ["self","crew"] (aP kl):=#[rfl,rfl,rfl,by right,rfl,by right,by right]
theorem mL:cq ["self","name","deeds"] ["self","name","deeds"] (aP kj):=#[rfl,rfl,rfl,by right,rfl,by right,by right]
theorem jy:cq ["self","name","one","other"] ["self","name","one","other"] (aP gC):=#[rfl,rfl,rfl,by right,rfl,by right,by right]
theorem jB:cq ["self","name","one"] ["self","name","one"] (aP gF):=#[rfl,rfl,rfl,by right,rfl,by right,by right]
theorem iR:cq ["self","name","one","n"] ["self","name","one","n"] (aP gc):=#[rfl,rfl,rfl,by right,rfl,by right,by right]
theorem mO:cq ["self","name"] ["self","name"] (aP km):=#[rfl,rfl,rfl,by right,rfl,by right,by right]
theorem lJ:cq ["self","crew"] ["self","crew"] (aP jk):=#[rfl,rfl,rfl,by right,rfl,by right,by right]
theorem jA:cq ["self","crew"] ["self","crew"] (aP gE):=#[rfl,rfl,rfl,by right,rfl,by right,by right]
theorem j_:cq ["self","crew","name","team","one"] ["self","crew","name"] (aP iB):=#[rfl,rfl,rfl,by right,rfl,by right,by right]
theorem jz:cq ["self","crew","name","team"] ["self","crew","name"] (aP gD):=#[rfl,rfl,rfl,by right,rfl,by right,by right]
theorem Jc:cq ["self"] ["self"] (aP kh):=#[rfl,rfl,rfl,by right,rfl,by right,by right]
theorem iS:cq ["self","name"] ["self","name"] (aP gd):=#[rfl,rfl,rfl,by right,rfl,by right,by right]
theorem jx:cq ["self","crew"] ["self","crew"] (aP gB):=#[rfl,rfl,rfl,by right,rfl,by right,by right]
theorem rN:cq ["_law_script"] ["_law_script"] (aP oq):=#[rfl,rfl,rfl,by right,rfl,by right,by right]
theorem xw:cq ["_law_book","_law_deed","_law_handed","_law_told"] ["_law_book","_law_deed"] (aP vM):=#[rfl,rfl,rfl,by right,rfl,by right,by right]
theorem Fj:cq ["_law_script","_law_draw","_law_p_here","_law_names_here","_law_book","_law_stand","_law_many","_law_planned_here","_law_k","_law_deed","_law_due_here"] ["_law_script"] (aP Fk):=#[rfl,rfl,rfl,by right,rfl,by right,by right]
def tw (A:U_):Rf ->gL
 | .BadName=>A.dU | .NoDeed=>A.eN | .NoRound=>A.dS | .NoCrew=>A.d4 | .Taken=>A.fQ | .InUse=>A.fR | .TooMany=>A.d7 | .TooFar=>A.dD | .NoMore=>A.tz | .NoState=>A.pc
section
variable {P:RV}{w:W4}{K:RS}{mg:Str ->fP cW}{base:X4}{A:U_}
def z6 (T:e8 K mg A):bA P w K mg base eU 1 A.vd A.vj ["_law_script"] (Bb K):=by
 exact T.BV.fn.ok rN (λvs H Q E h=> ?_) (λcdv A' outer s H vs Q E hr h=> ?_);let⟨a,ns,rfl,_⟩:=h;rfl;let⟨a,ns,rfl,hs,k⟩:=h;have nd:=rN.nd;exact#[_,(aj (aE (gK (aa (cO eM (by rfl) T.gR Boot.«list» (aa (rR IZ (pv 0) vV (vU ah)) ae)) (aa ah (aa ah (aa ah ae))))))),?_];have ec: ∃ms:cV Int,DU (ns.map V.int) none (some 63)=ms.map V.int:=by exact#[(ns.drop (HT.wW (ns.map V.int).length 0 none)).take (HT.wW (ns.map V.int).length (ns.map V.int).length (some 63) - HT.wW (ns.map V.int).length 0 none),?_];unfold DU;rw[List.map_take,List.map_drop]
 let⟨ms,em⟩:=ec;exact#[_,rfl,_,rfl,_,_,rfl,hs,λp hp=>#[_,_,rfl, .inl (gT.of bP),λl hl=>#[by change 4<=sizeLine;decide,λd hd=> ?_]]];have hld:l≠d:=λe=>by rw[e,bP] at hd;cases hd
 exact k d l ms _ hld.symm bP ?_;rw[bK hld,bP,em]
def bH (T:e8 K mg A):bA P w K mg base eU 1 A.yy A.yJ ["_law_draw","_law_many"] (fF K Rc):=by
 exists T.cR.fn,["_law_draw","_law_many","_law_number","_law_got"],(ag (bp (ou (aQ i5 (aD (show ce _ (iD K) from dA) (pv 0) ah (λ_ _=>rfl)) (pv 1) (a9 _)) (lq (aQ i5 (aD (show ce _ (iD K) from dA) (pv 0) ah (λ_ _=>rfl)) (bt (fe (K:=K) rfl) (by rfl) T.li Boot.«len» (aa (aD (show ce _ (iD K) from dA) (pv 0) ah (λ_ _=>rfl)) ae)) (a9 _)))).pt (ag (a6 (i:=2) nd rfl (by trivial) (aD (show ce _ (iD K) from dA) (aD (show ce _ (iD K) from dA) (pv 0) ah (λ_ _=>rfl)) (aD (show ce _ (iD K) from dA) (pv 0) ah (λ_ _=>rfl)) (λ_ _=>rfl))) (ag (gg (bS dZ (aD (show ce _ (iD K) from dA) (pv 0) ah (λ_ _=>rfl)) ah) (oy (pv 0) ah iQ)) (ag (gg ah (oy (pv 0) ah iQ)) (aj (bp (aQ xP (bt fh (by rfl) T.qg Boot.«abs» (aa (pv 2) ae)) (bS NE ah ah) (a9 _)) (aj (gg (bt fh (by rfl) T.qg Boot.«abs» (aa (pv 2) ae)) (oy (pv 0) ah iQ))) (aj (gg (bS kx (bS dZ (bS dZ (bS fM (aD (show ce _ (iD K) from dA) (pv 0) ah (λ_ _=>rfl)) ah) (bS fM (bS kx (pv 2) ah) ah)) ah) ah) (oy (pv 0) ah iQ)))))))) aJ) (ag (bp (aQ xP (aD (show ce _ (iD K) from dA) (pv 0) ah (λ_ _=>rfl)) (pv 1) (a9 _)) (ag (a6 (i:=3) nd rfl (by trivial) (bS kx (aD (show ce _ (iD K) from dA) (pv 0) ah (λ_ _=>rfl)) (pv 1))) (ag (gg (bS BG (aD (show ce _ (iD K) from dA) (pv 0) ah (λ_ _=>rfl)) (pv 1)) (oy (pv 0) ah iQ)) (aj (aE (pv 3))))) aJ) (ag (gg (bS kx (bS dZ (bS fM (aD (show ce _ (iD K) from dA) (pv 0) ah (λ_ _=>rfl)) ah) ah) ah) (oy (pv 0) ah iQ)) (aj (aE (bS kx (bS BG (aD (show ce _ (iD K) from dA) (pv 0) ah (λ_ _=>rfl)) ah) (pv 1)))))))
 rintro vs M q ⟨d,l,n,rfl,⟨ns,i,c,sd,hd,hl,hi,mB⟩,n0,n1,k⟩;exact me (λρ M'=>vx λ(o1 o2:fP W) (i' c' s':Int)=>eT (ρ= [some (wr d),some (wi n),o1,o2]) (M' d=some (.lst [wr l,wi i',wi c',wi s'])) (NB d M M') (0<=i')) ?_ λN hN=> ?_;rintro ρ M' ⟨o1,o2,i',c',s',rfl,h,nb,pQ⟩;have fin: ∀ (r c' s':Int),0<=r ->r<n -> ∃M0,Sm M0 (um M' d (.lst [wr l,wi i',wi c',wi s'])) /\ q (wi r) M0:=λr c' s' h0 h1=>eC (k r _ h0 h1 #[ns,i',c',s',aq,by rw[aU (de mB),nb l (de mB)];show hl,pQ,mB] (nb.trans NB.put));have cm3: ∀x,lH x 16807=True:=λx=>by simp[lH]
 have cd1: ∀x,HZ x n=True:=λx=>by simp[HZ,n0,n1]
 have cd2: ∀x,HZ x 64=True:=λx=>by simp[HZ]
 have z2:((0:Int) <2147483647)=True:=⋯
 simp? [↓bx,h,n0,cm3,cd1,cd2,z2];show dk (λ_=>fin _ _ _ (Int.emod_nonneg _ ∅) (Int.emod_lt_of_pos _ n0)) λ_=>fin _ _ _ (Int.emod_nonneg _ ∅) (Int.emod_lt_of_pos _ n0);have nx: ∀ (o1 o2:fP W) (i' c' s':Int),0<=i' ->N [some (wr d),some (wi n),o1,o2] (um M d (.lst [wr l,wi i',wi c',wi s'])):=λ_ _ _ _ _ h=>hN _ _ #[_,_,_,_,_,rfl,aq,NB.put,h];have Uz: ∀ (o1 o2:fP W),N [some (wr d),some (wi n),o1,o2] M:=λ_ _=>hN _ _ #[_,_,_,_,_,rfl,hd,NB.refl d M,hi];have cp:OW 10 18=True:=by simp[OW]
 have cm: ∀x,lH x 48271=True:=λx=>by simp[lH]
 have cm2: ∀x,lH x 69621=True:=λx=>by simp[lH]
 have z1:((0:Int) <2147483629)=True:=⋯
 have z2:((0:Int) <2147483647)=True:=⋯
 by_cases lD:i<ns.length;have hx:hU (ns.map wi) i=some (wi (ns[i.toNat]'∅)):=gu hi (by rw[aH,aG ∅];rfl);simp? [↓bx,hd,hl,hx,ai,cp,cm,cm2,z1,z2];show dk (λ_=>dk (λ_=>dk (λ_=>nx _ _ _ _ _ ∅) λ_=>nx _ _ _ _ _ ∅) λ_=>Uz _ _) λ_=>Uz _ _;simp? [↓bx,hd,hl,lD,ai,decide_false];show dk (λ_=>Uz _ _) λ_=>Uz _ _
def NK (T:e8 K mg A):bA P w K mg base eU 2 A.Mg A.Ml ["_law_draw"] (fF K pP):=by
 exists T.l_p.fn,["_law_draw"],(aj (aE (aD (show ce _ (bq K) from az) (aM (aa ah (aa ah (aa ah (aa ah ae))))) (ax T.cR (bH T) hr (aa (pv 0) (aa ah ae))) (λ_ _=>rfl))))
 rintro vs M q ⟨d,l,rfl,hD,k⟩;simp? [↓bx];exact#[d,l,4,rfl,hD,⋯,⋯,λr M1 r0 r1 D1 b1=> ?_];have Xk:r=0 \/ r=1 \/ r=2 \/ r=3:=by omega
 obtain rfl | rfl | rfl | rfl:=Xk <;> simp? [↓bx];show eC (k 2 _ ⋯ D1 b1);show eC (k 3 _ ⋯ D1 b1);show eC (k 5 _ ⋯ D1 b1);show eC (k 7 _ ⋯ D1 b1)
def se (T:e8 K mg A):bA P w K mg base eU 1 A.Co A.CC ["_law_thing"] (fF K Wh):=by
 exists T.BS.fn,["_law_thing"],(aj (aE (vX (bt (fg (K:=K) rfl) (by rfl) T.dM Boot.«isinstance» (aa (pv 0) (aa (h_ (by rfl) T.SY Boot.«int» (show RelV (.ty "int") _ from rfl)) ae))) (rS (zR (bt (fg (K:=K) rfl) (by rfl) T.dM Boot.«isinstance» (aa (pv 0) (aa (h_ (by rfl) T.OM Boot.«bool» (show RelV (.ty "bool") _ from rfl)) ae))))))))
 rintro vs M q ⟨i,rfl,k⟩;simp? [↓bx];show eC k
def m7 (T:e8 K mg A):bA P w K mg base eU 1 A.GY A.Hc ["p","pairs"] (fF K LF):=by
 exists T.tidy.fn,["p","pairs","turned","place","setting"],(ag (a6 (i:=2) nd rfl (by trivial) iY) (ag (gH PassesOwn.never rfl (qZ (pv 1)) (d_ (n:=2) rfl (bB (a8 (i:=3) nd rfl (by trivial)) (bB (a8 (i:=4) nd rfl (by trivial)) dE))) (aj (ls (dF hr) (pv 2) (pv 3) (bS kx (bS dZ (xN (dF hr) (pv 2) (pv 3) ah #[by rfl,by rfl,by rfl,by rfl]) (pv 4)) (pv 0)) rfl))) (aj (aE (cO f8 (by rfl) T.iw Boot.«tuple» (aa (dL rfl (db.of (sc:=aP zL) (N:= ["p","pairs","turned","place","setting"]) (own:= ["place"]) (fr:= [2]) (N':= ["place","turned"])) (qZ (bt (nT rfl) (by rfl) T.je Boot.«sorted» (aa (pv 2) ae))) (λ_ _ _ _=>(a8 (i:=0) (by change(["place","turned"]:cV Str).Nodup;decide+kernel) rfl (by trivial))) d5 (λ_ _ _ _=>(qY (aQ rV (eo (dF hr) (pv 1) (pv 0) (λ_ _=>rfl)) ah (a9 _)))) (λ_ _ _ _=>(aM (aa (pv 0) (aa (eo (dF hr) (pv 1) (pv 0) (λ_ _=>rfl)) ae))))) ae))))))
 rintro vs M q ⟨a,p,ps,rfl,ha,p0,Ka,XO,k⟩;simp? [↓bx];intro d hd;have RF:a≠d:=cC ha hd;simp? [↓bx,aU RF,ha];exact kI (λi ρ M'=>dQ λ(o1 o2:fP W) (m:Pt)=>jX (ρ= [some (wi p),some (wr a),some (wr d),o1,o2]) (M'=um M d (.dK (tY m))) ((m.map (·.1)).Nodup) (m.length<=i) (∀x,look m x=eY (ps.take i) x % p) (∀k∈m.map (·.1), ∃q∈ps,q.1=k)) #[none,none,[],rfl,rfl,List.nodup_nil,ao _,λx=>by simp[look,eY],by simp] ?_ ?_ ?_;rintro i ρ M' _ ⟨o1,o2,m,rfl,rfl,_⟩;rw[aU RF];show ha;rintro i x ρ M' hx ⟨o1,o2,m,rfl,rfl,hn,hl,ht,yq⟩ N hN;let⟨z,hz,rfl⟩:=pairs_at hx;have XC:=(bi.mp hz).1;have hs:((tY m).length<sizeLine)=True:=by rw[tY,ai];show aC (nU (by omega))
 simp? [↓bx,bY,Ci,p0,hs,Bv];exact hN _ _ #[_,_,_,rfl,rfl,BL hn,av yb (by omega),λx=> ?_,λk hk=>(x_ hk).elim (λe=>#[z,be hz,e.symm]) (yq k)];rw[uQ,List.take_add_one,hz];change _=eY (ps.take i++ [z]) x % p;rw[rH];by_cases hx:x=z.1;subst hx;rw[am rfl,am rfl,ht,Int.emod_add_emod];rw[ak hx,ak (de hx),Int.add_zero];show ht x;rintro ρ M' ⟨o1,o2,m,rfl,rfl,hn,hl,ht,yq⟩;rw[ai] at hl ht;rw[List.take_length] at ht;simp? [↓bx];exact#[d,tY m,m.map (·.1),rfl,aq,yd m,(by rw[ai];show big (by omega)),λsp ns zu i9 yl=> ?_];have Oq:d≠sp:=cC aq zu;have qM:ns.length<=16000000:=by rw[i9.length_eq,ai];omega
 simp? [↓bx];exact gO (λx=>match x with | .v (.int n)=>if look m n=0 then none else some (bY (n,look m n)) | _=>none) (by rw[ai];show big qM) (λM3 s3=>s3 _ _ aq) ?_ λt Xc=> ?_;intro i x hx M3 N s3 hN;let⟨n,ym,rfl⟩:=yj hx;have XM:M3 d=some (.dK (tY m)):=s3 _ _ (by rw[aU Oq,aq]);have Xt:n∈m.map (·.1):=i9.mem_iff.mp (be ym);simp? [↓bx,XM,EV Xt];exact N5 (λh=> ?_) λh=> ?_;simp![h,bv] at hN;show hN;simp![h,bX] at hN;show hN;simp? [↓bx];exact#[M,((Sm.um (Sm.refl M) hd).trans (bw zu)).trans (bw Xc),?_];have e:(ns.map wi).filterMap (λx=>match x with | .v (.int n)=>if look m n=0 then none else some (bY (n,look m n)) | _=>none)=(oG p ps).map bY:=by rw[<- Bd p0 hn ht i9 yl,List.filterMap_map];unfold O9;rw[List.map_filterMap];congr 1;funext n;simp![Function.comp];split<;>rfl
 rw[e];show k
def oE (T:e8 K mg A):bA P w K mg base eU 1 A.yx A.yI ["_law_p_here","_law_pairs"] (fF K LF):=by
 exists T.wt.fn,["_law_p_here","_law_pairs","_law_sums","_law_place","_law_setting"],(ag (a6 (i:=2) nd rfl (by trivial) iY) (ag (gH PassesOwn.never rfl (kr (K:=K) rfl (pv 1)) (d_ (n:=2) rfl (bB (a8 (i:=3) nd rfl (by trivial)) (bB (a8 (i:=4) nd rfl (by trivial)) dE))) (aj (ls (dF hr) (pv 2) (pv 3) (bS kx (bS dZ (xN (dF hr) (pv 2) (pv 3) ah #[by rfl,by rfl,by rfl,by rfl]) (pv 4)) (pv 0)) rfl))) (aj (aE (cO f8 (by rfl) T.iw Boot.«tuple» (aa (dL rfl (db.of (sc:=_) (N:= ["_law_p_here","_law_pairs","_law_sums","_law_place","_law_setting"]) (own:= ["_law_place"]) (fr:= [2]) (N':= ["_law_place","_law_sums"]) rfl rfl rfl (by right) rfl (by right) (by right) (by right) (by right) (bI rfl)) (kr (K:=K) rfl (bt (nT rfl) (by rfl) T.je Boot.«sorted» (aa (pv 2) ae))) (λ_ _ _ _=>(a8 (i:=0) (by change(["_law_place","_law_sums"]:cV Str).Nodup;decide+kernel) rfl (by trivial))) d5 (λ_ _ _ _=>(qY (aQ FS (eo (dF hr) (pv 1) (pv 0) (λ_ _=>rfl)) ah (a9 _)))) (λ_ _ _ _=>(aM (aa (pv 0) (aa (eo (dF hr) (pv 1) (pv 0) (λ_ _=>rfl)) ae))))) ae))))))
 rintro vs M q ⟨a,p,ps,rfl,ha,p0,Ka,XO,k⟩;simp? [↓bx];intro d hd;have RF:a≠d:=cC ha hd;simp? [↓bx,aU RF,ha];exact kI (λi ρ M'=>dQ λ(o1 o2:fP W) (m:Pt)=>jX (ρ= [some (wi p),some (wr a),some (wr d),o1,o2]) (M'=um M d (.dK (tY m))) ((m.map (·.1)).Nodup) (m.length<=i) (∀x,look m x=eY (ps.take i) x % p) (∀k∈m.map (·.1), ∃q∈ps,q.1=k)) #[none,none,[],rfl,rfl,List.nodup_nil,ao _,λx=>by simp[look,eY],by simp] ?_ ?_ ?_;rintro i ρ M' _ ⟨o1,o2,m,rfl,rfl,_⟩;rw[aU RF];show ha;rintro i x ρ M' hx ⟨o1,o2,m,rfl,rfl,hn,hl,ht,yq⟩ N hN;let⟨z,hz,rfl⟩:=pairs_at hx;have XC:=(bi.mp hz).1;have hs:((tY m).length<sizeLine)=True:=by rw[tY,ai];show aC (nU (by omega))
 simp? [↓bx,bY,Ci,p0,hs,Bv];exact hN _ _ #[_,_,_,rfl,rfl,BL hn,av yb (by omega),λx=> ?_,λk hk=>(x_ hk).elim (λe=>#[z,be hz,e.symm]) (yq k)];rw[uQ,List.take_add_one,hz];change _=eY (ps.take i++ [z]) x % p;rw[rH];by_cases hx:x=z.1;subst hx;rw[am rfl,am rfl,ht,Int.emod_add_emod];rw[ak hx,ak (de hx),Int.add_zero];show ht x;rintro ρ M' ⟨o1,o2,m,rfl,rfl,hn,hl,ht,yq⟩;rw[ai] at hl ht;rw[List.take_length] at ht;simp? [↓bx];exact#[d,tY m,m.map (·.1),rfl,aq,yd m,(by rw[ai];show big (by omega)),λsp ns zu i9 yl=> ?_];have Oq:d≠sp:=cC aq zu;have qM:ns.length<=16000000:=by rw[i9.length_eq,ai];omega
 simp? [↓bx];exact gO (λx=>match x with | .v (.int n)=>if look m n=0 then none else some (bY (n,look m n)) | _=>none) (by rw[ai];show big qM) (λM3 s3=>s3 _ _ aq) ?_ λt Xc=> ?_;intro i x hx M3 N s3 hN;let⟨n,ym,rfl⟩:=yj hx;have XM:M3 d=some (.dK (tY m)):=s3 _ _ (by rw[aU Oq,aq]);have Xt:n∈m.map (·.1):=i9.mem_iff.mp (be ym);simp? [↓bx,XM,EV Xt];have XF:0<=look m n:=by rw[ht];show Int.emod_nonneg _ (by omega)
 exact dk (λh=> ?_) λh=> ?_;have h':¬look m n=0:=by omega
 simp![h',bv] at hN;show hN;have h':look m n=0:=by omega
 simp![h',bX] at hN;show hN;simp? [↓bx];exact#[M,((Sm.um (Sm.refl M) hd).trans (bw zu)).trans (bw Xc),?_];have e:(ns.map wi).filterMap (λx=>match x with | .v (.int n)=>if look m n=0 then none else some (bY (n,look m n)) | _=>none)=(oG p ps).map bY:=by rw[<- Bd p0 hn ht i9 yl,List.filterMap_map];unfold O9;rw[List.map_filterMap];congr 1;funext n;simp![Function.comp];split<;>rfl
 rw[e];show k
def xR (T:e8 K mg A):bA P w K mg base eU 1 A.Ck A.Cz ["pattern","by"] (fF K Nv):=by
 exists T.moved.fn,["pattern","by"],(aj (aE (cO f8 (by rfl) T.iw Boot.«tuple» (aa (dL rfl (db.of (sc:=aP vL) (N:= ["pattern","by"]) (own:= ["place","setting"]) (fr:= [1]) (N':= ["place","setting","by"])) (ox (pv 0)) (λ_ _ _ _=>(d_ (n:=2) rfl (bB (a8 (i:=0) (by change(["place","setting","by"]:cV Str).Nodup;decide+kernel) rfl (by trivial)) (bB (a8 (i:=1) (by change(["place","setting","by"]:cV Str).Nodup;decide+kernel) rfl (by trivial)) dE)))) gP (λ_ _ _ _=>dJ) (λ_ _ _ _=>(aM (aa (bS dZ (pv 0) (pv 2)) (aa (pv 1) ae))))) ae))))
 rintro vs M q ⟨ua,b,rfl,hl,k⟩;simp? [↓bx,fV];exact gO (λx=>match x with | .tup [.v (.int x),s]=>some (.tup [wi (x+b),s]) | _=>none) (by rw[ai];show big hl) (λ_ _=>trivial) ?_ λt ht=> ?_;intro i x hx M3 N s3 hN;let⟨z,hz,rfl⟩:=pairs_at hx;simp? [↓bx,bY];show hN;simp? [↓bx];exact#[M,bw ht,?_];have e:(ua.map bY).filterMap (λx=>match x with | .tup [.v (.int x),s]=>some (.tup [wi (x+b),s]) | _=>none)=(mv b ua).map bY:=by rw[List.filterMap_map,mv,a4];show List.filterMap_eq_map.symm▸rfl
 rw[e];show k
def qu (T:e8 K mg A):bA P w K mg base eU 2 A.kL A.kY ["_law_p_here","_law_thing"] (fF K Nw):=by
 exists T.nk.fn,["_law_p_here","_law_thing","_law_k","_law_pair"],(ag (bp (dY (dw (bt (fg (K:=K) rfl) (by rfl) T.dM Boot.«isinstance» (aa (pv 1) (aa (h_ (by rfl) T.iw Boot.«tuple» (show RelV (.ty "tuple") _ from rfl)) ae))))) (aj (aE ij)) aJ) (ag (gH PassesOwn.never rfl (fc (by rfl) T.ix (aa (bt (fe (K:=K) rfl) (by rfl) T.li Boot.«len» (aa (pv 1) ae)) ae)) (a8 (i:=2) nd rfl (by trivial)) (ag (a6 (i:=3) nd rfl (by trivial) (aD (show ce _ (bq K) from az) (pv 1) (pv 2) (λ_ _=>rfl))) (ag (bp (kn (dY (dw (bt (fg (K:=K) rfl) (by rfl) T.dM Boot.«isinstance» (aa (pv 3) (aa (h_ (by rfl) T.iw Boot.«tuple» (show RelV (.ty "tuple") _ from rfl)) ae))))) (iE (aQ rV (bt (fe (K:=K) rfl) (by rfl) T.li Boot.«len» (aa (pv 3) ae)) ah (a9 _)))).pt (aj (aE ij)) aJ) (ag (bp (kn (dY (dw (ax T.BS (se T) hr (aa (aD (show ce _ (bq K) from az) (pv 3) ah (λ_ _=>rfl)) ae)))) (kn (dY (dw (ax T.BS (se T) hr (aa (aD (show ce _ (bq K) from az) (pv 3) ah (λ_ _=>rfl)) ae)))) (iE (dY (xK i5 i5 ah (aD (show ce _ (bq K) from az) (pv 3) ah (λ_ _=>rfl)) (pv 0)))))).pt (aj (aE ij)) aJ) (aj (bp (ou (aQ FS (pv 2) ah (a9 _)) (lq (aQ xP (aD (show ce _ (bq K) from az) (aD (show ce _ (bq K) from az) (pv 1) (bS rT (pv 2) ah) (λ_ _=>rfl)) ah (λ_ _=>rfl)) (aD (show ce _ (bq K) from az) (pv 3) ah (λ_ _=>rfl)) (a9 _)))).pt (aj (aE ij)) aJ)))))) (aj (aE ij))))
 rintro vs M q ⟨p,ua,rfl,⟨h1,h2⟩,hl,k⟩;have pO:(ua.map bY).length=ua.length:=ai _;simp? [↓bx,fV,pO];exact#[#[by omega,by omega],kI (λi ρ M'=>cx λ(o1 o2:fP W)=>ρ= [some (wi p),some (fV ua),o1,o2] /\ M'=M) #[none,none,rfl,rfl] (λ_ _ _ _ _=>trivial) ?_ ?_];rintro i x ρ M' hx ⟨o1,o2,rfl,rfl⟩ N hN;let⟨hi,rfl⟩:=iV hx;have pQ:i<ua.length:=by omega
 have ha:hU (ua.map bY) (0+(i:Int))=some (bY ua[i]):=by rw[Int.zero_add];show e_ (by rw[aH,aG pQ];rfl)
 have hz:=h1 ua[i] (List.getElem_mem pQ);simp? [↓bx,fV,ha,bY];exact#[_,rfl,?_];simp? [↓bx];exact#[_,rfl,?_];simp? [↓bx,hz.1,hz.2,dm];exact dk (λh=> ?_) λh=>hN _ _ #[_,_,rfl,rfl];have hi1:i - 1<ua.length:=by omega
 have ha':hU (ua.map bY) (0+(i:Int) - 1)=some (bY ua[i - 1]):=by
  have:(0+(i:Int) - 1)=((i - 1:Nat):Int):=by omega
  rw[this];show e_ (by rw[aH,aG hi1];rfl)
 have lD:=List.pairwise_iff_getElem.mp h2 (i - 1) i hi1 pQ (by omega);simp? [↓bx,ha',bY];show dk (λh=>by omega) λ_=>hN _ _ #[_,_,rfl,rfl];rintro ρ M' ⟨o1,o2,rfl,rfl⟩;simp? [↓bx];show eC k
def FY (T:e8 K mg A):bA P w K mg base eU 2 A.Cr A.CG ["p","one","other"] (fF K ND):=by
 exists T.added.fn,["p","one","other"],(aj (aE (ax T.tidy (m7 T) hr (aa (pv 0) (aa (bS FT (cO eM (by rfl) T.gR Boot.«list» (aa (pv 1) ae)) (cO eM (by rfl) T.gR Boot.«list» (aa (pv 2) ae))) ae)))))
 rintro vs M q ⟨p,a,b,rfl,p0,hf,ha,hb,k⟩;simp? [↓bx,fV];intro u hu;simp? [↓bx];intro v hv;have huv:u≠v:=cC aq hv;have hs:((a.map bY).length+(b.map bY).length<=sizeLine)=True:=aC (big (by rw[ai,ai];omega));simp? [↓bx,aU huv,hs];intro c hc;simp? [↓bx];exact#[c,p,a++b,rfl,by rw[aq,bn],p0,hf,by rw[aK];omega,?_];show#[M,((bw hu).trans (bw hv)).trans (bw hc),k]
def rZ (T:e8 K mg A):bA P w K mg base eU 2 A.Cj A.Cy ["p","pattern","n"] (fF K Nt):=by
 exists T.timed.fn,["p","pattern","n"],(aj (aE (ax T.tidy (m7 T) hr (aa (pv 0) (aa (dL rfl (db.of (sc:=aP vK) (N:= ["p","pattern","n"]) (own:= ["place","setting"]) (fr:= [2]) (N':= ["place","setting","n"])) (ox (pv 1)) (λ_ _ _ _=>(d_ (n:=2) rfl (bB (a8 (i:=0) (by change(["place","setting","n"]:cV Str).Nodup;decide+kernel) rfl (by trivial)) (bB (a8 (i:=1) (by change(["place","setting","n"]:cV Str).Nodup;decide+kernel) rfl (by trivial)) dE)))) gP (λ_ _ _ _=>dJ) (λ_ _ _ _=>(aM (aa (pv 0) (aa (bS fM (pv 1) (pv 2)) ae))))) ae)))))
 rintro vs M q ⟨p,a,n,rfl,p0,hf,ha,hz,k⟩;simp? [↓bx,fV];exact gO (λx=>match x with | .tup [x, .v (.int s)]=>some (.tup [x,wi (s*n)]) | _=>none) (by rw[ai];show big (by omega)) (λ_ _=>trivial) ?_ λt ht=> ?_;intro i x hx M3 N s3 hN;let⟨z,GD,rfl⟩:=pairs_at hx;have:=hz z (be GD);have cm:lH z.2 n=True:=aC (.inl #[by omega,by omega]);simp? [↓bx,bY,cm];show hN;have e:(a.map bY).filterMap (λx=>match x with | .tup [x, .v (.int s)]=>some (.tup [x,wi (s*n)]) | _=>none)=(tm n a).map bY:=by rw[List.filterMap_map,tm,a4];show List.filterMap_eq_map.symm▸rfl
 rw[e];simp? [↓bx];exact#[t,p,tm n a,rfl,aq,p0,hf,by rw[tm,ai];omega,M,bw ht,k]
def r_ (T:e8 K mg A):bA P w K mg base eU 2 A.Cm A.CA ["_law_p_here","_law_one","_law_other","_law_by","_law_many"] (fF K Wg):=by
 exists T.BQ.fn,["_law_p_here","_law_one","_law_other","_law_by","_law_many"],(aj (aE (ax T.wt (oE T) hr (aa (pv 0) (aa (bS FT (cO eM (by rfl) T.gR Boot.«list» (aa (pv 1) ae)) (dL rfl (db.of (sc:=_) (N:= ["_law_p_here","_law_one","_law_other","_law_by","_law_many"]) (own:= ["_law_place","_law_setting"]) (fr:= [3,4]) (N':= ["_law_place","_law_setting","_law_by","_law_many"]) rfl rfl rfl (by right) rfl (by right) (by right) (by right) (by right) (bI rfl)) (mZ (K:=K) rfl (pv 2)) (λ_ _ _ _=>(d_ (n:=2) rfl (bB (a8 (i:=0) (by change(["_law_place","_law_setting","_law_by","_law_many"]:cV Str).Nodup;decide+kernel) rfl (by trivial)) (bB (a8 (i:=1) (by change(["_law_place","_law_setting","_law_by","_law_many"]:cV Str).Nodup;decide+kernel) rfl (by trivial)) dE)))) gP (λ_ _ _ _=>dJ) (λ_ _ _ _=>(aM (aa (bS dZ (pv 0) (pv 2)) (aa (bS fM (pv 1) (pv 3)) ae)))))) ae)))))
 rintro vs M q ⟨p,a,b,y,n,rfl,p0,hf,ha,hb,hz,k⟩;simp? [↓bx,fV];intro u hu;simp? [↓bx];exact gO (λx=>match x with | .tup [.v (.int x), .v (.int s)]=>some (.tup [wi (x+y),wi (s*n)]) | _=>none) (by rw[ai];show big (by omega)) (λ_ _=>trivial) ?_ λt ht=> ?_;intro i x hx M3 N s3 hN;let⟨z,GD,rfl⟩:=pairs_at hx;have:=hz z (be GD);have cm:lH z.2 n=True:=aC (.inl #[by omega,by omega]);simp? [↓bx,bY,cm];show hN;have e:(b.map bY).filterMap (λx=>match x with | .tup [.v (.int x), .v (.int s)]=>some (.tup [wi (x+y),wi (s*n)]) | _=>none)=(BM y n b).map bY:=by rw[List.filterMap_map,BM,a4];show List.filterMap_eq_map.symm▸rfl
 rw[e];have hut:u≠t:=cC aq ht;have hs:((a.map bY).length+((BM y n b).map bY).length<=sizeLine)=True:=aC (big (by rw[ai,ai,BM,ai];omega));simp? [↓bx,aU hut,hs];intro c hc;simp? [↓bx];exact#[c,p,a++BM y n b,rfl,by rw[aq,bn],p0,hf,by rw[aK,BM,ai];omega,?_];show#[M,((bw hu).trans (bw ht)).trans (bw hc),k]
end
end eE
open PySem L2 WL WP WQ PyProof.Rows
namespace eE
open PySem L2 WL WP WQ PyProof.Rows
section
variable {P:RV}{w:W4}{K:RS}{mg:Str ->fP cW}{base:X4}{A:U_}
def Dh (T:e8 K mg A):bA P w K mg base eU 3 A.yC A.yN ["p","one","other"] (fF K Jr):=by
 exists T.joined.fn,["p","one","other","end","pattern","more","behind"],(ag (gg (pv 1) (d_ (n:=2) rfl (bB (a8 (i:=3) nd rfl (by trivial)) (bB (a8 (i:=4) nd rfl (by trivial)) dE)))) (ag (gg (pv 2) (d_ (n:=2) rfl (bB (a8 (i:=5) nd rfl (by trivial)) (bB (a8 (i:=6) nd rfl (by trivial)) dE)))) (aj (aE (aM (aa (bS dZ (pv 3) (pv 5)) (aa (ax T.added (FY T) hr (aa (pv 0) (aa (pv 4) (aa (ax T.moved (xR T) hr (aa (pv 6) (aa (pv 3) ae))) ae)))) ae)))))))
 rintro vs M q ⟨p,a,b,rfl,p0,hf,ha,hb,k⟩;simp? [↓bx,ge];exact#[b.2,a.1,rfl,by omega,?_];simp? [↓bx];exact#[p,a.2,mv a.1 b.2,rfl,p0,hf,av ha ⋯,by rw[oJ];show av hb ⋯,?_];simp? [↓bx];show eC k
def kA (T:e8 K mg A):bA P w K mg base eU 3 A.sS A.sY ["p","one"] (fF K LJ):=by
 exists T.backward.fn,["p","one","end","pattern"],(ag (gg (pv 1) (d_ (n:=2) rfl (bB (a8 (i:=2) nd rfl (by trivial)) (bB (a8 (i:=3) nd rfl (by trivial)) dE)))) (aj (aE (aM (aa (fU eG (pv 2)) (aa (ax T.timed (rZ T) hr (aa (pv 0) (aa (ax T.moved (xR T) hr (aa (pv 3) (aa (fU eG (pv 2)) ae))) (aa (fU eG ah) ae)))) ae))))))
 rintro vs M q ⟨p,a,rfl,p0,hf,ha,hz,k⟩;simp? [↓bx,ge];exact#[a.2, -a.1,rfl,by omega,?_];simp? [↓bx];exact#[p,mv (-a.1) a.2, -1,rfl,p0,GX hf,by rw[oJ];show ha,λz GD=> ?_,?_];let⟨y,hy,rfl⟩:=List.mem_map.mp GD;show hz y hy;simp? [↓bx];show eC k
def De (T:e8 K mg A):bA P w K mg base eU 3 A.yz A.yK ["_law_p_here","_law_one","_law_other"] (fF K Ri):=by
 exists T.Gh.fn,["_law_p_here","_law_one","_law_other"],(aj (aE (aM (aa (bS dZ (aD (show ce _ (bq K) from az) (pv 1) ah (λ_ _=>rfl)) (aD (show ce _ (bq K) from az) (pv 2) ah (λ_ _=>rfl))) (aa (ax T.BQ (r_ T) hr (aa (pv 0) (aa (aD (show ce _ (bq K) from az) (pv 1) ah (λ_ _=>rfl)) (aa (aD (show ce _ (bq K) from az) (pv 2) ah (λ_ _=>rfl)) (aa (aD (show ce _ (bq K) from az) (pv 1) ah (λ_ _=>rfl)) (aa ah ae)))))) ae)))))
 rintro vs M q ⟨p,a,b,rfl,p0,hf,ha,hb,hz,k⟩;have e:BM a.1 1 b.2=mv a.1 b.2:=by rw[z7,MS]
 simp? [↓bx,ge];exact#[p,a.2,b.2,a.1,1,rfl,p0,by rw[e];show hf,av ha ⋯,av hb ⋯,hz,?_];rw[e];simp? [↓bx];show eC k
def Dg (T:e8 K mg A):bA P w K mg base eU 3 A.yB A.yM ["_law_p_here","_law_one"] (fF K LJ):=by
 exists T.Gj.fn,["_law_p_here","_law_one"],(aj (aE (aM (aa (fU eG (aD (show ce _ (bq K) from az) (pv 1) ah (λ_ _=>rfl))) (aa (ax T.BQ (r_ T) hr (aa (pv 0) (aa (aM ae) (aa (aD (show ce _ (bq K) from az) (pv 1) ah (λ_ _=>rfl)) (aa (fU eG (aD (show ce _ (bq K) from az) (pv 1) ah (λ_ _=>rfl))) (aa (fU eG ah) ae)))))) ae)))))
 rintro vs M q ⟨p,a,rfl,p0,hf,ha,hz,k⟩;have e:BM (-a.1) (-1) a.2=tm (-1) (mv (-a.1) a.2):=z7;simp? [↓bx,ge];exact#[p,[],a.2, -a.1, -1,rfl,p0,by rw[e];show GX hf,⋯,av ha ⋯,hz,?_];rw[e,List.nil_append];simp? [↓bx];show eC k
def ub (T:e8 K mg A):bA P w K mg base eU 3 A.nB A.nM ["_law_p_here","_law_thing"] (fF K FR):=by
 exists T.sB.fn,["_law_p_here","_law_thing"],(ag (bp (kn (dY (dw (bt (fg (K:=K) rfl) (by rfl) T.dM Boot.«isinstance» (aa (pv 1) (aa (h_ (by rfl) T.iw Boot.«tuple» (show RelV (.ty "tuple") _ from rfl)) ae))))) (iE (aQ rV (bt (fe (K:=K) rfl) (by rfl) T.li Boot.«len» (aa (pv 1) ae)) ah (a9 _)))).pt (aj (aE ij)) aJ) (aj (aE (vX (ax T.BS (se T) hr (aa (aD (show ce _ (bq K) from az) (pv 1) ah (λ_ _=>rfl)) ae)) (rS (ax T.nk (qu T) hr (aa (pv 0) (aa (aD (show ce _ (bq K) from az) (pv 1) ah (λ_ _=>rfl)) ae))))))))
 rintro vs M q ⟨p,a,rfl,hp,hl,k⟩;have e2:decide ((((0+1+1:Nat)):Int)=2)=true:=⋯
 have e2':decide (((2:Nat):Int)=2)=true:=⋯
 simp? [↓bx,ge,e2,e2'];exact#[_,rfl,?_];simp? [↓bx];show#[p,a.2,rfl,hp,av hl ⋯,eC k]
def JA (T:e8 K mg A):bA P w K mg base (gX P w) 2 A.GZ A.Hd ["p","deeds"] (qq K (Nx A.eN)):=by
 exact zo T.gone.fn Be (by rintro vs M q e ⟨a,p,ds,rfl,_⟩;rfl) λcdv A' outer s H E e hr hF hP=> ?_;have nd:=Be.nd;exact#[_,(ag (a6 (i:=2) nd rfl (by trivial) ah) (ag (a6 (i:=3) nd rfl (by trivial) (gK ae)) (ag (gH Jv rfl (qZ (pv 1)) (a8 (i:=4) nd rfl (by trivial)) (ag (a6 (i:=5) nd rfl (by trivial) (aD az (pv 4) ah (λ_ _=>rfl))) (aj (bp (aQ di (pv 5) aB (a9 _)) (aj (Nj (i:=2) nd rfl (Or.inl rfl) (aD az (pv 4) ah (λ_ _=>rfl)) N6)) (aj (bp (aQ di (pv 5) aB (a9 _)) (aj (bO (iZ bj bV bU dR (pv 3) (aa (aM (aa (pv 2) (aa (aD az (pv 4) ah (λ_ _=>rfl)) ae))) ae)))) (aj (dI hF rfl (by rfl) T.w_ (aa (fw (cB aB (cB (iF (pv 5)) gI))) ae))))))))) (aj (aE (aM (aa (pv 2) (aa (ax T.tidy (m7 T) hr (aa (pv 0) (aa (pv 3) ae))) ae)))))))),?_];try dsimp only[d0]
 exact#[_,inferInstance,?_];rintro vs M q ⟨a,p,ds,rfl,ha,p0,hf,hl,hw,kq,ke⟩;simp? [↓cA];exact ed ?_; simp? [↓cA];intro b hb;have Ce:a≠b:=cC ha hb;exact ed ?_; simp? [↓cA,aU Ce,ha];exact kI (λi ρ M'=> ∃ (o1 o2:fP W),(∀d∈ds.take i,Good d) /\ ρ= [some (wi p),some (wr a),some (wi (d9 (ds.take i)).1),some (wr b),o1,o2] /\ M'=um M b (.lst ((d9 (ds.take i)).2.map bY))) #[none,none,by simp,rfl,rfl] ?_ ?_ ?_;rintro i ρ M' _ ⟨o1,o2,_,rfl,rfl⟩;rw[aU Ce];show ha
 .rintro i x ρ M' hx ⟨o1,o2,Pp,rfl,rfl⟩ N hN;let⟨z,hz,rfl⟩:=Mh hx;have XC:=(bi.mp hz).1;have et:ds.take (i+1)=ds.take i++ [z]:=by rw[List.take_add_one,hz];rfl
  have d3:(((d9 (ds.take i)).2.map bY).length<sizeLine)=True:=aC (nU (by have:=iP (ds.take i);rw[ai];rw[cj] at this;omega));have J9:Good z -> ∀d∈ds.take (i+1),Good d:=λhg d hd=>by rw[et,bh] at hd;obtain hd | hd:=hd;show Pp d hd;simp at hd;rw[hd];show hg
  have hzm:z∈ds:=be hz;let⟨z1,z2⟩:=z;have UK:=hw _ hzm;have e3:decide (("go" :Str)= "go")=true:=by right
  have e1:decide (("turn" :Str)= "go")=false:=by right
  have e2:decide (("turn" :Str)= "turn")=true:=by right
  by_cases h1:z1= "go";subst h1;have hs:sstep (d9 (ds.take i)) ("go",z2)=((d9 (ds.take i)).1+z2,(d9 (ds.take i)).2):=am rfl;simp? [↓cA,fo];exact ed ?_; simp? [↓cA,e3];simp![et,iO,hs] at hN J9;show hN _ _ #[_,_,J9 (.inl rfl),rfl,rfl];by_cases h2:z1= "turn";subst h2;have hs:sstep (d9 (ds.take i)) ("turn",z2)=((d9 (ds.take i)).1,(d9 (ds.take i)).2++ [((d9 (ds.take i)).1,z2)]):=ak (show ¬((("turn" :Str),z2).1=("go" :Str)) from(by right:¬(("turn" :Str)=("go" :Str))));simp? [↓cA,fo];exact ed ?_; simp? [↓cA,e1,e2,d3];simp![et,iO,hs,bn,aN,List.map_nil] at hN J9;show hN _ _ #[_,_,J9 (.inr rfl),rfl,rfl];have f1:decide (z1= "go")=false:=aF h1;have f2:decide (z1= "turn")=false:=aF h2;simp? [↓cA,fo];exact ed ?_; simp? [↓cA,f1,f2];have RY:z1.length<=100:=UK;(repeat (exact#[by first | decide | decide+kernel | show cz (by omega) | show Md (by right) RY | show Mc (by right) RY (by right),?_]));show#[M,bw hb,ke #[(z1,z2),hzm,λh=>h.elim h1 h2]]
 rintro ρ M' ⟨o1,o2,Pp,rfl,rfl⟩;rw[ai,List.take_length] at*;dsimp only;exact ed ?_; simp? [↓cA];have:=iP ds;exact#[b,p,(d9 ds).2,rfl,aq,p0,hf,by omega,?_];simp? [↓cA];show#[M,bw hb,kq Pp]
def Dd (T:e8 K mg A):bA P w K mg base eU 2 A.yw A.yH ["_law_p_here","_law_deeds"] (fF K Nq):=by
 exists T.Gg.fn,["_law_p_here","_law_deeds","_law_here","_law_pairs","_law_word","_law_number"],(ag (a6 (i:=2) nd rfl (by trivial) ah) (ag (a6 (i:=3) nd rfl (by trivial) (gK ae)) (ag (gH PassesOwn.never rfl (kr (K:=K) rfl (pv 1)) (d_ (n:=2) rfl (bB (a8 (i:=4) nd rfl (by trivial)) (bB (a8 (i:=5) nd rfl (by trivial)) dE))) (aj (bp (aQ di (pv 4) aB (a9 _)) (aj (a6 (i:=2) nd rfl (by trivial) (bS dZ (pv 2) (pv 5)))) (aj (bO (iZ bj bV bU dR (pv 3) (aa (aM (aa (pv 2) (aa (pv 5) ae))) ae))))))) (aj (aE (aM (aa (pv 2) (aa (ax T.wt (oE T) hr (aa (pv 0) (aa (pv 3) ae))) ae))))))))
 rintro vs M q ⟨a,p,ds,rfl,ha,p0,hf,hl,k⟩;simp? [↓cA];exact ed ?_; simp? [↓cA];intro b hb;have Ce:a≠b:=cC ha hb;exact ed ?_; simp? [↓cA,aU Ce,ha];exact kI (λi ρ M'=> ∃ (o1 o2:fP W),ρ= [some (wi p),some (wr a),some (wi (d9 (ds.take i)).1),some (wr b),o1,o2] /\ M'=um M b (.lst ((d9 (ds.take i)).2.map bY))) #[none,none,rfl,rfl] ?_ ?_ ?_;rintro i ρ M' _ ⟨o1,o2,rfl,rfl⟩;rw[aU Ce];show ha;rintro i x ρ M' hx ⟨o1,o2,rfl,rfl⟩ N hN;let⟨z,hz,rfl⟩:=Mh hx;have XC:=(bi.mp hz).1;have et:ds.take (i+1)=ds.take i++ [z]:=by rw[List.take_add_one,hz];rfl
 have d3:(((d9 (ds.take i)).2.map bY).length<sizeLine)=True:=aC (nU (by have:=iP (ds.take i);rw[ai];rw[cj] at this;omega));let⟨z1,z2⟩:=z;have e3:decide (("go" :Str)= "go")=true:=by right
 by_cases h1:z1= "go";subst h1;have hs:sstep (d9 (ds.take i)) ("go",z2)=((d9 (ds.take i)).1+z2,(d9 (ds.take i)).2):=am rfl;simp? [↓cA,fo,e3];simp![et,iO,hs] at hN;show hN _ _ #[_,_,rfl,rfl];have hs:sstep (d9 (ds.take i)) (z1,z2)=((d9 (ds.take i)).1,(d9 (ds.take i)).2++ [((d9 (ds.take i)).1,z2)]):=ak h1;have f1:decide (z1= "go")=false:=aF h1;simp? [↓cA,fo,f1,d3];simp![et,iO,hs,bn,aN,List.map_nil] at hN;show hN _ _ #[_,_,rfl,rfl];rintro ρ M' ⟨o1,o2,rfl,rfl⟩;rw[ai,List.take_length];dsimp only;exact ed ?_; simp? [↓cA];have:=iP ds;exact#[b,p,(d9 ds).2,rfl,aq,p0,hf,by omega,?_];simp? [↓cA];show#[M,bw hb,k]
def m8 (T:e8 K mg A):bA P w K mg base eU 4 A.gM A.gN ["p","one","n"] (fF K LH):=by
 have mw:bA P w K mg base eU 3 A.gM A.gN ["p","one","n"] (fF K zW):=yu;exact Wn T.repeated.fn hW (by left) λcdv A' outer s H E hr=> ?_;have nd:=hW.nd;exact#[_,(ag (bp (aQ i5 (pv 2) ah (a9 _)) (aj (aE (ax T.repeated mw hr (aa (pv 0) (aa (ax T.backward (kA T) hr (aa (pv 0) (aa (pv 1) ae))) (aa (fU eG (pv 2)) ae)))))) aJ) (ag (gg (pv 1) (d_ (n:=2) rfl (bB (a8 (i:=3) nd rfl (by trivial)) (bB (a8 (i:=4) nd rfl (by trivial)) dE)))) (ag (bp (aQ di (pv 3) ah (a9 _)) (aj (aE (aM (aa ah (aa (ax T.timed (rZ T) hr (aa (pv 0) (aa (pv 4) (aa (pv 2) ae)))) ae))))) aJ) (ag (pE (i:=5) (n1:=2) rfl nd rfl (Or.inl rfl) (db.of (sc:=aP gA) (N:= ["p","one","n","end","pattern","pairs"]) (own:= ["place","setting","k"]) (fr:= [3,2]) (N':= ["place","setting","k","end","n"])) (ox (pv 4)) (λ_ _ _ _=>(d_ (n:=2) rfl (bB (a8 (i:=0) (by change(["place","setting","k","end","n"]:cV Str).Nodup;decide+kernel) rfl (by trivial)) (bB (a8 (i:=1) (by change(["place","setting","k","end","n"]:cV Str).Nodup;decide+kernel) rfl (by trivial)) dE)))) ⋯ (BZ (by change _<_;decide) (by change _<_;decide)) (λ_ _ _ _=>dJ) (λ_ _ _ _=>(fc (by rfl) T.ix (aa (pv 4) ae))) (λ_ _ _ _=>(a8 (i:=2) (by change(["place","setting","k","end","n"]:cV Str).Nodup;decide+kernel) rfl (by trivial))) (yf (by change _<=_ /\ _<_;decide)) (λ_ _ _ _=>dJ) (λ_ _ _ _=>(aM (aa (bS dZ (pv 0) (bS fM (pv 3) (pv 2))) (aa (pv 1) ae)))) rfl) (aj (aE (aM (aa (bS fM (pv 3) (pv 2)) (aa (ax T.tidy (m7 T) hr (aa (pv 0) (aa (pv 5) ae))) ae))))))))),?_];try dsimp only[d0]
 exact#[_,inferInstance,?_];rintro vs M q ⟨p,a,n,rfl,p0,p1,hP,hl,n0,hb,k⟩;have Oh:decide (n<0)=false:=aF (by omega);have sA:=j9 hP p1;dsimp? [ge,Oh];exact dk (λh=> ?_) λh=> ?_;simp? [↓cA];exact#[p,a.2,n,rfl,p0,Ar,hl,sA,?_];simp? [↓cA];exact eC (k (0,oG p (tm n a.2)) #[?_,fA p0 _,λx=> ?_] (λ_=> ?_) λh'=>absurd h h');rw[h,Int.zero_mul];rw[lp p0,zG];unfold j7;rw[ak (by omega),h,ji];have:((n.toNat:Nat):Int)=n:=by omega
 rw[this];show av (im _ _) (by rw[tm,ai];show ao _);let⟨nb,d3⟩:=hb h;have cm: ∀j:Int,j<100000 ->0<=j ->lH a.1 j=True:=λj h1 h2=>aC (.inr #[by omega,by omega]);dsimp? [fV];exact DY (λ_=>List.range n.toNat) (λ(k:Nat)=>wi (0+(k:Int))) (λz k=>bY (z.1+a.1*(0+(k:Int)),z.2)) ?_ (λ_ _=>trivial) ?_ λt ht=> ?_;exact nU ?_;simp![List.length_range];rw[List.map_const',List.sum_replicate_nat];show av d3 ⋯;intro z hz M3 s3 B N0 hB;simp? [↓bx,bY];exact#[#[by omega,by omega],hB _ _ (λ_ _=>trivial) ?_];intro j hj M4 s4 N hN;have hj:=List.mem_range.mp hj;simp? [↓bx,cm (0+(j:Int)) (by omega) (by omega)];show hN;have e:(a.2.map λz=>(List.range n.toNat).map λ(k:Nat)=>bY (z.1+a.1*(0+(k:Int)),z.2)).flatten=(kF a.1 n.toNat a.2).map bY:=by rw[kF,List.map_flatten,a4];congr 1;apply List.map_congr_left;intro z _;simp![Function.comp_apply,mU,a4];apply List.map_congr_left;intro j _;rw[Int.zero_add];rfl
 rw[e];have cn:lH a.1 n=True:=cm n nb n0;dsimp? [cn];exact#[t,p,kF a.1 n.toNat a.2,rfl,aq,p0,Ar,by rw[sv];show av d3 ⋯,?_];simp? [↓cA];exact#[M,bw ht,k (a.1*n,oG p (kF a.1 n.toNat a.2)) #[rfl,fA p0 _,λx=> ?_] (λh'=>absurd h' h) λ_=> ?_];rw[lp p0,xj];unfold j7;rw[ak (by omega)];exact av (im _ _) ?_;rw[sv];have:n.toNat=n.natAbs:=by omega
 rw[this];show ao _
def v_ (T:e8 K mg A):bA P w K mg base eU 5 A.gM A.gN ["p","one","n"] (fF K LG):=by
 have mw:=m8 (P:=P) (w:=w) (base:=base) T;exact Wn T.repeated.fn hW (by left) λcdv A' outer s H E hr=> ?_;have nd:=hW.nd;exact#[_,(ag (bp (aQ i5 (pv 2) ah (a9 _)) (aj (aE (ax T.repeated mw hr (aa (pv 0) (aa (ax T.backward (kA T) hr (aa (pv 0) (aa (pv 1) ae))) (aa (fU eG (pv 2)) ae)))))) aJ) (ag (gg (pv 1) (d_ (n:=2) rfl (bB (a8 (i:=3) nd rfl (by trivial)) (bB (a8 (i:=4) nd rfl (by trivial)) dE)))) (ag (bp (aQ di (pv 3) ah (a9 _)) (aj (aE (aM (aa ah (aa (ax T.timed (rZ T) hr (aa (pv 0) (aa (pv 4) (aa (pv 2) ae)))) ae))))) aJ) (ag (pE (i:=5) (n1:=2) rfl nd rfl (Or.inl rfl) (db.of (sc:=aP gA) (N:= ["p","one","n","end","pattern","pairs"]) (own:= ["place","setting","k"]) (fr:= [3,2]) (N':= ["place","setting","k","end","n"])) (ox (pv 4)) (λ_ _ _ _=>(d_ (n:=2) rfl (bB (a8 (i:=0) (by change(["place","setting","k","end","n"]:cV Str).Nodup;decide+kernel) rfl (by trivial)) (bB (a8 (i:=1) (by change(["place","setting","k","end","n"]:cV Str).Nodup;decide+kernel) rfl (by trivial)) dE)))) ⋯ (BZ (by change _<_;decide) (by change _<_;decide)) (λ_ _ _ _=>dJ) (λ_ _ _ _=>(fc (by rfl) T.ix (aa (pv 4) ae))) (λ_ _ _ _=>(a8 (i:=2) (by change(["place","setting","k","end","n"]:cV Str).Nodup;decide+kernel) rfl (by trivial))) (yf (by change _<=_ /\ _<_;decide)) (λ_ _ _ _=>dJ) (λ_ _ _ _=>(aM (aa (bS dZ (pv 0) (bS fM (pv 3) (pv 2))) (aa (pv 1) ae)))) rfl) (aj (aE (aM (aa (bS fM (pv 3) (pv 2)) (aa (ax T.tidy (m7 T) hr (aa (pv 0) (aa (pv 5) ae))) ae))))))))),?_];try dsimp only[d0]
 exact#[_,inferInstance,?_];rintro vs M q ⟨p,a,n,rfl,p0,p1,hP,hl,hn,hb,k⟩;have Oh:decide (n<0)=true:=bC hn;have sA:=j9 hP p1;dsimp? [Oh];exact#[p,a,rfl,p0,Ar,hl,sA,?_];dsimp? [];have hB:=AE p a;exact#[p,bk p a, -n,rfl,p0,p1,AD p0 a,by omega,by omega,λhe=> ?_,λr hr Sh J6=> ?_];have he':a.1≠0:=λz=>he (by change -a.1=0;omega);let⟨h1,h2,h3⟩:=hb he';exact#[by omega,av (Nat.mul_le_mul hB (Nat.le_of_eq ?_)) h3];omega;dsimp? [];have e:(-n).natAbs=n.natAbs:=by omega
 rw[e] at J6;have hm:(bk p a).2.length*n.natAbs<=a.2.length*n.natAbs:=Nat.mul_le_mul_right _ hB;show eC (k r (hr.wj p0 hn) (λh=>av (Sh (by change -a.1=0;omega)) hB) λh=>av (J6 (by change -a.1≠0;omega)) hm)
theorem xQ (T:e8 K mg A):bA P w K mg base eU 5 A.gM A.gN ["p","one","n"] (fF K Nu):=SK ((m8 T).mono ⋯) (v_ T) λ_ _ _=>Jn
def z3 (T:e8 K mg A):bA P w K mg base eU 4 A.vb A.vh ["_law_p_here","_law_one","_law_n"] (fF K Nu):=by
 exists T.BP.fn,["_law_p_here","_law_one","_law_n","_law_base","_law_pairs","_law_k"],(ag (bp (aQ di (aD (show ce _ (bq K) from az) (pv 1) ah (λ_ _=>rfl)) ah (a9 _)) (aj (aE (aM (aa ah (aa (ax T.BQ (r_ T) hr (aa (pv 0) (aa (aM ae) (aa (aD (show ce _ (bq K) from az) (pv 1) ah (λ_ _=>rfl)) (aa ah (aa (pv 2) ae)))))) ae))))) aJ) (ag (a6 (i:=3) nd rfl (by trivial) (pv 1)) (ag (bp (aQ i5 (pv 2) ah (a9 _)) (aj (a6 (i:=3) nd rfl (by trivial) (ax T.Gj (Dg T) hr (aa (pv 0) (aa (pv 1) ae))))) aJ) (ag (a6 (i:=4) nd rfl (by trivial) (gK ae)) (ag (gH PassesOwn.never rfl (fc (by rfl) T.ix (aa (bt fh (by rfl) T.qg Boot.«abs» (aa (pv 2) ae)) ae)) (a8 (i:=5) nd rfl (by trivial)) (aj (bO (iZ bj PySem.F.slot_list_extend PySem.F.type_list_extend Dm (pv 4) (aa (dL rfl (db.of (sc:=_) (N:= ["_law_p_here","_law_one","_law_n","_law_base","_law_pairs","_law_k"]) (own:= ["_law_place","_law_setting"]) (fr:= [5,3]) (N':= ["_law_place","_law_setting","_law_k","_law_base"]) rfl rfl rfl (by right) rfl (by right) (by right) (by right) (by right) (bI rfl)) (mZ (K:=K) rfl (aD (show ce _ (bq K) from az) (pv 3) ah (λ_ _=>rfl))) (λ_ _ _ _=>(d_ (n:=2) rfl (bB (a8 (i:=0) (by change(["_law_place","_law_setting","_law_k","_law_base"]:cV Str).Nodup;decide+kernel) rfl (by trivial)) (bB (a8 (i:=1) (by change(["_law_place","_law_setting","_law_k","_law_base"]:cV Str).Nodup;decide+kernel) rfl (by trivial)) dE)))) gP (λ_ _ _ _=>dJ) (λ_ _ _ _=>(aM (aa (bS dZ (pv 0) (bS fM (pv 2) (aD (show ce _ (bq K) from az) (pv 3) ah (λ_ _=>rfl)))) (aa (pv 1) ae))))) ae))))) (aj (aE (aM (aa (bS fM (aD (show ce _ (bq K) from az) (pv 3) ah (λ_ _=>rfl)) (bt fh (by rfl) T.qg Boot.«abs» (aa (pv 2) ae))) (aa (ax T.wt (oE T) hr (aa (pv 0) (aa (pv 4) ae))) ae))))))))))
 rintro vs M q ⟨p,a,n,rfl,p0,p1,hP,hl,hb,k⟩;have sA:=j9 hP p1;dsimp? [ge];exact dk (λh=> ?_) λh=> ?_;exact#[p,[],a.2,0,n,rfl,p0,Ar,⋯,by omega,sA,?_];dsimp? [];exact eC (k (0,oG p (BM 0 n a.2)) #[by rw[h,Int.zero_mul],fA p0 _,λx=> ?_] (λ_=> ?_) λh'=>absurd h h');rw[lp p0,z7,zG,JK,h];unfold j7;by_cases hn:n<0;rw[am hn, <- rK (f:=eY a.2) (g:=λx=> -eY a.2 (x+0)) (λ_=>rfl)];change _=ft (λx=> -eY a.2 (x+0)) 0 (-n).toNat x % p;rw[ji,Int.add_zero];have:(((-n).toNat:Nat):Int)= -n:=by omega
 rw[this,Int.neg_mul_neg];rw[ak hn,ji];have:((n.toNat:Nat):Int)=n:=by omega
 rw[this];exact av (im _ _) ?_;rw[BM,ai];show ao _;let⟨b1,b2,b3⟩:=hb h;exact ed ?_; simp? [↓cA];exact ed (me (λρ M'=>M'=M /\ ∃b:WQ.Rd,fS (ρ= [some (wi p),some (ge a),some (wi n),some (ge b),none,none]) (dB p b.2) (b.2.length<=a.2.length) (b.2.length*n.natAbs<=100000) (∀r,gk p b n.natAbs r ->gk p a n r)) ?_ λN hN=> ?_);rintro ρ M' ⟨rfl,b,rfl,hPb,hlb,hbn,Xh⟩;have Sv:(if n<0 then -n else n)=(n.natAbs:Int):=by split<;>omega
 dsimp? [];intro t ht;dsimp? [Sv];exact#[#[by omega,by omega],kI (λi ρ Ms=> ∃o1:fP W,ρ= [some (wi p),some (ge a),some (wi n),some (ge b),some (wr t),o1] /\ Ms t=some (.lst ((mX b i).map bY)) /\ Sm M' Ms) #[none,rfl,aq,bw ht] (λ_ _ _ _ _=>trivial) ?_ ?_];rintro i x ρ Ms hx ⟨o1,rfl,hM,sM⟩ N hN;let⟨hi,rfl⟩:=iV hx;have cm:lH (0+(i:Int)) b.1=True:=aC (.inl #[by omega,by omega]);dsimp? [hM,ge,fV];exact fB (λz=>bY (z.1+(0+(i:Int))*b.1,z.2)) (big (by omega)) (λ_ _=>trivial) ?_ λu hu=> ?_;intro z hz M3 N3 s3 jU;simp? [↓bx,bY,cm];show jU;have e:b.2.map (λz=>bY (z.1+(0+(i:Int))*b.1,z.2))=(mv ((i:Int)*b.1) b.2).map bY:=by rw[mv,a4,Int.zero_add];rfl
 rw[e];have htu:t≠u:=cC hM hu;have d3:(((mX b i).map bY).length+((mv ((i:Int)*b.1) b.2).map bY).length<=sizeLine)=True:=aC (big (by rw[ai,ai,mW,oJ];have h1:(i+1)*b.2.length<=n.natAbs*b.2.length:=Nat.mul_le_mul_right _ (by omega);rw[Nat.succ_mul] at h1;rw[Nat.mul_comm n.natAbs] at h1;omega));dsimp? [aU htu,hM,d3];exact hN _ _ #[_,rfl,?_,λc o e=> ?_];rw[aq,mX,bn];rw[aU (cC e ht)];show(bw hu) _ _ (sM c o e);rintro ρ Ms ⟨o1,rfl,hM,sM⟩;rw[iU] at hM;have en:((n.natAbs:Int)).toNat=n.natAbs:=by omega
 rw[en] at hM;dsimp only;have cm:lH b.1 (n.natAbs:Int)=True:=aC (.inr #[by omega,by omega]);dsimp? [Sv,ge,cm];exact#[t,p,mX b n.natAbs,rfl,hM,p0,Ar,by rw[mW,Nat.mul_comm];omega,?_];dsimp? [];exact#[M',sM,k (b.1*(n.natAbs:Int),oG p (mX b n.natAbs)) (Xh _ #[rfl,fA p0 _,λx=> ?_]) (λh'=>absurd h' h) λ_=> ?_];rw[lp p0,uD];unfold j7;rw[ak (by omega)];have:((n.natAbs:Int)).toNat=n.natAbs:=by omega
 rw[this];exact av (im _ _) ?_;rw[mW,Nat.mul_comm];show Nat.mul_le_mul_right _ hlb;dsimp? [];have hB:=AE p a;exact dk (λhn=> ?_) λhn=> ?_;dsimp? [];exact#[p,a,rfl,p0,Ar,hl,sA,?_];dsimp? [];exact hN _ _ #[rfl,bk p a,rfl,AD p0 a,hB,av (Nat.mul_le_mul_right _ hB) b3,λr hr=> ?_];have e:((n.natAbs:Nat):Int)= -n:=by omega
 rw[e] at hr;show hr.wj p0 hn;dsimp? [];exact hN _ _ #[rfl,a,rfl,hP,ao _,b3,λr hr=> ?_];have e:((n.natAbs:Nat):Int)=n:=by omega
 rw[e] at hr;show hr
def eZ (T:e8 K mg A):bA P w K mg base (gX P w) 1 A.nD A.nO ["name"] (qq K (Nz A.dU)):=by
 exact zo T.check_name.fn lI (by rintro vs M q e ⟨n,rfl,_⟩;rfl) λcdv A' outer s H E e hr hF hP=> ?_;have nd:=lI.nd;exact#[_,(aj (bp (kn (dY (xK rW rW ah (bt o_ (by rfl) T.li Boot.«len» (aa (pv 0) ae)) (fu (by rfl) T.j5.choose_spec (show RelV (.int 12) _ from#[_,rfl])))) (iE (dw (bt (vn rfl) (by rfl) T.Mq Boot.«any» (aa (dL rfl (db.of (sc:=_) (N:= ["name"]) (own:= ["sign"]) (fr:= []) (N':= ["sign"]) rfl rfl rfl (by right) rfl (by right) (by right) (by right) (by right) (bI rfl)) (FF (pv 0)) (λ_ _ _ _=>(a8 (i:=0) (by change(["sign"]:cV Str).Nodup;decide+kernel) rfl (by trivial))) d5 (λ_ _ _ _=>dJ) (λ_ _ _ _=>(gp C_ (pv 0) (fu (by rfl) T.CP.choose_spec (show RelV (.str "abcdefghijklmnopqrstuvwxyz") _ from#[_,rfl])) (by rfl)))) ae))))).pt (aj (dI hF rfl (by rfl) T.uz (aa (fw (cB aB (cB (zS (fu (by rfl) T.j5.choose_spec (show RelV (.int 12) _ from#[_,rfl]))) (cB aB gI)))) ae))) aJ)),?_];try dsimp only[d0]
 exact#[_,inferInstance,?_];rintro vs M q ⟨n,rfl,ha,hl,kq,ke⟩;have hz:n.length<=sizeLine:=cz (by omega);have GD:(n.length<=sizeLine)=True:=aC hz;dsimp? [GD];by_cases h1:1<=n.length
 .have e1:decide (1<=(n.length:Int))=true:=bC (by omega);by_cases h2:n.length<=12
  .have e2:decide ((n.length:Int) <=12)=true:=bC (by omega);dsimp? [e1,e2,ha,aV];exact fB (λc=>wb (!zp c w5)) (by unfold zn;rw[ai, <- str_len];show hz) (λ_ _=>trivial) ?_ λu hu=> ?_;intro c hc M3 N3 s3 jU;dsimp? [];show jU;exact#[u,(zn n).map λc=> !zp c w5,rfl,by rw[aq,a4];rfl,?_];have e3:((zn n).map λc=> !zp c w5).any id= !b8 n:=by have d1:decide (1<=n.length)=true:=bC h1;have d2:decide (n.length<=12)=true:=bC h2;unfold b8;rw[d1,d2,List.any_map,Bool.true_and,Bool.true_and,List.not_all_eq_any_not];rfl
   rw[e3];dsimp? [];cases hn:b8 n with
   | true=> dsimp? [aV];show#[M,bw hu,kq hn]
   | false=> dsimp? [bf];(repeat (exact#[by first | decide | decide+kernel,?_]));show#[M,bw hu,ke hn]
  .have e2:decide ((n.length:Int) <=12)=false:=aF (by omega);dsimp? [e1,e2,bf];(repeat (exact#[by first | decide | decide+kernel,?_]));show#[M,Sm.refl M,ke (by unfold b8;rw[aF h2];simp)]
 .have e1:decide (1<=(n.length:Int))=false:=aF (by omega);dsimp? [e1];(repeat (exact#[by first | decide | decide+kernel,?_]));show#[M,Sm.refl M,ke (by unfold b8;rw[aF h1];simp)]
def lN (T:e8 K mg A):bA P w K mg base eU 1 A.nA A.nL ["things","name","thing"] (fF K Np):=by
 exists T.with_thing.fn,["things","name","thing","changed"],(ag (a6 (i:=3) nd rfl (by trivial) (cO jr (by rfl) T.wH Boot.«dict» (aa (pv 0) ae))) (ag (ls (dF hr) (pv 3) (pv 1) (pv 2) rfl) (aj (aE (pv 3)))))
 rintro vs M q ⟨d,kvs,n,x,rfl,hd,hl,k⟩;dsimp? [hd];intro u hu;have hs:(kvs.length<sizeLine)=True:=aC (nU (by omega));exact ed ?_; simp? [↓cA,hs];show eC (k u hu)
def rY (T:e8 K mg A):bA P w K mg base eU 1 A.u_ A.vf ["things","name"] (fF K FL):=by
 exists T.without.fn,["things","name","changed"],(ag (a6 (i:=2) nd rfl (by trivial) (cO jr (by rfl) T.wH Boot.«dict» (aa (pv 0) ae))) (ag (Ji (pv 2) (pv 1)) (aj (aE (pv 2)))))
 rintro vs M q ⟨d,kvs,n,rfl,hd,hl,k⟩;dsimp? [hd];intro u hu;exact ed ?_; simp? [↓cA,hl];show eC (k u hu)
def ng (T:e8 K mg A):bA P w K mg base eU 1 A.G0 A.He ["self","rounds","teams"] (fF K (Rh A.br)):=by
 have cl:=aC T.Page.cl;have n1:=aC T.n_Page_rounds;have n2:=aC T.n_Page_teams;exists T.Page.fn,["self","rounds","teams"],(ag (jl (pv 0) (pv 1) rfl) (aj (jl (pv 0) (pv 2) rfl)))
 rintro vs M q ⟨s,dx,r,t,rfl,hs,k⟩;have e1:hZ "rounds" (wr r) []= [(("rounds" :Str),wr r)]:=rfl;have e2:hZ "teams" (wr t) [(("rounds" :Str),wr r)]=ku r t:=rfl;dsimp? [hs,cl,n1,n2,e1,e2,Nat.reduceLT];show eC k
def JB (T:e8 K mg A):bA P w K mg base eU 3 A.G1 A.Hf ["self","p"] (fF K (Rq A.aW A.br)):=by
 have cl:=aC T.Book.cl;have n1:=aC T.n_Book_p;have n2:=aC T.n_Book_now;have n3:=aC T.n_Book_past;have n4:=aC T.n_Book_undone;have n5:=aC T.n_Book_held;exists T.Book.fn,["self","p"],(ag (bp (aQ (lw (K:=K) rfl) (pv 1) (Jm (by rfl) T.E2) (by rfl)) (aj FE) aJ) (ag (jl (pv 0) (pv 1) rfl) (ag (jl (pv 0) (iX T.Page (ng T) (hr.mono ⋯) (by rfl) (aa iY (aa iY ae))) rfl) (ag (jl (pv 0) (gK ae) rfl) (ag (jl (pv 0) (gK ae) rfl) (aj (jl (pv 0) (gK ae) rfl)))))))
 rintro vs M q ⟨s,dx,p,rfl,hp,hs,k⟩;dsimp? [];exact#[.int p,[.int 2, .int 3, .int 5, .int 7],rfl, .inl rfl,rfl,rfl,?_];have yq:(if true=true then !LZ (.int p) [.int 2, .int 3, .int 5, .int 7] else LZ (.int p) [.int 2, .int 3, .int 5, .int 7])=false:=by obtain rfl | rfl | rfl | rfl:=hp <;>decide+kernel
 rw[yq];have e1:hZ "p" (wi p) []= [(("p" :Str),wi p)]:=rfl;dsimp? [hs,cl,n1,e1,Nat.reduceLT];intro r iq;dsimp? [];intro t ht;dsimp? [];intro pg ly mf Ip mB;exact#[pg,ly,r,t,rfl,aq,rfl,?_];have h1:Fs s M (um M s (.ins A.aW dx [("p",wi p)])):=Fs.self;have h2:=h1.new (o:= .dK []) iq;have h3:=h2.new (o:= .dK []) ht;have h4:=(h3.new (o:= .ins A.br ly []) mf)
 have UB:s≠r:=cC aq iq;have Ws:s≠t:=cC (by rw[aU UB];show aq) ht;have nps:s≠pg:=cC (by rw[aU Ws,aU UB];show aq) mf;have nrt:r≠t:=cC aq ht;have nrp:r≠pg:=cC (by rw[aU nrt];show aq) mf;have ntp:t≠pg:=cC aq mf;have f5:Fs s M (um (um (um (um (um M s (.ins A.aW dx [("p",wi p)])) r (.dK [])) t (.dK [])) pg (.ins A.br ly [])) pg (.ins A.br ly (ku r t))):=by rw[jv];show h3.new mf
 have g1:(um (um (um (um (um M s (.ins A.aW dx [("p",wi p)])) r (.dK [])) t (.dK [])) pg (.ins A.br ly [])) pg (.ins A.br ly (ku r t))) s=some (.ins A.aW dx [("p",wi p)]):=by rw[jv,aU nps,aU Ws,aU UB];show aq
 have g2:(um (um (um (um (um M s (.ins A.aW dx [("p",wi p)])) r (.dK [])) t (.dK [])) pg (.ins A.br ly [])) pg (.ins A.br ly (ku r t))) r=some (.dK []):=by rw[jv,aU nrp,aU nrt];show aq
 have g3:(um (um (um (um (um M s (.ins A.aW dx [("p",wi p)])) r (.dK [])) t (.dK [])) pg (.ins A.br ly [])) pg (.ins A.br ly (ku r t))) t=some (.dK []):=by rw[jv,aU ntp];show aq
 have g4:(um (um (um (um (um M s (.ins A.aW dx [("p",wi p)])) r (.dK [])) t (.dK [])) pg (.ins A.br ly [])) pg (.ins A.br ly (ku r t))) pg=some (.ins A.br ly (ku r t)):=aq;generalize (um (um (um (um (um M s (.ins A.aW dx [("p",wi p)])) r (.dK [])) t (.dK [])) pg (.ins A.br ly [])) pg (.ins A.br ly (ku r t)))=M4 at f5 g1 g2 g3 g4;clear h1 h2 h3 h4 iq ht mf Ip;have e2:hZ "now" (wr pg) [(("p" :Str),wi p)]= [(("p" :Str),wi p),("now",wr pg)]:=rfl;dsimp? [g1,cl,n2,e2,aL,List.length_nil,Nat.reduceLT];intro la Im;have Ga:s≠la:=cC aq Im;have e3:hZ "past" (wr la) [(("p" :Str),wi p),("now",wr pg)]= [(("p" :Str),wi p),("now",wr pg),("past",wr la)]:=rfl;dsimp? [aU Ga,cl,n3,e3,aL,List.length_nil,Nat.reduceLT];intro lu wY;have NN:s≠lu:=cC aq wY;have JG:la≠lu:=cC (by rw[aU Ga.symm];show aq) wY;have e4:hZ "undone" (wr lu) [(("p" :Str),wi p),("now",wr pg),("past",wr la)]= [(("p" :Str),wi p),("now",wr pg),("past",wr la),("undone",wr lu)]:=rfl;dsimp? [aU NN,cl,n4,e4,aL,List.length_nil,Nat.reduceLT];intro lh J7;have LL:s≠lh:=cC aq J7;have NO:la≠lh:=cC (by rw[aU Ga.symm,aU JG,aU Ga.symm];show aq) J7;have NM:lu≠lh:=cC (by rw[aU NN.symm];show aq) J7;have e5:hZ "held" (wr lh) [(("p" :Str),wi p),("now",wr pg),("past",wr la),("undone",wr lu)]=fb p pg la lu lh:=rfl;dsimp? [aU LL,cl,n5,e5,aL,List.length_nil,Nat.reduceLT];have F:=((((((Fs.self (M:=M4) (s:=s)).new Im (o:= .lst [])).put (o:= .ins A.aW dx [(("p" :Str),wi p),("now",wr pg),("past",wr la)])).new wY (o:= .lst [])).put (o:= .ins A.aW dx [(("p" :Str),wi p),("now",wr pg),("past",wr la),("undone",wr lu)])).new J7 (o:= .lst [])).put (o:= .ins A.aW dx (fb p pg la lu lh));exact eC (k _ la lu lh pg #[#[dx,aq],?_,?_,?_,#[JG,NO,NM],ly,r,t,F _ _ g4 nps.symm,F _ _ g2 UB.symm,F _ _ g3 Ws.symm] (f5.trans F) ?_ ?_ ?_ Ga.symm);rw[aU Ga.symm,aU NO,aU Ga.symm,aU JG,aU Ga.symm];show aq;rw[aU NN.symm,aU NM,aU NN.symm];show aq;rw[aU LL.symm];show aq;rw[aU Ga.symm] at Im;show f5.free Im Ga.symm;rw[aU NN.symm,aU JG.symm,aU NN.symm] at wY;show f5.free wY NN.symm;rw[aU LL.symm,aU NM.symm,aU LL.symm,aU NO.symm,aU LL.symm] at J7;show f5.free J7 LL.symm
def kz (T:e8 K mg A):bA P w K mg base eU 1 A.lQ A.lU ["one","farthest_end","farthest_place"] (fF K FM):=by
 exists T.lies_within.fn,["one","farthest_end","farthest_place","end","pattern"],(ag (gg (pv 0) (d_ (n:=2) rfl (bB (a8 (i:=3) nd rfl (by trivial)) (bB (a8 (i:=4) nd rfl (by trivial)) dE)))) (aj (aE (vX (gp rW (bt fh (by rfl) T.qg Boot.«abs» (aa (pv 3) ae)) (pv 1) (a9 _)) (rS (bt (gx rfl) (by rfl) T.vw Boot.«all» (aa (dL rfl (db.of (sc:=aP iA) (N:= ["one","farthest_end","farthest_place","end","pattern"]) (own:= ["place","setting"]) (fr:= [2]) (N':= ["place","setting","farthest_place"])) (ox (pv 4)) (λ_ _ _ _=>(d_ (n:=2) rfl (bB (a8 (i:=0) (by change(["place","setting","farthest_place"]:cV Str).Nodup;decide+kernel) rfl (by trivial)) (bB (a8 (i:=1) (by change(["place","setting","farthest_place"]:cV Str).Nodup;decide+kernel) rfl (by trivial)) dE)))) gP (λ_ _ _ _=>dJ) (λ_ _ _ _=>(gp rW (bt fh (by rfl) T.qg Boot.«abs» (aa (pv 0) ae)) (pv 2) (a9 _)))) ae)))))))
 rintro vs M q ⟨a,e,r,rfl,hl,k⟩;have sm: ∀u o,M u=none ->Sm M (um M u o):=λu o h=>bw h;have ef:f7 a e r= !(decide ((if a.1<0 then -a.1 else a.1) <=e) && a.2.all λz=>decide ((if z.1<0 then -z.1 else z.1) <=r)):=rfl;dsimp? [ge,fV];cases h1:decide ((if a.1<0 then -a.1 else a.1) <=e) with
 | false=>rw[h1,Bool.false_and] at ef;rw[ef] at k;dsimp? [];show eC k
 | true=>rw[h1,Bool.true_and] at ef;rw[ef,Bool.not_not] at k;dsimp? [];exact fB (λz=>wb (decide ((if z.1<0 then -z.1 else z.1) <=r))) (big (by omega)) (λ_ _=>trivial) ?_ λu hu=> ?_;intro z hz M3 N3 s3 jU;dsimp? [bY];show jU;exact#[u,a.2.map λz=>decide ((if z.1<0 then -z.1 else z.1) <=r),rfl,by rw[aq,a4];rfl,?_];rw[List.all_map];show#[M,bw hu,k]
def nc (T:e8 K mg A):bA P w K mg base eU 2 A.pT A.p8 ["one"] (fF K Ny):=by
 exists T.fits_crew.fn,["one"],(aj (aE (ax T.lies_within (kz T) hr (aa (pv 0) (aa (fu (by rfl) T.rE.choose_spec (show RelV (.int 8) _ from#[_,rfl])) (aa (fu (by rfl) T.oj.choose_spec (show RelV (.int 24) _ from#[_,rfl])) ae))))))
 rintro vs M q ⟨a,rfl,hl,k⟩;dsimp? [];show#[a,8,24,rfl,hl,eC k]
def e9 (T:e8 K mg A):bA P w K mg base eU 1 A.kO A.k8 ["self","page"] (fF K (Ra A.aW A.br)):=by
 have cl:=aC T.Book.cl;have n2:=aC T.n_Book_now;have n3:=aC T.n_Book_past;have n4:=aC T.n_Book_undone;exists T.fE.fn,["self","page"],(ag (bO (iZ bj bV bU dR (bL (K:=K) rfl (pv 0) rfl) (aa (bL (K:=K) rfl (pv 0) rfl) ae))) (ag (jl (pv 0) (gK ae) rfl) (aj (jl (pv 0) (pv 1) rfl))))
 rintro vs M q ⟨b,la,lu,lh,now,pg,p,pa,un,he,R,T',R',T1,rfl,hB,hP,hl,k⟩;let⟨dx,hb⟩:=hB.ob;have hs:((pa.map wr).length<sizeLine)=True:=aC (nU (by rw[ai];omega));have ha:=hB.pa;have Wv:b≠la:=λz=>by subst z;rw[hb] at ha;cases ha
 dsimp? [hb,cl,n2,n3,n4,jt,acV,ha,hs];intro eR hu;have Ww:la≠eR:=cC aq hu;have nbu:b≠eR:=cC (by rw[aU Wv];show hb) hu;dsimp? [aU nbu,aU Wv,hb,cl,n2,n4,acU,acS,acT];have Pn:M eR=none:=by rwa [aU Ww.symm] at hu
 have F:CL b la M (um (um (um M la (.lst (pa.map wr++ [wr now]))) eR (.lst [])) b (.ins A.aW dx (fb p pg la eR lh))):=λa o h n1 n2=>by rw[aU n1,aU (cC h Pn),aU n2];show h
 have hh:=hB.he;exact eC (k _ eR #[#[dx,aq],?_,?_,F _ _ hh (λz=>by subst z;rw[hb] at hh;cases hh) hB.ne.2.1.symm,#[Ww,hB.ne.2.1,(cC hh Pn).symm],F.pg hb ha hP] F Pn);rw[aU Wv.symm,aU Ww,aq,bn];rfl;rw[aU nbu.symm];show aq
def i6 (T:e8 K mg A):bA P w K mg base eU 1 A.jJ A.jN ["self","name"] (fF K (C9 A.aW A.br)):=by
 have cl:=aC T.Book.cl;have o9:=aC T.Page.cl;have n2:=aC T.n_Book_now;have n3:=aC T.n_Page_teams;exists T.iK.fn,["self","name"],(aj (aE (bt (vn rfl) (by rfl) T.Mq Boot.«any» (aa (BA (dL rfl (db.of (sc:=_) (N:= ["self","name"]) (own:= ["team"]) (fr:= [1]) (N':= ["team","name"]) rfl rfl rfl (by right) rfl (by right) (by right) (by right) (by right) (bI rfl)) (Jj (bL (K:=K) rfl (bL (K:=K) rfl (pv 0) rfl) rfl)) (λ_ _ _ _=>(a8 (i:=0) (by change(["team","name"]:cV Str).Nodup;decide+kernel) rfl (by trivial))) d5 (λ_ _ _ _=>dJ) (λ_ _ _ _=>(gp (rX (K:=K) rfl) (pv 1) (pv 0) (by rfl))))) ae))))
 rintro vs M q ⟨b,la,lu,lh,now,p,pa,un,he,R,T',n,rfl,hB,hl,k⟩;let⟨dx,hb⟩:=hB.ob;let⟨ly,r,t,h1,h2,h3⟩:=hB.pg;dsimp? [];exact#[t,_,h3,?_];dsimp? [hb,h1,cl,o9,n2,n3,jt,l7,h3];intro o ks;rw[E1];exact fB (λz=>wb (pM n z.2)) (big (by omega)) (λM2 s2=>s2 _ _ aq) ?_ λu hu=> ?_;intro z hz M3 N3 s3 jU;dsimp? [];show re jU;have nut:t≠u:=cC aq hu;exact#[o,ks,_,by rw[aU nut];show aq,u,T'.map λz=>pM n z.2,rfl,by rw[aU nut.symm,aq,a4];rfl,M,A5 h3 hu,?_];rw[List.any_map];show k
def ik (T:e8 K mg A):bA P w K mg base (gX P w) 4 A.sT A.sZ ["self","name","one"] (qq K (C8 A.aW A.br A.dD)):=by
 have cl:=aC T.Book.cl;have o9:=aC T.Page.cl;have n2:=aC T.n_Book_now;have n3:=aC T.n_Page_teams;have n4:=aC T.n_Page_rounds;exact zo T.lm.fn px (by rintro vs M q e ⟨b,la,lu,lh,now,p,pa,un,he,R,T',n,a,rfl,_⟩;rfl) λcdv A' outer s H E e hr hF hP=> ?_;have nd:=px.nd;exact#[_,(ag (bp (dY (dw (ax T.lies_within (kz T) hr (aa (pv 2) (aa (fu (by rfl) T.lZ.choose_spec (show RelV (.int 200) _ from#[_,rfl])) (aa (fu (by rfl) T.lZ.choose_spec (show RelV (.int 200) _ from#[_,rfl])) ae)))))) (aj (dI hF rfl (by rfl) T.mD (aa (fw (cB aB (cB (zS (fu (by rfl) T.lZ.choose_spec (show RelV (.int 200) _ from#[_,rfl]))) (cB aB gI)))) ae))) aJ) (ag (bp (ou (dw (eJ T.iK (i6 T) (hr.mono ⋯) (pv 0) (aa (pv 1) ae))) (lq (dY (dw (ax T.fits_crew (nc T) hr (aa (pv 2) ae)))))).pt (aj (dI hF rfl (by rfl) T.mD (aa aB ae))) aJ) (aj (bO (eJ T.fE (e9 T) (hr.mono ⋯) (pv 0) (aa (iX T.Page (ng T) (hr.mono ⋯) (by rfl) (aa (ax T.with_thing (lN T) hr (aa (bL (K:=K) rfl (bL (K:=K) rfl (pv 0) rfl) rfl) (aa (pv 1) (aa (pv 2) ae)))) (aa (bL (K:=K) rfl (bL (K:=K) rfl (pv 0) rfl) rfl) ae))) ae)))))),?_];try dsimp only[d0]
 exact#[_,inferInstance,?_];rintro vs M q ⟨b,la,lu,lh,now,p,pa,un,he,R,T',n,a,rfl,hB,hl,hlR,hlT,Im,kq,ke⟩;let⟨dx,hb⟩:=hB.ob;let⟨ly,r,t,h1,h2,h3⟩:=hB.pg;have up: ∀C,e C M ->WL.up e C M:=λC h=>#[M,Sm.refl M,h]
 dsimp? [];exact#[a,200,200,rfl,Im,?_];cases hf:f7 a 200 200 with
 | true=>dsimp? [aV,bf];(repeat (exact#[by first | decide | decide+kernel,?_]));show up _ (ke (by unfold c9;rw[hf];rfl))
 | false=>
  dsimp? [aV,bf,hb,qf];exact#[b,la,lu,lh,now,p,pa,un,he,R,T',n,rfl,hB,hlT,?_];cases hu:qo T' n with
  | false=>
   have mj:c9 T' n a=false:=by unfold c9;rw[hf,hu];rfl
   dsimp? [hb,h1,cl,o9,n2,n3,n4,jt,l7,oz,gQ];rw[ln];dsimp? [hb,h1,cl,o9,n2,n3,n4,jt,l7,oz];exact#[r,_,n,_,rfl,h2,by rw[mH];omega,λu hu=> ?_];have Se:=cC hb hu;have mh:=cC h1 hu;dsimp? [aU Se,aU mh,hb,h1,cl,o9,n2,n3,n4,jt,l7,oz];intro pg wD mf Ip mB;rw[fO] at mf ⊢;exact#[pg,wD,u,t,rfl,aq,rfl,?_];rw[jv];have s2:=(bw hu (o:= .dK (qp ge (gf R n a)))).trans (bw mf (o:= .ins A.br wD (ku u t)));have JE:=cC aq mf;show#[b,la,lu,lh,now,pg,p,pa,un,he,R,T',_,T',rfl,hB.sm s2,#[wD,u,t,aq,by rw[aU JE];show aq,s2 _ _ h3],hl,λM' eR B' F wY=>eC (kq mj M' eR pg B' (F.sm s2) (s2.free wY) ((bw hu).free mf))]
  | true=>
   dsimp? [];exact#[a,rfl,Im,?_];cases Io:f7 a 8 24 with
   | true=>dsimp? [aV,bf];(repeat (exact#[by first | decide | decide+kernel,?_]));show up _ (ke (by unfold c9;rw[hu,Io,hf];rfl))
   | false=>
    have mj:c9 T' n a=false:=by unfold c9;rw[hf,hu,Io];rfl
    dsimp? [aV,bf,hb,h1,cl,o9,n2,n3,n4,jt,l7,oz,gQ];rw[ln];dsimp? [hb,h1,cl,o9,n2,n3,n4,jt,l7,oz];exact#[r,_,n,_,rfl,h2,by rw[mH];omega,λu hu=> ?_];have Se:=cC hb hu;have mh:=cC h1 hu;dsimp? [aU Se,aU mh,hb,h1,cl,o9,n2,n3,n4,jt,l7,oz];intro pg wD mf Ip mB;rw[fO] at mf ⊢;exact#[pg,wD,u,t,rfl,aq,rfl,?_];rw[jv];have s2:=(bw hu (o:= .dK (qp ge (gf R n a)))).trans (bw mf (o:= .ins A.br wD (ku u t)));have JE:=cC aq mf;show#[b,la,lu,lh,now,pg,p,pa,un,he,R,T',_,T',rfl,hB.sm s2,#[wD,u,t,aq,by rw[aU JE];show aq,s2 _ _ h3],hl,λM' eR B' F wY=>eC (kq mj M' eR pg B' (F.sm s2) (s2.free wY) ((bw hu).free mf))]
def c_ (T:e8 K mg A):bA P w K mg base (gX P w) 1 A.jH A.jL ["self","name"] (qq K (FN A.aW A.br A.dS)):=by
 have cl:=aC T.Book.cl;have o9:=aC T.Page.cl;have n2:=aC T.n_Book_now;have n4:=aC T.n_Page_rounds;exact zo T.dC.fn iS (by rintro vs M q e ⟨b,la,lu,lh,now,p,pa,un,he,R,T',n,rfl,_⟩;rfl) λcdv A' outer s H E e hr hF hP=> ?_;have nd:=iS.nd;exact#[_,(ag (bp (l5 (i0 (dF hr) (pv 1) (bL (K:=K) rfl (bL (K:=K) rfl (pv 0) rfl) rfl))) (aj (dI hF rfl (by rfl) T.og (aa (fw (cB aB (cB (iF (pv 1)) gI))) ae))) aJ) (aj (aE (eo (dF hr) (bL (K:=K) rfl (bL (K:=K) rfl (pv 0) rfl) rfl) (pv 1) (λ_ _=>rfl))))),?_];try dsimp only[d0]
 exact#[_,inferInstance,?_];rintro vs M q ⟨b,la,lu,lh,now,p,pa,un,he,R,T',n,rfl,hB,hl,kq,ke⟩;let⟨dx,hb⟩:=hB.ob;let⟨ly,r,t,h1,h2,h3⟩:=hB.pg;dsimp? [hb,h1,h2,cl,o9,n2,n4,jt,oz,cQ];cases hg:cw R n with
 | some a=>dsimp? [bG,ca,aV];dsimp? [hb,h1,h2,cl,o9,n2,n4,jt,oz,cQ,hg,bG];show eC (kq a hg)
 | none=>dsimp? [Option.map_none,cX,bf];(repeat (exact#[by first | decide | decide+kernel | show cz (by omega) | show Md (by right) hl | show Mc (by right) hl (by right),?_]));show#[M,Sm.refl M,ke hg]
def ud (T:e8 K mg A):bA P w K mg base eU 1 A.nE A.nP ["self"] (fF K (Jq A.aW A.br)):=by
 have cl:=aC T.Book.cl;have o9:=aC T.Page.cl;have n2:=aC T.n_Book_now;have n4:=aC T.n_Page_rounds;exists T.tT.fn,["self"],(aj (aE (bt (gs rfl) (by rfl) T.je Boot.«sorted» (aa (bL (K:=K) rfl (bL (K:=K) rfl (pv 0) rfl) rfl) ae))))
 rintro vs M q ⟨b,la,lu,lh,now,p,pa,un,he,R,T',rfl,hB,hl,k⟩;let⟨dx,hb⟩:=hB.ob;let⟨ly,r,t,h1,h2,h3⟩:=hB.pg;dsimp? [hb,h1,h2,cl,o9,n2,n4,jt,oz];show#[r,_,R.map (·.1),rfl,h2,mI _ _,by rw[ai];show big (by omega),λu ns hu h3 h4=>eC (k u ns hu h3 h4)]
def uf (T:e8 K mg A):bA P w K mg base eU 1 A.nG A.nR ["self"] (fF K (Ju A.aW A.br)):=by
 have cl:=aC T.Book.cl;have o9:=aC T.Page.cl;have n2:=aC T.n_Book_now;have n4:=aC T.n_Page_teams;exists T.tV.fn,["self"],(aj (aE (bt (gs rfl) (by rfl) T.je Boot.«sorted» (aa (bL (K:=K) rfl (bL (K:=K) rfl (pv 0) rfl) rfl) ae))))
 rintro vs M q ⟨b,la,lu,lh,now,p,pa,un,he,R,T',rfl,hB,hl,k⟩;let⟨dx,hb⟩:=hB.ob;let⟨ly,r,t,h1,h2,h3⟩:=hB.pg;dsimp? [hb,h1,h3,cl,o9,n2,n4,jt,l7];show#[t,_,T'.map (·.1),rfl,h3,mI _ _,by rw[ai];show big (by omega),λu ns hu h3 h4=>eC (k u ns hu h3 h4)]
def we (T:e8 K mg A):bA P w K mg base (gX P w) 5 A.pV A.p_ ["self","name","deeds"] (qq K (Rp A.aW A.br (tw A) SM)):=by
 have cl:=aC T.Book.cl;have n1:=aC T.n_Book_p;exact zo T.vz.fn mL (by rintro vs M q e ⟨b,la,lu,lh,now,p,pa,un,he,R,T',dd,ys,rfl,⟨n,a,ds,rfl,_⟩,_⟩;rfl) λcdv A' outer s H E e hr hF hP=> ?_;have nd:=mL.nd;exact#[_,(ag (bO (gv hP T.check_name (eZ T) (hr.mono ⋯) (by rfl) (aa (pv 1) ae))) (aj (bO (cb hP T.lm (ik T) (hr.mono ⋯) (pv 0) (aa (pv 1) (aa (gv hP T.gone (JA T) (hr.mono ⋯) (by rfl) (aa (bL (K:=K) rfl (pv 0) rfl) (aa (pv 2) ae))) ae)))))),?_];try dsimp only[d0]
 exact#[_,inferInstance,?_];rintro vs M q ⟨b,la,lu,lh,now,p,pa,un,he,R,T',dd,ys,rfl,⟨n,a,ds,rfl,rfl,ha⟩,⟨hn,hd,hw⟩,hB,hS,kq,ke⟩;let⟨dx,hb⟩:=hB.ob;have p0:0<p:=by have:=hS.p4;omega
 have up: ∀C,e C M ->WL.up e C M:=λC h=>#[M,Sm.refl M,h]
 exact#[n,rfl,hn.as,hn.len,λjP=> ?_,λjP=>up _ (ke .BadName (by rw[cc,am jP]))];have Ak: ∀ (a':WQ.Rd),a'.2.length<=1000000 ->cc p R T' (.tell n ds)=gZ R T' n a' ->C8 A.aW A.br A.dD [wr b,ws n,ge a'] M (λ_ M1=> ∃M0,Sm M0 M1 /\ q wn M0) (WL.up e):=λa' hl ho=>vR hB hS hl ho kq λr h=>up _ (ke r h);dsimp? [hb,cl,n1,Hv,tD];exact#[a,p,ds,rfl,ha,p0,Ar,by omega,hw,λhg=> ?_,λhg=>up _ (ke .NoDeed ?_)];dsimp? [];show Ak _ (av (im _ _) (av (iP _) (by omega))) (by rw[cc,ak (by rw[jP];decide),ak (by rw[sP.mpr hg];decide)]);have:iG ds=false:=by
  cases h:iG ds with
  | false=>rfl
  | true=>let⟨d,h1,h2⟩:=hg;show absurd (sP.mp h d h1) h2
 rw[cc,ak (by rw[jP];decide),am this]
def qy (T:e8 K mg A):bA P w K mg base (gX P w) 5 A.kQ A.k_ ["self","name","one","other"] (qq K (Rp A.aW A.br (tw A) SN)):=by
 have cl:=aC T.Book.cl;have n1:=aC T.n_Book_p;exact zo T.nY.fn jy (by rintro vs M q e ⟨b,la,lu,lh,now,p,pa,un,he,R,T',dd,ys,rfl,⟨n,x,y,rfl,_⟩,_⟩;rfl) λcdv A' outer s H E e hr hF hP=> ?_;have nd:=jy.nd;exact#[_,(ag (bO (gv hP T.check_name (eZ T) (hr.mono ⋯) (by rfl) (aa (pv 1) ae))) (aj (bO (cb hP T.lm (ik T) (hr.mono ⋯) (pv 0) (aa (pv 1) (aa (ax T.joined (Dh T) hr (aa (bL (K:=K) rfl (pv 0) rfl) (aa (cb hP T.dC (c_ T) (hr.mono ⋯) (pv 0) (aa (pv 2) ae)) (aa (cb hP T.dC (c_ T) (hr.mono ⋯) (pv 0) (aa (pv 3) ae)) ae)))) ae)))))),?_];try dsimp only[d0]
 exact#[_,inferInstance,?_];rintro vs M q ⟨b,la,lu,lh,now,p,pa,un,he,R,T',dd,ys,rfl,⟨n,x,y,rfl,rfl⟩,⟨hn,hx,hy⟩,hB,hS,kq,ke⟩;let⟨dx,hb⟩:=hB.ob;have p0:0<p:=by have:=hS.p4;omega
 have up: ∀C,e C M ->WL.up e C M:=λC h=>#[M,Sm.refl M,h]
 dsimp? [];exact#[n,rfl,hn.as,hn.len,λjP=> ?_,λjP=>up _ (ke .BadName (by rw[cc,am jP]))];have Ak: ∀ (a':WQ.Rd),a'.2.length<=1000000 ->cc p R T' (.join n x y)=gZ R T' n a' ->C8 A.aW A.br A.dD [wr b,ws n,ge a'] M (λ_ M1=> ∃M0,Sm M0 M1 /\ q wn M0) (WL.up e):=λa' hl ho=>vR hB hS hl ho kq λr h=>up _ (ke r h);have mh:¬b8 n=false:=by rw[jP];decide
 dsimp? [hb,cl,n1,Hv,tD,eO];exact#[b,la,lu,lh,now,p,pa,un,he,R,T',x,rfl,hB,hx.len,λa hg=> ?_,λhg=>up _ (ke .NoRound (by rw[cc,ak mh,hg]))];dsimp? [hb,cl,n1,Hv,tD,eO];exact#[b,la,lu,lh,now,p,pa,un,he,R,T',y,rfl,hB,hy.len,λa2 zx=> ?_,λzx=>up _ (ke .NoRound (by rw[cc,ak mh,hg,zx]))];dsimp? [];let⟨z,hz,rfl,rfl⟩:=eB hg;let⟨z2,JZ,rfl,rfl⟩:=eB zx;have l1:=(hS.r.ok z hz).2.1;have l2:=(hS.r.ok z2 JZ).2.1;exact#[p,z.2,z2.2,rfl,p0,Ar,by omega,by omega,?_];dsimp? [];show Ak _ (av (Gr _ _ _) (by omega)) (by rw[cc,ak mh,hg,zx])
def qB (T:e8 K mg A):bA P w K mg base (gX P w) 5 A.kT A.lf ["self","name","one"] (qq K (Rp A.aW A.br (tw A) SQ)):=by
 have cl:=aC T.Book.cl;have n1:=aC T.n_Book_p;exact zo T.n9.fn jB (by rintro vs M q e ⟨b,la,lu,lh,now,p,pa,un,he,R,T',dd,ys,rfl,⟨n,x,rfl,_⟩,_⟩;rfl) λcdv A' outer s H E e hr hF hP=> ?_;have nd:=jB.nd;exact#[_,(ag (bO (gv hP T.check_name (eZ T) (hr.mono ⋯) (by rfl) (aa (pv 1) ae))) (aj (bO (cb hP T.lm (ik T) (hr.mono ⋯) (pv 0) (aa (pv 1) (aa (ax T.backward (kA T) hr (aa (bL (K:=K) rfl (pv 0) rfl) (aa (cb hP T.dC (c_ T) (hr.mono ⋯) (pv 0) (aa (pv 2) ae)) ae))) ae)))))),?_];try dsimp only[d0]
 exact#[_,inferInstance,?_];rintro vs M q ⟨b,la,lu,lh,now,p,pa,un,he,R,T',dd,ys,rfl,⟨n,x,rfl,rfl⟩,⟨hn,hx⟩,hB,hS,kq,ke⟩;let⟨dx,hb⟩:=hB.ob;have p0:0<p:=by have:=hS.p4;omega
 have p1:p<1000:=by have:=hS.p4;omega
 have up: ∀C,e C M ->WL.up e C M:=λC h=>#[M,Sm.refl M,h]
 dsimp? [];exact#[n,rfl,hn.as,hn.len,λjP=> ?_,λjP=>up _ (ke .BadName (by rw[cc,am jP]))];have Ak: ∀ (a':WQ.Rd),a'.2.length<=1000000 ->cc p R T' (.back n x)=gZ R T' n a' ->C8 A.aW A.br A.dD [wr b,ws n,ge a'] M (λ_ M1=> ∃M0,Sm M0 M1 /\ q wn M0) (WL.up e):=λa' hl ho=>vR hB hS hl ho kq λr h=>up _ (ke r h);have mh:¬b8 n=false:=by rw[jP];decide
 dsimp? [hb,cl,n1,Hv,tD,eO];exact#[b,la,lu,lh,now,p,pa,un,he,R,T',x,rfl,hB,hx.len,λa hg=> ?_,λhg=>up _ (ke .NoRound (by rw[cc,ak mh,hg]))];dsimp? [];let⟨z,hz,rfl,rfl⟩:=eB hg;have l1:=(hS.r.ok z hz).2.1;exact#[p,z.2,rfl,p0,Ar,by omega,j9 (hS.r.ok z hz).1 p1,?_];dsimp? [];show Ak _ (av (AE _ _) (by omega)) (by rw[cc,ak mh,hg])
def oF (T:e8 K mg A):bA P w K mg base (gX P w) 6 A.jG A.jK ["self","name","one","n"] (qq K (Rp A.aW A.br (tw A) OA)):=by
 have cl:=aC T.Book.cl;have n1:=aC T.n_Book_p;exact zo T.lY.fn iR (by rintro vs M q e ⟨b,la,lu,lh,now,p,pa,un,he,R,T',dd,ys,rfl,⟨n,x,j,rfl,_⟩,_⟩;rfl) λcdv A' outer s H E e hr hF hP=> ?_;have nd:=iR.nd;exact#[_,(ag (bO (gv hP T.check_name (eZ T) (hr.mono ⋯) (by rfl) (aa (pv 1) ae))) (aj (bO (cb hP T.lm (ik T) (hr.mono ⋯) (pv 0) (aa (pv 1) (aa (ax T.repeated (xQ T) hr (aa (bL (K:=K) rfl (pv 0) rfl) (aa (cb hP T.dC (c_ T) (hr.mono ⋯) (pv 0) (aa (pv 2) ae)) (aa (pv 3) ae)))) ae)))))),?_];try dsimp only[d0]
 exact#[_,inferInstance,?_];rintro vs M q ⟨b,la,lu,lh,now,p,pa,un,he,R,T',dd,ys,rfl,⟨n,x,j,rfl,rfl⟩,⟨hn,hx,j0,j1⟩,hB,hS,kq,ke⟩;let⟨dx,hb⟩:=hB.ob;have p0:0<p:=by have:=hS.p4;omega
 have p1:p<1000:=by have:=hS.p4;omega
 have up: ∀C,e C M ->WL.up e C M:=λC h=>#[M,Sm.refl M,h]
 dsimp? [];exact#[n,rfl,hn.as,hn.len,λjP=> ?_,λjP=>up _ (ke .BadName (by rw[cc,am jP]))];have Ak: ∀ (a':WQ.Rd),a'.2.length<=1000000 ->cc p R T' (.times n x j)=gZ R T' n a' ->C8 A.aW A.br A.dD [wr b,ws n,ge a'] M (λ_ M1=> ∃M0,Sm M0 M1 /\ q wn M0) (WL.up e):=λa' hl ho=>vR hB hS hl ho kq λr h=>up _ (ke r h);have mh:¬b8 n=false:=by rw[jP];decide
 dsimp? [hb,cl,n1,Hv,tD,eO];exact#[b,la,lu,lh,now,p,pa,un,he,R,T',x,rfl,hB,hx.len,λa hg=> ?_,λhg=>up _ (ke .NoRound (by rw[cc,ak mh,hg]))];dsimp? [];let⟨z,hz,rfl,rfl⟩:=eB hg;have l1:=(hS.r.ok z hz).2.1;have l3:z.2.2.length*j.natAbs<=401*100:=Nat.mul_le_mul l1 (by omega);exact#[p,z.2,j,rfl,p0,p1,(hS.r.ok z hz).1,by omega,λ_=>#[by omega,by omega,by omega],λr hr Sh J6=> ?_];dsimp? [];exact Ak _ ?_ (by rw[cc,ak mh,hg];simp![Bp p0 hr]);by_cases h0:z.2.1=0;have:=Sh h0;omega;have:=J6 h0;omega
def wg (T:e8 K mg A):bA P w K mg base (gX P w) 3 A.pZ A.qd ["self","name"] (qq K (Rp A.aW A.br (tw A) SO)):=by
 have cl:=aC T.Book.cl;have o9:=aC T.Page.cl;have n2:=aC T.n_Book_now;have n3:=aC T.n_Page_teams;have n4:=aC T.n_Page_rounds;exact zo T.vA.fn mO (by rintro vs M q e ⟨b,la,lu,lh,now,p,pa,un,he,R,T',dd,ys,rfl,⟨n,rfl,_⟩,_⟩;rfl) λcdv A' outer s H E e hr hF hP=> ?_;have nd:=mO.nd;exact#[_,(ag (bO (cb hP T.dC (c_ T) (hr.mono ⋯) (pv 0) (aa (pv 1) ae))) (ag (bp (dw (eJ T.iK (i6 T) (hr.mono ⋯) (pv 0) (aa (pv 1) ae))) (aj (dI hF rfl (by rfl) T.AW (aa (fw (cB (iF (pv 1)) (cB aB gI))) ae))) aJ) (aj (bO (eJ T.fE (e9 T) (hr.mono ⋯) (pv 0) (aa (iX T.Page (ng T) (hr.mono ⋯) (by rfl) (aa (ax T.without (rY T) hr (aa (bL (K:=K) rfl (bL (K:=K) rfl (pv 0) rfl) rfl) (aa (pv 1) ae))) (aa (bL (K:=K) rfl (bL (K:=K) rfl (pv 0) rfl) rfl) ae))) ae)))))),?_];try dsimp only[d0]
 exact#[_,inferInstance,?_];rintro vs M q ⟨b,la,lu,lh,now,p,pa,un,he,R,T',dd,ys,rfl,⟨n,rfl,rfl⟩,hn,hB,hS,kq,ke⟩;let⟨dx,hb⟩:=hB.ob;let⟨ly,r,t,h1,h2,h3⟩:=hB.pg;have up: ∀C,e C M ->WL.up e C M:=λC h=>#[M,Sm.refl M,h]
 have hT:=hS.t;have hPa:=hS.pa;dsimp? [hb,eO];exact#[b,la,lu,lh,now,p,pa,un,he,R,T',n,rfl,hB,hn.len,λa hg=> ?_,λhg=>up _ (ke .NoRound (by rw[cc,hg]))];dsimp? [hb,qf];exact#[b,la,lu,lh,now,p,pa,un,he,R,T',n,rfl,hB,by omega,?_];cases hu:qo T' n with
 | true=>dsimp? [];have lP:=hn.len;(repeat (exact#[by first | decide | decide+kernel | show cz (by omega) | show Md (by right) lP | show Mc (by right) lP (by right),?_]));show up _ (ke .InUse (by rw[cc,hg];show am hu))
 | false=>
  have ho:cc p R T' (.drop n)= .ok (mn R n):=by rw[cc,hg];show ak (by rw[hu];decide)
  dsimp? [hb,gQ];rw[ln];dsimp? [hb,h1,cl,o9,n2,n3,n4,jt,l7,oz];exact#[r,_,n,rfl,h2,by rw[cQ,hg];rfl,λu hu=> ?_];have Se:=cC hb hu;have mh:=cC h1 hu;dsimp? [aU Se,aU mh,hb,h1,cl,o9,n2,n3,n4,jt,l7,oz];intro pg wD mf Ip mB;rw[nH] at mf ⊢;exact#[pg,wD,u,t,rfl,aq,rfl,?_];rw[jv];have s2:=(bw hu (o:= .dK (qp ge (mn R n)))).trans (bw mf (o:= .ins A.br wD (ku u t)));have JE:=cC aq mf;show#[b,la,lu,lh,now,pg,p,pa,un,he,R,T',_,T',rfl,hB.sm s2,#[wD,u,t,aq,by rw[aU JE];show aq,s2 _ _ h3],by omega,λM' eR B' F wY=>eC (kq _ ho M' eR pg B' (F.sm s2) (s2.free wY) ((bw hu).free mf))]
def z4 (T:e8 K mg A):bA P w K mg base eU 2 A.vc A.vi ["_law_draw","_law_many"] (fF K Jp):=by
 exists T.BR.fn,["_law_draw","_law_many","_law_letters","_law_body","_law_cut","_law_start","_law_names_here","_law_k","_law_sign"],(ag (a6 (i:=2) nd rfl (by trivial) aB) (ag (a6 (i:=3) nd rfl (by trivial) (iZ PySem.F.plainAttrs_str PySem.F.slot_str_join PySem.F.type_str_join (show Tk _ _ (Fw K) from JM) aB (aa (dL rfl (db.of (sc:=_) (N:= ["_law_draw","_law_many","_law_letters","_law_body","_law_cut","_law_start","_law_names_here","_law_k","_law_sign"]) (own:= ["_law_k"]) (fr:= [2,0]) (N':= ["_law_k","_law_letters","_law_draw"]) rfl rfl rfl (by right) rfl (by right) (by right) (by right) (by right) (bI rfl)) (fc (by rfl) T.ix (aa (ax T.cR (bH T) hr (aa (pv 0) (aa ah ae))) ae)) (λ_ _ _ _=>(a8 (i:=0) (by change(["_law_k","_law_letters","_law_draw"]:cV Str).Nodup;decide+kernel) rfl (by trivial))) d5 (λ_ _ _ _=>dJ) (λ_ _ _ _=>(aD Gx (pv 1) (ax T.cR (bH T) hr (aa (pv 2) (aa ah ae))) (λ_ _=>rfl)))) ae))) (ag (a6 (i:=4) nd rfl (by trivial) (ax T.cR (bH T) hr (aa (pv 0) (aa (bS dZ (bt o_ (by rfl) T.li Boot.«len» (aa (pv 3) ae)) ah) ae)))) (ag (a6 (i:=5) nd rfl (by trivial) (ax T.cR (bH T) hr (aa (pv 0) (aa ah ae)))) (ag (a6 (i:=6) nd rfl (by trivial) (gK ae)) (ag (gH PassesOwn.never rfl (fc (by rfl) T.ix (aa (pv 1) ae)) (a8 (i:=7) nd rfl (by trivial)) (ag (a6 (i:=8) nd rfl (by trivial) (bS Jx (aD Gx (pv 2) (bS kx (bS dZ (pv 5) (bS fM ah (pv 7))) ah) (λ_ _=>rfl)) (bS dZ ah (ax T.cR (bH T) hr (aa (pv 0) (aa ah ae)))))) (aj (bO (iZ bj bV bU dR (pv 6) (aa (bS BI (bS BI (rR Fg (pv 3) vV (vU (pv 4))) (pv 8)) (rR Fg (pv 3) (vU (pv 4)) vV)) ae)))))) (aj (aE (pv 6)))))))))
 rintro vs M q ⟨d,l,m,rfl,hD,m0,m1,k⟩;have hLz:(w5.length<=sizeLine)=True:=aC (by right);dsimp? [];exact#[d,l,11,rfl,hD,⋯,⋯,λj M1 j0 j1 D1 b1=> ?_];dsimp? [];exact#[#[by omega,by omega],OJ (by rw[iU];show big (by omega)) λu hu=> ?_];let⟨Dj,nul⟩:=D1.ne hu;exact#[λi ys M'=> ∃ss:cV Str,fS (ys=ss.map ws) (ss.length=i) (∀x∈ss,f_ x /\ x.length=1) (M' u=some (.lst ys)) (Dr M' d l),#[[],rfl,rfl,by simp,aq,D1.put hu],?_,?_,?_];rintro i ys M' _ ⟨ss,rfl,hl,_,hM,_⟩;show#[trivial,hM,by rw[ai];omega];rintro i x ys M' hx ⟨ss,rfl,hl,hs,hM,D2⟩ N hN;let⟨hi,rfl⟩:=iV hx;dsimp? [];exact#[d,l,26,rfl,D2,⋯,⋯,λr M3 r0 r1 D3 b3=> ?_];let⟨c,hc,ac⟩:=Ge r0 r1;dsimp? [hLz,hc];exact#[by rw[b3 u Dj];show hM,hN _ _ #[ss++ [⟨#[c]⟩],by rw[bn];rfl,by simp[hl],λx hx=> ?_,by rw[aq],D3.Ni Dj nul]];obtain h | h:=bh.mp hx;show hs x h;rw[a_.mp h];show#[ac,rfl];rintro ys M' ⟨ss,rfl,hl,hs,hM,D2⟩;rw[iU] at hl;exact N1 hM (c:=1) (λx hx=>by rw[(hs x hx).2];show ao _) (cz (by
  have:(Str.ofString "").length=0:=by right
  rw[this];omega)) ?_
 have Pr:(Builtin.Str.glued (Str.ofString "") ss).length<=10:=av (ny _ ss (c:=1) λx hx=>by rw[(hs x hx).2];show ao _) (by
  have:(Str.ofString "").length=0:=by right
  rw[this];omega)
 have XS:f_ (Builtin.Str.glued (Str.ofString "") ss):=Hz (by right) λx hx=>(hs x hx).1;generalize Builtin.Str.glued (Str.ofString "") ss=bo at Pr XS;have hbz:(bo.length<=sizeLine)=True:=aC (cz (by omega));clear hM hs hl hu b1 D1;dsimp? [hbz];exact#[d,l,_,rfl,D2,by omega,by omega,λcu M3 c0 c1 D3 b3=> ?_];dsimp? [];exact#[d,l,26,rfl,D3,⋯,⋯,λsta M4 s0 s1 D4 b4=> ?_];dsimp? [];intro v hv;let⟨Wq,nvl⟩:=D4.ne hv;dsimp? [];exact#[#[by omega,by omega],kI (λi ρ M'=>dQ λ(o1 o2:fP W) (ns:cV Str)=>fS (ρ= [some (wr d),some (wi m),some (ws w5),some (ws bo),some (wi cu),some (wi sta),some (wr v),o1,o2]) (ns.length=i) (∀n∈ns,Nm n) (M' v=some (.lst (ns.map ws))) (Dr M' d l)) #[none,none,[],rfl,rfl,by simp,aq,D4.put hv] (λ_ _ _ _ _=>trivial) ?_ ?_];rintro i x ρ M5 hx ⟨o1,o2,ns,rfl,hl,qM,hM,D5⟩ N hN;let⟨hi,rfl⟩:=iV hx;have cm:lH 7 (0+(i:Int))=True:=aC (.inl #[by omega,by omega]);have h26:((0:Int) <26)=True:=aC ⋯;let⟨c,hc,ac⟩:=Ge (i:=(sta+7*(0+(i:Int))) % 26) (by omega) (by omega);dsimp? [cm,h26,hLz,hc];exact#[d,l,2,rfl,D5,⋯,⋯,λr M6 r0 r1 D6 b6=> ?_];dsimp? [];let⟨w,rfl⟩:=Int.eq_ofNat_of_zero_le r0;exact#[⟨#[c]⟩,1+w,rfl,by push_cast;rfl,by omega,by change 1<=1000;decide,?_];have tl:=CT (x:=⟨#[c]⟩) (n:=1+w);have tl':(gz ⟨#[c]⟩ (1+w)).length<=2:=av tl (by change(1+w)*1<=2;omega);have l1:=Txt.slice_le bo none (some cu);have l2:=Txt.slice_le bo (some cu) none;have z1:((Txt.slice bo none (some cu)).length+(gz ⟨#[c]⟩ (1+w)).length<=sizeLine)=True:=aC (cz (by omega));have z2:(((Txt.slice bo none (some cu))++(gz ⟨#[c]⟩ (1+w))).length+(Txt.slice bo (some cu) none).length<=sizeLine)=True:=aC (cz (by rw[gr];omega));have J_:M6 v=some (.lst (ns.map ws)):=by rw[b6 v Wq];show hM
 have hls:((ns.map ws).length<sizeLine)=True:=aC (nU (by rw[ai];omega));dsimp? [hbz,z1,z2,J_,hls];exact hN _ _ #[_,_,ns++ [Txt.slice bo none (some cu)++gz ⟨#[c]⟩ (1+w)++Txt.slice bo (some cu) none],rfl,by simp[hl],λn hn=> ?_,by rw[aq,bn];rfl,D6.Ni Wq nvl];obtain h | h:=bh.mp hn;show qM n h;rw[a_.mp h];show#[Nm.app (Nm.app (yW XS) (Hy ac)) (yW XS),by rw[gr,gr];omega];rintro ρ M5 ⟨o1,o2,ns,rfl,hl,qM,hM,D5⟩;rw[iU] at hl;dsimp? [];show eC (k v ns M5 hM (by omega) qM Wq nvl D5)
def m_ (T:e8 K mg A):bA P w K mg base eU 1 A.pS A.p7 ["_law_name"] (fF K Js):=by
 exists T.oM.fn,["_law_name","_law_good"],(ag (a6 (i:=1) nd rfl (by trivial) (bt (gx rfl) (by rfl) T.vw Boot.«all» (aa (dL rfl (db.of (sc:=_) (N:= ["_law_name","_law_good"]) (own:= ["_law_sign"]) (fr:= []) (N':= ["_law_sign"]) rfl rfl rfl (by right) rfl (by right) (by right) (by right) (by right) (bI rfl)) (FF (pv 0)) (λ_ _ _ _=>(a8 (i:=0) (by change(["_law_sign"]:cV Str).Nodup;decide+kernel) rfl (by trivial))) d5 (λ_ _ _ _=>dJ) (λ_ _ _ _=>(gp NF (pv 0) aB (by rfl)))) ae))) (aj (aE (vX (pv 1) (rS (FI rW rW ah (bt o_ (by rfl) T.li Boot.«len» (aa (pv 0) ae)) ah))))))
 rintro vs M q ⟨n,rfl,hn,k⟩;have hz:n.length<=sizeLine:=cz (by have:=hn.len;omega);have GD:(n.length<=sizeLine)=True:=aC hz;have ha:=hn.as;dsimp? [GD,ha];exact fB (λc=>wb (zp c w5)) (by unfold zn;rw[ai, <- str_len];show hz) (λ_ _=>trivial) ?_ λu hu=> ?_;intro c hc M3 N3 s3 jU;dsimp? [];show jU;exact#[u,(zn n).map λc=>zp c w5,rfl,by rw[aq,a4];rfl,?_];have e3:((zn n).map λc=>zp c w5).all id=(zn n).all λc=>zp c w5:=by rw[List.all_map];rfl
 rw[e3];have ek:b8 n=(decide (1<=n.length) && decide (n.length<=12) && (zn n).all λc=>zp c w5):=rfl;dsimp? [GD];cases hA:(zn n).all λc=>zp c w5 with
 | false=>rw[hA,Bool.and_false] at ek;rw[ek] at k;dsimp? [];show#[M,bw hu,k]
 | true=>rw[hA,Bool.and_true] at ek;dsimp? [GD];by_cases h1:1<=n.length;have e1:decide (1<=(n.length:Int))=true:=bC (by omega);have e2:decide ((n.length:Int) <=12)=decide (n.length<=12):=decide_eq_decide.mpr (by omega);rw[bC h1,Bool.true_and] at ek;rw[ek] at k;dsimp? [e1,e2];show#[M,bw hu,k];have e1:decide (1<=(n.length:Int))=false:=aF (by omega);rw[aF h1,Bool.false_and] at ek;rw[ek] at k;dsimp? [e1];show#[M,bw hu,k]
def sf (T:e8 K mg A):bA P w K mg base eU 1 A.Cp A.CD ["_law_one","_law_most","_law_reach"] (fF K Rj):=by
 exists T.BU.fn,["_law_one","_law_most","_law_reach"],(aj (aE (Q_ (gp FS (bt fh (by rfl) T.qg Boot.«abs» (aa (aD (show ce _ (bq K) from az) (pv 0) ah (λ_ _=>rfl)) ae)) (pv 1) (a9 _)) (rS (zR (bt (gx rfl) (by rfl) T.vw Boot.«all» (aa (dL rfl (db.of (sc:=_) (N:= ["_law_one","_law_most","_law_reach"]) (own:= ["_law_place","_law_setting"]) (fr:= [2]) (N':= ["_law_place","_law_setting","_law_reach"]) rfl rfl rfl (by right) rfl (by right) (by right) (by right) (by right) (bI rfl)) (mZ (K:=K) rfl (aD (show ce _ (bq K) from az) (pv 0) ah (λ_ _=>rfl))) (λ_ _ _ _=>(d_ (n:=2) rfl (bB (a8 (i:=0) (by change(["_law_place","_law_setting","_law_reach"]:cV Str).Nodup;decide+kernel) rfl (by trivial)) (bB (a8 (i:=1) (by change(["_law_place","_law_setting","_law_reach"]:cV Str).Nodup;decide+kernel) rfl (by trivial)) dE)))) gP (λ_ _ _ _=>dJ) (λ_ _ _ _=>(gp rW (bt fh (by rfl) T.qg Boot.«abs» (aa (pv 0) ae)) (pv 2) (a9 _)))) ae)))))))
 rintro vs M q ⟨a,m,r,rfl,hl,k⟩;have ef:f7 a m r= !(decide ((if a.1<0 then -a.1 else a.1) <=m) && a.2.all λz=>decide ((if z.1<0 then -z.1 else z.1) <=r)):=rfl;dsimp? [ge,fV];by_cases h1:(if a.1<0 then -a.1 else a.1) <=m;have e1:decide (m<if a.1<0 then -a.1 else a.1)=false:=aF (by omega);rw[bC h1,Bool.true_and] at ef;rw[ef] at k;dsimp? [e1];exact fB (λz=>wb (decide ((if z.1<0 then -z.1 else z.1) <=r))) (big (by omega)) (λ_ _=>trivial) ?_ λu hu=> ?_;intro z hz M3 N3 s3 jU;dsimp? [bY];show jU;exact#[u,a.2.map λz=>decide ((if z.1<0 then -z.1 else z.1) <=r),rfl,by rw[aq,a4];rfl,?_];rw[List.all_map];dsimp? [];show#[M,bw hu,k];have e1:decide (m<if a.1<0 then -a.1 else a.1)=true:=bC (by omega);rw[aF h1,Bool.false_and] at ef;rw[ef] at k;dsimp? [e1];show eC k
def zZ (T:e8 K mg A):bA P w K mg base eU 5 A.va A.vg ["_law_p_here","_law_rounds","_law_deed"] (fF K Nr):=by
 exists T.BO.fn,["_law_p_here","_law_rounds","_law_deed"],(ag (bp (aQ di (aD (show ce _ (bq K) from az) (pv 2) ah (λ_ _=>rfl)) aB (a9 _)) (aj (aE (ax T.Gg (Dd T) hr (aa (pv 0) (aa (aD (show ce _ (bq K) from az) (pv 2) ah (λ_ _=>rfl)) ae))))) aJ) (ag (bp (aQ di (aD (show ce _ (bq K) from az) (pv 2) ah (λ_ _=>rfl)) aB (a9 _)) (aj (aE (ax T.Gh (De T) hr (aa (pv 0) (aa (eo (dF hr) (pv 1) (aD (show ce _ (bq K) from az) (aD (show ce _ (bq K) from az) (pv 2) ah (λ_ _=>rfl)) ah (λ_ _=>rfl)) (λ_ _=>rfl)) (aa (eo (dF hr) (pv 1) (aD (show ce _ (bq K) from az) (aD (show ce _ (bq K) from az) (pv 2) ah (λ_ _=>rfl)) ah (λ_ _=>rfl)) (λ_ _=>rfl)) ae)))))) aJ) (aj (aE (ax T.BP (z3 T) hr (aa (pv 0) (aa (eo (dF hr) (pv 1) (aD (show ce _ (bq K) from az) (aD (show ce _ (bq K) from az) (pv 2) ah (λ_ _=>rfl)) ah (λ_ _=>rfl)) (λ_ _=>rfl)) (aa (aD (show ce _ (bq K) from az) (pv 2) ah (λ_ _=>rfl)) ae))))))))
 rintro vs M q ⟨p,r,R,dd,w,rfl,hp,iq,hR,hD,hO,EA,k⟩;have p0:0<p:=by omega
 have p1:p<1000:=by omega
 have s1:decide (("tell" :Str)= "tell")=true:=by right
 have s2:decide (("join" :Str)= "tell")=false:=by right
 have s3:decide (("join" :Str)= "join")=true:=by right
 have s4:decide (("back" :Str)= "tell")=false:=by right
 have s5:decide (("back" :Str)= "join")=false:=by right
 have s6:decide (("times" :Str)= "tell")=false:=by right
 have s7:decide (("times" :Str)= "join")=false:=by right
 cases dd with
 | tell n ds=>let⟨c,rfl,hc⟩:=hD;let⟨hn,hds,hw⟩:=hO;dsimp? [s1];show#[c,p,ds,rfl,hc,p0,Ar,by omega,eC (k _ rfl (fA p0 _) (av (im _ _) (av (iP _) (by omega))))]
 | join n x y=>
  cases hD;rw[hV] at EA k;cases hx:cw R x with
  | none=>rw[hx] at EA;cases EA
  | some a1=>
  cases hy:cw R y with
  | none=>rw[hx,hy] at EA;cases EA
  | some a2=>
  rw[hx,hy] at k;let⟨z,hz,_,rfl⟩:=eB hx;let⟨z2,JZ,_,rfl⟩:=eB hy;have l1:=(hR.ok z hz).2.1;have l2:=(hR.ok z2 JZ).2.1;dsimp? [s2,dm,iq,cQ,hx,hy,bG];show#[p,z.2,z2.2,rfl,p0,Ar,by omega,by omega,j9 (hR.ok z2 JZ).1 p1,eC (k _ rfl (N2 p0 _ _) (av (Gr _ _ _) (by omega)))]
 | back n x=>
  cases hD;rw[hV] at EA k;cases hx:cw R x with
  | none=>rw[hx] at EA;cases EA
  | some a1=>
  rw[hx] at k;let⟨z,hz,_,rfl⟩:=eB hx;have l1:=(hR.ok z hz).2.1;dsimp? [s4,s5,iq,cQ,hx,bG];exact#[p,z.2, -1,rfl,p0,p1,(hR.ok z hz).1,by omega,λ_=>#[by omega,by omega,by change z.2.2.length*1<=100000;omega],λr hr h0 h1=>eC (k _ (by rw[bG,Bp p0 hr]) hr.pt ?_)];by_cases N9:z.2.1=0;have:=h0 N9;omega
  .have:=h1 N9;try simp![Int.natAbs_neg,Int.natAbs_one,Nat.mul_one] at this
   omega
 | times n x j=>
  cases hD;let⟨hn,RZ,j0,j1⟩:=hO;rw[hV] at EA k;cases hx:cw R x with
  | none=>rw[hx] at EA;cases EA
  | some a1=>
  rw[hx] at k;let⟨z,hz,_,rfl⟩:=eB hx;have l1:=(hR.ok z hz).2.1;have l3:z.2.2.length*j.natAbs<=401*100:=Nat.mul_le_mul l1 (by omega);dsimp? [s6,s7,iq,cQ,hx,bG];exact#[p,z.2,j,rfl,p0,p1,(hR.ok z hz).1,by omega,λ_=>#[by omega,by omega,by omega],λr hr h0 h1=>eC (k _ (by rw[bG,Bp p0 hr]) hr.pt ?_)];by_cases N9:z.2.1=0;have:=h0 N9;omega
  .have:=h1 N9;try simp![Int.natAbs_neg,Int.natAbs_one,Nat.mul_one] at this
   omega
 | drop n=>cases EA
def si (T:e8 K mg A):bA P w K mg base eU 6 A.lR A.lV ["_law_p_here","_law_stand","_law_deed"] (fF K Rk):=by
 exists T.pJ.fn,["_law_p_here","_law_stand","_law_deed","_law_rounds","_law_used","_law_one"],(ag (a6 (i:=3) nd rfl (by trivial) (cO jr (by rfl) T.wH Boot.«dict» (aa (aD (show ce _ (bq K) from az) (pv 1) ah (λ_ _=>rfl)) ae))) (ag (a6 (i:=4) nd rfl (by trivial) (zR (bt (gx rfl) (by rfl) T.vw Boot.«all» (aa (BA (dL rfl (db.of (sc:=_) (N:= ["_law_p_here","_law_stand","_law_deed","_law_rounds","_law_used","_law_one"]) (own:= ["_law_crew"]) (fr:= [2,1]) (N':= ["_law_crew","_law_deed","_law_stand"]) rfl rfl rfl (by right) rfl (by right) (by right) (by right) (by right) (bI rfl)) (Jk (aD (show ce _ (bq K) from az) (pv 1) ah (λ_ _=>rfl))) (λ_ _ _ _=>(a8 (i:=0) (by change(["_law_crew","_law_deed","_law_stand"]:cV Str).Nodup;decide+kernel) rfl (by trivial))) d5 (λ_ _ _ _=>dJ) (λ_ _ _ _=>(gp (lw (K:=K) rfl) (aD (show ce _ (bq K) from az) (pv 1) ah (λ_ _=>rfl)) (FH (dF hr) (aD (show ce _ (bq K) from az) (pv 2) ah (λ_ _=>rfl)) (pv 0) (λ_ _=>rfl)) (by rfl))))) ae)))) (ag (bp (aQ di (aD (show ce _ (bq K) from az) (pv 2) ah (λ_ _=>rfl)) aB (a9 _)) (ag (bp (l5 (i0 (dF hr) (aD (show ce _ (bq K) from az) (pv 2) ah (λ_ _=>rfl)) (pv 3))) (aj (aE (aM (aa aB (aa (pv 1) ae))))) aJ) (ag (bp (dw (pv 4)) (aj (aE (aM (aa aB (aa (pv 1) ae))))) aJ) (ag (bO (xM (pv 3) (aD (show ce _ (bq K) from az) (pv 2) ah (λ_ _=>rfl)) #[by rfl,by rfl,by rfl,by rfl])) (aj (aE (aM (aa aB (aa (aM (aa (pv 3) (aa (aD (show ce _ (bq K) from az) (pv 1) ah (λ_ _=>rfl)) ae))) ae)))))))) aJ) (ag (bp (dY (dw (ax T.oM (m_ T) hr (aa (aD (show ce _ (bq K) from az) (pv 2) ah (λ_ _=>rfl)) ae)))) (aj (aE (aM (aa aB (aa (pv 1) ae))))) aJ) (ag (bp (ou (aQ di (aD (show ce _ (bq K) from az) (pv 2) ah (λ_ _=>rfl)) aB (a9 _)) (lq (dY (dw (bt (gx rfl) (by rfl) T.vw Boot.«all» (aa (dL rfl (db.of (sc:=_) (N:= ["_law_p_here","_law_stand","_law_deed","_law_rounds","_law_used","_law_one"]) (own:= ["_law_word","_law_number"]) (fr:= []) (N':= ["_law_word","_law_number"]) rfl rfl rfl (by right) rfl (by right) (by right) (by right) (by right) (bI rfl)) (Bz (K:=K) rfl (aD (show ce _ (bq K) from az) (pv 2) ah (λ_ _=>rfl))) (λ_ _ _ _=>(d_ (n:=2) rfl (bB (a8 (i:=0) (by change(["_law_word","_law_number"]:cV Str).Nodup;decide+kernel) rfl (by trivial)) (bB (a8 (i:=1) (by change(["_law_word","_law_number"]:cV Str).Nodup;decide+kernel) rfl (by trivial)) dE)))) gP (λ_ _ _ _=>dJ) (λ_ _ _ _=>(gp (rX (K:=K) rfl) (pv 0) (aM (aa aB (aa aB ae))) (by rfl)))) ae)))))).pt (aj (aE (aM (aa aB (aa (pv 1) ae))))) aJ) (ag (bp (ou (aQ rV (aD (show ce _ (bq K) from az) (pv 2) ah (λ_ _=>rfl)) aB (a9 _)) (lq (dY (dw (bt (gx rfl) (by rfl) T.vw Boot.«all» (aa (dL rfl (db.of (sc:=_) (N:= ["_law_p_here","_law_stand","_law_deed","_law_rounds","_law_used","_law_one"]) (own:= ["_law_name"]) (fr:= [3]) (N':= ["_law_name","_law_rounds"]) rfl rfl rfl (by right) rfl (by right) (by right) (by right) (by right) (bI rfl)) (Bz (K:=K) rfl (aD (show ce _ (bq K) from az) (pv 2) ah (λ_ _=>rfl))) (λ_ _ _ _=>(a8 (i:=0) (by change(["_law_name","_law_rounds"]:cV Str).Nodup;decide+kernel) rfl (by trivial))) d5 (λ_ _ _ _=>dJ) (λ_ _ _ _=>(No (zT (dF hr) (pv 0) (pv 1))))) ae)))))).pt (aj (aE (aM (aa aB (aa (pv 1) ae))))) aJ) (ag (a6 (i:=5) nd rfl (by trivial) (ax T.BO (zZ T) hr (aa (pv 0) (aa (pv 3) (aa (pv 2) ae))))) (ag (bp (kn (dw (ax T.BU (sf T) hr (aa (pv 5) (aa ah (aa ah ae))))) (iE (ou (dw (pv 4)) (lq (dw (ax T.BU (sf T) hr (aa (pv 5) (aa ah (aa ah ae))))))).pt)).pt (aj (aE (aM (aa aB (aa (pv 1) ae))))) aJ) (ag (ls (dF hr) (pv 3) (aD (show ce _ (bq K) from az) (pv 2) ah (λ_ _=>rfl)) (pv 5) rfl) (aj (aE (aM (aa aB (aa (aM (aa (pv 3) (aa (aD (show ce _ (bq K) from az) (pv 1) ah (λ_ _=>rfl)) ae))) ae))))))))))))))
 rintro vs M q ⟨p,r,t,R,T',dd,w,rfl,hp,⟨iq,ht⟩,⟨hR,hT⟩,hD,hO,kq,ke⟩;have p0:0<p:=by omega
 have py:decide (("tell" :Str)= "drop")=false:=by right
 dsimp? [iq];intro u hu;have hsz:((tX R).length<sizeLine)=True:=aC (nU (by rw[mH];have:=hR.len;omega));have yk:um M u (.dK (tX R)) t=some (.dK (mx T')):=by rw[aU (cC ht hu)];show ht
 dsimp? [];exact#[t,_,yk,?_];dsimp? [yk];intro o ks;have dv: ∃cU,w= .tup (ws (kdOf dd)::ws (fH dd)::cU):=by
  cases dd with
  | tell n ds=>let⟨c,rfl,hc⟩:=hD;show#[_,rfl]
  | _=>cases hD;show#[_,rfl]
 let⟨cU,ew⟩:=dv;have e1:hU (ws (kdOf dd)::ws (fH dd)::cU) 1=some (ws (fH dd)):=gu ⋯ rfl;have ek:(mx T').map (λkv=>g0 kv.1)=T'.map λz=>ws z.1:=by unfold mx qp;rw[a4];rfl
 rw[ek];exact fB (λz=>wb (!pM (fH dd) z.2)) (big (by have:=hT.len;omega)) (λM2 s2=>s2 _ _ aq) ?_ λv hv=> ?_;intro z hz M3 N3 s3 jU;have h3:=s3 _ _ aq;dsimp? [ew,e1,h3,cQ,GS hT.nd hz,bG];show md jU;have Wp:t≠v:=cC aq hv;exact#[o,ks,_,by rw[aU Wp];show aq,v,T'.map λz=> !pM (fH dd) z.2,rfl,by rw[aU Wp.symm,aq,a4];rfl,?_];have eu:(!(T'.map λz=> !pM (fH dd) z.2).all id)=qo T' (fH dd):=by rw[List.all_map,List.not_all_eq_any_not];unfold qo;congr 1;funext z;simp
 have s1:=A5 (l:= .lst (T'.map λz=>wb (!pM (fH dd) z.2))) yk hv;generalize um (um (um (um M u (.dK (tX R))) t (.fz o ks (mx T'))) v (.lst (T'.map λz=>wb (!pM (fH dd) z.2)))) t (.dK (mx T'))=M1 at s1;generalize uk:(T'.map λz=> !pM (fH dd) z.2).all id=Ec at eu;have oY:M1 u=some (.dK (tX R)):=s1 _ _ aq;have st:Sm M M1:=(bw hu).trans s1;have Is:=hD.sm st;clear hv Wp s1 yk e1 uk ek;by_cases qO:¬Pl dd;cases dd with
 | join n x y=>show absurd trivial qO
 | back n x=>show absurd trivial qO
 | times n x k=>show absurd trivial qO
 | tell n ds=>
  let⟨c,rfl,hc⟩:=Is;let⟨hn,hds,hw⟩:=id hO;have Is:DV M1 (.tell n ds) (.tup [ws "tell",ws n,wr c]):=#[c,rfl,hc]
  dsimp? [py,hc,aV];exact#[n,rfl,hn,?_];cases jP:b8 n with
  | false=>dsimp? [bf];show#[M,st,ke .BadName (BJ jP (λ_ z=>nomatch z))]
  | true=>
  dsimp? [aV,py,hc,dm,hc];exact fB (l:=ds) (fW:=fo) (λz:Str×Int=>wb (decide (z.1= "go") || decide (z.1= "turn"))) (big (by omega)) (λM2 s2=>s2 _ _ hc) ?_ λv hv=> ?_;intro z hz M3 N3 s3 jU;dsimp? [fo];show#[.str z.1,[.str "go", .str "turn"],rfl, .inl rfl,rfl,rfl,by rw[RT];show jU];exact#[v,ds.map λz:Str×Int=>(decide (z.1= "go") || decide (z.1= "turn")),rfl,by rw[aq,a4];rfl,?_];have eg:(ds.map λz:Str×Int=>(decide (z.1= "go") || decide (z.1= "turn"))).all id=iG ds:=by rw[List.all_map];rfl
  rw[eg];have st:=st.trans (bw hv (o:= .lst (ds.map λz:Str×Int=>wb (decide (z.1= "go") || decide (z.1= "turn")))));have oY:um M1 v (.lst (ds.map λz:Str×Int=>wb (decide (z.1= "go") || decide (z.1= "turn")))) u=some (.dK (tX R)):=by rw[aU (cC oY hv)];show oY
  have hc:um M1 v (.lst (ds.map λz:Str×Int=>wb (decide (z.1= "go") || decide (z.1= "turn")))) c=some (.lst (ds.map fo)):=by rw[aU (cC hc hv)];show hc
  generalize um M1 v (.lst (ds.map λz:Str×Int=>wb (decide (z.1= "go") || decide (z.1= "turn"))))=M1 at st oY hc;have Is:DV M1 (.tell n ds) (.tup [ws "tell",ws n,wr c]):=#[c,rfl,hc]
  cases Pp:iG ds with
  | false=>dsimp? [bf];show#[M,st,ke .NoDeed (by rw[cc,ak (by rw[jP];decide),am Pp])]
  | true=>
  have GQ: ∀n' OF,dq.tell n ds= .tell n' OF ->iG OF=true:=λ_ _ z=>by cases z;show Pp
  have GG:(hV p R (.tell n ds)).isSome=true:=rfl;have nt:(("tell" :Str)≠ "tell")=False:=by simp
  dsimp? [aV,nt,decide_false,ne_eq,not_true,not_true_eq_false];exact#[p,u,R,_,_,rfl,hp,oY,hR,Is,hO,GG,λa ha hP hl=> ?_];have ho:=FZ (T:=T') (dd:= .tell n ds) p0 jP GQ ha;dsimp? [];exact#[a,200,200,rfl,hl,?_];cases hf:f7 a 200 200 with
  | true=>dsimp? [];show#[M,st,ke .TooFar (by rw[ho,gZ,am (by unfold c9;rw[hf];rfl)])]
  | false=>
   cases wX:qo T' n with
   | false=>
    have G5:(!Ec)=false:=eu.trans wX;have mj:c9 T' n a=false:=by unfold c9;rw[hf,wX];rfl
    have ww:=ho.trans (ak (by change ¬c9 T' n a=true;rw[mj];decide));dsimp? [G5,oY,hsz];exact#[_,Sm.refl _,kq _ ww #[hR,λpO=>hR.put pO hP mj] u _ (st.um hu) hu ?_];rw[aq,fO];rfl
   | true=>
    have G5:(!Ec)=true:=eu.trans wX;dsimp? [G5];exact#[a,8,24,rfl,hl,?_];cases Io:f7 a 8 24 with
    | true=>dsimp? [];show#[M,st,ke .TooFar (by rw[ho,gZ,am (by unfold c9;change(f7 a 200 200 || (qo T' n && f7 a 8 24))=true;rw[hf,wX,Io];rfl)])]
    | false=>
     have mj:c9 T' n a=false:=by unfold c9;rw[hf,wX,Io];rfl
     have ww:=ho.trans (ak (by change ¬c9 T' n a=true;rw[mj];decide));dsimp? [oY,hsz];exact#[_,Sm.refl _,kq _ ww #[hR,λpO=>hR.put pO hP mj] u _ (st.um hu) hu ?_];rw[aq,fO];rfl
 | drop n=>
  cases Is;dsimp? [dm,oY,cQ,bR];cases hx:cw R n with
  | none=>dsimp? [cX,bf];show#[M,st,ke .NoRound (by rw[cc,hx])]
  | some a1=>
   cases wX:qo T' n with
   | true=>have G5:(!Ec)=true:=eu.trans wX;dsimp? [ca,aV,G5];show#[M,st,ke .InUse (by rw[cc,hx];show am wX)]
   | false=>have G5:(!Ec)=false:=eu.trans wX;dsimp? [ca,aV,G5,oY,cQ,hx,bG];exact#[_,Sm.refl _,kq (mn R n) (by rw[cc,hx];show ak (by rw[wX];decide)) #[hR,λ_=>hR.del] u _ (st.um hu) hu ?_];rw[aq,nH]
 replace qO:=Classical.not_not.mp qO;let⟨k1,k2,k3⟩:=kdn qO;let⟨tail,rfl⟩:=dvn Is qO;dsimp? [k1,k2,k3,aV];exact#[_,rfl,nmn qO hO,?_];cases jP:b8 (fH dd) with
 | false=>dsimp? [bf];show#[M,st,ke .BadName (BJ jP (λ_ z=>by subst z;cases qO))]
 | true=>
 dsimp? [aV,k1,k2,k3,dm];exact fB (l:=iM dd) (fW:=ws) (λz=>wb (cw R z).isSome) (big (by have:=Mv dd;omega)) (λ_ _=>trivial) ?_ λv hv=> ?_;intro z hz M3 N3 s3 jU;dsimp? [s3 _ _ oY,cQ,bR];show jU;exact#[v,(iM dd).map λz=>(cw R z).isSome,rfl,by rw[aq,a4];rfl,?_];have st:=st.trans (bw hv (o:= .lst ((iM dd).map λz=>wb (cw R z).isSome)));have oY:um M1 v (.lst ((iM dd).map λz=>wb (cw R z).isSome)) u=some (.dK (tX R)):=by rw[aU (cC oY hv)];show oY
 replace Is:=Is.sm (bw hv (o:= .lst ((iM dd).map λz=>wb (cw R z).isSome)));generalize um M1 v (.lst ((iM dd).map λz=>wb (cw R z).isSome))=M1 at st oY Is;clear hv;have ea:((iM dd).map λz=>(cw R z).isSome).all id=(iM dd).all λz=>(cw R z).isSome:=by rw[List.all_map];rfl
 have GQ: ∀n' OF,dd= .tell n' OF ->iG OF=true:=λ_ _ z=>by subst z;cases qO
 rw[ea];cases uk:(iM dd).all λz=>(cw R z).isSome with
 | false=>dsimp? [bf];show#[M,st,ke .NoRound (Ry qO jP uk)]
 | true=>
 have GG:=IL (p:=p) qO uk;dsimp? [aV];exact#[p,u,R,_,_,rfl,hp,oY,hR,Is,hO,GG,λa ha hP hl=> ?_];have ho:=FZ (T:=T') (dd:=dd) p0 jP GQ ha;dsimp? [];exact#[a,200,200,rfl,hl,?_];cases hf:f7 a 200 200 with
 | true=>dsimp? [];show#[M,st,ke .TooFar (by rw[ho,gZ,am (by unfold c9;rw[hf];rfl)])]
 | false=>
  cases wX:qo T' (fH dd) with
  | false=>
   have G5:(!Ec)=false:=eu.trans wX;have mj:c9 T' (fH dd) a=false:=by unfold c9;rw[hf,wX];rfl
   have ww:=ho.trans (ak (by change ¬c9 T' (fH dd) a=true;rw[mj];decide));dsimp? [G5,oY,hsz];exact#[_,Sm.refl _,kq _ ww #[hR,λpO=>hR.put pO hP mj] u _ (st.um hu) hu ?_];rw[aq,fO]
  | true=>
   have G5:(!Ec)=true:=eu.trans wX;dsimp? [G5];exact#[a,8,24,rfl,hl,?_];cases Io:f7 a 8 24 with
   | true=>dsimp? [];show#[M,st,ke .TooFar (by rw[ho,gZ,am (by unfold c9;change(f7 a 200 200 || (qo T' (fH dd) && f7 a 8 24))=true;rw[hf,wX,Io];rfl)])]
   | false=>
    have mj:c9 T' (fH dd) a=false:=by unfold c9;rw[hf,wX,Io];rfl
    have ww:=ho.trans (ak (by change ¬c9 T' (fH dd) a=true;rw[mj];decide));dsimp? [oY,hsz];exact#[_,Sm.refl _,kq _ ww #[hR,λpO=>hR.put pO hP mj] u _ (st.um hu) hu ?_];rw[aq,fO]
def gq (T:e8 K mg A):bA P w K mg base (gX P w) 1 A.pW A.qa ["self","crew"] (qq K (Rb A.aW A.br A.d4)):=by
 have cl:=aC T.Book.cl;have o9:=aC T.Page.cl;have n2:=aC T.n_Book_now;have n4:=aC T.n_Page_teams;exact zo T.jg.fn mM (by rintro vs M q e ⟨b,la,lu,lh,now,p,pa,un,he,R,T',n,rfl,_⟩;rfl) λcdv A' outer s H E e hr hF hP=> ?_;have nd:=mM.nd;exact#[_,(ag (bp (l5 (i0 (dF hr) (pv 1) (bL (K:=K) rfl (bL (K:=K) rfl (pv 0) rfl) rfl))) (aj (dI hF rfl (by rfl) T.xa (aa (fw (cB aB (cB (iF (pv 1)) gI))) ae))) aJ) (aj (aE (eo (dF hr) (bL (K:=K) rfl (bL (K:=K) rfl (pv 0) rfl) rfl) (pv 1) (λ_ _=>rfl))))),?_];try dsimp only[d0]
 exact#[_,inferInstance,?_];rintro vs M q ⟨b,la,lu,lh,now,p,pa,un,he,R,T',n,rfl,hB,hl,kq,ke⟩;let⟨dx,hb⟩:=hB.ob;let⟨ly,r,t,h1,h2,h3⟩:=hB.pg;dsimp? [hb,h1,h3,cl,o9,n2,n4,jt,l7,cQ];cases hg:cw T' n with
 | some a=>dsimp? [bG,ca,aV];dsimp? [hb,h1,h3,cl,o9,n2,n4,jt,l7,cQ,hg,bG];show eC (kq a hg)
 | none=>dsimp? [Option.map_none,cX,bf];(repeat (exact#[by first | decide | decide+kernel | show cz (by omega) | show Md (by right) hl | show Mc (by right) hl (by right),?_]));show#[M,Sm.refl M,ke hg]
def qx (T:e8 K mg A):bA P w K mg base (gX P w) 2 A.kP A.k9 ["self","crew"] (qq K (FQ A.aW A.br A.d4)):=by
 exact zo T.nX.fn jx (by rintro vs M q e ⟨b,la,lu,lh,now,p,pa,un,he,R,T',n,rfl,_⟩;rfl) λcdv A' outer s H E e hr hF hP=> ?_;have nd:=jx.nd;exact#[_,(aj (aE (cO eM (by rfl) T.gR Boot.«list» (aa (cb hP T.jg (gq T) (hr.mono ⋯) (pv 0) (aa (pv 1) ae)) ae)))),?_];try dsimp only[d0]
 exact#[_,inferInstance,?_];rintro vs M q ⟨b,la,lu,lh,now,p,pa,un,he,R,T',n,rfl,hB,hl,kq,ke⟩;let⟨dx,hb⟩:=hB.ob;dsimp? [hb,rq];exact#[b,la,lu,lh,now,p,pa,un,he,R,T',n,rfl,hB,hl,λa hg=> ?_,λhg=>#[M,Sm.refl M,ke hg]];dsimp? [eQ];show λu hu=>eC (kq a hg u hu)
def fN (T:e8 K mg A):bA P w K mg base eU 3 A.jI A.jM ["self","crew","team"] (fF K (FP A.aW A.br)):=by
 have cl:=aC T.Book.cl;have o9:=aC T.Page.cl;have n2:=aC T.n_Book_now;have n3:=aC T.n_Page_teams;have n4:=aC T.n_Page_rounds;exists T.fT.fn,["self","crew","team"],(aj (bO (eJ T.fE (e9 T) (hr.mono ⋯) (pv 0) (aa (iX T.Page (ng T) (hr.mono ⋯) (by rfl) (aa (bL (K:=K) rfl (bL (K:=K) rfl (pv 0) rfl) rfl) (aa (ax T.with_thing (lN T) hr (aa (bL (K:=K) rfl (bL (K:=K) rfl (pv 0) rfl) rfl) (aa (pv 1) (aa (pv 2) ae)))) ae))) ae))))
 rintro vs M q ⟨b,la,lu,lh,now,p,pa,un,he,R,T',c,l,rfl,hB,hPa,hT,k⟩;let⟨dx,hb⟩:=hB.ob;let⟨ly,r,t,h1,h2,h3⟩:=hB.pg;dsimp? [hb,gQ];rw[ln];dsimp? [hb,h1,cl,o9,n2,n3,n4,jt,l7,oz];exact#[t,_,c,_,rfl,h3,by rw[mH];omega,λu hu=> ?_];intro pg wD mf Ip mB;rw[fO] at mf ⊢;exact#[pg,wD,r,u,rfl,aq,rfl,?_];rw[jv];have s2:=(bw hu (o:= .dK (qp eQ (gf T' c l)))).trans (bw mf (o:= .ins A.br wD (ku r u)));have JE:=cC aq mf;show#[b,la,lu,lh,now,pg,p,pa,un,he,R,T',R,_,rfl,hB.sm s2,#[wD,r,u,aq,s2 _ _ h2,by rw[aU JE];show aq],by omega,λM' eR B' F wY=>eC (k M' eR pg B' (F.sm s2) (s2.free wY) ((bw hu).free mf))]
def ue (T:e8 K mg A):bA P w K mg base (gX P w) 4 A.nF A.nQ ["self","crew"] (qq K (ra A.aW A.br (tw A) OB)):=by
 have cl:=aC T.Book.cl;have o9:=aC T.Page.cl;have n2:=aC T.n_Book_now;have n3:=aC T.n_Page_teams;exact zo T.tU.fn lJ (by rintro vs M q e ⟨b,la,lu,lh,now,p,pa,un,he,R,T',dd,ys,rfl,⟨c,rfl,_⟩,_⟩;rfl) λcdv A' outer s H E e hr hF hP=> ?_;have nd:=lJ.nd;exact#[_,(ag (bO (gv hP T.check_name (eZ T) (hr.mono ⋯) (by rfl) (aa (pv 1) ae))) (ag (bp (l5 (zT (dF hr) (pv 1) (bL (K:=K) rfl (bL (K:=K) rfl (pv 0) rfl) rfl))) (aj (dI hF rfl (by rfl) T.vB (aa (fw (cB aB (cB (iF (pv 1)) gI))) ae))) aJ) (aj (bO (eJ T.fT (fN T) (hr.mono ⋯) (pv 0) (aa (pv 1) (aa (aM ae) ae))))))),?_];try dsimp only[d0]
 exact#[_,inferInstance,?_];rintro vs M q ⟨b,la,lu,lh,now,p,pa,un,he,R,T',dd,ys,rfl,⟨c,rfl,rfl⟩,hc,hB,hS,hT,kq,ke⟩;let⟨dx,hb⟩:=hB.ob;let⟨ly,r,t,h1,h2,h3⟩:=hB.pg;have mC:=hc.len;have up: ∀C,e C M ->WL.up e C M:=λC h=>#[M,Sm.refl M,h]
 dsimp? [];exact#[c,rfl,hc.as,hc.len,λjP=> ?_,λjP=>up _ (ke .BadName (by rw[cr,am jP]))];have mh:¬b8 c=false:=by rw[jP];decide
 dsimp? [hb,h1,h3,cl,o9,n2,n3,jt,l7,cQ,bR];cases hg:cw T' c with
 | some l=>dsimp? [ca];(repeat (exact#[by first | decide | decide+kernel | show cz (by omega) | show Md (by right) mC | show Mc (by right) mC (by right),?_]));show up _ (ke .Taken (by rw[cr,ak mh,hg]))
 | none=>dsimp? [cX,hb,lg];show#[b,la,lu,lh,now,p,pa,un,he,R,T',c,[],rfl,hB,hS.pa,hS.t,λM' eR pg B' F h1 h2=>eC (kq _ (by rw[cr,ak mh,hg]) M' eR pg B' F h1 h2)]
def qA (T:e8 K mg A):bA P w K mg base (gX P w) 3 A.kS A.lc ["self","crew"] (qq K (ra A.aW A.br (tw A) G3)):=by
 have cl:=aC T.Book.cl;have o9:=aC T.Page.cl;have n2:=aC T.n_Book_now;have n3:=aC T.n_Page_teams;have n4:=aC T.n_Page_rounds;exact zo T.n6.fn jA (by rintro vs M q e ⟨b,la,lu,lh,now,p,pa,un,he,R,T',dd,ys,rfl,⟨c,rfl,_⟩,_⟩;rfl) λcdv A' outer s H E e hr hF hP=> ?_;have nd:=jA.nd;exact#[_,(ag (bO (cb hP T.jg (gq T) (hr.mono ⋯) (pv 0) (aa (pv 1) ae))) (aj (bO (eJ T.fE (e9 T) (hr.mono ⋯) (pv 0) (aa (iX T.Page (ng T) (hr.mono ⋯) (by rfl) (aa (bL (K:=K) rfl (bL (K:=K) rfl (pv 0) rfl) rfl) (aa (ax T.without (rY T) hr (aa (bL (K:=K) rfl (bL (K:=K) rfl (pv 0) rfl) rfl) (aa (pv 1) ae))) ae))) ae))))),?_];try dsimp only[d0]
 exact#[_,inferInstance,?_];rintro vs M q ⟨b,la,lu,lh,now,p,pa,un,he,R,T',dd,ys,rfl,⟨c,rfl,rfl⟩,hc,hB,hS,hT,kq,ke⟩;let⟨dx,hb⟩:=hB.ob;let⟨ly,r,t,h1,h2,h3⟩:=hB.pg;have hPa:=hS.pa;have up: ∀C,e C M ->WL.up e C M:=λC h=>#[M,Sm.refl M,h]
 dsimp? [hb,rq];exact#[b,la,lu,lh,now,p,pa,un,he,R,T',c,rfl,hB,hc.len,λl hg=> ?_,λhg=>up _ (ke .NoCrew (by rw[cr,hg]))];have ho:cr R T' (.disband c)= .ok (mn T' c):=by rw[cr,hg]
 dsimp? [hb,gQ];rw[ln];dsimp? [hb,h1,cl,o9,n2,n3,n4,jt,l7,oz];exact#[t,_,c,rfl,h3,by rw[cQ,hg];rfl,λu hu=> ?_];intro pg wD mf Ip mB;rw[nH] at mf ⊢;exact#[pg,wD,r,u,rfl,aq,rfl,?_];rw[jv];have s2:=(bw hu (o:= .dK (qp eQ (mn T' c)))).trans (bw mf (o:= .ins A.br wD (ku r u)));have JE:=cC aq mf;show#[b,la,lu,lh,now,pg,p,pa,un,he,R,T',R,_,rfl,hB.sm s2,#[wD,r,u,aq,s2 _ _ h2,by rw[aU JE];show aq],by omega,λM' eR B' F wY=>eC (kq _ ho M' eR pg B' (F.sm s2) (s2.free wY) ((bw hu).free mf))]
def sk (T:e8 K mg A):bA P w K mg base (gX P w) 4 A.lT A.lX ["self","crew","name"] (qq K (ra A.aW A.br (tw A) Ki)):=by
 exact zo T.qj.fn j_ (by rintro vs M q e ⟨b,la,lu,lh,now,p,pa,un,he,R,T',dd,ys,rfl,⟨c,n,rfl,_⟩,_⟩;rfl) λcdv A' outer s H E e hr hF hP=> ?_;have nd:=j_.nd;exact#[_,(ag (a6 (i:=3) nd rfl (by trivial) (cb hP T.jg (gq T) (hr.mono ⋯) (pv 0) (aa (pv 1) ae))) (ag (a6 (i:=4) nd rfl (by trivial) (cb hP T.dC (c_ T) (hr.mono ⋯) (pv 0) (aa (pv 2) ae))) (ag (bp (aQ (rX (K:=K) rfl) (pv 2) (pv 3) (by rfl)) (aj (dI hF rfl (by rfl) T.vB (aa (fw (cB (iF (pv 2)) (cB aB (cB (iF (pv 1)) gI)))) ae))) aJ) (ag (bp (aQ xP (bt (fe (K:=K) rfl) (by rfl) T.li Boot.«len» (aa (pv 3) ae)) (fu (by rfl) T.jZ.choose_spec (show RelV (.int 6) _ from#[_,rfl])) (a9 _)) (aj (dI hF rfl (by rfl) T.uy (aa (fw (cB aB (cB (zS (fu (by rfl) T.jZ.choose_spec (show RelV (.int 6) _ from#[_,rfl]))) (cB aB gI)))) ae))) aJ) (ag (bp (dY (dw (ax T.fits_crew (nc T) hr (aa (pv 4) ae)))) (aj (dI hF rfl (by rfl) T.mD (aa (fw (cB (iF (pv 2)) (cB aB gI))) ae))) aJ) (aj (bO (eJ T.fT (fN T) (hr.mono ⋯) (pv 0) (aa (pv 1) (aa (bS BH (pv 3) (aM (aa (pv 2) ae))) ae)))))))))),?_];try dsimp only[d0]
 exact#[_,inferInstance,?_];rintro vs M q ⟨b,la,lu,lh,now,p,pa,un,he,R,T',dd,ys,rfl,⟨c,n,rfl,rfl⟩,⟨hc,hn⟩,hB,hS,hT,kq,ke⟩;let⟨dx,hb⟩:=hB.ob;have mC:=hc.len;have lP:=hn.len;have up: ∀C,e C M ->WL.up e C M:=λC h=>#[M,Sm.refl M,h]
 dsimp? [hb,rq];exact#[b,la,lu,lh,now,p,pa,un,he,R,T',c,rfl,hB,hc.len,λl hg=> ?_,λhg=>up _ (ke .NoCrew (by rw[cr,hg]))];dsimp? [hb,eO];exact#[b,la,lu,lh,now,p,pa,un,he,R,T',n,rfl,hB,hn.len,λa zx=> ?_,λzx=>up _ (ke .NoRound (by rw[cr,hg];dsimp only;rw[zx]))];dsimp? [];exact re ?_;let⟨z,hz,_,rfl⟩:=eB zx;cases hi:pM n l with
 | true=>dsimp? [];exact#[cz (by omega),Md (by right) lP,Mc (by right) lP (by right),cz (by omega),UW (by right) lP (by right) mC,UW (by right) lP (by right) mC,?_];show up _ (ke .Taken (by rw[cr,hg];dsimp only;rw[zx];dsimp only;rw[am hi]))
 | false=>
 have DF:¬pM n l=true:=by rw[hi];decide
 dsimp? [eQ,ai];by_cases h6:6<=l.length
 .have e6:decide ((6:Int) <=(l.length:Int))=true:=bC (by omega);dsimp? [e6];(repeat (exact#[by first | decide | decide+kernel,?_]));show up _ (ke .TooMany (by rw[cr,hg];dsimp only;rw[zx];dsimp only;rw[ak DF,am h6]))
 .have e6:decide ((6:Int) <=(l.length:Int))=false:=aF (by omega);dsimp? [e6];exact#[z.2,rfl,by have:=(hS.r.ok z hz).2.1;omega,?_];cases hf:f7 z.2 8 24 with
  | true=>dsimp? [aV,bf];(repeat (exact#[by first | decide | decide+kernel | show cz (by omega) | show Md (by right) lP | show Mc (by right) lP (by right),?_]));show up _ (ke .TooFar (by rw[cr,hg];dsimp only;rw[zx];dsimp only;rw[ak DF,ak h6,am hf]))
  | false=>
   have hsz:((l.map ws).length+ [ws n].length<=sizeLine)=True:=aC (big (by rw[ai];simp;omega));dsimp? [aV,bf,hb,lg];exact#[big (by rw[ai];omega),?_];have el:W.tup (l.map ws++ [ws n])=eQ (l++ [n]):=by unfold eQ;rw[bn];rfl
   rw[el];show#[b,la,lu,lh,now,p,pa,un,he,R,T',c,l++ [n],rfl,hB,hS.pa,hS.t,λM' eR pg B' F h1 h2=>eC (kq _ (by rw[cr,hg];dsimp only;rw[zx];dsimp only;rw[ak DF,ak h6,ak (by rw[hf];decide)]) M' eR pg B' F h1 h2)]
def qz (T:e8 K mg A):bA P w K mg base (gX P w) 4 A.kR A.lb ["self","crew","name"] (qq K (ra A.aW A.br (tw A) G2)):=by
 exact zo T.nZ.fn jz (by rintro vs M q e ⟨b,la,lu,lh,now,p,pa,un,he,R,T',dd,ys,rfl,⟨c,n,rfl,_⟩,_⟩;rfl) λcdv A' outer s H E e hr hF hP=> ?_;have nd:=jz.nd;exact#[_,(ag (a6 (i:=3) nd rfl (by trivial) (cb hP T.jg (gq T) (hr.mono ⋯) (pv 0) (aa (pv 1) ae))) (ag (bp (aQ (lw (K:=K) rfl) (pv 2) (pv 3) (by rfl)) (aj (dI hF rfl (by rfl) T.og (aa (fw (cB (iF (pv 2)) (cB aB (cB (iF (pv 1)) gI)))) ae))) aJ) (aj (bO (eJ T.fT (fN T) (hr.mono ⋯) (pv 0) (aa (pv 1) (aa (cO f8 (by rfl) T.iw Boot.«tuple» (aa (dL rfl (db.of (sc:=_) (N:= ["self","crew","name","team"]) (own:= ["member"]) (fr:= [2]) (N':= ["member","name"]) rfl rfl rfl (by right) rfl (by right) (by right) (by right) (by right) (bI rfl)) (mZ (K:=K) rfl (pv 3)) (λ_ _ _ _=>(a8 (i:=0) (by change(["member","name"]:cV Str).Nodup;decide+kernel) rfl (by trivial))) d5 (λ_ _ _ _=>(qY (aQ rV (pv 0) (pv 1) (a9 _)))) (λ_ _ _ _=>(pv 0))) ae)) ae))))))),?_];try dsimp only[d0]
 exact#[_,inferInstance,?_];rintro vs M q ⟨b,la,lu,lh,now,p,pa,un,he,R,T',dd,ys,rfl,⟨c,n,rfl,rfl⟩,⟨hc,hn⟩,hB,hS,hT,kq,ke⟩;let⟨dx,hb⟩:=hB.ob;have mC:=hc.len;have lP:=hn.len;have up: ∀C,e C M ->WL.up e C M:=λC h=>#[M,Sm.refl M,h]
 dsimp? [hb,rq];exact#[b,la,lu,lh,now,p,pa,un,he,R,T',c,rfl,hB,hc.len,λl hg=> ?_,λhg=>up _ (ke .NoCrew (by rw[cr,hg]))];dsimp? [];exact md ?_;cases hi:pM n l with
 | false=>dsimp? [bf];exact#[cz (by omega),Md (by right) lP,Mc (by right) lP (by right),cz (by omega),UW (by right) lP (by right) mC,UW (by right) lP (by right) mC,?_];show up _ (ke .NoRound (by rw[cr,hg];dsimp only;rw[am hi]))
 | true=>dsimp? [aV,hb,lg,eQ];let⟨z,hz,_,rfl⟩:=eB hg;exact tf (λm=>decide (m≠n)) ws (big (by have:=hT.mem z hz;omega)) (λ_ _=>trivial) ?_ λu hu=> ?_;intro m hm M3 N3 s3 jU;dsimp? [];by_cases h:m=n;rw[aF ⇑h] at jU;rw[bC h];show jU;rw[bC h] at jU;rw[aF h];show jU;dsimp? [aq];have s2:=bw hu (o:= .lst ((z.2.filter λm=>decide (m≠n)).map ws));show#[b,la,lu,lh,now,p,pa,un,he,R,T',c,z.2.filter λm=>decide (m≠n),rfl,hB.sm s2,hS.pa,hS.t,λM' eR pg B' F h1 h2=>eC (kq _ (by rw[cr,hg];dsimp only;rw[ak (by rw[hi];decide)]) M' eR pg B' (F.sm s2) (s2.free h1) (s2.free h2))]
def xS (T:e8 K mg A):bA P w K mg base eU 4 A.sR A.sX ["_law_p_here","_law_book","_law_stand"] (fF K (BE A.aW A.br)):=by
 have pf:=Mn (c_ (P:=P) (w:=w) (base:=base) T);have qQ:=Mn (qx (P:=P) (w:=w) (base:=base) T);exists T.yc.fn,["_law_p_here","_law_book","_law_stand","_law_names_here","_law_crews","_law_name","_law_one","_law_crew","_law_members"],(ag (a6 (i:=3) nd rfl (by trivial) (oB T.tT (ud T) (hr.mono ⋯) (pv 1))) (ag (a6 (i:=4) nd rfl (by trivial) (oB T.tV (uf T) (hr.mono ⋯) (pv 1))) (ag (bp (kn (dY (dw (bt (fg (K:=K) rfl) (by rfl) T.dM Boot.«isinstance» (aa (pv 3) (aa (h_ (by rfl) T.gR Boot.«list» (show RelV (.ty "list") _ from rfl)) ae))))) (iE (aQ (show iJ _ _ (xJ K) from oC (by show hr.O6)) (pv 3) (bt (gs rfl) (by rfl) T.je Boot.«sorted» (aa (aD (show ce _ (bq K) from az) (pv 2) ah (λ_ _=>rfl)) ae)) (a9 _)))).pt (aj (aE ij)) aJ) (ag (bp (kn (dY (dw (bt (fg (K:=K) rfl) (by rfl) T.dM Boot.«isinstance» (aa (pv 4) (aa (h_ (by rfl) T.gR Boot.«list» (show RelV (.ty "list") _ from rfl)) ae))))) (iE (aQ (show iJ _ _ (xJ K) from oC (by show hr.O6)) (pv 4) (bt (gs rfl) (by rfl) T.je Boot.«sorted» (aa (aD (show ce _ (bq K) from az) (pv 2) ah (λ_ _=>rfl)) ae)) (a9 _)))).pt (aj (aE ij)) aJ) (ag (gH PassesOwn.never rfl (kr (K:=K) rfl (pv 3)) (a8 (i:=5) nd rfl (by trivial)) (ag (a6 (i:=6) nd rfl (by trivial) (eJ T.dC pf (hr.mono ⋯) (pv 1) (aa (pv 5) ae))) (aj (bp (kn (dY (dw (ax T.sB (ub T) hr (aa (pv 0) (aa (pv 6) ae))))) (iE (aQ (show iJ _ _ (xJ K) from oC (by show hr.O6)) (pv 6) (eo (dF hr) (aD (show ce _ (bq K) from az) (pv 2) ah (λ_ _=>rfl)) (pv 5) (λ_ _=>rfl)) (a9 _)))).pt (aj (aE ij)) aJ)))) (ag (gH PassesOwn.never rfl (kr (K:=K) rfl (pv 4)) (a8 (i:=7) nd rfl (by trivial)) (ag (a6 (i:=8) nd rfl (by trivial) (eJ T.nX qQ (hr.mono ⋯) (pv 1) (aa (pv 7) ae))) (ag (bp (kn (dY (dw (bt (fg (K:=K) rfl) (by rfl) T.dM Boot.«isinstance» (aa (pv 8) (aa (h_ (by rfl) T.gR Boot.«list» (show RelV (.ty "list") _ from rfl)) ae))))) (iE (aQ (show iJ _ _ (xJ K) from oC (by show hr.O6)) (pv 8) (cO eM (by rfl) T.gR Boot.«list» (aa (eo (dF hr) (aD (show ce _ (bq K) from az) (pv 2) ah (λ_ _=>rfl)) (pv 7) (λ_ _=>rfl)) ae)) (a9 _)))).pt (aj (aE ij)) aJ) (aj (bO (iZ bj PySem.F.slot_list_insert PySem.F.type_list_insert uO (pv 8) (aa ah (aa aB ae)))))))) (ag (bO (FJ bj PySem.F.slot_list_clear PySem.F.type_list_clear xW (pv 3))) (ag (bO (FJ bj PySem.F.slot_list_clear PySem.F.type_list_clear xW (pv 4))) (aj (aE ij))))))))))
 rintro vs M q ⟨b,la,lu,lh,now,r,t,p,pa,un,he,R,T',rfl,hB,⟨iq,ht⟩,hR,⟨hT,d3⟩,k⟩;let⟨dx,hb⟩:=hB.ob;have hRl:=hR.len;dsimp? [hb,Hs];exact#[b,la,lu,lh,now,p,pa,un,he,R,T',rfl,hB,hRl,λnl ns lP i9 yl=> ?_];have s1:Sm M (um M nl (.lst (ns.map ws))):=bw lP;have hB1:=hB.sm s1;have L':um M nl (.lst (ns.map ws)) nl=some (.lst (ns.map ws)):=aq;generalize um M nl (.lst (ns.map ws))=M1 at s1 hB1 L';have hb1:=s1 _ _ hb;dsimp? [hb1,Hu];exact#[b,la,lu,lh,now,p,pa,un,he,R,T',rfl,hB1,by have:=hT.len;omega,λcl cs mC hpc Xe=> ?_];have s2:=s1.trans (bw mC (o:= .lst (cs.map ws)));have hB2:=hB.sm s2;have DG:um M1 cl (.lst (cs.map ws)) nl=some (.lst (ns.map ws)):=bw mC _ _ L';have DK:um M1 cl (.lst (cs.map ws)) cl=some (.lst (cs.map ws)):=aq;generalize um M1 cl (.lst (cs.map ws))=M2 at s2 hB2 DG DK;dsimp? [DG,DK];exact#[r,_,R.map (·.1),rfl,s2 _ _ iq,mI _ _,by rw[ai];show big (by omega),λv zr hv sO fZ=> ?_];have en:=xu sO i9 fZ yl;subst en;exact oI (DR.list o6 (by rw[aU (cC DG hv)];show DG)) (DR.list o6 aq) (Au _) rfl ?_;have s3:=s2.trans (bw hv (o:= .lst (zr.map ws)));have hB3:=hB.sm s3;have Xu:=bw hv (o:= .lst (zr.map ws)) _ _ DG;have Ss:=bw hv (o:= .lst (zr.map ws)) _ _ DK;generalize um M2 v (.lst (zr.map ws))=M3 at s3 hB3 Xu Ss;dsimp? [Xu,Ss];exact#[t,_,T'.map (·.1),rfl,s3 _ _ ht,mI _ _,by rw[ai];show big (by have:=hT.len;omega),λv2 Pu UO Xn Ca=> ?_];have ec:=xu Xn hpc Ca Xe;subst ec;exact oI (DR.list o6 (by rw[aU (cC Ss UO)];show Ss)) (DR.list o6 aq) (Au _) rfl ?_;have s4:=s3.trans (bw UO (o:= .lst (Pu.map ws)));have X2:=hB.sm s4;have Oi:=bw UO (o:= .lst (Pu.map ws)) _ _ Xu;have UR:=bw UO (o:= .lst (Pu.map ws)) _ _ Ss;generalize um M3 v2 (.lst (Pu.map ws))=M4 at s4 X2 Oi UR;have Xk:=s4 _ _ iq;have hb4:=s4 _ _ hb;dsimp? [Oi];exact kI (λi ρ M'=>cx λ(o1 o2:fP W)=>ρ= [some (wi p),some (wr b),some (.tup [wr r,wr t]),some (wr nl),some (wr cl),o1,o2,none,none] /\ M'=M4) #[none,none,rfl,rfl] (by rintro i ρ M' _ ⟨o1,o2,rfl,rfl⟩;show Oi) ?_ ?_;rintro i x ρ M' hx ⟨o1,o2,rfl,rfl⟩ N hN;let⟨nm,jP,rfl⟩: ∃nm,zr[i]? =some nm /\ x=ws nm:=by
  rw[aH] at hx;cases e:zr[i]? with
  | none=>rw[e] at hx;cases hx
  | some y=>rw[e] at hx;cases hx;show#[y,rfl,rfl]
 have yq:nm∈R.map (·.1):=i9.mem_iff.mp (be jP);let⟨z,hz,rfl⟩:=List.mem_map.mp yq;let⟨a,hg⟩:=Kc hz;let⟨z2,JZ,_,rfl⟩:=eB hg;dsimp? [hb4,eO];exact Fh ?_;exact#[b,la,lu,lh,now,p,pa,un,he,R,T',z.1,rfl,X2,d3 z hz,λa' wz=> ?_,λwz=>by rw[hg] at wz;cases wz];have ea:a'=z2.2:=by rw[hg] at wz;show(bg wz).symm
 subst ea;dsimp? [];exact#[p,z2.2,rfl,(hR.ok z2 JZ).1,by have:=(hR.ok z2 JZ).2.1;omega,?_];dsimp? [Xk,cQ,hg,bG];exact RC rfl ?_;dsimp? [];show hN _ _ #[_,_,rfl,rfl];rintro ρ M5 ⟨o1,o2,rfl,rfl⟩;dsimp? [UR];have ht4:=s4 _ _ ht;exact kI (λi ρ M'=>cx λ(o3 o4:fP W)=>ρ= [some (wi p),some (wr b),some (.tup [wr r,wr t]),some (wr nl),some (wr cl),o1,o2,o3,o4] /\ Sm M5 M') #[none,none,rfl,Sm.refl M5] (by rintro i ρ M' _ ⟨o3,o4,rfl,s5⟩;show s5 _ _ UR) ?_ ?_;rintro i x ρ M6 hx ⟨o3,o4,rfl,s5⟩ N hN;let⟨nm,jP,rfl⟩: ∃nm,Pu[i]? =some nm /\ x=ws nm:=by
  rw[aH] at hx;cases e:Pu[i]? with
  | none=>rw[e] at hx;cases hx
  | some y=>rw[e] at hx;cases hx;show#[y,rfl,rfl]
 have yq:nm∈T'.map (·.1):=hpc.mem_iff.mp (be jP);let⟨z,hz,rfl⟩:=List.mem_map.mp yq;have hg:=GS hT.nd hz;have hb6:=s5 _ _ hb4;have ht6:=s5 _ _ ht4;dsimp? [hb6,Ay];exact Fh ?_;exact#[b,la,lu,lh,now,p,pa,un,he,R,T',z.1,rfl,X2.sm s5,hT.key z hz,λa' wz u hu=> ?_,λwz=>by rw[hg] at wz;cases wz];have ea:a'=z.2:=by rw[hg] at wz;show(bg wz).symm
 subst ea;have s6:=s5.trans (bw hu (o:= .lst (z.2.map ws)));have R0:um M6 u (.lst (z.2.map ws)) u=some (.lst (z.2.map ws)):=aq;have ht7:=s6 _ _ ht4;have XX:M5 u=none:=s5.free hu;generalize um M6 u (.lst (z.2.map ws))=M7 at s6 R0 ht7;dsimp? [R0,ht7,cQ,hg,bG,eQ];intro v hv;exact oI (DR.list o6 (by rw[aU (cC R0 hv)];show R0)) (DR.list o6 aq) (Au _) rfl ?_;have s7:=s6.trans (bw hv (o:= .lst (z.2.map ws)));have W':=bw hv (o:= .lst (z.2.map ws)) _ _ R0;generalize um M7 v (.lst (z.2.map ws))=M8 at s7 W';dsimp? [W'];exact#[u,_,ws "zz",0,rfl,rfl,W',nU (by rw[ai];have:=hT.mem z hz;omega),cZ _,?_];show hN _ _ #[_,_,rfl,s7.um XX];rintro ρ M6 ⟨o3,o4,rfl,s5⟩;have hn6:=s5 _ _ Oi;have hc6:=s5 _ _ UR;have s6:=s4.trans s5;dsimp? [hn6,hc6];by_cases hcn:cl=nl;subst hcn;dsimp? [aq];show#[M,s6.um (s1.free mC),k];dsimp? [aU hcn,hc6];show#[M,(s6.um lP).um (s1.free mC),k]
def qw (T:e8 K mg A):bA P w K mg base eU 2 A.kN A.k7 ["_law_draw"] (fF K Jt):=by
 exists T.no.fn,["_law_draw","_law_deeds","_law_k","_law_word","_law_way"],(ag (a6 (i:=1) nd rfl (by trivial) (gK ae)) (ag (gH PassesOwn.never rfl (fc (by rfl) T.ix (aa (ax T.cR (bH T) hr (aa (pv 0) (aa ah ae))) ae)) (a8 (i:=2) nd rfl (by trivial)) (ag (a6 (i:=3) nd rfl (by trivial) (aD (show ce _ (bq K) from az) (aM (aa aB (aa aB (aa aB ae)))) (ax T.cR (bH T) hr (aa (pv 0) (aa ah ae))) (λ_ _=>rfl))) (aj (bO (iZ bj bV bU dR (pv 1) (aa (aM (aa (pv 3) (aa (bS rT (ax T.cR (bH T) hr (aa (pv 0) (aa ah ae))) ah) ae))) ae)))))) (ag (a6 (i:=4) nd rfl (by trivial) (ax T.cR (bH T) hr (aa (pv 0) (aa ah ae)))) (ag (bp (aQ di (pv 4) ah (a9 _)) (ag (bO (iZ bj bV bU dR (pv 1) (aa (aM (aa aB (aa (aD (show ce _ (bq K) from az) (aM (aa ah (aa ah (aa (fU eG ah) (aa (fU eG ah) (aa ah (aa ah (aa (fU eG ah) (aa (fU eG ah) (aa ah (aa ah (aa (fU eG ah) (aa (fU eG ah) ae))))))))))))) (ax T.cR (bH T) hr (aa (pv 0) (aa ah ae))) (λ_ _=>rfl)) ae))) ae))) (ag (bO (iZ bj bV bU dR (pv 1) (aa (aM (aa aB (aa (ax T.cR (bH T) hr (aa (pv 0) (aa ah ae))) ae))) ae))) (aj (bO (iZ bj bV bU dR (pv 1) (aa (aM (aa aB (aa (aD (show ce _ (bq K) from az) (aM (aa ah (aa (fU eG ah) (aa ah (aa (fU eG ah) (aa ah ae)))))) (ax T.cR (bH T) hr (aa (pv 0) (aa ah ae))) (λ_ _=>rfl)) ae))) ae)))))) aJ) (ag (bp (aQ di (pv 4) ah (a9 _)) (aj (bO (iZ bj PySem.F.slot_list_insert PySem.F.type_list_insert uO (pv 1) (aa (ax T.cR (bH T) hr (aa (pv 0) (aa (bS dZ (bt (fe (K:=K) rfl) (by rfl) T.li Boot.«len» (aa (pv 1) ae)) ah) ae))) (aa (aM (aa (aD (show ce _ (bq K) from az) (aM (aa aB (aa aB (aa aB ae)))) (ax T.cR (bH T) hr (aa (pv 0) (aa ah ae))) (λ_ _=>rfl)) (aa ah ae))) ae))))) aJ) (aj (aE (pv 1))))))))
 rintro vs M q ⟨d,l,rfl,hD,k⟩;dsimp? [];intro u hu;let⟨Dj,nul⟩:=hD.ne hu;have D0:=hD.put hu (o:= .lst []);have F0:Fs d M (um M u (.lst [])):=λa o h n=>by rw[aU (cC h hu)];show h
 have Pn:um M u (.lst []) u=some (.lst (([]:cV (Str×Int)).map fo)):=aq;generalize um M u (.lst [])=M1 at D0 F0 Pn;dsimp? [];exact#[d,l,5,rfl,D0,⋯,⋯,λm M2 m0 m1 D2 b2=> ?_];have F2:Fs d M M2:=λa o h n=>by rw[b2 a n];show F0 a o h n
 have hu2:M2 u=some (.lst (([]:cV (Str×Int)).map fo)):=by rw[b2 u Dj];show Pn
 have put: ∀ (M':Mp) (o:MO),Dr M' d l ->Fs d M M' ->Dr (um M' u o) d l /\ Fs d M (um M' u o):=λM' o X0 hF=>#[X0.Ni Dj nul,λa o' h n=>by rw[aU (cC h hu)];show hF a o' h n]
 have dr: ∀ (M' Ms:Mp),NB d M' Ms ->Fs d M M' ->Fs d M Ms:=λM' Ms hb hF a o h n=>by rw[hb a n];show hF a o h n
 have wd: ∀ {ds:cV (Str×Int)} {z:Str×Int},(∀y∈ds,y.1.length<=100) ->z.1.length<=100 -> ∀y∈ds++ [z],y.1.length<=100:=λ{ds z} h hz y hy=>by obtain h' | h':=bh.mp hy;show h y h';rw[a_.mp h'];show hz
 have sz: ∀ {ds:cV (Str×Int)},ds.length<=50 ->((ds.map fo).length<sizeLine)=True:=λ{ds} h=>aC (nU (by rw[ai];omega));have snoc: ∀ (ds:cV (Str×Int)) (z:Str×Int),(MO.lst (ds.map fo++ [fo z]))= .lst ((ds++ [z]).map fo):=λds z=>by rw[bn];rfl
 simp? [↓cA];exact#[#[by omega,by omega],kI (λi ρ M'=>dQ λ(o1 o2:fP W) (ds:cV (Str×Int))=>jX (ρ= [some (wr d),some (wr u),o1,o2,none]) (ds.length=i) (∀y∈ds,y.1.length<=100) (M' u=some (.lst (ds.map fo))) (Dr M' d l) (Fs d M M')) #[none,none,[],rfl,rfl,by simp,hu2,D2,F2] (λ_ _ _ _ _=>trivial) ?_ ?_]
 .rintro i x ρ M3 hx ⟨o1,o2,ds,rfl,hl,hw,hM,D3,F3⟩ N hN;let⟨hi,rfl⟩:=iV hx;dsimp? [];exact#[d,l,3,rfl,D3,⋯,⋯,λr M4 r0 r1 D4 b4=> ?_];have Oy:M4 u=some (.lst (ds.map fo)):=by rw[b4 u Dj];show hM
  have F4:=dr _ _ b4 F3;have hr3:r=0 \/ r=1 \/ r=2:=by omega
  obtain rfl | rfl | rfl:=hr3;all_goals
   dsimp? [S0,Oy]
   exact#[d,l,7,rfl,D4,⋯,⋯,λx M5 x0 x1 D5 b5=> ?_]
   have Ox:M5 u=some (.lst (ds.map fo)):=by rw[b5 u Dj];show Oy
   have F5:=dr _ _ b5 F4
   dsimp? [Ox,sz (ds:=ds) (by omega)]
   exact hN _ _ #[_,_,ds++ [(_,x - 3)],rfl,by simp[hl],wd hw ?_,by rw[aq];show congrArg some (snoc ds (_,x - 3)),(put _ _ D5 F5).1,(put _ _ D5 F5).2]
   first | show(by right:Str.length "go" <=100) | show(by right:Str.length "turn" <=100)
 rintro ρ M3 ⟨o1,o2,ds,rfl,hl,hw,hM,D3,F3⟩;rw[iU] at hl;have hl4:ds.length<=4:=by omega
 clear hl;simp? [↓cA];exact ed ?_;simp? [↓cA];exact#[d,l,12,rfl,D3,⋯,⋯,λwy M4 w0 w1 D4 b4=> ?_];have Oy:M4 u=some (.lst (ds.map fo)):=by rw[b4 u Dj];show hM
 have F4:=dr _ _ b4 F3;simp? [↓cA];exact ed (me (λρ M'=> ∃ds:cV (Str×Int),jX (ρ= [some (wr d),some (wr u),o1,o2,some (wi wy)]) (ds.length<=7) (∀y∈ds,y.1.length<=100) (M' u=some (.lst (ds.map fo))) (Dr M' d l) (Fs d M M')) ?_ λN hN=> ?_);clear Oy F4 hM D3 F3 hl4 hw;rintro ρ M5 ⟨ds,rfl,hl,hw,Ox,D5,F5⟩;exact me (λρ M'=> ∃ds:cV (Str×Int),jX (ρ= [some (wr d),some (wr u),o1,o2,some (wi wy)]) (ds.length<=8) (∀y∈ds,y.1.length<=100) (M' u=some (.lst (ds.map fo))) (Dr M' d l) (Fs d M M')) ?_ λN hN=> ?_;rintro ρ M6 ⟨ds,rfl,hl,hw,J_,D6,F6⟩;dsimp? [];show eC (k u ds M6 hu J_ (by omega) hw D6 F6);simp? [↓cA];exact dk (λh=> ?_) λh=>hN _ _ #[ds,rfl,by omega,hw,Ox,D5,F5];dsimp? [Ox,ai];exact#[d,l,_,rfl,D5,by omega,by omega,λj M6 j0 j1 D6 b6=> ?_];have J_:M6 u=some (.lst (ds.map fo)):=by rw[b6 u Dj];show Ox
 have F6:=dr _ _ b6 F5;dsimp? [];exact#[d,l,3,rfl,D6,⋯,⋯,λr M7 r0 r1 D7 b7=> ?_];have XW:M7 u=some (.lst (ds.map fo)):=by rw[b7 u Dj];show J_
 have F7:=dr _ _ b7 F6;dsimp? [];exact lv (λx=> ∃e:Str,x=ws e /\ e.length<=100) r0 (by change r< ((3:Nat):Int);omega) (λx hx=> ?_) ?_;simp![aS,List.not_mem_nil,or_false] at hx;obtain h | h | h:=hx <;>show#[_,h,by right];rintro _ ⟨v,rfl,hv⟩;let⟨jn,rfl⟩:=Int.eq_ofNat_of_zero_le j0;exact#[u,_,fo (v,1),jn,rfl,rfl,XW,nU (by rw[ai];omega),by rw[ai];omega,?_];have em:(ds.map fo).take jn++fo (v,1)::(ds.map fo).drop jn=(ds.take jn++(v,1)::ds.drop jn).map fo:=by rw[bn,aN,List.map_take,List.map_drop]
 rw[em];exact hN _ _ #[ds.take jn++(v,1)::ds.drop jn,rfl,by simp;omega,λy hy=> ?_,aq,(put _ _ D7 F7).1,(put _ _ D7 F7).2];obtain h' | h':=bh.mp hy;show hw y (List.mem_of_mem_take h');obtain h' | h':=aS.mp h';rw[h'];show hv;show hw y (List.mem_of_mem_drop h');simp? [↓cA];exact dk (λh=> ?_) λh=>hN _ _ #[ds,rfl,by omega,hw,Oy,D4,F4];dsimp? [Oy];exact#[⋯,d,l,12,rfl,D4,⋯,⋯,λj M5 j0 j1 D5 b5=> ?_];have Ox:M5 u=some (.lst (ds.map fo)):=by rw[b5 u Dj];show Oy
 have F5:=dr _ _ b5 F4;dsimp? [];exact lv (λx=> ∃e:Int,x=wi e) j0 (by change j< ((12:Nat):Int);omega) (λx hx=> ?_) ?_;simp![aS,List.not_mem_nil,or_false] at hx;obtain h | h | h | h | h | h | h | h | h | h | h | h:=hx <;>show#[_,h];rintro _ ⟨v,rfl⟩;dsimp? [Ox,sz (ds:=ds) (by omega)];have P6:=put M5 (.lst (ds.map fo++ [fo ("go",v)])) D5 F5;have J_:um M5 u (.lst (ds.map fo++ [fo ("go",v)])) u=some (.lst ((ds++ [(("go" :Str),v)]).map fo)):=by rw[aq,snoc]
 have w6:=wd (z:=("go",v)) hw (by change Str.length "go" <=100;decide+kernel);have l6:(ds++ [(("go" :Str),v)]).length<=5:=by simp;omega
 change tt _ _ (um M5 u (.lst (ds.map fo++ [fo ("go",v)]))) _;generalize um M5 u (.lst (ds.map fo++ [fo ("go",v)]))=M6 at P6 J_ ⊢;generalize ds++ [(("go" :Str),v)]=d6 at J_ w6 l6;let⟨D6,F6⟩:=P6;exact#[d,l,2,rfl,D6,⋯,⋯,λx7 M7 _ _ D7 b7=> ?_];have XW:M7 u=some (.lst (d6.map fo)):=by rw[b7 u Dj];show J_
 have F7:=dr _ _ b7 F6;dsimp? [XW,sz (ds:=d6) (by omega)];have P8:=put M7 (.lst (d6.map fo++ [fo ("turn",x7)])) D7 F7;have XU:um M7 u (.lst (d6.map fo++ [fo ("turn",x7)])) u=some (.lst ((d6++ [(("turn" :Str),x7)]).map fo)):=by rw[aq,snoc]
 have w8:=wd (z:=("turn",x7)) w6 (by change Str.length "turn" <=100;decide+kernel);have l8:(d6++ [(("turn" :Str),x7)]).length<=6:=by simp;omega
 change tt _ _ (um M7 u (.lst (d6.map fo++ [fo ("turn",x7)]))) _;generalize um M7 u (.lst (d6.map fo++ [fo ("turn",x7)]))=M8 at P8 XU ⊢;generalize d6++ [(("turn" :Str),x7)]=d8 at XU w8 l8;let⟨D8,F8⟩:=P8;exact#[d,l,5,rfl,D8,⋯,⋯,λx9 M9 x90 x91 D9 b9=> ?_];have hM9:M9 u=some (.lst (d8.map fo)):=by rw[b9 u Dj];show XU
 have F9:=dr _ _ b9 F8;dsimp? [];exact lv (λx=> ∃e:Int,x=wi e) x90 (by change x9< ((5:Nat):Int);omega) (λx hx=> ?_) ?_;simp![aS,List.not_mem_nil,or_false] at hx;obtain h | h | h | h | h:=hx <;>show#[_,h];rintro _ ⟨v9,rfl⟩;dsimp? [hM9,sz (ds:=d8) (by omega)];show hN _ _ #[d8++ [(("go" :Str),v9)],rfl,by simp;omega,wd (z:=("go",v9)) w8 (by change Str.length "go" <=100;decide+kernel),by rw[aq];show congrArg some (snoc d8 ("go",v9)),(put _ _ D9 F9).1,(put _ _ D9 F9).2]
def fX (T:e8 K mg A):bA P w K mg base eU 2 A.sQ A.sW ["_law_draw","_law_names_here"] (fF K vY):=by
 exists T.i7.fn,["_law_draw","_law_names_here"],(ag (bp (aQ di (ax T.cR (bH T) hr (aa (pv 0) (aa ah ae))) ah (a9 _)) (aj (aE (aD (show ce _ (bq K) from az) (aM (aa aB (aa aB (aa aB (aa aB (aa aB (aa aB (aa aB (aa aB (aa aB (aa aB ae))))))))))) (ax T.cR (bH T) hr (aa (pv 0) (aa ah ae))) (λ_ _=>rfl)))) aJ) (aj (aE (aD (show ce _ (iD K) from dA) (pv 1) (ax T.cR (bH T) hr (aa (pv 0) (aa (bt (fe (K:=K) rfl) (by rfl) T.li Boot.«len» (aa (pv 1) ae)) ae))) (λ_ _=>rfl)))))
 rintro vs M q ⟨d,l,nl,ns,rfl,hD,lP,wo,⟨n0,n1⟩,qM,k⟩;dsimp? [];exact#[d,l,15,rfl,hD,⋯,⋯,λm M2 m0 m1 D2 b2=> ?_];dsimp? [];exact dk (λh=> ?_) λh=> ?_;dsimp? [];exact#[⋯,d,l,10,rfl,D2,⋯,⋯,λj M3 j0 j1 D3 b3=> ?_];dsimp? [];exact lv (λx=> ∃e:Str,x=ws e /\ Nm e) j0 (by change j< ((10:Nat):Int);omega) (λx hx=> ?_) ?_;simp![aS,List.not_mem_nil,or_false] at hx;obtain h | h | h | h | h | h | h | h | h | h:=hx <;>show#[_,h,by right,by right];rintro _ ⟨v,rfl,hv⟩;show eC (k v _ hv D3 (NB.trans b2 b3));have Sb:M2 nl=some (.lst (ns.map ws)):=by rw[b2 nl wo];show lP
 dsimp? [Sb,ai];exact#[d,l,_,rfl,D2,by omega,by omega,λj M3 j0 j1 D3 b3=> ?_];have Xs:M3 nl=some (.lst (ns.map ws)):=by rw[b3 nl wo];show Sb
 let⟨z,hz⟩: ∃z,ns[j.toNat]? =some z:=#[_,aG (by omega)]
 have ek:hU (ns.map ws) j=some (ws z):=gu j0 (by rw[aH,hz];rfl);dsimp? [Xs,ek];show eC (k z _ (qM z (be hz)) D3 (NB.trans b2 b3))
def qt (T:e8 K mg A):bA P w K mg base eU 3 A.kK A.kX ["_law_draw","_law_names_here"] (fF K FO):=by
 exists T.nj.fn,["_law_draw","_law_names_here","_law_name","_law_one","_law_way"],(ag (a6 (i:=2) nd rfl (by trivial) (ax T.i7 (fX T) hr (aa (pv 0) (aa (pv 1) ae)))) (ag (a6 (i:=3) nd rfl (by trivial) (ax T.i7 (fX T) hr (aa (pv 0) (aa (pv 1) ae)))) (ag (a6 (i:=4) nd rfl (by trivial) (ax T.cR (bH T) hr (aa (pv 0) (aa ah ae)))) (ag (bp (aQ i5 (pv 4) ah (a9 _)) (aj (aE (aM (aa aB (aa (pv 2) (aa (ax T.no (qw T) hr (aa (pv 0) ae)) ae)))))) aJ) (ag (bp (aQ di (pv 4) ah (a9 _)) (aj (aE (aM (aa aB (aa (pv 2) (aa (aM (aa (pv 3) (aa (ax T.i7 (fX T) hr (aa (pv 0) (aa (pv 1) ae))) ae))) ae)))))) aJ) (ag (bp (aQ di (pv 4) ah (a9 _)) (aj (aE (aM (aa aB (aa (pv 2) (aa (aM (aa (pv 3) ae)) (aa (fU eG ah) ae))))))) aJ) (ag (bp (aQ di (pv 4) ah (a9 _)) (aj (aE (aM (aa aB (aa (pv 2) (aa (aM (aa (pv 3) ae)) (aa (aD (show ce _ (bq K) from az) (aM (aa (bS rT (ax T.cR (bH T) hr (aa (pv 0) (aa ah ae))) ah) (aa (bS rT (ax T.cR (bH T) hr (aa (pv 0) (aa ah ae))) ah) ae))) (ax T.cR (bH T) hr (aa (pv 0) (aa ah ae))) (λ_ _=>rfl)) ae))))))) aJ) (aj (aE (aM (aa aB (aa (pv 2) ae))))))))))))
 rintro vs M q ⟨d,l,nl,ns,rfl,hD,lP,wo,n0,qM,k⟩;have tg: ∀ (M':Mp) (q':WK),Dr M' d l ->NB d M M' ->(∀ (n:Str) (M2:Mp),Nm n ->Dr M2 d l ->NB d M M2 ->q' (ws n) M2) ->vY [wr d,wr nl] M' q':=λM' q' D' b' k'=>#[d,l,nl,ns,rfl,D',by rw[b' nl wo];show lP,wo,n0,qM,λn M2 hn D2 b2=>k' n M2 hn D2 (NB.trans b' b2)]
 have fs: ∀M':Mp,NB d M M' ->Fs d M M':=λM' b a o h n=>by rw[b a n];show h
 dsimp? [];exact tg M _ hD (λ_ _=>rfl) λn M1 hn D1 b1=> ?_;dsimp? [];exact tg M1 _ D1 b1 λx M2 hx D2 b2=> ?_;dsimp? [];exact#[d,l,8,rfl,D2,⋯,⋯,λwy M3 w0 w1 D3 b3=> ?_];replace b3:=NB.trans b2 b3;dsimp? [];exact dk (λh=> ?_) λh=> ?_;dsimp? [];exact#[d,l,rfl,D3,λu ds M4 hu hM hl hw D4 F4=> ?_];dsimp? [];show eC (k (.tell n ds) _ M4 #[u,rfl,hM] #[hn,hl,hw] (λa n' e=>by cases e;rw[<- b3 u (D3.ne hu).1];show hu) D4 (λa o h n=>F4 a o (by rw[b3 a n];show h) n));dsimp? [];exact dk (λh=> ?_) λh=> ?_;exact tg M3 _ D3 b3 λy M4 hy D4 b4=> ?_;dsimp? [];show eC (k (.join n x y) _ M4 rfl #[hn,hx,hy] (λa n' e=>nomatch e) D4 (fs _ b4));dsimp? [];exact dk (λh=> ?_) λh=> ?_;dsimp? [];show eC (k (.back n x) _ M3 rfl #[hn,hx] (λa n' e=>nomatch e) D3 (fs _ b3));dsimp? [];exact dk (λh=> ?_) λh=> ?_;dsimp? [];exact#[d,l,7,rfl,D3,⋯,⋯,λy1 M4 y0 y2 D4 b4=> ?_];dsimp? [];exact#[d,l,101,rfl,D4,⋯,⋯,λz1 M5 z0 z2 D5 b5=> ?_];dsimp? [];exact#[d,l,2,rfl,D5,⋯,⋯,λr M6 r0 r1 D6 b6=> ?_];dsimp? [];exact lv (λx=> ∃e:Int,cT (x=wi e) (-100<=e) (e<=100)) r0 (by change r< ((2:Nat):Int);omega) (λx hx=> ?_) ?_;simp![aS,List.not_mem_nil,or_false] at hx;obtain h | h:=hx <;>show#[_,h,by omega,by omega];rintro _ ⟨v,rfl,v0,v1⟩;dsimp? [];show eC (k (.times n x v) _ M6 rfl #[hn,hx,v0,v1] (λa n' e=>nomatch e) D6 (fs _ (NB.trans (NB.trans (NB.trans b3 b4) b5) b6)));dsimp? [];show eC (k (.drop n) _ M3 rfl hn (λa n' e=>nomatch e) D3 (fs _ b3))
def qv (T:e8 K mg A):bA P w K mg base eU 2 A.kM A.kZ ["_law_stand","_law_deed"] (fF K LI):=by
 exists T.nn.fn,["_law_stand","_law_deed","_law_names_here"],(ag (a6 (i:=2) nd rfl (by trivial) (eo (dF hr) (aD (show ce _ (bq K) from az) (pv 0) ah (λ_ _=>rfl)) (aD (show ce _ (bq K) from az) (pv 1) ah (λ_ _=>rfl)) (λ_ _=>rfl))) (ag (bp (aQ di (aD (show ce _ (bq K) from az) (pv 1) ah (λ_ _=>rfl)) aB (a9 _)) (ag (bp (aQ (lw (K:=K) rfl) (aD (show ce _ (bq K) from az) (pv 1) ah (λ_ _=>rfl)) (pv 2) (by rfl)) (aj (aE (aM (aa aB (aa (aM ae) ae))))) aJ) (aj (aE (aM (aa aB (aa (cO f8 (by rfl) T.iw Boot.«tuple» (aa (dL rfl (db.of (sc:=_) (N:= ["_law_stand","_law_deed","_law_names_here"]) (own:= ["_law_name"]) (fr:= [1]) (N':= ["_law_name","_law_deed"]) rfl rfl rfl (by right) rfl (by right) (by right) (by right) (by right) (bI rfl)) (mZ (K:=K) rfl (pv 2)) (λ_ _ _ _=>(a8 (i:=0) (by change(["_law_name","_law_deed"]:cV Str).Nodup;decide+kernel) rfl (by trivial))) d5 (λ_ _ _ _=>(qY (aQ rV (pv 0) (aD (show ce _ (bq K) from az) (pv 1) ah (λ_ _=>rfl)) (a9 _)))) (λ_ _ _ _=>(pv 0))) ae)) ae)))))) aJ) (ag (bp (l5 (i0 (dF hr) (aD (show ce _ (bq K) from az) (pv 1) ah (λ_ _=>rfl)) (aD (show ce _ (bq K) from az) (pv 0) ah (λ_ _=>rfl)))) (aj (aE (aM (aa aB (aa (aM ae) ae))))) aJ) (ag (bp (aQ (rX (K:=K) rfl) (aD (show ce _ (bq K) from az) (pv 1) ah (λ_ _=>rfl)) (pv 2) (by rfl)) (aj (aE (aM (aa aB (aa (aM ae) ae))))) aJ) (ag (bp (aQ xP (bt (fe (K:=K) rfl) (by rfl) T.li Boot.«len» (aa (pv 2) ae)) ah (a9 _)) (aj (aE (aM (aa aB (aa (aM ae) ae))))) aJ) (ag (bp (dw (ax T.BU (sf T) hr (aa (eo (dF hr) (aD (show ce _ (bq K) from az) (pv 0) ah (λ_ _=>rfl)) (aD (show ce _ (bq K) from az) (pv 1) ah (λ_ _=>rfl)) (λ_ _=>rfl)) (aa ah (aa ah ae))))) (aj (aE (aM (aa aB (aa (aM ae) ae))))) aJ) (aj (aE (aM (aa aB (aa (bS BH (pv 2) (aM (aa (aD (show ce _ (bq K) from az) (pv 1) ah (λ_ _=>rfl)) ae))) ae)))))))))))
 rintro vs M q ⟨r,t,R,T',d,w,l,rfl,⟨iq,ht⟩,⟨hm,hc⟩,hD,hg,⟨hl,hR⟩,kq,ke⟩;cases d with
 | found c=>cases hm
 | disband c=>cases hm
 | enlist c n=>
  cases hD;replace hg:cw T' c=some l:=hg;have bad: ∀f,l_ R l (.enlist c n)= .bad f -> ∃M0,Sm M0 M /\ q (.tup [ws (C4 f), .tup []]) M0:=λf h=>eC (ke f h);dsimp? [ht,cQ,hg,bG,k_enlist_dismiss,iq,bR];cases hx:cw R n with
  | none=>dsimp? [cX,bf];show bad .NoRound (by rw[l_,hx])
  | some a=>
  dsimp? [ca,aV];exact re ?_;cases hi:pM n l with
  | true=>dsimp? [];show bad .Taken (by rw[l_,hx];show am hi)
  | false=>
  have DF:¬pM n l=true:=by rw[hi];decide
  dsimp? [eQ,ai];by_cases h6:6<=l.length;have e6:decide ((6:Int) <=(l.length:Int))=true:=bC (by omega);dsimp? [e6];show bad .TooMany (by rw[l_,hx];dsimp only;rw[ak DF,am h6]);have e6:decide ((6:Int) <=(l.length:Int))=false:=aF (by omega);dsimp? [e6,iq,cQ,hx,bG];let⟨z,hz,_,rfl⟩:=eB hx;exact#[z.2,8,24,rfl,by have:=hR z hz;omega,?_];cases hf:f7 z.2 8 24 with
  | true=>dsimp? [];show bad .TooFar (by rw[l_,hx];dsimp only;rw[ak DF,ak h6,am hf])
  | false=>
   dsimp? [];exact#[big (by rw[ai];simp;omega),?_];have el:W.tup (l.map ws++ [ws n])=eQ (l++ [n]):=by unfold eQ;rw[bn];rfl
   rw[el];show eC (kq _ (by rw[l_,hx];dsimp only;rw[ak DF,ak h6,ak (by rw[hf];decide)]))
 | dismiss c n=>
  cases hD;replace hg:cw T' c=some l:=hg;dsimp? [ht,cQ,hg,bG,dm];exact md ?_;cases hi:pM n l with
  | false=>dsimp? [bf];show eC (ke .NoRound (by rw[l_];show am hi))
  | true=>dsimp? [aV,eQ];exact tf (λm=>decide (m≠n)) ws (big (by omega)) (λ_ _=>trivial) ?_ λu hu=> ?_;intro m hm M3 N3 s3 jU;dsimp? [];by_cases h:m=n;rw[aF ⇑h] at jU;rw[bC h];show jU;rw[bC h] at jU;rw[aF h];show jU;dsimp? [aq];show#[M,bw hu,kq _ (by rw[l_];show ak (by rw[hi];decide))]
def uc (T:e8 K mg A):bA P w K mg base eU 3 A.nC A.nN ["_law_stand","_law_deed"] (fF K Rl):=by
 exists T.sC.fn,["_law_stand","_law_deed","_law_crews","_law_told"],(ag (a6 (i:=2) nd rfl (by trivial) (cO jr (by rfl) T.wH Boot.«dict» (aa (aD (show ce _ (bq K) from az) (pv 0) ah (λ_ _=>rfl)) ae))) (ag (bp (aQ di (aD (show ce _ (bq K) from az) (pv 1) ah (λ_ _=>rfl)) aB (a9 _)) (ag (bp (dY (dw (ax T.oM (m_ T) hr (aa (aD (show ce _ (bq K) from az) (pv 1) ah (λ_ _=>rfl)) ae)))) (aj (aE (aM (aa aB (aa (pv 0) ae))))) aJ) (ag (bp (l5 (zT (dF hr) (aD (show ce _ (bq K) from az) (pv 1) ah (λ_ _=>rfl)) (pv 2))) (aj (aE (aM (aa aB (aa (pv 0) ae))))) aJ) (ag (ls (dF hr) (pv 2) (aD (show ce _ (bq K) from az) (pv 1) ah (λ_ _=>rfl)) (aM ae) rfl) (aj (aE (aM (aa aB (aa (aM (aa (aD (show ce _ (bq K) from az) (pv 0) ah (λ_ _=>rfl)) (aa (pv 2) ae))) ae)))))))) aJ) (ag (bp (l5 (i0 (dF hr) (aD (show ce _ (bq K) from az) (pv 1) ah (λ_ _=>rfl)) (pv 2))) (aj (aE (aM (aa aB (aa (pv 0) ae))))) aJ) (ag (bp (aQ di (aD (show ce _ (bq K) from az) (pv 1) ah (λ_ _=>rfl)) aB (a9 _)) (ag (bO (xM (pv 2) (aD (show ce _ (bq K) from az) (pv 1) ah (λ_ _=>rfl)) #[by rfl,by rfl,by rfl,by rfl])) (aj (aE (aM (aa aB (aa (aM (aa (aD (show ce _ (bq K) from az) (pv 0) ah (λ_ _=>rfl)) (aa (pv 2) ae))) ae)))))) aJ) (ag (a6 (i:=3) nd rfl (by trivial) (ax T.nn (qv T) hr (aa (pv 0) (aa (pv 1) ae)))) (ag (bp (aQ rV (aD (show ce _ (bq K) from az) (pv 3) ah (λ_ _=>rfl)) aB (a9 _)) (aj (aE (aM (aa (aD (show ce _ (bq K) from az) (pv 3) ah (λ_ _=>rfl)) (aa (pv 0) ae))))) aJ) (ag (ls (dF hr) (pv 2) (aD (show ce _ (bq K) from az) (pv 1) ah (λ_ _=>rfl)) (aD (show ce _ (bq K) from az) (pv 3) ah (λ_ _=>rfl)) rfl) (aj (aE (aM (aa aB (aa (aM (aa (aD (show ce _ (bq K) from az) (pv 0) ah (λ_ _=>rfl)) (aa (pv 2) ae))) ae))))))))))))
 rintro vs M q ⟨r,t,R,T',d,w,rfl,⟨iq,ht⟩,hc,hD,hT,hR,kq,ke⟩;dsimp? [ht];intro u hu;have st:=bw hu (o:= .dK (mx T'));have oY:um M u (.dK (mx T')) u=some (.dK (mx T')):=aq;have hsz:((mx T').length<sizeLine)=True:=aC (nU (by rw[mH];have:=hT.len;omega));have mem: ∀ (d:fj) (w:W) (q':WK),GB d ->zm d ->DA M (.c d) w -> ∀l,cw T' (Ks d)=some l ->(∀l',l_ R l d= .ok l' ->q' (.tup [ws "",eQ l']) (um M u (.dK (mx T')))) ->(∀f,l_ R l d= .bad f ->q' (.tup [ws (C4 f), .tup []]) (um M u (.dK (mx T')))) ->LI [.tup [wr r,wr t],w] (um M u (.dK (mx T'))) q':=λd w q' hm hc hD l hg h1 h2=>#[r,t,R,T',d,w,l,rfl,#[st _ _ iq,st _ _ ht],#[hm,hc],hD.sm st,hg,#[Cg hT hg,hR],h1,h2]
 change hold _ _ (um M u (.dK (mx T')));generalize um M u (.dK (mx T'))=M1 at st oY mem ⊢;have fin: ∀T2,cr R T' d= .ok T2 -> ∀M2,M2=um M1 u (.dK (mx T2)) -> ∃M0,Sm M0 M2 /\ q (.tup [ws "", .tup [wr r,wr u]]) M0:=λT2 h M2 e=>eC (kq T2 h u M2 (by rw[e];show st.um hu) (by rw[e];show aq));have bad: ∀f,cr R T' d= .bad f -> ∃M0,Sm M0 M1 /\ q (.tup [ws (C4 f), .tup [wr r,wr t]]) M0:=λf h=>#[M,st,ke f h]
 cases d with
 | found c=>
  cases hD;dsimp? [dm];exact#[c,rfl,hc,?_];cases jP:b8 c with
  | false=>dsimp? [bf];show bad .BadName (by rw[cr];show am jP)
  | true=>
  have mh:¬b8 c=false:=by rw[jP];decide
  dsimp? [aV,oY,cQ,bR];cases hg:cw T' c with
  | some l=>dsimp? [ca];show bad .Taken (by rw[cr,ak mh,hg])
  | none=>dsimp? [cX,oY,hsz];exact fin (gf T' c []) (by rw[cr,ak mh,hg]) _ ?_;show congrArg (λz=>um M1 u (.dK z)) (fO eQ T' c [])
 | disband c=>
  cases hD;dsimp? [k_disband_found,dm,oY,cQ,bR];cases hg:cw T' c with
  | none=>dsimp? [cX,bf];show bad .NoCrew (by rw[cr,hg])
  | some l=>dsimp? [ca,aV,dm,oY,cQ,hg,bG];exact fin (mn T' c) (by rw[cr,hg]) _ ?_;rw[nH]
 | enlist c n=>
  cases hD;dsimp? [k_enlist_found,k_enlist_disband,oY,cQ,bR];cases hg:cw T' c with
  | none=>dsimp? [cX,bf];show bad .NoCrew (by rw[cr,hg])
  | some l=>
   have ec:=yQ (R:=R) (d:= .enlist c n) trivial hg;dsimp? [ca,aV,k_enlist_disband];exact mem (.enlist c n) _ _ trivial hc rfl l hg (λl' h=> ?_) λf h=> ?_;have ef:decide (("" :Str)= "")=true:=by right
   dsimp? [ef,dm,oY,hsz];exact fin _ (by rw[ec,h]) _ ?_;rw[fO];rfl;have XI:decide (C4 f=Str.ofString "")=false:=aF (Lx f);dsimp? [XI,bf];show bad f (by rw[ec,h])
 | dismiss c n=>
  cases hD;dsimp? [k_dismiss_found,k_dismiss_disband,oY,cQ,bR];cases hg:cw T' c with
  | none=>dsimp? [cX,bf];show bad .NoCrew (by rw[cr,hg])
  | some l=>
   have ec:=yQ (R:=R) (d:= .dismiss c n) trivial hg;dsimp? [ca,aV,k_dismiss_disband];exact mem (.dismiss c n) _ _ trivial hc rfl l hg (λl' h=> ?_) λf h=> ?_;have ef:decide (("" :Str)= "")=true:=by right
   dsimp? [ef,dm,oY,hsz];exact fin _ (by rw[ec,h]) _ ?_;rw[fO];rfl;have XI:decide (C4 f=Str.ofString "")=false:=aF (Lx f);dsimp? [XI,bf];show bad f (by rw[ec,h])
def FX (T:e8 K mg A):bA P w K mg base eU 7 A.Cq A.CF ["_law_p_here","_law_stand","_law_deed"] (fF K Ro):=by
 exists T.LQ.fn,["_law_p_here","_law_stand","_law_deed"],(ag (bp (aQ (rX (K:=K) rfl) (aD (show ce _ (bq K) from az) (pv 2) ah (λ_ _=>rfl)) (aM (aa aB (aa aB (aa aB (aa aB ae))))) (by rfl)) (aj (aE (ax T.sC (uc T) hr (aa (pv 1) (aa (pv 2) ae))))) aJ) (aj (aE (ax T.pJ (si T) hr (aa (pv 0) (aa (pv 1) (aa (pv 2) ae)))))))
 rintro vs M q ⟨p,r,t,R,T',dd,w,rfl,hp,⟨iq,ht⟩,hS,⟨hD,Aj⟩,hO,kq,ke⟩;have inl: ∀ (x:Str) (M:Mp) (q':WK),q' (wb (pM x ["found","disband","enlist","dismiss"])) M ->TX false (ws x) (.tup [ws "found",ws "disband",ws "enlist",ws "dismiss"]) M q':=λx M q' h=>re (l:= ["found","disband","enlist","dismiss"]) h;cases dd with
 | r d=>
  let⟨cU,rfl⟩:=DV.head hD;have e0:hU (ws (kdOf d)::cU) 0=some (ws (kdOf d)):=gu ⋯ rfl;have e1:pM (kdOf d) ["found","disband","enlist","dismiss"]=false:=by cases d<;>(simp![kdOf];decide+kernel)
  dsimp? [e0];exact inl _ _ _ ?_;dsimp? [e1];exact#[p,r,t,R,T',d,_,rfl,hp,#[iq,ht],#[hS.r,hS.t],hD,hO,λR' ho hR r' M' s _ Xl=>eC ?_,λf ho=>eC (ke f (by rw[zq,ho]))];let⟨hk,hl⟩:=JD ho hS.k;show kq R' T' (by rw[zq,ho]) (λh _=>#[hR.2 h,hS.t,hk,hS.m]) #[hl,by omega] r' t M' s Xl (s _ _ ht)
 | c d=>
  let⟨kd,cU,rfl,e1⟩: ∃ (k:Str) (cU:cV W),w= .tup (ws k::cU) /\ pM k ["found","disband","enlist","dismiss"]=true:=by cases d<;>cases hD<;>show#[_,_,rfl,by right]
  have e0:hU (ws kd::cU) 0=some (ws kd):=gu ⋯ rfl;dsimp? [e0];exact inl _ _ _ ?_;dsimp? [e1];exact#[r,t,R,T',d,_,rfl,#[iq,ht],hO,hD,hS.t,λz hz=>by have:=(hS.r.ok z hz).2.1;omega,λT2 ho t' M' s Xb=>eC ?_,λf ho=>eC (ke f (by rw[zq,ho]))];let⟨hk,hl⟩:=Kq hO hS.t ho;show kq R T2 (by rw[zq,ho]) (λ_ h=>#[hS.r,hk h,hS.k,Kr hO hS.m ho]) #[by omega,hl] r t' M' s (s _ _ iq) Xb
 | _=>cases Aj
def FW (T:e8 K mg A):bA P w K mg base (gX P w) 7 A.Cn A.CB ["_law_book","_law_deed"] (qq K (Rg uh A.aW A.br (tw A))):=by
 have y8:bA P w K mg base (gX P w) 0 A.pU A.p9 ["self"] (qq K Ur):=FU;have y9:bA P w K mg base (gX P w) 0 A.pX A.qb ["self"] (qq K Ur):=FU;have pi:bA P w K mg base (gX P w) 0 A.ja A.jd ["self","k"] (qq K Ur):=FU;have y_:bA P w K mg base eU 0 A.pY A.qc ["self"] (fF K zW):=yu;exact zo T.LP.fn xw (by rintro vs M q e ⟨b,la,lu,lh,now,p,S,dd,w,rfl,_⟩;rfl) λcdv A' outer s H E e hr hF hP=> ?_;have nd:=xw.nd;exact#[_,(ag (bp (aQ di (aD (show ce _ (bq K) from az) (pv 1) ah (λ_ _=>rfl)) aB (a9 _)) (ag (a6 (i:=2) nd rfl (by trivial) (cO eM (by rfl) T.gR Boot.«list» (aa (aD (show ce _ (bq K) from az) (pv 1) ah (λ_ _=>rfl)) ae))) (ag (a6 (i:=3) nd rfl (by trivial) (cb hP T.vz (we T) (hr.mono ⋯) (pv 0) (aa (aD (show ce _ (bq K) from az) (pv 1) ah (λ_ _=>rfl)) (aa (pv 2) ae)))) (ag (bp (aQ (show iJ _ _ (xJ K) from oC (by show hr.O6)) (pv 2) (cO eM (by rfl) T.gR Boot.«list» (aa (aD (show ce _ (bq K) from az) (pv 1) ah (λ_ _=>rfl)) ae)) (a9 _)) (aj (aE aB)) aJ) (ag (bO (iZ bj bV bU dR (pv 2) (aa (aM (aa aB (aa ah ae))) ae))) (aj (aE (pv 3))))))) aJ) (ag (bp (aQ di (aD (show ce _ (bq K) from az) (pv 1) ah (λ_ _=>rfl)) aB (a9 _)) (aj (aE (cb hP T.nY (qy T) (hr.mono ⋯) (pv 0) (aa (aD (show ce _ (bq K) from az) (pv 1) ah (λ_ _=>rfl)) (aa (aD (show ce _ (bq K) from az) (aD (show ce _ (bq K) from az) (pv 1) ah (λ_ _=>rfl)) ah (λ_ _=>rfl)) (aa (aD (show ce _ (bq K) from az) (aD (show ce _ (bq K) from az) (pv 1) ah (λ_ _=>rfl)) ah (λ_ _=>rfl)) ae)))))) aJ) (ag (bp (aQ di (aD (show ce _ (bq K) from az) (pv 1) ah (λ_ _=>rfl)) aB (a9 _)) (aj (aE (cb hP T.n9 (qB T) (hr.mono ⋯) (pv 0) (aa (aD (show ce _ (bq K) from az) (pv 1) ah (λ_ _=>rfl)) (aa (aD (show ce _ (bq K) from az) (aD (show ce _ (bq K) from az) (pv 1) ah (λ_ _=>rfl)) ah (λ_ _=>rfl)) ae))))) aJ) (ag (bp (aQ di (aD (show ce _ (bq K) from az) (pv 1) ah (λ_ _=>rfl)) aB (a9 _)) (aj (aE (cb hP T.lY (oF T) (hr.mono ⋯) (pv 0) (aa (aD (show ce _ (bq K) from az) (pv 1) ah (λ_ _=>rfl)) (aa (aD (show ce _ (bq K) from az) (aD (show ce _ (bq K) from az) (pv 1) ah (λ_ _=>rfl)) ah (λ_ _=>rfl)) (aa (aD (show ce _ (bq K) from az) (pv 1) ah (λ_ _=>rfl)) ae)))))) aJ) (ag (bp (aQ di (aD (show ce _ (bq K) from az) (pv 1) ah (λ_ _=>rfl)) aB (a9 _)) (aj (aE (cb hP T.vA (wg T) (hr.mono ⋯) (pv 0) (aa (aD (show ce _ (bq K) from az) (pv 1) ah (λ_ _=>rfl)) ae)))) aJ) (ag (bp (aQ di (aD (show ce _ (bq K) from az) (pv 1) ah (λ_ _=>rfl)) aB (a9 _)) (aj (aE (cb hP T.tU (ue T) (hr.mono ⋯) (pv 0) (aa (aD (show ce _ (bq K) from az) (pv 1) ah (λ_ _=>rfl)) ae)))) aJ) (ag (bp (aQ di (aD (show ce _ (bq K) from az) (pv 1) ah (λ_ _=>rfl)) aB (a9 _)) (aj (aE (cb hP T.n6 (qA T) (hr.mono ⋯) (pv 0) (aa (aD (show ce _ (bq K) from az) (pv 1) ah (λ_ _=>rfl)) ae)))) aJ) (ag (bp (aQ di (aD (show ce _ (bq K) from az) (pv 1) ah (λ_ _=>rfl)) aB (a9 _)) (aj (aE (cb hP T.qj (sk T) (hr.mono ⋯) (pv 0) (aa (aD (show ce _ (bq K) from az) (pv 1) ah (λ_ _=>rfl)) (aa (aD (show ce _ (bq K) from az) (pv 1) ah (λ_ _=>rfl)) ae))))) aJ) (ag (bp (aQ di (aD (show ce _ (bq K) from az) (pv 1) ah (λ_ _=>rfl)) aB (a9 _)) (aj (aE (cb hP T.nZ (qz T) (hr.mono ⋯) (pv 0) (aa (aD (show ce _ (bq K) from az) (pv 1) ah (λ_ _=>rfl)) (aa (aD (show ce _ (bq K) from az) (pv 1) ah (λ_ _=>rfl)) ae))))) aJ) (ag (bp (aQ di (aD (show ce _ (bq K) from az) (pv 1) ah (λ_ _=>rfl)) aB (a9 _)) (aj (aE (uM hP T.Ev y8 (hr.mono ⋯) (pv 0)))) aJ) (ag (bp (aQ di (aD (show ce _ (bq K) from az) (pv 1) ah (λ_ _=>rfl)) aB (a9 _)) (aj (aE (uM hP T.Ew y9 (hr.mono ⋯) (pv 0)))) aJ) (ag (bp (aQ di (aD (show ce _ (bq K) from az) (pv 1) ah (λ_ _=>rfl)) aB (a9 _)) (aj (aE (oB T.Ey y_ (hr.mono ⋯) (pv 0)))) aJ) (aj (aE (cb hP T.tS pi (hr.mono ⋯) (pv 0) (aa (aD (show ce _ (bq K) from az) (pv 1) ah (λ_ _=>rfl)) ae)))))))))))))))),?_];try dsimp only[d0]
 exact#[_,inferInstance,?_];rintro vs M q ⟨b,la,lu,lh,now,p,S,dd,w,rfl,⟨hD,Aj⟩,XZ,hO,UU,Ow,kq,ke⟩;have hB:=UU.bk;have hS:=Ow.bk;let⟨dx,hb⟩:=hB.ob;have up: ∀C,e C M ->WL.up e C M:=λC h=>#[M,Sm.refl M,h]
 have pg2: ∀z:Rm×Tm,zq p S.R S.T dd= .ok z ->uh dd ->qk A.aW A.br M b la lh p now (S.past.map (·.1)) (S.held.map (·.1)) z.1 z.2 q:=λz h hi=>HA UU (kq _ _ (by rw[pF hi,h]));have pb2: ∀f,zq p S.R S.T dd= .bad f ->uh dd ->e (tw A f) M:=λf h hi=>ke f (by rw[pF hi,h]);cases dd with
 | r d=>
  have kq: ∀R',cc p S.R S.T d= .ok R' ->qk A.aW A.br M b la lh p now (S.past.map (·.1)) (S.held.map (·.1)) R' S.T q:=λR' h=>pg2 (R',S.T) (by rw[zq,h]) trivial;have ke: ∀f,cc p S.R S.T d= .bad f ->e (tw A f) M:=λf h=>pb2 f (by rw[zq,h]) trivial;cases d with
  | tell n ds=>let⟨c,rfl,hc⟩:=hD;exact IV rfl ?_;dsimp? [hc];intro h hh;have s1:Sm M (um M h (.lst (ds.map fo))):=bw hh;have nbh:=cC hb hh;dsimp? [aU nbh,hb,Ku];exact#[b,la,lu,lh,now,p,_,_,_,_,_, .tell n ds,_,rfl,#[n,h,ds,rfl,rfl,aq],hO,hB.sm s1,hS,λR' ho M' eR pg B' F rf sO=> ?_,λr ho=>#[M,s1,ke r ho]];have nah:=cC hB.pa hh;have LL:=cC hB.he hh;have nuh:h≠eR:=cC aq rf;have US:M' c=some (.lst (ds.map fo)):=F _ _ (s1 _ _ hc) (λz=>by subst z;rw[hb] at hc;cases hc) (λz=>by subst z;show XZ _ rfl);have Sn:M' h=some (.lst (ds.map fo)):=F _ _ aq nbh.symm nah.symm;dsimp? [US];intro g hg;exact oI (DR.list Hi (by rw[aU (cC Sn hg)];show Sn)) (DR.list Hi aq) (OH ds) rfl ?_;have hsz:((ds.map fo).length<sizeLine)=True:=aC (nU (by rw[ai];have:=hO.2;omega));dsimp? [aU (cC Sn hg),Sn,hsz];show#[Fq M' h,Jf (bw hg),kq R' ho _ eR pg (B'.Fq Sn nah nuh.symm LL) (F.Fq s1 hh) (s1.free rf) (s1.free sO)]
  | join n x y=>cases hD;exact jT rfl k_join_tell (IV rfl ?_);dsimp? [hb,Az];exact#[b,la,lu,lh,now,p,_,_,_,_,_, .join n x y,_,rfl,#[n,x,y,rfl,rfl],hO,hB,hS,λR' ho M' eR pg B' F rf sO=> ?_,λr ho=>up _ (ke r ho)];dsimp? [];show eC (kq R' ho M' eR pg B' F rf sO)
  | back n x=>cases hD;exact jT rfl k_back_tell (jT rfl k_back_join (IV rfl ?_));dsimp? [hb,AC];exact#[b,la,lu,lh,now,p,_,_,_,_,_, .back n x,_,rfl,#[n,x,rfl,rfl],hO,hB,hS,λR' ho M' eR pg B' F rf sO=> ?_,λr ho=>up _ (ke r ho)];dsimp? [];show eC (kq R' ho M' eR pg B' F rf sO)
  | times n x j=>cases hD;exact jT rfl k_times_tell (jT rfl k_times_join (jT rfl k_times_back (IV rfl ?_)));dsimp? [hb,yU];exact#[b,la,lu,lh,now,p,_,_,_,_,_, .times n x j,_,rfl,#[n,x,j,rfl,rfl],hO,hB,hS,λR' ho M' eR pg B' F rf sO=> ?_,λr ho=>up _ (ke r ho)];dsimp? [];show eC (kq R' ho M' eR pg B' F rf sO)
  | drop n=>cases hD;exact jT rfl k_drop_tell (jT rfl k_drop_join (jT rfl k_drop_back (jT rfl k_drop_times (IV rfl ?_))));dsimp? [hb,Kv];exact#[b,la,lu,lh,now,p,_,_,_,_,_, .drop n,_,rfl,#[n,rfl,rfl],hO,hB,hS,λR' ho M' eR pg B' F rf sO=> ?_,λr ho=>up _ (ke r ho)];dsimp? [];show eC (kq R' ho M' eR pg B' F rf sO)
 | c d=>
  have kq: ∀T',cr S.R S.T d= .ok T' ->qk A.aW A.br M b la lh p now (S.past.map (·.1)) (S.held.map (·.1)) S.R T' q:=λT' h=>pg2 (S.R,T') (by rw[zq,h]) trivial;have ke: ∀f,cr S.R S.T d= .bad f ->e (tw A f) M:=λf h=>pb2 f (by rw[zq,h]) trivial;have hT:=Ow.s.t;cases d with
  | found c=>cases hD;exact jT rfl k_found_tell (jT rfl k_found_join (jT rfl k_found_back (jT rfl k_found_times (jT rfl k_found_drop (IV rfl ?_)))));dsimp? [hb,Ht];exact#[b,la,lu,lh,now,p,_,_,_,_,_, .found c,_,rfl,#[c,rfl,rfl],hO,hB,hS,hT,λR' ho M' eR pg B' F rf sO=> ?_,λr ho=>up _ (ke r ho)];dsimp? [];show eC (kq R' ho M' eR pg B' F rf sO)
  | disband c=>cases hD;exact jT rfl k_disband_tell (jT rfl k_disband_join (jT rfl k_disband_back (jT rfl k_disband_times (jT rfl k_disband_drop (jT rfl k_disband_found (IV rfl ?_))))));dsimp? [hb,AB];exact#[b,la,lu,lh,now,p,_,_,_,_,_, .disband c,_,rfl,#[c,rfl,rfl],hO,hB,hS,hT,λR' ho M' eR pg B' F rf sO=> ?_,λr ho=>up _ (ke r ho)];dsimp? [];show eC (kq R' ho M' eR pg B' F rf sO)
  | enlist c n=>cases hD;exact jT rfl k_enlist_tell (jT rfl k_enlist_join (jT rfl k_enlist_back (jT rfl k_enlist_times (jT rfl k_enlist_drop (jT rfl k_enlist_found (jT rfl k_enlist_disband (IV rfl ?_)))))));dsimp? [hb,Eb];exact#[b,la,lu,lh,now,p,_,_,_,_,_, .enlist c n,_,rfl,#[c,n,rfl,rfl],hO,hB,hS,hT,λR' ho M' eR pg B' F rf sO=> ?_,λr ho=>up _ (ke r ho)];dsimp? [];show eC (kq R' ho M' eR pg B' F rf sO)
  | dismiss c n=>cases hD;exact jT rfl k_dismiss_tell (jT rfl k_dismiss_join (jT rfl k_dismiss_back (jT rfl k_dismiss_times (jT rfl k_dismiss_drop (jT rfl k_dismiss_found (jT rfl k_dismiss_disband (jT rfl k_dismiss_enlist (IV rfl ?_))))))));dsimp? [hb,AA];exact#[b,la,lu,lh,now,p,_,_,_,_,_, .dismiss c n,_,rfl,#[c,n,rfl,rfl],hO,hB,hS,hT,λR' ho M' eR pg B' F rf sO=> ?_,λr ho=>up _ (ke r ho)];dsimp? [];show eC (kq R' ho M' eR pg B' F rf sO)
 | _=>cases Aj
def Df (T:e8 K mg A):bA P w K mg base eU 8 A.yA A.yL ["_law_book","_law_deed"] (fF K (NA uh A.aW A.br)):=by
 exists T.Gi.fn,["_law_book","_law_deed","_law_told","_law_value_here"],(ag (a6 (i:=2) nd rfl (by trivial) aB) (ag (a6 (i:=3) nd rfl (by trivial) FG) (ag (Jh (iy:=3) rfl rfl T.LP (FW T) (hr.mono ⋯) (by rfl) (aa (pv 0) (aa (pv 1) ae)) nd rfl (by rfl) (yY.cons (by rfl) T.uz (λea=>(aj (a6 (i:=2) nd rfl (by trivial) aB))) (yY.cons (by rfl) T.w_ (λea=>(aj (a6 (i:=2) nd rfl (by trivial) aB))) (yY.cons (by rfl) T.og (λea=>(aj (a6 (i:=2) nd rfl (by trivial) aB))) (yY.cons (by rfl) T.xa (λea=>(aj (a6 (i:=2) nd rfl (by trivial) aB))) (yY.cons (by rfl) T.vB (λea=>(aj (a6 (i:=2) nd rfl (by trivial) aB))) (yY.cons (by rfl) T.AW (λea=>(aj (a6 (i:=2) nd rfl (by trivial) aB))) (yY.cons (by rfl) T.uy (λea=>(aj (a6 (i:=2) nd rfl (by trivial) aB))) (yY.cons (by rfl) T.mD (λea=>(aj (a6 (i:=2) nd rfl (by trivial) aB))) (yY.cons (by rfl) T.ED (λea=>(aj (a6 (i:=2) nd rfl (by trivial) aB))) (yY.cons (by rfl) T.CN (λea=>(aj (a6 (i:=2) nd rfl (by trivial) aB))) yY.nil))))))))))) (aj (aE (aM (aa (pv 2) (aa (pv 3) ae))))))))
 rintro vs M q ⟨b,la,lu,lh,now,p,S,dd,w,rfl,hD,XZ,hO,UU,Ow,kq,ke⟩;have hrf: ∀r,oA p now S dd= .bad r ->r≠ .NoMore /\ r≠ .NoState:=λr ho=>RA hD.2 ho;dsimp? [];exact#[b,la,lu,lh,now,p,S,dd,w,rfl,hD,XZ,hO,UU,Ow,λS' v ho M' eR Dk B' F rf=> ?_,λr ho ea Cb=> ?_];dsimp? [];show eC (kq S' v ho M' eR Dk B' F rf);have fin: ∃M0,Sm M0 (um M ea (.exc (tw A r))) /\ q (.tup [ws (C4 r),wn]) M0:=#[M,bw Cb,ke r ho]
 cases r with
 | NoMore=>show absurd rfl (hrf _ ho).1
 | NoState=>show absurd rfl (hrf _ ho).2
 | BadName=>exact qh ?_;dsimp? [];show fin
 | NoDeed=>exact dP T.oV (qh ?_);dsimp? [];show fin
 | NoRound=>exact dP T.nv (dP T.oU (qh ?_));dsimp? [];show fin
 | NoCrew=>exact dP T.oX (dP T.qJ (dP T.oW (qh ?_)));dsimp? [];show fin
 | Taken=>exact dP T.qI (dP T.sI (dP T.qH (dP T.sJ (qh ?_))));dsimp? [];show fin
 | InUse=>exact dP T.qL (dP T.sK (dP T.qK (dP T.sL (dP T.ui (qh ?_)))));dsimp? [];show fin
 | TooMany=>exact dP T.nu (dP T.oP (dP T.nr (dP T.oQ (dP T.qD (dP T.qE (qh ?_))))));dsimp? [];show fin
 | TooFar=>exact dP T.oT (dP T.qF (dP T.oS (dP T.qG (dP T.sG (dP T.sH (dP T.oR (qh ?_)))))));dsimp? [];show fin
def sj (T:e8 K mg A):bA P w K mg base eU 3 A.lS A.lW ["_law_draw","_law_names_here"] (fF K NC):=by
 exists T.pK.fn,["_law_draw","_law_names_here","_law_crew","_law_name","_law_way"],(ag (a6 (i:=2) nd rfl (by trivial) (aD (show ce _ (iD K) from dA) (pv 1) (ax T.cR (bH T) hr (aa (pv 0) (aa ah ae))) (λ_ _=>rfl))) (ag (bp (aQ di (ax T.cR (bH T) hr (aa (pv 0) (aa ah ae))) ah (a9 _)) (aj (a6 (i:=2) nd rfl (by trivial) (ax T.i7 (fX T) hr (aa (pv 0) (aa (pv 1) ae))))) aJ) (ag (a6 (i:=3) nd rfl (by trivial) (ax T.i7 (fX T) hr (aa (pv 0) (aa (pv 1) ae)))) (ag (a6 (i:=4) nd rfl (by trivial) (ax T.cR (bH T) hr (aa (pv 0) (aa ah ae)))) (ag (bp (aQ i5 (pv 4) ah (a9 _)) (aj (aE (aM (aa aB (aa (aD (show ce _ (bq K) from az) (aM (aa (pv 2) (aa (pv 2) (aa (pv 2) (aa (pv 3) ae))))) (ax T.cR (bH T) hr (aa (pv 0) (aa ah ae))) (λ_ _=>rfl)) ae))))) aJ) (ag (bp (aQ di (pv 4) ah (a9 _)) (aj (aE (aM (aa aB (aa (pv 2) ae))))) aJ) (ag (bp (aQ i5 (pv 4) ah (a9 _)) (aj (aE (aM (aa aB (aa (pv 2) (aa (pv 3) ae)))))) aJ) (aj (aE (aM (aa aB (aa (pv 2) (aa (pv 3) ae)))))))))))))
 rintro vs M q ⟨d,l,nl,ns,rfl,hD,lP,wo,⟨n0,n1⟩,qM,k⟩;have tg: ∀ (M':Mp) (q':WK),Dr M' d l ->NB d M M' ->(∀ (n:Str) (M2:Mp),Nm n ->Dr M2 d l ->NB d M M2 ->q' (ws n) M2) ->vY [wr d,wr nl] M' q':=λM' q' D' b' k'=>#[d,l,nl,ns,rfl,D',by rw[b' nl wo];show lP,wo,#[by omega,by omega],qM,λn M2 hn D2 b2=>k' n M2 hn D2 (NB.trans b' b2)]
 dsimp? [];exact#[d,l,2,rfl,hD,⋯,⋯,λj M1 j0 j1 D1 b1=> ?_];have Sc:M1 nl=some (.lst (ns.map ws)):=by rw[b1 nl wo];show lP
 let⟨z,hz⟩: ∃z,ns[j.toNat]? =some z:=#[_,aG (by omega)]
 have hzn:=qM z (be hz);have ek:hU (ns.map ws) j=some (ws z):=gu j0 (by rw[aH,hz];rfl);simp? [↓cA,Sc,ek];exact ed (me (λρ M'=> ∃c:Str,eT (ρ= [some (wr d),some (wr nl),some (ws c),none,none]) (Nm c) (Dr M' d l) (NB d M M')) ?_ λN hN=> ?_);clear D1 b1 Sc ek hzn hz;rintro ρ M2 ⟨c,rfl,hc,D2,b2⟩;dsimp? [];exact tg M2 _ D2 b2 λn M3 hn D3 b3=> ?_;dsimp? [];exact#[d,l,11,rfl,D3,⋯,⋯,λwy M4 w0 w1 D4 b4=> ?_];replace b4:=NB.trans b3 b4;dsimp? [];exact dk (λh=> ?_) λh=> ?_;dsimp? [];exact#[d,l,4,rfl,D4,⋯,⋯,λr M5 r0 r1 D5 b5=> ?_];dsimp? [];exact lv (λx=> ∃e:Str,x=ws e /\ Nm e) r0 (by change r< ((4:Nat):Int);omega) (λx hx=> ?_) ?_;simp![aS,List.not_mem_nil,or_false] at hx;obtain h | h | h | h:=hx;show#[c,h,hc];show#[c,h,hc];show#[c,h,hc];show#[n,h,hn];rintro _ ⟨v,rfl,hv⟩;dsimp? [];show eC (k (.found v) _ M5 rfl hv D5 (NB.trans b4 b5));dsimp? [];exact dk (λh=> ?_) λh=> ?_;dsimp? [];show eC (k (.disband c) _ M4 rfl hc D4 b4);dsimp? [];exact dk (λh=> ?_) λh=> ?_;dsimp? [];show eC (k (.enlist c n) _ M4 rfl #[hc,hn] D4 b4);dsimp? [];show eC (k (.dismiss c n) _ M4 rfl #[hc,hn] D4 b4);dsimp? [];exact#[d,l,12,rfl,D1,⋯,⋯,λr M2 r0 r1 D2 b2=> ?_];replace b2:=NB.trans b1 b2;dsimp? [];exact dk (λh=> ?_) λh=>hN _ _ #[z,rfl,hzn,D2,b2];exact tg M2 _ D2 b2 λn M3 hn D3 b3=> ?_;dsimp? [];show hN _ _ #[n,rfl,hn,D3,b3]
def Jo:fC:=λxs M q=>dQ λ(k:Int) (nl:gL) (ns:cV Str)=>jX (xs= [wi k,wr nl]) (M nl=some (.lst (ns.map ws))) (ns.length=8) (∀n∈ns,Nm n) (0<=k /\ k<17) (∀ (dd:gm) (w:W) (M':Mp),DA M' dd w ->uh dd ->PD dd ->(∀a n,w= .tup [ws "tell",n,wr a] ->M a=none) ->Sm M M' ->q w M')
def wc (T:e8 K mg A):bA P w K mg base eU 1 A.pR A.p6 ["_law_k","_law_names_here"] (fF K Jo):=by
 exists T.uS.fn,["_law_k","_law_names_here"],(ag (bp (aQ i5 (pv 0) ah (a9 _)) (aj (aE (aM (aa aB (aa (aD (show ce _ (iD K) from dA) (pv 1) (pv 0) (λ_ _=>rfl)) (aa (gK (aa (aM (aa aB (aa ah ae))) (aa (aM (aa aB (aa ah ae))) ae))) ae)))))) aJ) (ag (bp (aQ di (pv 0) ah (a9 _)) (aj (aE (aM (aa aB (aa (aD (show ce _ (iD K) from dA) (pv 1) ah (λ_ _=>rfl)) ae))))) aJ) (aj (aE (aM (aa aB (aa (aD (show ce _ (iD K) from dA) (pv 1) ah (λ_ _=>rfl)) (aa (aD (show ce _ (iD K) from dA) (pv 1) (bS rT (pv 0) ah) (λ_ _=>rfl)) ae))))))))
 rintro vs M q ⟨k,nl,ns,rfl,lP,n8,qM,⟨k0,k1⟩,kq⟩;have at_: ∀j:Int,0<=j ->j<8 -> ∃z,hU (ns.map ws) j=some (ws z) /\ Nm z:=λj j0 j1=>by
  let⟨z,hz⟩: ∃z,ns[j.toNat]? =some z:=#[_,aG (by omega)]
  show#[z,gu j0 (by rw[aH,hz];rfl),qM z (be hz)]
 dsimp? [];exact dk (λh=> ?_) λh=> ?_;let⟨z,ez,hz⟩:=at_ k k0 h;dsimp? [lP,ez];intro u hu;dsimp? [];show eC (kq (.r (.tell z [("go",1),("turn",1)])) _ _ #[u,rfl,aq] trivial #[hz,by simp,by simp![aS,List.not_mem_nil,or_false];rintro _ (rfl | rfl) <;>decide+kernel] (λa n e=>by cases e;show hu) (bw hu));dsimp? [];let⟨z,ez,hz⟩:=at_ 0 ⋯ ⋯;exact dk (λh=> ?_) λh2=> ?_;dsimp? [lP,ez];show eC (kq (.c (.found z)) _ _ rfl trivial hz (λa n e=>nomatch e) (Sm.refl M));let⟨z2,ez2,JZ⟩:=at_ (k - 9) (by omega) (by omega);dsimp? [lP,ez,ez2];show eC (kq (.c (.enlist z z2)) _ _ rfl trivial #[hz,JZ] (λa n e=>nomatch e) (Sm.refl M))
def NJ (T:e8 K mg A):bA P w K mg base eU 9 A.Mf A.Mj ["_law_script"] (xt K):=by
 have cl:=aC T.Book.cl;exact Rv T.law.fn Fj ⋯ λcdv A' outer s H E hr=> ?_;have nd:=Fj.nd;exact#[_,(ag (a6 (i:=1) nd rfl (by trivial) (ax T.BV (z6 T) hr (aa (pv 0) ae))) (ag (a6 (i:=2) nd rfl (by trivial) (ax T.l_p (NK T) hr (aa (pv 1) ae))) (ag (a6 (i:=3) nd rfl (by trivial) (ax T.BR (z4 T) hr (aa (pv 1) (aa ah ae)))) (ag (a6 (i:=4) nd rfl (by trivial) (iX T.Book (JB T) (hr.mono ⋯) (by rfl) (aa (pv 2) ae))) (ag (a6 (i:=5) nd rfl (by trivial) (aM (aa iY (aa iY ae)))) (ag (a6 (i:=6) nd rfl (by trivial) (ax T.cR (bH T) hr (aa (pv 1) (aa ah ae)))) (ag (a6 (i:=7) nd rfl (by trivial) (bS fM ah (ax T.cR (bH T) hr (aa (pv 1) (aa ah ae))))) (ag (gH PassesOwn.never rfl (fc (by rfl) T.ix (aa (bS dZ (pv 6) (pv 7)) ae)) (a8 (i:=8) nd rfl (by trivial)) (ag (a6 (i:=9) nd rfl (by trivial) (ax T.pK (sj T) hr (aa (pv 1) (aa (pv 3) ae)))) (ag (bp (kn (aQ i5 (pv 8) ah (a9 _)) (iE (aQ di (ax T.cR (bH T) hr (aa (pv 1) (aa ah ae))) ah (a9 _)))).pt (aj (a6 (i:=9) nd rfl (by trivial) (ax T.nj (qt T) hr (aa (pv 1) (aa (pv 3) ae))))) aJ) (ag (bp (aQ i5 (pv 8) (pv 7) (a9 _)) (aj (a6 (i:=9) nd rfl (by trivial) (ax T.uS (wc T) hr (aa (pv 8) (aa (pv 3) ae))))) aJ) (ag (a6 (i:=10) nd rfl (by trivial) (ax T.LQ (FX T) hr (aa (pv 2) (aa (pv 5) (aa (pv 9) ae))))) (ag (bp (aQ (show iJ _ _ (xJ K) from oC (by show hr.O6)) (ax T.Gi (Df T) hr (aa (pv 4) (aa (pv 9) ae))) (aM (aa (aD (show ce _ (bq K) from az) (pv 10) ah (λ_ _=>rfl)) (aa FG ae))) (a9 _)) (aj (aE ij)) aJ) (ag (a6 (i:=5) nd rfl (by trivial) (aD (show ce _ (bq K) from az) (pv 10) ah (λ_ _=>rfl))) (aj (bp (dY (dw (ax T.yc (xS T) hr (aa (pv 2) (aa (pv 4) (aa (pv 5) ae)))))) (aj (aE ij)) aJ))))))))) (aj (aE ij)))))))))),?_];try dsimp only[d0]
 exact#[_,inferInstance,?_];intro d l M hD;dsimp? [];exact#[d,l,rfl,hD,λp M1 hp D1 _=> ?_];dsimp? [];exact#[d,l,8,rfl,D1,⋯,⋯,λnl ns M2 lP hln qM wo nnl D2=> ?_];dsimp? [];rw[ln];dsimp? [];intro b dxb Pr XJ mB;exact#[b,dxb,p,rfl,hp,aq,λM4 la lu lh now B4 F4 Im wY J7 Ga=>#[rfl,?_]];have F4': ∀a o,M2 a=some o ->M4 a=some o:=λa o h=>F4 a o (by rw[aU (cC h Pr)];show h) (cC h Pr);have D4:Dr M4 d l:=G9 D2 F4';have Oi:=F4' _ _ lP;let⟨xd,UN⟩:=G' D2;let⟨xl,UM⟩:=SU D2;have fr: ∀ {a c:gL} {o:MO},um M2 b (.ins A.aW dxb []) a=none ->M2 c=some o ->a≠c:=λ{a c o} h1 h2 e=>by subst e;rw[aU (cC h2 Pr),h2] at h1;cases h1
 have ap: ∀ {c:gL} {o:MO},M2 c=some o ->Ap c la lu lh:=λh=>#[fr Im h,fr wY h,fr J7 h]
 have q1:=ap UN;have q2:=ap UM;have q3:=ap lP;have S4:AR A.aW A.br M4 b la lu lh p now #[[],[],[],[],[]]:=#[B4,nofun,nofun,nofun]
 clear fr ap Im wY J7 F4 F4' UN UM Pr XJ lP D2 D1 hD B4;dsimp? [];intro r iq;dsimp? [];intro t ht;have s5:=(bw iq (o:= .dK (tX []))).trans (bw ht (o:= .dK (mx [])));have Xj:um (um M4 r (.dK (tX []))) t (.dK (mx [])) r=some (.dK (tX [])):=bw ht _ _ aq;have Xa:um (um M4 r (.dK (tX []))) t (.dK (mx [])) t=some (.dK (mx [])):=aq;change hold _ _ (um (um M4 r (.dK (tX []))) t (.dK (mx [])));generalize um (um M4 r (.dK (tX []))) t (.dK (mx []))=M5 at s5 Xj Xa ⊢;have L5:Ld A.aW A.br p d l nl b r t la lu lh now ns #[[],[],[],[],[]] M5:=#[S4.sm s5,G9 D4 s5,s5 _ _ Oi,Xj,Xa]
 clear S4 D4 Oi s5 iq ht M4 Xj Xa;dsimp? [];exact#[d,l,31,rfl,L5.2,⋯,⋯,λm M6 m0 m1 D6 b6=> ?_];have L6:=L5.fs wo q1 D6 (λa o h n=>by rw[b6 a n];show h);clear L5 b6;dsimp? [];exact#[d,l,2,rfl,D6,⋯,⋯,λm2 M7 m20 m21 D7 b7=> ?_];have L7:=L6.fs wo q1 D7 (λa o h n=>by rw[b7 a n];show h);clear L6 b7 D6 D7;dsimp? [];exact#[.inl #[⋯,⋯],?_];dsimp? [];exact#[#[by omega,by omega],kI (λi ρ M'=>dQ λ(o1 o2 o3:fP W)=>Tc λ(r t la lu lh now:gL) (S:tF)=>jX (ρ= [none,some (wr d),some (wi p),some (wr nl),some (wr b),some (.tup [wr r,wr t]),some (wi m),some (wi (17*m2)),o1,o2,o3]) (Ld A.aW A.br p d l nl b r t la lu lh now ns S M') (cT (Ap d la lu lh) (Ap l la lu lh) (Ap nl la lu lh)) (yX p S.R S.T) (S.R.length<=i /\ S.T.length<=i) (cT (S.past.length<=i) (S.Lg.length<=i) (S.held.length<=i))) #[none,none,none,r,t,la,lu,lh,now,_,rfl,L7,#[q1,q2,q3],#[#[List.nodup_nil,by simp,by simp],#[List.nodup_nil,by simp,by simp,by simp],by simp,by simp],#[by simp,by simp],#[by simp,by simp,by simp]] (λ_ _ _ _ _=>trivial) ?_ ?_];clear L7 q1 q2 q3;rintro i x ρ M8 hx ⟨o1,o2,o3,r,t,la,lu,lh,now,S,rfl,L8,⟨q1,q2,q3⟩,hS,⟨hlR,hlT⟩,⟨l1,l2,l3⟩⟩ N hN;let⟨hi,rfl⟩:=iV hx;have fr: ∀ {M':Mp} {w:W},M' la=some (.lst (S.past.map λz=>wr z.1)) ->(∀a n,w= .tup [ws "tell",n,wr a] ->M' a=none) ->DN la w:=λ{M' w} h1 h n e=>by rw[h la n e] at h1;cases h1
 have la8: ∀ {M':Mp},Ld A.aW A.br p d l nl b r t la lu lh now ns S M' ->M' la=some (.lst (S.past.map λz=>wr z.1)):=λh=>by have:=h.1.bk.pa;rw[a4] at this;show this
 dsimp? [];exact#[d,l,nl,ns,rfl,L8.2,L8.3,wo,#[by omega,by omega],qM,λcd w8 M9 Ir hO D9 b9=> ?_];have L9:=L8.fs wo q1 D9 (λa o h n=>by rw[b9 a n];show h);clear L8 b9 D9;simp? [↓cA];exact ed (me (λρ M'=>cx λ(dd:gm) (w:W)=>fS (ρ= [none,some (wr d),some (wi p),some (wr nl),some (wr b),some (.tup [wr r,wr t]),some (wi m),some (wi (17*m2)),some (wi (0+(i:Int))),some w,o3]) (DA M' dd w /\ uh dd) (DN la w) (PD dd) (Ld A.aW A.br p d l nl b r t la lu lh now ns S M')) ?_ λN hN=> ?_);clear L9 Ir hO;rintro ρ M9 ⟨dd,w9,rfl,Ir,DJ,hO,L9⟩;exact me (λρ M'=>cx λ(dd:gm) (w:W)=>fS (ρ= [none,some (wr d),some (wi p),some (wr nl),some (wr b),some (.tup [wr r,wr t]),some (wi m),some (wi (17*m2)),some (wi (0+(i:Int))),some w,o3]) (DA M' dd w /\ uh dd) (DN la w) (PD dd) (Ld A.aW A.br p d l nl b r t la lu lh now ns S M')) ?_ λN hN=> ?_;clear L9 Ir hO DJ;rintro ρ M9 ⟨dd,w9,rfl,⟨Ir,Aj⟩,DJ,hO,L9⟩;have Ow:HD p S:=#[hp,hS,by omega,by omega,by omega]
 have Ff: ∀ {r t la lu lh now:gL} {S:tF} {M':Mp} {q':WK},Ld A.aW A.br p d l nl b r t la lu lh now ns S M' ->yX p S.R S.T ->q' (wb true) M' ->BE A.aW A.br [wi p,wr b, .tup [wr r,wr t]] M' q':=λ{r t la lu lh now S M' q'} L hS hq=>#[b,la,lu,lh,now,r,t,p,_,_,_,S.R,S.T,rfl,L.1.bk,L.4,hS.r,#[hS.t,hS.k],hq]
 dsimp? [];exact#[p,r,t,S.R,S.T,dd,w9,rfl,hp,L9.4,hS,#[Ir,Aj],hO,λR' T' ho sN hle r' t' M10 Pa Xl Xb=> ?_,λf ho=> ?_];have Ek:=L9.sm Pa;have sN:=sN (by omega) (by omega);dsimp? [];exact#[b,la,lu,lh,now,p,S,dd,w9,rfl,#[Ir.sm Pa,Aj],DJ,hO,Ek.1,Ow,λS' v GH M11 eR Dk B11 U' rf=> ?_,λf GH=> ?_];rw[pF Aj,ho] at GH;cases GH;dsimp? [];exact oI (d:= .tup [.str "", .dO]) (.inl rfl) (.inl rfl) ⋯ rfl ?_;let⟨xd,UN⟩:=G' Ek.2;let⟨xl,UM⟩:=SU Ek.2;have L11:Ld A.aW A.br p d l nl b r' t' la eR lh Dk ns _ M11:=#[B11,U'.dr Ek.1 Ek.2 q1 q2,U'.lst Ek.1 Ek.3 q3,U'.Mi Ek.1 Xl,U'.Mi Ek.1 Xb]
 dsimp? [];exact Ff L11 sN ?_;dsimp? [aV];show hN _ _ #[_,_,_,r',t',la,eR,lh,Dk,_,rfl,L11,#[q1.step UN rf,q2.step UM rf,q3.step Ek.3 rf],sN,#[by change R'.length<=i+1;omega,by change T'.length<=i+1;omega],#[by change(S.past++ [_]).length<=i+1;rw[aK];simp;omega,by simp,by change S.held.length<=i+1;omega]];rw[pF Aj,ho] at GH;cases GH;dsimp? [];exact#[b,la,lu,lh,now,p,S,dd,w9,rfl,#[Ir,Aj],DJ,hO,L9.1,Ow,λS' v GH=> ?_,λf' GH=> ?_];rw[pF Aj,ho] at GH;cases GH;rw[pF Aj,ho] at GH;cases GH;dsimp? [];exact oI (d:= .tup [.str (C4 f), .dO]) (.inl rfl) (.inl rfl) (by simp[rj,jQ]) rfl ?_;dsimp? [];exact Ff L9 hS ?_;dsimp? [aV];show hN _ _ #[_,_,_,r,t,la,lu,lh,now,S,rfl,L9,#[q1,q2,q3],hS,#[by omega,by omega],#[by omega,by omega,by omega]];dsimp? [];exact dk (λh=> ?_) λh=>hN _ _ #[dd,w9,rfl,Ir,DJ,hO,L9];dsimp? [];exact#[_,nl,ns,rfl,L9.3,by omega,qM,#[by omega,by omega],λdd w M' X0 Xi hO' hf s'=> ?_];dsimp? [];show hN _ _ #[dd,w,rfl,#[X0,Xi],fr (la8 L9) hf,hO',L9.sm s'];have take: ∀ {q':WK},(∀ (dd:dq) (w:W) (M':Mp),DV M' dd w ->AS dd ->DN la w ->Ld A.aW A.br p d l nl b r t la lu lh now ns S M' ->q' w M') -> ∀ {M':Mp},Ld A.aW A.br p d l nl b r t la lu lh now ns S M' ->FO [wr d,wr nl] M' q':=λ{q'} kk {M'} L=>#[d,l,nl,ns,rfl,L.2,L.3,wo,#[by omega,by omega],qM,λdd w M2 SA Sz hf D2 F2=>kk dd w M2 SA Sz (fr (la8 L) hf) (L.fs wo q1 D2 F2)]
 dsimp? [];by_cases h6:(0+(i:Int)) <6;have e6:decide ((0+(i:Int)) <6)=true:=bC h6;dsimp? [e6];exact take (λdd w M' SA Sz hf L=> ?_) L9;dsimp? [];show hN _ _ #[.r dd,w,rfl,#[SA,trivial],hf,Sz,L];have e6:decide ((0+(i:Int)) <6)=false:=aF h6;dsimp? [e6];exact#[d,l,4,rfl,L9.2,⋯,⋯,λj M10 j0 j1 D10 b10=> ?_];have Ek:=L9.fs wo q1 D10 (λa o h n=>by rw[b10 a n];show h);have SD:DA M10 (.c cd) w8:=by cases cd<;>show Ir
 dsimp? [];exact dk (λh=> ?_) λh=>hN _ _ #[.c cd,w8,rfl,#[SD,trivial],(λn e=>by cases cd<;>cases Ir<;>cases e),hO,Ek];dsimp? [];exact take (λdd w M' SA Sz hf L=> ?_) Ek;dsimp? [];show hN _ _ #[.r dd,w,rfl,#[SA,trivial],hf,Sz,L]
 .rintro ρ M7 ⟨o1,o2,o3,r,t,la,lu,lh,now,S,rfl,_⟩;dsimp? []
end
end eE
namespace eE
open PySem L2 WL WQ PyProof.Rows
theorem walk {l:W.OpenLaw}{q:RV}{uP:cV Str}{XP:(Str ->fP cW) ->X4 ->Prop}{YP:W4 ->X4 ->Prop}{d:DefRec}{K:Params ->RS}(hn:l.most=some 63)(Ot:d.params.defaults= []) (hY: ∀ (w:W4) (h:X4),YP w h ->(K w.params).In h) (nm:d.name= "law") (F: ∀ (w:W4) (mg:Str ->fP cW) (h:X4),(K w.params).In h ->h.Ns mainGlobals mg -> ∃A,e8 (K w.params) mg A): W.WalkO q uP XP YP l.row.toRowW d [] (λf vs=>PySem.call f vs):=L2.IF (n:=63) (k:=9) (x:= "_law_script") (CX:=λ_=>eU) (sp:=λw=>xt (K w.params)) hn ⋯ Ot #[rfl,⋯,⋯] hY (λw mg fa h X G e=>(F w mg h X G).elim λ_ T=>NV T.law (nm▸e) (λ_ _ _ _ _ _ _=>rfl) λ_=>NJ T) (λ_ _ a ns hl _ hS=>#[a,ns,rfl,hS,λ_=>rfl]) λ_ _ _ _ _ z=>z
end eE
end
def PySem.W.Fast.tw6342444435458634127:Nat:=0
def PySem.W.Fast.tw6697368036561059965:Nat:=0
def PySem.W.Fast.tw14749083232115755415:Nat:=0
def PySem.W.Fast.tw18224779131727844189:Nat:=0
def PySem.W.Fast.tw3655787700272077071:Nat:=0
def PySem.W.Fast.tw12383026672975381923:Nat:=0
def PySem.W.Fast.tw11559099801181563183:Nat:=0
def PySem.W.Fast.tw10130469729704859874:Nat:=0
def PySem.W.Fast.tw10445965332776479370:Nat:=0
def PySem.W.Fast.tw11213040826902426739:Nat:=0
def PySem.W.Fast.tw1889987738420633697:Nat:=0
def PySem.W.Fast.tw7171975336314447730:Nat:=0
def PySem.W.Fast.tw5611378122077804540:Nat:=0
def PySem.W.Fast.tw9314266068449390432:Nat:=0
def PySem.W.Fast.tw7561762428372870609:Nat:=0
def PySem.W.Fast.tw3225777942741496065:Nat:=0
def PySem.W.Fast.tw14443050999938463291:Nat:=0
def PySem.W.Fast.tw9953298813341691900:Nat:=0
def PySem.W.Fast.tw1486891306883601774:Nat:=0
def PySem.W.Fast.tw2252913936207974477:Nat:=0
def PySem.W.Fast.tw806413623825613047:Nat:=0
def PySem.W.Fast.tw10028906906742000472:Nat:=0
def PySem.W.Fast.tw2701708035272295612:Nat:=0
def PySem.W.Fast.tw18253458337305596099:Nat:=0
def PySem.W.Fast.tw13070544186419938891:Nat:=0
def PySem.W.Fast.tw7578754379184922095:Nat:=0
def PySem.W.Fast.tw449844372967253074:Nat:=0
def PySem.W.Fast.tw13751089490882806249:Nat:=0
def PySem.W.Fast.tw14931757277289447789:Nat:=0
def PySem.W.Fast.tw12663560906204833103:Nat:=0
def PySem.W.Fast.tw4865371828838991854:Nat:=0
def PySem.W.Fast.tw6531353954760361410:Nat:=0
def PySem.W.Fast.tw3994520957104359526:Nat:=0
def PySem.W.Fast.tw17761375666894195096:Nat:=0
def PySem.W.Fast.tw15590354883410668691:Nat:=0
def PySem.W.Fast.tw14346263093225042774:Nat:=0
def PySem.W.Fast.tw13811151962648178242:Nat:=0
def PySem.W.Fast.tw940045183515118520:Nat:=0
def PySem.W.Fast.tw1329052270143707944:Nat:=0
def PySem.W.Fast.tw5467700337142801939:Nat:=0
def PySem.W.Fast.tw8470170370472315044:Nat:=0
def PySem.W.Fast.tw13833319169111176718:Nat:=0
def PySem.W.Fast.tw1219153449517901876:Nat:=0
def PySem.W.Fast.tw11370642544485978478:Nat:=0
def PySem.W.Fast.tw8066269154147671077:Nat:=0
def PySem.W.Fast.tw17860741771145424620:Nat:=0
def PySem.W.Fast.tw18334302779486000475:Nat:=0
def PySem.W.Fast.tw7027015992540681320:Nat:=0
def PySem.W.Fast.tw7551888311306338954:Nat:=0
def PySem.W.Fast.tw10957774281035626624:Nat:=0
def PySem.W.Fast.tw7094992046795313367:Nat:=0
def PySem.W.Fast.tw12746689823225944266:Nat:=0
def PySem.W.Fast.tw2485153472713896443:Nat:=0
def PySem.W.Fast.tw7618769667123260616:Nat:=0
def PySem.W.Fast.tw15791491076645469143:Nat:=0
def PySem.W.Fast.tw7344061227130169910:Nat:=0
def PySem.W.Fast.tw10438358434881123357:Nat:=0
def PySem.W.Fast.tw14710207168935970456:Nat:=0
def PySem.W.Fast.tw13385008798274570079:Nat:=0
def PySem.W.Fast.tw6027826819825947402:Nat:=0
def PySem.W.Fast.tw13705128643435487792:Nat:=0
def PySem.W.Fast.tw3625482538309766158:Nat:=0
def PySem.W.Fast.tw10252821843437288716:Nat:=0
def PySem.W.Fast.tw1251702676447334954:Nat:=0
def PySem.W.Fast.tw15192384307115705228:Nat:=0
def PySem.W.Fast.tw4209258575546166201:Nat:=0
def PySem.W.Fast.tw15821463775702775663:Nat:=0
def PySem.W.Fast.tw16997219775324182115:Nat:=0
def PySem.W.Fast.tw8934104416111244952:Nat:=0
def PySem.W.Fast.tw7129653178730785418:Nat:=0
def PySem.W.Fast.tw8801457976056398949:Nat:=0
def PySem.W.Fast.tw9415381122040145009:Nat:=0
def PySem.W.Fast.tw13442202421292376288:Nat:=0
def PySem.W.Fast.tw643120226462044017:Nat:=0
def PySem.W.Fast.tw8879082263133757688:Nat:=0
def PySem.W.Fast.tw7465963274365114237:Nat:=0
def PySem.W.Fast.tw9211131422047519962:Nat:=0
def PySem.W.Fast.tw1151801884637710522:Nat:=0
def PySem.W.Fast.tw15564413933637716302:Nat:=0
def PySem.W.Fast.tw17130403721077637895:Nat:=0
def PySem.W.Fast.tw12147313389015827154:Nat:=0
def PySem.W.Fast.tw7050280601794396547:Nat:=0
def PySem.W.Fast.tw16482642441745862279:Nat:=0
def PySem.W.Fast.tw3460045098574754230:Nat:=0
def PySem.W.Fast.tw8423231310719226836:Nat:=0
def PySem.W.Fast.tw9782778290596439835:Nat:=0
def PySem.W.Fast.tw14886604189217349370:Nat:=0
def PySem.W.Fast.tw10374203362437605091:Nat:=0
def PySem.W.Fast.tw5164209070964872733:Nat:=0
def PySem.W.Fast.tw16891504957534331546:Nat:=0
def PySem.W.Fast.tw3386669413868578939:Nat:=0
def PySem.W.Fast.tw17477311393589343957:Nat:=0
def PySem.W.Fast.tw8742639339389813516:Nat:=0
def PySem.W.Fast.tw15428632408644151631:Nat:=0
def PySem.W.Fast.tw12528324007117223918:Nat:=0
def PySem.W.Fast.tw3417095271309517345:Nat:=0
def PySem.W.Fast.tw13174209967523019368:Nat:=0
def PySem.W.Fast.tw4897509432821546422:Nat:=0
def PySem.W.Fast.tw9996165107192625179:Nat:=0
def PySem.W.Fast.tw9124111206574773607:Nat:=0
def PySem.W.Fast.tw1902257238176930349:Nat:=0
def PySem.W.Fast.tw14429668170714462718:Nat:=0
def PySem.W.Fast.tw17261968797041156780:Nat:=0
def PySem.W.Fast.tw12214291914520009858:Nat:=0
def PySem.W.Fast.tw9631834793580082990:Nat:=0
def PySem.W.Fast.tw11919843440681005701:Nat:=0
def PySem.W.Fast.tw11983164765700548914:Nat:=0
def PySem.W.Fast.tw18210997087082749544:Nat:=0
def PySem.W.Fast.tw15512427050989821898:Nat:=0
def PySem.W.Fast.tw3690213008404880680:Nat:=0
def PySem.W.Fast.tw2292156337624623778:Nat:=0
def PySem.W.Fast.tw970148829919974855:Nat:=0
def PySem.W.Fast.tw5597630177339336707:Nat:=0
def PySem.W.Fast.tw15182634293657373455:Nat:=0
def PySem.W.Fast.tw981788463418623855:Nat:=0
def PySem.W.Fast.tw1022968263751175468:Nat:=0
def PySem.W.Fast.tw13780687008930065138:Nat:=0
def PySem.W.Fast.tw8662239725138253170:Nat:=0
def PySem.W.Fast.tw18397296836524326814:Nat:=0
def PySem.W.Fast.tw14201145959113471310:Nat:=0
def PySem.W.Fast.tw13670549894218960125:Nat:=0
def PySem.W.Fast.tw2263197561283620723:Nat:=0
def PySem.W.Fast.tw3947626504320572486:Nat:=0
def PySem.W.Fast.tw13266755141083996213:Nat:=0
def PySem.W.Fast.tw5555111150179693081:Nat:=0
def PySem.W.Fast.tw18384612154797271591:Nat:=0
def PySem.W.Fast.tw2458194368147154388:Nat:=0
def PySem.W.Fast.tw15438140726971140433:Nat:=0
def PySem.W.Fast.tw12067265641121416771:Nat:=0
def PySem.W.Fast.tw14665478586218347317:Nat:=0
def PySem.W.Fast.tw6776364287540363112:Nat:=0
def PySem.W.Fast.tw17503160644837668112:Nat:=0
def PySem.W.Fast.tw3827263287160982254:Nat:=0
def PySem.W.Fast.tw18394490972015579781:Nat:=0
def PySem.W.Fast.tw1694989468884698928:Nat:=0
def PySem.W.Fast.tw17847283248037091492:Nat:=0
def PySem.W.Fast.tw12395105782609135139:Nat:=0
def PySem.W.Fast.tw2950910749585788625:Nat:=0
def PySem.W.Fast.tw12141863686096419600:Nat:=0
def PySem.W.Fast.tw2999238188114717748:Nat:=0
def PySem.W.Fast.tw9277745417284811468:Nat:=0
def PySem.W.Fast.tw2316390011525569195:Nat:=0
def PySem.W.Fast.tw9694666991720881254:Nat:=0
def PySem.W.Fast.tw6820892874811270139:Nat:=0
def PySem.W.Fast.tw2558711022612272374:Nat:=0
def PySem.W.Fast.tw14290070810638563658:Nat:=0
def PySem.W.Fast.tw15919229758464270191:Nat:=0
def PySem.W.Fast.tw17187805128571938009:Nat:=0
def PySem.W.Fast.tw11157633410997088202:Nat:=0
def PySem.W.Fast.tw12891733268813805804:Nat:=0
def PySem.W.Fast.tw5058085557384703566:Nat:=0
def PySem.W.Fast.tw18009212008946588727:Nat:=0
def PySem.W.Fast.tw8607263341143198442:Nat:=0
def PySem.W.Fast.tw13023961245724092380:Nat:=0
def PySem.W.Fast.tw14222024210318643218:Nat:=0
def PySem.W.Fast.tw2342277591542721325:Nat:=0
def PySem.W.Fast.tw5850920936725678264:Nat:=0
def PySem.W.Fast.tw13196252454466398447:Nat:=0
def PySem.W.Fast.tw17150515450991834917:Nat:=0
def PySem.W.Fast.tw13664102463251655631:Nat:=0
def PySem.W.Fast.tw6823340687774224090:Nat:=0
def PySem.W.Fast.tw15604649885707821487:Nat:=0
def PySem.W.Fast.tw12332921980782694018:Nat:=0
def PySem.W.Fast.tw3832079128958891279:Nat:=0
def PySem.W.Fast.tw12905720150229418841:Nat:=0
def PySem.W.Fast.tw10498943119091388217:Nat:=0
def PySem.W.Fast.tw10223870190736097407:Nat:=0
def PySem.W.Fast.tw11533715179320512878:Nat:=0
def PySem.W.Fast.tw2300323697270368620:Nat:=0
def PySem.W.Fast.tw905862099814710007:Nat:=0
def PySem.W.Fast.tw11710214723653321994:Nat:=0
def PySem.W.Fast.tw10410548846805332908:Nat:=0
def PySem.W.Fast.tw17809992000184136671:Nat:=0
def PySem.W.Fast.tw1426019020070763833:Nat:=0
def PySem.W.Fast.tw1562709237198705342:Nat:=0
def PySem.W.Fast.tw17872701602643806400:Nat:=0
def PySem.W.Fast.tw152650049273430874:Nat:=0
def PySem.W.Fast.tw2658400522549153546:Nat:=0
def PySem.W.Fast.tw4076160051643492312:Nat:=0
def PySem.W.Fast.tw17598541170696737657:Nat:=0
def PySem.W.Fast.tw12548784955533286082:Nat:=0
def PySem.W.Fast.tw11234272219119712081:Nat:=0
def PySem.W.Fast.tw14085982736265181888:Nat:=0
def PySem.W.Fast.tw17924937821933480863:Nat:=0
def PySem.W.Fast.tw9835709425374501917:Nat:=0
def PySem.W.Fast.tw3975650603374976872:Nat:=0
def PySem.W.Fast.tw7731569982514209058:Nat:=0
def PySem.W.Fast.tw13377891446068879619:Nat:=0
def PySem.W.Fast.tw7086221969297923872:Nat:=0
def PySem.W.Fast.tw11547097124746650837:Nat:=0
def PySem.W.Fast.tw15549238905265026988:Nat:=0
def PySem.W.Fast.tw12752186630389545919:Nat:=0
def PySem.W.Fast.tw10601888268260814679:Nat:=0
def PySem.W.Fast.tw522292957386997854:Nat:=0
def PySem.W.Fast.tw1867043935660476372:Nat:=0
def PySem.W.Fast.tw9661538295918811458:Nat:=0
def PySem.W.Fast.tw3002387405759660756:Nat:=0
def PySem.W.Fast.tw18038168116313098056:Nat:=0
def PySem.W.Fast.tw6593232080860488142:Nat:=0
def PySem.W.Fast.tw12775897176398168043:Nat:=0
def PySem.W.Fast.tw15282434787730924882:Nat:=0
def PySem.W.Fast.tw16686568888820632816:Nat:=0
def PySem.W.Fast.tw7971353372576580197:Nat:=0
def PySem.W.Fast.tw12575819997442048397:Nat:=0
def PySem.W.Fast.tw14897071939173164365:Nat:=0
def PySem.W.Fast.tw1719431915607452420:Nat:=0
def PySem.W.Fast.tw14799028659448844511:Nat:=0
def PySem.W.Fast.tw2643249906406712742:Nat:=0
def PySem.W.Fast.tw6288713354462589689:Nat:=0
def PySem.W.Fast.tw6611244302776937285:Nat:=0
def PySem.W.Fast.tw4913355846064948524:Nat:=0
def PySem.W.Fast.tw8188229000680987603:Nat:=0
def PySem.W.Fast.tw7620845859643086300:Nat:=0
def PySem.W.Fast.tw4805838483219385206:Nat:=0
def PySem.W.Fast.tw4057673661336695209:Nat:=0
def PySem.W.Fast.tw1592473425055946824:Nat:=0
def PySem.W.Fast.tw6913339119705438439:Nat:=0
def PySem.W.Fast.tw8612996560074012032:Nat:=0
def PySem.W.Fast.tw6122995184092970228:Nat:=0
def PySem.W.Fast.tw9511657638370774376:Nat:=0
def PySem.W.Fast.tw4597052924907461093:Nat:=0
def PySem.W.Fast.tw1042136514008443997:Nat:=0
def PySem.W.Fast.tw1237636192628159692:Nat:=0
def PySem.W.Fast.tw15443423368876681459:Nat:=0
def PySem.W.Fast.tw4207024698583393519:Nat:=0
def PySem.W.Fast.tw7208341009512064551:Nat:=0
def PySem.W.Fast.tw6282880487063150316:Nat:=0
def PySem.W.Fast.tw3017318340147152568:Nat:=0
def PySem.W.Fast.tw11522372061990187715:Nat:=0
def PySem.W.Fast.tw2573230944327543052:Nat:=0
def PySem.W.Fast.tw12202311496160351406:Nat:=0
def PySem.W.Fast.tw17713816243352405451:Nat:=0
def PySem.W.Fast.tw5519792849523103107:Nat:=0
def PySem.W.Fast.tw9698632634093275894:Nat:=0
def PySem.W.Fast.tw4950810132228012754:Nat:=0
def PySem.W.Fast.tw7254665910696601539:Nat:=0
def PySem.W.Fast.tw6958748946741151703:Nat:=0
def PySem.W.Fast.tw12223473347110194126:Nat:=0
def PySem.W.Fast.tw9171026761926990319:Nat:=0
def PySem.W.Fast.tw2165291800901586656:Nat:=0
def PySem.W.Fast.tw4930521892040486086:Nat:=0
def PySem.W.Fast.tw7042312017763171808:Nat:=0
def PySem.W.Fast.tw2555708439326909629:Nat:=0
def PySem.W.Fast.tw14920250878554684695:Nat:=0
def PySem.W.Fast.tw15444024142344675260:Nat:=0
def PySem.W.Fast.tw3101405103477159430:Nat:=0
def PySem.W.Fast.tw16939972378507240286:Nat:=0
def PySem.W.Fast.tw16479745082062349315:Nat:=0
def PySem.W.Fast.tw11338877421607563089:Nat:=0
def PySem.W.Fast.tw13912549939599628778:Nat:=0
def PySem.W.Fast.tw9819171770114225667:Nat:=0
def PySem.W.Fast.tw10285074173986900682:Nat:=0
def PySem.W.Fast.tw3959150926355630979:Nat:=0
def PySem.W.Fast.tw12571889694073929818:Nat:=0
def PySem.W.Fast.tw7979245870269262228:Nat:=0
def PySem.W.Fast.tw8310646524061521695:Nat:=0
def PySem.W.Fast.tw18231481632897426552:Nat:=0
def PySem.W.Fast.tw18372063602123465916:Nat:=0
def PySem.W.Fast.tw16245933578199155051:Nat:=0
def PySem.W.Fast.tw1919305329123286881:Nat:=0
def PySem.W.Fast.tw16249154448409808126:Nat:=0
def PySem.W.Fast.tw14560015686683766203:Nat:=0
open PySem PySem.W PyProof.Rows L2
set_option maxRecDepth 100000 in
set_option maxHeartbeats 0 in
theorem PySem.Challenge.cw_duskround_k45_crews_of_a_book_holds : PySem.Challenge.rw_duskround_k45_crews_of_a_book.Holds := by
 w_on;o_law;k_head;(case hw=>w_witness2)
 k_fill
 refine eE.walk (l:=PySem.Challenge.rw_duskround_k45_crews_of_a_book) rfl rfl (λw h Y=>PySem.W.kIn_of Y) rfl λw mg h X G=> ?_
 have' OS:=bQ (x:= "tidy") (ps:= ["p","pairs"]) (st:=eE.zL) X G ?g13 ?g14 ?g15 ?g16;(case g13 | g14 | g15 | g16=>k_is);have' KS:=bQ (x:= "added") (ps:= ["p","one","other"]) (st:=eE.Bl) X G ?g17 ?g18 ?g19 ?g20;(case g17 | g18 | g19 | g20=>k_is);have' KJ:=bQ (x:= "moved") (ps:= ["pattern","by"]) (st:=eE.vL) X G ?g21 ?g22 ?g23 ?g24;(case g21 | g22 | g23 | g24=>k_is);have' KI:=bQ (x:= "timed") (ps:= ["p","pattern","n"]) (st:=eE.vK) X G ?g25 ?g26 ?g27 ?g28;(case g25 | g26 | g27 | g28=>k_is);have' OT:=bQ (x:= "gone") (ps:= ["p","deeds"]) (st:=eE.zM) X G ?g29 ?g30 ?g31 ?g32;(case g29 | g30 | g31 | g32=>k_is);have' HS:=bQ (x:= "joined") (ps:= ["p","one","other"]) (st:=eE.xD) X G ?g33 ?g34 ?g35 ?g36;(case g33 | g34 | g35 | g36=>k_is);have' AM:=bQ (x:= "backward") (ps:= ["p","one"]) (st:=eE.rQ) X G ?g37 ?g38 ?g39 ?g40;(case g37 | g38 | g39 | g40=>k_is);have' AJ:=bQ (x:= "repeated") (ps:= ["p","one","n"]) (st:=eE.gA) X G ?g41 ?g42 ?g43 ?g44;(case g41 | g42 | g43 | g44=>k_is);have' uu:=bQ (x:= "lies_within") (ps:= ["one","farthest_end","farthest_place"]) (st:=eE.iA) X G ?g45 ?g46 ?g47 ?g48;(case g45 | g46 | g47 | g48=>k_is);have' zd:=bQ (x:= "fits_crew") (ps:= ["one"]) (st:=eE.pB) X G ?g49 ?g50 ?g51 ?g52;(case g49 | g50 | g51 | g52=>k_is);have' wR:=bQ (x:= "check_name") (ps:= ["name"]) (st:=eE.jj) X G ?g53 ?g54 ?g55 ?g56;(case g53 | g54 | g55 | g56=>k_is);have' wO:=bQ (x:= "with_thing") (ps:= ["things","name","thing"]) (st:=eE.mP) X G ?g57 ?g58 ?g59 ?g60;(case g57 | g58 | g59 | g60=>k_is);have' El:=bQ (x:= "without") (ps:= ["things","name"]) (st:=eE.uI) X G ?g61 ?g62 ?g63 ?g64;(case g61 | g62 | g63 | g64=>k_is);have' AN:=Hk (x:= "Page") (ps:= ["self","rounds","teams"]) (st:=eE.Fl) X G ?g65 ?g66 ?g67 ?g68 ?g69 ?g70 ?g71 ?g72 ?g73 ?g74 ?g75 ?g76;(case g65 | g66 | g67 | g68 | g69 | g70 | g71 | g72 | g73 | g74 | g75 | g76=>k_is);have' c7:=Hk (x:= "Book") (ps:= ["self","p"]) (st:=eE.Fm) X G ?g77 ?g78 ?g79 ?g80 ?g81 ?g82 ?g83 ?g84 ?g85 ?g86 ?g87 ?g88;(case g77 | g78 | g79 | g80 | g81 | g82 | g83 | g84 | g85 | g86 | g87 | g88=>k_is);have' tL:=dH (m:= "turn_to") (ps:= ["self","page"]) (st:=eE.ki) c7 ?g89 ?g90 ?g91 ?g92 ?g93;(case g89 | g90 | g91 | g92 | g93=>k_is);have' AO:=dH (m:= "put") (ps:= ["self","name","one"]) (st:=eE.l4) c7 ?g94 ?g95 ?g96 ?g97 ?g98;(case g94 | g95 | g96 | g97 | g98=>k_is);have' qT:=dH (m:= "put_team") (ps:= ["self","crew","team"]) (st:=eE.jC) c7 ?g99 ?g100 ?g101 ?g102 ?g103;(case g99 | g100 | g101 | g102 | g103=>k_is);have' qU:=dH (m:= "enlisted") (ps:= ["self","name"]) (st:=eE.jD) c7 ?g104 ?g105 ?g106 ?g107 ?g108;(case g104 | g105 | g106 | g107 | g108=>k_is);have' zg:=dH (m:= "team") (ps:= ["self","crew"]) (st:=eE.kl) c7 ?g109 ?g110 ?g111 ?g112 ?g113;(case g109 | g110 | g111 | g112 | g113=>k_is);have' zf:=dH (m:= "tell") (ps:= ["self","name","deeds"]) (st:=eE.kj) c7 ?g114 ?g115 ?g116 ?g117 ?g118;(case g114 | g115 | g116 | g117 | g118=>k_is);have' tN:=dH (m:= "join_as") (ps:= ["self","name","one","other"]) (st:=eE.gC) c7 ?g119 ?g120 ?g121 ?g122 ?g123;(case g119 | g120 | g121 | g122 | g123=>k_is);have' tQ:=dH (m:= "back_as") (ps:= ["self","name","one"]) (st:=eE.gF) c7 ?g124 ?g125 ?g126 ?g127 ?g128;(case g124 | g125 | g126 | g127 | g128=>k_is);have' qR:=dH (m:= "times_as") (ps:= ["self","name","one","n"]) (st:=eE.gc) c7 ?g129 ?g130 ?g131 ?g132 ?g133;(case g129 | g130 | g131 | g132 | g133=>k_is);have' zj:=dH (m:= "drop") (ps:= ["self","name"]) (st:=eE.km) c7 ?g134 ?g135 ?g136 ?g137 ?g138;(case g134 | g135 | g136 | g137 | g138=>k_is);have' wT:=dH (m:= "found") (ps:= ["self","crew"]) (st:=eE.jk) c7 ?g139 ?g140 ?g141 ?g142 ?g143;(case g139 | g140 | g141 | g142 | g143=>k_is);have' tP:=dH (m:= "disband") (ps:= ["self","crew"]) (st:=eE.gE) c7 ?g144 ?g145 ?g146 ?g147 ?g148;(case g144 | g145 | g146 | g147 | g148=>k_is);have' ux:=dH (m:= "enlist") (ps:= ["self","crew","name"]) (st:=eE.iB) c7 ?g149 ?g150 ?g151 ?g152 ?g153;(case g149 | g150 | g151 | g152 | g153=>k_is);have' tO:=dH (m:= "dismiss") (ps:= ["self","crew","name"]) (st:=eE.gD) c7 ?g154 ?g155 ?g156 ?g157 ?g158;(case g154 | g155 | g156 | g157 | g158=>k_is);have' ze:=dH (m:= "undo") (ps:= ["self"]) (st:=eE.kh) c7 ?g159 ?g160 ?g161 ?g162 ?g163;(case g159 | g160 | g161 | g162 | g163=>k_is);have' zh:=dH (m:= "redo") (ps:= ["self"]) (st:=eE.pC) c7 ?g164 ?g165 ?g166 ?g167 ?g168;(case g164 | g165 | g166 | g167 | g168=>k_is);have' zi:=dH (m:= "hold") (ps:= ["self"]) (st:=eE.pD) c7 ?g169 ?g170 ?g171 ?g172 ?g173;(case g169 | g170 | g171 | g172 | g173=>k_is);have' pj:=dH (m:= "return_to") (ps:= ["self","k"]) (st:=eE.iT) c7 ?g174 ?g175 ?g176 ?g177 ?g178;(case g174 | g175 | g176 | g177 | g178=>k_is);have' wS:=dH (m:= "names") (ps:= ["self"]) (st:=eE.mS) c7 ?g179 ?g180 ?g181 ?g182 ?g183;(case g179 | g180 | g181 | g182 | g183=>k_is);have' wV:=dH (m:= "crews") (ps:= ["self"]) (st:=eE.mT) c7 ?g184 ?g185 ?g186 ?g187 ?g188;(case g184 | g185 | g186 | g187 | g188=>k_is);have' qS:=dH (m:= "round_of") (ps:= ["self","name"]) (st:=eE.gd) c7 ?g189 ?g190 ?g191 ?g192 ?g193;(case g189 | g190 | g191 | g192 | g193=>k_is);have' tM:=dH (m:= "members") (ps:= ["self","crew"]) (st:=eE.gB) c7 ?g194 ?g195 ?g196 ?g197 ?g198;(case g194 | g195 | g196 | g197 | g198=>k_is);have' Ep:=bQ (x:= "_law_begin") (ps:= ["_law_script"]) (st:=eE.oq) X G ?g199 ?g200 ?g201 ?g202;(case g199 | g200 | g201 | g202=>k_is);have' HN:=bQ (x:= "_law_take") (ps:= ["_law_draw","_law_many"]) (st:=eE.xz) X G ?g203 ?g204 ?g205 ?g206;(case g203 | g204 | g205 | g206=>k_is);have' Tq:=bQ (x:= "_law_p") (ps:= ["_law_draw"]) (st:=eE.Lr) X G ?g207 ?g208 ?g209 ?g210;(case g207 | g208 | g209 | g210=>k_is);have' Eo:=bQ (x:= "_law_names") (ps:= ["_law_draw","_law_many"]) (st:=eE.uL) X G ?g211 ?g212 ?g213 ?g214;(case g211 | g212 | g213 | g214=>k_is);have' HM:=bQ (x:= "_law_tidy") (ps:= ["_law_p_here","_law_pairs"]) (st:=eE.xy) X G ?g215 ?g216 ?g217 ?g218;(case g215 | g216 | g217 | g218=>k_is);have' KL:=bQ (x:= "_law_sum") (ps:= ["_law_p_here","_law_one","_law_other","_law_by","_law_many"]) (st:=eE.Bg) X G ?g219 ?g220 ?g221 ?g222;(case g219 | g220 | g221 | g222=>k_is);have' HP:=bQ (x:= "_law_join") (ps:= ["_law_p_here","_law_one","_law_other"]) (st:=eE.xA) X G ?g223 ?g224 ?g225 ?g226;(case g223 | g224 | g225 | g226=>k_is);have' HR:=bQ (x:= "_law_back") (ps:= ["_law_p_here","_law_one"]) (st:=eE.xC) X G ?g227 ?g228 ?g229 ?g230;(case g227 | g228 | g229 | g230=>k_is);have' En:=bQ (x:= "_law_times") (ps:= ["_law_p_here","_law_one","_law_n"]) (st:=eE.uK) X G ?g231 ?g232 ?g233 ?g234;(case g231 | g232 | g233 | g234=>k_is);have' zc:=bQ (x:= "_law_is_name") (ps:= ["_law_name"]) (st:=eE.pA) X G ?g235 ?g236 ?g237 ?g238;(case g235 | g236 | g237 | g238=>k_is);have' KP:=bQ (x:= "_law_far") (ps:= ["_law_one","_law_most","_law_reach"]) (st:=eE.Bi) X G ?g239 ?g240 ?g241 ?g242;(case g239 | g240 | g241 | g242=>k_is);have' HL:=bQ (x:= "_law_walk") (ps:= ["_law_p_here","_law_deeds"]) (st:=eE.xx) X G ?g243 ?g244 ?g245 ?g246;(case g243 | g244 | g245 | g246=>k_is);have' Em:=bQ (x:= "_law_value") (ps:= ["_law_p_here","_law_rounds","_law_deed"]) (st:=eE.uJ) X G ?g247 ?g248 ?g249 ?g250;(case g247 | g248 | g249 | g250=>k_is);have' uv:=bQ (x:= "_law_due_round") (ps:= ["_law_p_here","_law_stand","_law_deed"]) (st:=eE.lK) X G ?g251 ?g252 ?g253 ?g254;(case g251 | g252 | g253 | g254=>k_is);have' tJ:=bQ (x:= "_law_due_member") (ps:= ["_law_stand","_law_deed"]) (st:=eE.kf) X G ?g255 ?g256 ?g257 ?g258;(case g255 | g256 | g257 | g258=>k_is);have' wQ:=bQ (x:= "_law_due_crew") (ps:= ["_law_stand","_law_deed"]) (st:=eE.mR) X G ?g259 ?g260 ?g261 ?g262;(case g259 | g260 | g261 | g262=>k_is);have' KQ:=bQ (x:= "_law_due") (ps:= ["_law_p_here","_law_stand","_law_deed"]) (st:=eE.Bj) X G ?g263 ?g264 ?g265 ?g266;(case g263 | g264 | g265 | g266=>k_is);have' KN:=bQ (x:= "_law_run") (ps:= ["_law_book","_law_deed"]) (st:=eE.vM) X G ?g267 ?g268 ?g269 ?g270;(case g267 | g268 | g269 | g270=>k_is);have' HQ:=bQ (x:= "_law_call") (ps:= ["_law_book","_law_deed"]) (st:=eE.xB) X G ?g271 ?g272 ?g273 ?g274;(case g271 | g272 | g273 | g274=>k_is);have' KO:=bQ (x:= "_law_int") (ps:= ["_law_thing"]) (st:=eE.Bh) X G ?g275 ?g276 ?g277 ?g278;(case g275 | g276 | g277 | g278=>k_is);have' tI:=bQ (x:= "_law_is_pattern") (ps:= ["_law_p_here","_law_thing"]) (st:=eE.kc) X G ?g279 ?g280 ?g281 ?g282;(case g279 | g280 | g281 | g282=>k_is);have' wP:=bQ (x:= "_law_is_round") (ps:= ["_law_p_here","_law_thing"]) (st:=eE.mQ) X G ?g283 ?g284 ?g285 ?g286;(case g283 | g284 | g285 | g286=>k_is);have' AL:=bQ (x:= "_law_stands") (ps:= ["_law_p_here","_law_book","_law_stand"]) (st:=eE.rP) X G ?g287 ?g288 ?g289 ?g290;(case g287 | g288 | g289 | g290=>k_is);have' tK:=bQ (x:= "_law_draw_deeds") (ps:= ["_law_draw"]) (st:=eE.kg) X G ?g291 ?g292 ?g293 ?g294;(case g291 | g292 | g293 | g294=>k_is);have' AK:=bQ (x:= "_law_target") (ps:= ["_law_draw","_law_names_here"]) (st:=eE.rO) X G ?g295 ?g296 ?g297 ?g298;(case g295 | g296 | g297 | g298=>k_is);have' tH:=bQ (x:= "_law_round_deed") (ps:= ["_law_draw","_law_names_here"]) (st:=eE.ka) X G ?g299 ?g300 ?g301 ?g302;(case g299 | g300 | g301 | g302=>k_is);have' uw:=bQ (x:= "_law_crew_deed") (ps:= ["_law_draw","_law_names_here"]) (st:=eE.lL) X G ?g303 ?g304 ?g305 ?g306;(case g303 | g304 | g305 | g306=>k_is);have' zb:=bQ (x:= "_law_planned") (ps:= ["_law_k","_law_names_here"]) (st:=eE.pz) X G ?g307 ?g308 ?g309 ?g310;(case g307 | g308 | g309 | g310=>k_is);have' Tp:=bQ (x:= "law") (ps:= ["_law_script"]) (st:=eE.Fk) X G ?g311 ?g312 ?g313 ?g314;(case g311 | g312 | g313 | g314=>k_is);have' y3:=su c7 "held" ?n_Book_held;(case n_Book_held=>k_is);have' AH:=su c7 "now" ?n_Book_now;(case n_Book_now=>k_is);have' HF:=su c7 "p" ?n_Book_p;(case n_Book_p=>k_is);have' yZ:=su c7 "past" ?n_Book_past;(case n_Book_past=>k_is);have' ut:=su c7 "undone" ?n_Book_undone;(case n_Book_undone=>k_is);have' ur:=su AN "rounds" ?n_Page_rounds;(case n_Page_rounds=>k_is);have' wM:=su AN "teams" ?n_Page_teams;(case n_Page_teams=>k_is);have' Ej:=iI (x:= "BadName") X G ?g323;(case g323=>k_is);have' KG:=iI (x:= "InUse") X G ?g324;(case g324=>k_is);have' HK:=iI (x:= "NoCrew") X G ?g325;(case g325=>k_is);have' HJ:=iI (x:= "NoDeed") X G ?g326;(case g326=>k_is);have' HI:=iI (x:= "NoMore") X G ?g327;(case g327=>k_is);have' Ei:=iI (x:= "NoRound") X G ?g328;(case g328=>k_is);have' Eh:=iI (x:= "NoState") X G ?g329;(case g329=>k_is);have' KD:=iI (x:= "Taken") X G ?g330;(case g330=>k_is);have' HH:=iI (x:= "TooFar") X G ?g331;(case g331=>k_is);have' Eg:=iI (x:= "TooMany") X G ?g332;(case g332=>k_is);have' Eu:=iz (x:= "BadName") X ?g333 ?g334 ?g335 ?g336 ?g337 ?g338 ?g339 ?g340;(case g333=>k_is);(case g334=>k_exc);(case g335 | g336 | g337 | g338 | g339 | g340=>k_is);have' KW:=iz (x:= "InUse") X ?g341 ?g342 ?g343 ?g344 ?g345 ?g346 ?g347 ?g348;(case g341=>k_is);(case g342=>k_exc);(case g343 | g344 | g345 | g346 | g347 | g348=>k_is);have' HX:=iz (x:= "NoCrew") X ?g349 ?g350 ?g351 ?g352 ?g353 ?g354 ?g355 ?g356;(case g349=>k_is);(case g350=>k_exc);(case g351 | g352 | g353 | g354 | g355 | g356=>k_is);have' HW:=iz (x:= "NoDeed") X ?g357 ?g358 ?g359 ?g360 ?g361 ?g362 ?g363 ?g364;(case g357=>k_is);(case g358=>k_exc);(case g359 | g360 | g361 | g362 | g363 | g364=>k_is);have' HV:=iz (x:= "NoMore") X ?g365 ?g366 ?g367 ?g368 ?g369 ?g370 ?g371 ?g372;(case g365=>k_is);(case g366=>k_exc);(case g367 | g368 | g369 | g370 | g371 | g372=>k_is);have' Et:=iz (x:= "NoRound") X ?g373 ?g374 ?g375 ?g376 ?g377 ?g378 ?g379 ?g380;(case g373=>k_is);(case g374=>k_exc);(case g375 | g376 | g377 | g378 | g379 | g380=>k_is);have' Es:=iz (x:= "NoState") X ?g381 ?g382 ?g383 ?g384 ?g385 ?g386 ?g387 ?g388;(case g381=>k_is);(case g382=>k_exc);(case g383 | g384 | g385 | g386 | g387 | g388=>k_is);have' KU:=iz (x:= "Taken") X ?g389 ?g390 ?g391 ?g392 ?g393 ?g394 ?g395 ?g396;(case g389=>k_is);(case g390=>k_exc);(case g391 | g392 | g393 | g394 | g395 | g396=>k_is);have' HU:=iz (x:= "TooFar") X ?g397 ?g398 ?g399 ?g400 ?g401 ?g402 ?g403 ?g404;(case g397=>k_is);(case g398=>k_exc);(case g399 | g400 | g401 | g402 | g403 | g404=>k_is);have' Er:=iz (x:= "TooMany") X ?g405 ?g406 ?g407 ?g408 ?g409 ?g410 ?g411 ?g412;(case g405=>k_is);(case g406=>k_exc);(case g407 | g408 | g409 | g410 | g411 | g412=>k_is)
 refine' ⟨⟨_,_,_,_,_,_,_,_,_,_,_,_,_,_,_,_,_,_,_,_,_,_,_,_,_,_,_,_,_,_,_,_,_,_,_,_,_,_,_,_,_,_,_,_,_,_,_,_,_,_,_,_,_,_,_,_,_,_,_,_,_,_,_,_,_,_,_,_,_,_,_,_,_,_,_,_,_,_,_,_,_,_,_,_,_,_,_,_,_,_,_,_,_,_,_,_,_,_,_,_,_,_,_,_,_,_,_,_,_,_,_,_,_,_,_,_,_,_,_,_,_,_,_,_,_,_,_,_,_,_,_,_,_,_,_,_,_,_,_,_,_,_,_,_⟩,bT X G ?g1,bT X G ?g2,bT X G ?g3,bT X G ?g4,bT X G ?g5,bT X G ?g6,bT X G ?g7,bT X G ?g8,bT X G ?g9,bT X G ?g10,bT X G ?g11,bT X G ?g12,OS,KS,KJ,KI,OT,HS,AM,AJ,uu,zd,wR,wO,El,AN,c7,tL,AO,qT,qU,zg,zf,tN,tQ,qR,zj,wT,tP,ux,tO,ze,zh,zi,pj,wS,wV,qS,tM,Ep,HN,Tq,Eo,HM,KL,HP,HR,En,zc,KP,HL,Em,uv,tJ,wQ,KQ,KN,HQ,KO,tI,wP,AL,tK,AK,tH,uw,zb,Tp,y3,AH,HF,yZ,ut,ur,wM,sF X G ?g315,sF X G ?g316,sF X G ?g317,sF X G ?g318,sF X G ?g319,MW X G ?g320,MM X G ?g321 ?g322,Ej,KG,HK,HJ,HI,Ei,Eh,KD,HH,Eg,Eu,KW,HX,HW,HV,Et,Es,KU,HU,Er,?g413,?g414,?g415,?g416,?g417,?g418,?g419,?g420,?g421,?g422,?g423,?g424,?g425,?g426,?g427,?g428,?g429,?g430,?g431,?g432,?g433,?g434,?g435,?g436,?g437,?g438,?g439,?g440⟩
 (case g1 | g2 | g3 | g4 | g5 | g6 | g7 | g8 | g9 | g10 | g11 | g12 | g315 | g316 | g317 | g318 | g319 | g320 | g321 | g322=>k_is);(case g413 | g414 | g415 | g416 | g417 | g418 | g419 | g420 | g421 | g422 | g423 | g424 | g425 | g426 | g427 | g428 | g429 | g430 | g431 | g432 | g433 | g434 | g435 | g436 | g437 | g438 | g439 | g440=>kit_is)
