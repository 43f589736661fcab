import PyProof.Rows.All
import Wide.All
import OpenK.AllK
import Wide.FinOn
import Lean
import PyProof.EqAt
import PyProof.EqKinds
import PyProof.TupleCall
import PyProof.NeKinds
import PyProof.SumAny
import PyProof.ConsumeS
import PyProof.WalkInts
import PyProof.Draws
import PyProof.EnumMake
import PyProof.Rows.Range3
import PyProof.MeetsStr
import KE.KDictLaws
import PyProof.Rows.CallKwBuiltin
import PyProof.DictItems
import KE.KPairComp
import PyProof.AttrMissHeap
import KE.KDictOf
import KE.KItemsList
import KE.KTryMore
import PyProof.StrBlockG
import PyProof.StrWalks
import PyProof.Rows.SortStr
import PyProof.Rows.SortKeyStr
import KE.KIntText
import PyProof.Rows.StrItems
import KE.KUnpackStar
import PyProof.ZipIter
import PyProof.Rows.StrLawsPart
import PyProof.StrLawsNeg
import PyProof.Rows.StrFirst
import PySem.Challenge.RW_duskround_k51_rounds_read
set_option linter.all false
set_option genSizeOf false
set_option genInjectivity false
namespace EN
end EN
abbrev Fm:=@List
abbrev Fp:=@PySem.Value
abbrev JZ:=@PySem.Shared
abbrev KO:=@Option
abbrev KQ:=@PySem.Addr
abbrev KS:=@PyProof.Rows.Keyed
abbrev KU:=@Array
abbrev KW:=@PySem.W.Frag
abbrev KY:=@PySem.Program
abbrev KZ:=@PySem.World
abbrev K0:=@PySem.Heap
abbrev K1:=@PyProof.Rows.SortSt
abbrev K2:=@PySem.Around
def af:=@List.length_map
def ag:=@Nat.le_refl
def ah:=@PyProof.Rows.wpS_bind
def ak:=@PySem.wpAny_bind
def am:=@if_pos
def ar:=@if_neg
def au:=@PySem.Heap.lt_size
def av:=@Bool.false_eq_true
def aw:=@PySem.Heap.get?_push_of_some
def ay:=@PyProof.Rows.wpS_pure
def az:=@List.mem_cons
def aA:=@List.getElem?_eq_getElem
def aB:=@List.getElem?_map
def aC:=@List.map_cons
def aD:=@Nat.le_trans
def aE:=@List.size_toArray
def aF:=@Nat.lt_of_lt_of_le
def aG:=@List.getElem?_append_right
def aH:=@List.mem_append_right
def aI:=@List.getElem?_append_left
def aK:=@decide_eq_false
def aN:=@List.length_append
def aO:=@Bool.false_ne_true
def aR:=@List.mem_append
def aS:=@List.mem_cons_of_mem
def aT:=@PySem.Heap.get?_push_size
def aU:=@Nat.ne_of_lt
def aV:=@List.take_append_drop
def aW:=@Option.some.inj
def aX:=@PySem.wpAny_pure
def aY:=@List.mem_singleton
def aZ:=@List.getElem?_eq_some_iff
def a4:=@List.mem_cons_self
def a6:=@PySem.wpAny_mono
def a8:=@if_false
def a9:=@List.append_assoc
def bf:=@PySem.W.mg_none_of
def bg:=@Array.toList_append
def bh:=@List.map_map
def bi:=@List.length_take
def bj:=@List.length_cons
def bo:=@decide_eq_true
def bp:=@List.mem_map
def bt:=@PySem.F.plainAttrs_str
def bB:=@Nat.lt_irrefl
def bD:=@List.mem_of_getElem?
def bE:=@List.pairwise_cons
def bF:=@PyProof.Rows.wpS_forRange
def bG:=@PySem.W.kia_one
def bH:=@if_true
def bI:=@Bool.not_true
def bJ:=@Array.length_toList
def bT:=@Bool.not_false
def bY:=@Ne.symm
def b9:=@PySem.wpAny_holding
def cj:=@List.cons.inj
def cn:=@List.map_append
def cq:=@PySem.wpAny_truthy_bool
def cw:=@List.pairwise_append
def cx:=@List.length_drop
def cy:=@List.getElem?_replicate
def cD:=@PySem.mem_of_lookup
def cG:=@List.drop_eq_getElem_cons
def cK:=@List.perm_append_comm
def cL:=@List.mem_iff_getElem?
inductive bU {T0 T1:Type}(P:T0 ->T1 ->Prop):Prop | mk (x0:T0) (x1:T1) (h:P x0 x1):bU P
inductive fE {T0 T1 T2:Type}(P:T0 ->T1 ->T2 ->Prop):Prop | mk (x0:T0) (x1:T1) (x2:T2) (h:P x0 x1 x2):fE P
inductive i6 {T0 T1 T2 T3:Type}(P:T0 ->T1 ->T2 ->T3 ->Prop):Prop | mk (x0:T0) (x1:T1) (x2:T2) (x3:T3) (h:P x0 x1 x2 x3):i6 P
inductive Dn {T0 T1 T2 T3 T4:Type}(P:T0 ->T1 ->T2 ->T3 ->T4 ->Prop):Prop | mk (x0:T0) (x1:T1) (x2:T2) (x3:T3) (x4:T4) (h:P x0 x1 x2 x3 x4):Dn P
inductive NG {T0 T1 T2 T3 T4 T5:Type}(P:T0 ->T1 ->T2 ->T3 ->T4 ->T5 ->Prop):Prop | mk (x0:T0) (x1:T1) (x2:T2) (x3:T3) (x4:T4) (x5:T5) (h:P x0 x1 x2 x3 x4 x5):NG P
inductive NF {T0 T1 T2 T3 T4 T5 T6 T7:Type}(P:T0 ->T1 ->T2 ->T3 ->T4 ->T5 ->T6 ->T7 ->Prop):Prop | mk (x0:T0) (x1:T1) (x2:T2) (x3:T3) (x4:T4) (x5:T5) (x6:T6) (x7:T7) (h:P x0 x1 x2 x3 x4 x5 x6 x7):NF P
inductive cJ (P0 P1 P2:Prop):Prop | mk (FZ:P0) (FY:P1) (Cr:P2):cJ P0 P1 P2
inductive dN (P0 P1 P2 P3:Prop):Prop | mk (FZ:P0) (FY:P1) (Cr:P2) (HD:P3):dN P0 P1 P2 P3
inductive dW (P0 P1 P2 P3 P4:Prop):Prop | mk (FZ:P0) (FY:P1) (Cr:P2) (HD:P3) (KI:P4):dW P0 P1 P2 P3 P4
inductive pD (P0 P1 P2 P3 P4 P5:Prop):Prop | mk (FZ:P0) (FY:P1) (Cr:P2) (HD:P3) (KI:P4) (Nn:P5):pD P0 P1 P2 P3 P4 P5
inductive HR (P0 P1 P2 P3 P4 P5 P6:Prop):Prop | mk (FZ:P0) (FY:P1) (Cr:P2) (HD:P3) (KI:P4) (Nn:P5) (O5:P6):HR P0 P1 P2 P3 P4 P5 P6
inductive HQ (P0 P1 P2 P3 P4 P5 P6 P7:Prop):Prop | mk (FZ:P0) (FY:P1) (Cr:P2) (HD:P3) (KI:P4) (Nn:P5) (O5:P6) (RG:P7):HQ P0 P1 P2 P3 P4 P5 P6 P7
set_option Elab.async false
set_option maxRecDepth 100000
set_option genSizeOf false
set_option genInjectivity false
local macro_rules | `(∅) => `(by lia)
local macro_rules | `(⇑$x) => `(by simpa using $x)
set_option compiler.extract_closed false
noncomputable section
local macro_rules|`(⋯)=>`(by decide)
local macro_rules|`(tactic|symm)=>`(tactic|constructor)
local macro_rules|`(tactic|exact $e)=>`(tactic|refine $e)
local macro_rules|`(tactic|show $e)=>`(tactic|refine $e)
local macro_rules|`(def $i $s:optDeclSig:=by $v)=>do let d:=Lean.mkNode ``Lean.Parser.Command.declSig #[s.raw[0],s.raw[1][0]];`(theorem $i $(⟨d⟩):declSig:=by $v)|`(def $i $s:optDeclSig $v:declVal)=>`(noncomputable def $i $s:optDeclSig $v:declVal)|`(abbrev $i $s:optDeclSig $v:declVal)=>`(noncomputable abbrev $i $s:optDeclSig $v:declVal)
local macro_rules|`(tactic|let $p:term$[:$t]?:=$e)=>do let r:=p.raw.rewriteBottomUp (λs=>let k:=s.getKind;if s.isIdent then Lean.mkNode `Lean.Parser.Tactic.rcasesPat.one #[s] else if k==`Lean.Parser.Term.hole then Lean.mkNode `Lean.Parser.Tactic.rcasesPat.ignore s.getArgs else if k==`Lean.Parser.Term.anonymousCtor then Lean.mkNode `Lean.Parser.Tactic.rcasesPat.tuple (s.getArgs.modify 1 λa=>.node .none `null (a.getArgs.map λq=>if q.isAtom then q else Lean.mkNode `Lean.Parser.Tactic.rcasesPatLo #[Lean.mkNode `Lean.Parser.Tactic.rcasesPatMed #[Lean.mkNullNode #[q]],Lean.mkNullNode])) else s);`(tactic|obtain $(⟨Lean.mkNode `Lean.Parser.Tactic.rcasesPatMed #[Lean.mkNullNode #[r]]⟩):rcasesPatMed$[:$t]?:=$e)
local macro_rules|`(tactic|simp![$x,*]$[$l]?)=>`(tactic|simp only[$x,*]$[$l]?)
local macro_rules|`(#[$x,$y])=>`(⟨$x,$y⟩)|`(#[$x,$y,$z,*])=>`(⟨$x,$y,$z,*⟩)
namespace TS
open PySem PyProof.Rows
def LE (less:KS ->KS ->Bool)(x y:KS):Prop:=less y x=false
structure Ord (less:Keyed ->Keyed ->Bool):Prop where
 Gd: ∀x y,less x y=true ->less y x=false
 trans: ∀x y z,LE less x y ->LE less y z ->LE less x z
section
variable {less:KS ->KS ->Bool}
def Ord.refl (O:Ord less)(x:KS):LE less x x:=by
 unfold LE;cases h:less x x with
 | false=>rfl
 | true=>show(O.Gd x x h).symm.trans h▸rfl
theorem Ord.le (O:Ord less){x y:KS}(h:less x y=true):LE less x y:=O.Gd x y h
def Ord.Fb (O:Ord less){x y z:KS}(h:LE less x y)(h':less y z=true):less x z=true:=by
 cases e:less x z with
 | true=>rfl
 | false=>have:=O.trans z x y e h;unfold LE at this;rw[h'] at this;cases this
end
def bK (xs:KU KS)(i:Nat):KS:=(xs[i]?).getD (.none, .none)
def w5 {xs:KU KS}{i:Nat}(h:i<xs.size):xs[i]? =some (bK xs i):=by unfold bK;rw[getElem?_pos xs i h];rfl
def fj {xs ys:KU KS}{i j:Nat}(h:xs[i]? =ys[j]?):bK xs i=bK ys j:=by unfold bK;rw[h]
def nK {xs:KU KS}{i:Nat}(h:i<xs.size):bK xs i∈xs.toList:=by unfold bK;rw[getElem?_pos xs i h];simp
def Sg (less:KS ->KS ->Bool)(xs:KU KS)(lo hi:Nat):Prop:= ∀i j,lo<=i ->i<=j ->j<hi ->LE less (bK xs i) (bK xs j)
def Ng (less:KS ->KS ->Bool)(xs:KU KS)(lo hi:Nat):Prop:= ∀i j,lo<=i ->i<=j ->j<hi ->LE less (bK xs j) (bK xs i)
structure SB (kd:SortKind)(a₀:Array Keyed)(st:SortSt):Prop where
 perm:(arrOf st).Perm a₀
 kd:kindOf st=kd
 fl:failedOf st=none
theorem SB.size {kd:SortKind}{a₀:KU KS}{st:K1}(h:SB kd a₀ st):(arrOf st).size=a₀.size:=h.perm.size_eq
theorem SB.mem {kd:SortKind}{a₀:KU KS}{st:K1}(h:SB kd a₀ st){i:Nat}(hi:i<a₀.size):bK (arrOf st) i∈a₀.toList:=(Array.perm_iff_toList_perm.mp h.perm).mem_iff.mp (nK (by rw[h.size];show hi))
theorem SB.arr {kd:SortKind}{a₀:KU KS}{st:K1}(h:SB kd a₀ st){xs:KU KS}(hp:xs.Perm (arrOf st)):SB kd a₀ (setArr st xs):=#[hp.trans h.perm,h.kd,h.fl]
def eK (prog:KY)(w:KZ)(A:K2)(E:Fp ->JZ ->Prop)(s:JZ)(kd:SortKind)(a₀:KU KS)(less:KS ->KS ->Bool):Prop:=∀ (x y:KS) (st:K1) (Q:KO Bool ->K1 ->Prop),x∈a₀.toList ->y∈a₀.toList ->kindOf st=kd ->Q (some (less x y)) st ->wpS (model prog w) A E s (lt' x y) Q st
section
variable {prog:KY}{w:KZ}{A:K2}{E:Fp ->JZ ->Prop}{s:JZ}{kd:SortKind}{a₀:KU KS}{less:KS ->KS ->Bool}
def wp_elem {xs:KU KS}{i:Nat}{Q:KS ->K1 ->Prop}{st:K1}(hi:i<xs.size)(h:Q (bK xs i) st):wpS (model prog w) A E s (elem' xs i) Q st:=by rw[elem'_eq,w5 hi];show ay h
def wp_lt (L:eK prog w A E s kd a₀ less){st:K1}{i j:Nat}{Q:KO Bool ->K1 ->Prop}(B:SB kd a₀ st)(hi:i<a₀.size)(hj:j<a₀.size) (h:Q (some (less (bK (arrOf st) i) (bK (arrOf st) j))) st):wpS (model prog w) A E s (ltAt' i j) Q st:=by rw[ltAt'_eq];exact ah (wpS_get ?_);show ah (wp_elem (by rw[B.size];show hi) (ah (wp_elem (by rw[B.size];show hj) (L _ _ _ _ (B.mem hi) (B.mem hj) B.kd h))))
def wp_rev {st:K1}{i j:Nat}{Q:Unit ->K1 ->Prop}(h:Q () (setArr st (mirror (arrOf st) i j ((j - i) / 2)))):wpS (model prog w) A E s (reverseSlice' i j) Q st:=by rw[reverseSlice'_eq];show wpS_modify h
def c9 {xs:KU KS}{i j:Nat}(hj:j<=xs.size)(k:Nat):bK (mirror xs i j ((j - i) / 2)) k=if i<=k /\ k<j then bK xs (i+j - 1 - k) else bK xs k:=by have e:=getElem?_mirror_all (i:=i) hj k;by_cases c:i<=k /\ k<j;rw[am c] at e ⊢;show fj e;rw[ar c] at e ⊢;show fj e
def gS {xs:KU KS}{xu d:Nat}(hs:xu<xs.size)(hd:d<=xu)(k:Nat):bK (bubble xs xu d) k=if k=xu - d then bK xs xu else if xu - d<k /\ k<=xu then bK xs (k - 1) else bK xs k:=by have e:=getElem?_bubble hs d hd k;by_cases c:k=xu - d;rw[am c] at e ⊢;show fj e;rw[ar c] at e ⊢;by_cases c':xu - d<k /\ k<=xu;rw[am c'] at e ⊢;show fj e;rw[ar c'] at e ⊢;show fj e
def w6 (lo a cF:Nat):StateT K1 Sem AscSt:=forIn [a:cF] ((none,a):AscSt) λ_ c=>do
 let x <- ltAt' (lo+c.snd) (lo+c.snd - 1)
 match x with
 | some b=>if b=true then pure (ForInStep.done (none,c.snd)) else pure (ForInStep.yield (none,c.snd+1))
 | _=>pure (ForInStep.done (some none,c.snd))
def nZ (lo n cF:Nat):StateT K1 Sem (KO Nat):=do
 reverseSlice' lo (lo+n)
 let c <- w6 lo n cF
 match c.fst with
 | some r=>pure r
 | none=>pure (some c.snd)
def sv (lo n cF:Nat):StateT K1 Sem DescSt:=forIn [n:cF] ((none,n,0):DescSt) λ_ c=>do
 let x <- ltAt' (lo+c.snd.fst) (lo+c.snd.fst - 1)
 match x with
 | some b=>
  if b=true then
   if c.snd.snd >0 then do
    reverseSlice' (lo+c.snd.fst - (c.snd.snd+1)) (lo+c.snd.fst)
    pure (ForInStep.yield (none,c.snd.fst+1,0))
   else pure (ForInStep.yield (none,c.snd.fst+1,0))
  else do
   let y <- ltAt' (lo+c.snd.fst - 1) (lo+c.snd.fst)
   match y with
   | some d=>
    if d=true then pure (ForInStep.done (none,c.snd.fst,c.snd.snd))
    else pure (ForInStep.yield (none,c.snd.fst+1,c.snd.snd+1))
   | _=>pure (ForInStep.done (some none,c.snd.fst,c.snd.snd))
 | _=>pure (ForInStep.done (some none,c.snd.fst,c.snd.snd))
def ow (lo n cF:Nat):StateT K1 Sem (KO Nat):=do
 liftM (rule "list.sort.descending-run")
 let c <- sv lo (n+1) cF
 match c.fst with
 | some r=>pure r
 | none=>
  if c.snd.snd >0 then do
   reverseSlice' (lo+c.snd.fst - (c.snd.snd+1)) (lo+c.snd.fst)
   nZ lo c.snd.fst cF
  else nZ lo c.snd.fst cF
theorem yd (lo cF:Nat):countRun' lo cF=(do
  let c <- w6 lo 1 cF
  match c.fst with
  | some r=>pure r
  | none =>
   if(c.snd==cF)=true then pure (some c.snd)
   else if c.snd >1 then do
    let x <- ltAt' lo (lo+c.snd - 1)
    match x with
    | some b=>if b=true then pure (some c.snd) else do
     reverseSlice' lo (lo+c.snd)
     ow lo c.snd cF
    | _=>pure none
   else ow lo c.snd cF):=by
 rw[countRun'_eq]
 dsimp only
 unfold ow nZ sv w6
 congr 1
 funext c
 let⟨r,n⟩:=c
 cases r with
 | some r=>rfl
 | none =>
  dsimp only;split;rfl;split;congr 1;funext x;cases x with
  | none=>rfl
  | some b=>
   dsimp only;split;rfl;congr 1;funext _r;congr 1;funext _u;congr 1;congr 1;funext s2;let⟨r2,n2,q2⟩:=s2;cases r2 with
   | some r2=>rfl
   | none=>dsimp only;split;congr 1;funext _v;congr 1;funext _w;congr 1;funext s3;let⟨r3,n3⟩:=s3;cases r3<;>rfl;congr 1;funext _w;congr 1;funext s3;let⟨r3,n3⟩:=s3;cases r3<;>rfl
  congr 1;funext _u;congr 1;congr 1;funext s2;let⟨r2,n2,q2⟩:=s2;cases r2 with
  | some r2=>rfl
  | none=>dsimp only;split;congr 1;funext _v;congr 1;funext _w;congr 1;funext s3;let⟨r3,n3⟩:=s3;cases r3<;>rfl;congr 1;funext _w;congr 1;funext s3;let⟨r3,n3⟩:=s3;cases r3<;>rfl
def jr (lo hi:Nat)(xs ys:KU KS):Prop:= ∀k,k<lo \/ hi<=k ->bK ys k=bK xs k
theorem jr.refl {lo hi:Nat}{xs:KU KS}:jr lo hi xs xs:=λ_ _=>rfl
theorem jr.trans {lo hi:Nat}{xs ys zs:KU KS}(a:jr lo hi xs ys)(b:jr lo hi ys zs):jr lo hi xs zs:=λk h=>(b k h).trans (a k h)
def wp_ascL (O:Ord less)(L:eK prog w A E s kd a₀ less){st:K1}{lo a cF:Nat}{Q:AscSt ->K1 ->Prop}(hn:lo+cF<=a₀.size)(ha:1<=a)(O1:a<=cF)(B:SB kd a₀ st) (hs:Sg less (arrOf st) lo (lo+a)) (h: ∀n,a<=n ->n<=cF ->Sg less (arrOf st) lo (lo+n) ->(n=cF \/ less (bK (arrOf st) (lo+n)) (bK (arrOf st) (lo+n - 1))=true) ->Q (none,n) st): wpS (model prog w) A E s (w6 lo a cF) Q st:=by
 unfold w6;exact bF (I:=λx c a_=>a_=st /\ c=(none,x) /\ Sg less (arrOf st) lo (lo+x)) ?step ?fin #[rfl,rfl,hs];case fin=>
  rintro c a_ ⟨rfl,rfl,eJ⟩
  rw[show max a cF=cF by lia] at eJ ⊢
  show h cF O1 (ag _) eJ (.inl rfl)
 case step=>
  rintro x c a_ KA Oj ⟨rfl,rfl,eJ⟩
  dsimp only
  exact ah (wp_lt L B ∅ ∅ ?_)
  cases e:less (bK (arrOf a_) (lo+x)) (bK (arrOf a_) (lo+x - 1)) with
  | true=>simp![bH];show ay (h x KA ∅ eJ (.inr e))
  | false=>simp![av,a8];exact ay #[rfl,rfl,λi j hi fG hj=> ?_];by_cases c:j<lo+x;show eJ i j hi fG c;have:j=lo+x:= ∅;subst this;by_cases c2:i=lo+x;subst c2;show O.refl _;show O.trans _ _ _ (eJ i (lo+x - 1) hi ∅ ∅) e
def wp_tailL (O:Ord less)(L:eK prog w A E s kd a₀ less){st:K1}{lo n cF:Nat}{Q:KO Nat ->K1 ->Prop}(hn:lo+cF<=a₀.size)(h1:1<=n)(yW:n<=cF)(B:SB kd a₀ st) (hs:Ng less (arrOf st) lo (lo+n)) (h: ∀m a_,SB kd a₀ a_ ->1<=m ->m<=cF ->Sg less (arrOf a_) lo (lo+m) ->pendingOf a_=pendingOf st ->jr lo (lo+cF) (arrOf st) (arrOf a_) ->Q (some m) a_): wpS (model prog w) A E s (nZ lo n cF) Q st:=by
 unfold nZ;have hsz:lo+n<=(arrOf st).size:=by rw[B.size];lia
 exact ah (wp_rev ?_);have B':SB kd a₀ (setArr st (mirror (arrOf st) lo (lo+n) ((lo+n - lo) / 2))):=B.arr (mirror_perm _ _ _ _);exact ah (wp_ascL O L hn h1 yW B' ?_ λm Hw Cd Ka _=>ay (h m _ B' ∅ Cd Ka rfl ?_));intro i j hi fG hj;change LE less (bK (mirror (arrOf st) lo (lo+n) ((lo+n - lo) / 2)) i) (bK (mirror (arrOf st) lo (lo+n) ((lo+n - lo) / 2)) j);rw[c9 hsz,c9 hsz,am ∅,am ∅];show hs _ _ ∅ ∅ ∅;intro k hk;change bK (mirror (arrOf st) lo (lo+n) ((lo+n - lo) / 2)) k=_;rw[c9 hsz,ar ∅]
def iS (O:Ord less){xs:KU KS}{lo i m:Nat}(hj:m<=xs.size)(Rx:lo<=i)(hs:Ng less xs lo m)(he: ∀k,i<=k ->k<m ->LE less (bK xs k) (bK xs (m - 1))):Ng less (mirror xs i m ((m - i) / 2)) lo m:=by intro a b ha Ao hb;rw[c9 hj,c9 hj];by_cases c1:i<=a;rw[am ∅,am ∅];exact O.trans _ _ _ (he (i+m - 1 - b) ∅ ∅) (hs _ _ ∅ ∅ ∅);rw[ar (show ¬(i<=a /\ a<m) by lia)];by_cases c2:i<=b;rw[am ∅];show hs _ _ ∅ ∅ ∅;rw[ar ∅];show hs _ _ ∅ ∅ ∅
theorem gH {xs:KU KS}{lo hi i j:Nat}(hj:j<=xs.size)(h1:lo<=i)(h2:j<=hi):jr lo hi xs (mirror xs i j ((j - i) / 2)):=λk hk=>by rw[c9 hj,ar ∅]
def wp_descL (O:Ord less)(L:eK prog w A E s kd a₀ less){st:K1}{lo n cF:Nat}{Q:DescSt ->K1 ->Prop}(hn:lo+cF<=a₀.size)(h1:1<=n)(yW:n<=cF)(B:SB kd a₀ st) (hs:Ng less (arrOf st) lo (lo+n)) (h: ∀m lM a_,SB kd a₀ a_ ->n<=m ->m<=cF ->Ng less (arrOf a_) lo (lo+m) ->lM+1<=m ->(∀i,lo+m - (lM+1) <=i ->i<lo+m ->LE less (bK (arrOf a_) i) (bK (arrOf a_) (lo+m - 1))) ->pendingOf a_=pendingOf st ->jr lo (lo+cF) (arrOf st) (arrOf a_) ->Q (none,m,lM) a_): wpS (model prog w) A E s (sv lo n cF) Q st:=by
 unfold sv;exact bF (I:=λx c a_=> ∃lM,HR (c=(none,x,lM)) (SB kd a₀ a_) (Ng less (arrOf a_) lo (lo+x)) (lM+1<=x) (∀i,lo+x - (lM+1) <=i ->i<lo+x ->LE less (bK (arrOf a_) i) (bK (arrOf a_) (lo+x - 1))) (pendingOf a_=pendingOf st) (jr lo (lo+cF) (arrOf st) (arrOf a_))) ?step ?fin #[0,rfl,B,hs, ∅,λi h1 h2=>by rw[show i=lo+n - 1 by lia];show O.refl _,rfl,jr.refl];case fin=>
  rintro c a_ ⟨lM,rfl,B',eJ,hq,he,hp,ho⟩
  rw[show max n cF=cF by lia] at eJ hq he ⊢
  show h cF lM a_ B' yW (ag _) eJ hq he hp ho
 case step =>
  rintro x c a_ KA Oj ⟨lM,rfl,B',eJ,hq,he,hp,ho⟩
  dsimp only
  have hsz:lo+x<=(arrOf a_).size:=by rw[B'.size];lia
  exact ah (wp_lt L B' ∅ ∅ ?_)
  cases e:less (bK (arrOf a_) (lo+x)) (bK (arrOf a_) (lo+x - 1)) with
  | true =>simp![bH];by_cases wt:lM >0;rw [am wt];exact ah (wp_rev (ay #[0,rfl,B'.arr (mirror_perm _ _ _ _),?_, ∅,λi h1 h2=>by rw[show i=lo+(x+1) - 1 by lia];show O.refl _,hp,ho.trans (gH hsz ∅ ∅)]));have hm:=iS O (i:=lo+x - (lM+1)) hsz ∅ eJ he;intro i j hi fG hj;by_cases c:j<lo+x;show hm i j hi fG c;have:j=lo+x:= ∅;subst this;by_cases c2:i=lo+x;subst c2;show O.refl _;exact O.trans _ _ _ ?_ (hm i (lo+x - 1) hi ∅ ∅);change LE less (bK (mirror (arrOf a_) (lo+x - (lM+1)) (lo+x) ((lo+x - (lo+x - (lM+1))) / 2)) (lo+x)) (bK (mirror (arrOf a_) (lo+x - (lM+1)) (lo+x) ((lo+x - (lo+x - (lM+1))) / 2)) (lo+x - 1));rw[c9 hsz,c9 hsz,ar ∅,am ∅];show O.trans _ _ _ (O.le e) (eJ _ _ ∅ ∅ ∅);rw[ar wt];exact ay #[0,rfl,B',λi j hi fG hj=> ?_, ∅,λi h1 h2=>by rw[show i=lo+(x+1) - 1 by lia];show O.refl _,hp,ho];by_cases c:j<lo+x;show eJ i j hi fG c;have:j=lo+x:= ∅;subst this;by_cases c2:i=lo+x;subst c2;show O.refl _;show O.trans _ _ _ (O.le e) (eJ i (lo+x - 1) hi ∅ ∅)
  | false =>
   simp![av,a8];exact ah (wp_lt L B' ∅ ∅ ?_);cases e2:less (bK (arrOf a_) (lo+x - 1)) (bK (arrOf a_) (lo+x)) with
   | true=>simp![bH];show ay (h x lM a_ B' KA ∅ eJ hq he hp ho)
   | false=>simp![av,a8];exact ay #[lM+1,rfl,B',λi j hi fG hj=> ?_, ∅,λi h1 h2=> ?_,hp,ho];by_cases c:j<lo+x;show eJ i j hi fG c;have:j=lo+x:= ∅;subst this;by_cases c2:i=lo+x;subst c2;show O.refl _;show O.trans _ _ _ e2 (eJ i (lo+x - 1) hi ∅ ∅);rw[show lo+(x+1) - 1=lo+x by lia];by_cases c:i=lo+x;subst c;show O.refl _;show O.trans _ _ _ (he i ∅ ∅) e
def wp_partL (O:Ord less)(L:eK prog w A E s kd a₀ less){st:K1}{lo n cF:Nat}{Q:KO Nat ->K1 ->Prop}(hn:lo+cF<=a₀.size)(yW:n+1<=cF)(B:SB kd a₀ st) (hs:Ng less (arrOf st) lo (lo+(n+1))) (h: ∀m a_,SB kd a₀ a_ ->1<=m ->m<=cF ->Sg less (arrOf a_) lo (lo+m) ->pendingOf a_=pendingOf st ->jr lo (lo+cF) (arrOf st) (arrOf a_) ->Q (some m) a_): wpS (model prog w) A E s (ow lo n cF) Q st:=by
 unfold ow;exact ah (wpS_lift (wpAny_rule #[rfl,?_]));exact ah (wp_descL O L hn ∅ yW B hs λm lM a_ B' Hw Cd eJ hq he hp ho=> ?_);dsimp only;have hsz:lo+m<=(arrOf a_).size:=by rw[B'.size];lia
 by_cases wt:lM >0;rw[am wt];exact ah (wp_rev (wp_tailL O L hn ∅ Cd (B'.arr (mirror_perm _ _ _ _)) (iS O hsz ∅ eJ he) λm2 gC b1 b2 b3 b4 b5 b6=>h m2 gC b1 b2 b3 b4 (b5.trans hp) (ho.trans ((gH hsz ∅ ∅).trans b6))));rw[ar wt];show wp_tailL O L hn ∅ Cd B' eJ λm2 gC b1 b2 b3 b4 b5 b6=>h m2 gC b1 b2 b3 b4 (b5.trans hp) (ho.trans b6)
def wp_run (O:Ord less)(L:eK prog w A E s kd a₀ less){st:K1}{lo cF:Nat}{Q:KO Nat ->K1 ->Prop}(hn:lo+cF<=a₀.size)(h1:1<=cF)(B:SB kd a₀ st) (h: ∀m a_,SB kd a₀ a_ ->1<=m ->m<=cF ->Sg less (arrOf a_) lo (lo+m) ->pendingOf a_=pendingOf st ->jr lo (lo+cF) (arrOf st) (arrOf a_) ->Q (some m) a_): wpS (model prog w) A E s (countRun' lo cF) Q st:=by
 rw[yd];exact ah (wp_ascL O L hn (ag 1) h1 B (λi j hi fG hj=>by rw[show i=j by lia];show O.refl _) λn MZ Hv Fz OI=> ?_);dsimp only;by_cases yW:n=cF;rw[am ⇑yW];show ay (h n st B MZ Hv Fz rfl jr.refl);rw [ar ⇑yW];have fJ:=OI.resolve_left yW;have hsz:lo+n<=(arrOf st).size:=by rw[B.size];lia
 by_cases Nf:n >1;rw [am Nf];exact ah (wp_lt L B ∅ ∅ ?_);cases e:less (bK (arrOf st) lo) (bK (arrOf st) (lo+n - 1)) with
 | true=>simp![bH];show ay (h n st B MZ Hv Fz rfl jr.refl)
 | false=>simp![av,a8];have MY:Ng less (arrOf st) lo (lo+n):=λi j hi fG hj=>O.trans _ _ _ (O.trans _ _ _ (Fz j (lo+n - 1) ∅ ∅ ∅) e) (Fz lo i (ag _) hi ∅);exact ah (wp_rev (wp_partL O L hn ∅ (B.arr (mirror_perm _ _ _ _)) ?_ λm2 gC b1 b2 b3 b4 b5 b6=>h m2 gC b1 b2 b3 b4 b5 ((gH hsz ∅ ∅).trans b6)));have hm:=iS O (i:=lo) hsz (ag _) MY λk _ _=>Fz k (lo+n - 1) ∅ ∅ ∅;intro i j hi fG hj;by_cases c:j<lo+n;show hm i j hi fG c;have:j=lo+n:= ∅;subst this;by_cases c2:i=lo+n;subst c2;show O.refl _;exact O.trans _ _ _ ?_ (hm i (lo+n - 1) hi ∅ ∅);change LE less (bK (mirror (arrOf st) lo (lo+n) ((lo+n - lo) / 2)) (lo+n)) (bK (mirror (arrOf st) lo (lo+n) ((lo+n - lo) / 2)) (lo+n - 1));rw[c9 hsz,c9 hsz,ar ∅,am ∅];show O.trans _ _ _ (O.le fJ) (MY _ _ ∅ ∅ ∅)
 rw[ar Nf];have Kh:n=1:= ∅;subst Kh;exact wp_partL O L hn ∅ B (λi j hi fG hj=> ?_) h;by_cases c:i=j;subst c;show O.refl _;rw[show i=lo+1 - 1 by lia,show j=lo+1 by lia];show O.le fJ
def wp_bin (O:Ord less)(L:eK prog w A E s kd a₀ less){st:K1}{lo n ok:Nat}{Q:Bool ->K1 ->Prop}(hn:lo+n<=a₀.size)(cI:ok<=n)(B:SB kd a₀ st)(hs:Sg less (arrOf st) lo (lo+ok)) (h: ∀a_,SB kd a₀ a_ ->Sg less (arrOf a_) lo (lo+n) ->pendingOf a_=pendingOf st ->jr lo (lo+n) (arrOf st) (arrOf a_) ->Q true a_):wpS (model prog w) A E s (binarySort' lo n ok) Q st:=by
 rw[binarySort'_eq];exact ah (wpS_mono (bF (I:=λk c a_=>c=(none,()) /\ SB kd a₀ a_ /\ Sg less (arrOf a_) lo (lo+min k n) /\ pendingOf a_=pendingOf st /\ jr lo (lo+n) (arrOf st) (arrOf a_)) (Q:=λc a_=>c=(none,()) /\ SB kd a₀ a_ /\ Sg less (arrOf a_) lo (lo+n) /\ pendingOf a_=pendingOf st /\ jr lo (lo+n) (arrOf st) (arrOf a_)) ?step ?fin ?init) ?post);case post=>
  rintro c a_ ⟨rfl,B',eJ,hp,ho⟩
  show ay (h a_ B' eJ hp ho)
 case init=>
  exact#[rfl,B,λi j hi fG hj=> ?_,rfl,jr.refl]
  by_cases c:ok=0
  rw[show i=j by lia];show O.refl _
  show hs i j hi fG ∅
 case fin=>
  rintro c a_ ⟨hc,B',eJ,hp,ho⟩
  exact#[hc,B',?_,hp,ho]
  rwa [show min (max (max ok 1) n) n=n by lia] at eJ
 case step=>
  rintro k c a_ RE Rz ⟨rfl,B',eJ,hp,ho⟩
  rw[show min k n=k by lia] at eJ
  have hk:lo+k<a₀.size:= ∅
  exact ah (wpS_mono (bF (I:=λx c dC=>dC=a_ /\ bU λl r=>pD (c=(none,l,r)) (l<=r) (r<=k) (r - l<=k - x) (∀i,i<l ->LE less (bK (arrOf a_) (lo+i)) (bK (arrOf a_) (lo+k))) (∀i,r<=i ->i<k ->LE less (bK (arrOf a_) (lo+k)) (bK (arrOf a_) (lo+i)))) (Q:=λc dC=>dC=a_ /\ bU λl r=>dN (c=(none,l,r)) (l<=k) (∀i,i<l ->LE less (bK (arrOf a_) (lo+i)) (bK (arrOf a_) (lo+k))) (∀i,l<=i ->i<k ->LE less (bK (arrOf a_) (lo+k)) (bK (arrOf a_) (lo+i)))) ?istep ?ifin ?iinit) ?ipost)
  case iinit=>show#[rfl,0,k,rfl, ∅, ∅, ∅,λi hi=> ∅,λi h1 h2=> ∅]
  case ifin=>
   rintro c dC ⟨rfl,l,r,rfl,ON,Kb,hm,Ce,Dd⟩
   have:l=r:= ∅
   subst this
   show#[rfl,l,l,rfl,Kb,Ce,Dd]
  case istep=>
   rintro x c dC _ Rr ⟨rfl,l,r,rfl,ON,Kb,hm,Ce,Dd⟩
   dsimp only
   by_cases Kt:l≥r
   rw[am Kt]
   have:l=r:= ∅
   subst this
   show ay #[rfl,l,l,rfl,Kb,Ce,Dd]
   rw[ar Kt]
   exact ah (wp_lt L B' hk ∅ ?_)
   cases e:less (bK (arrOf dC) (lo+k)) (bK (arrOf dC) (lo+(l+r) / 2)) with
   | true=>simp![bH];exact ay #[rfl,l,(l+r) / 2,rfl, ∅, ∅, ∅,Ce,λi h1 h2=> ?_];show O.trans _ _ _ (O.le e) (eJ _ _ ∅ ∅ ∅)
   | false=>simp![av,a8];exact ay #[rfl,(l+r) / 2+1,r,rfl, ∅, ∅, ∅,λi h1=> ?_,Dd];show O.trans _ _ _ (eJ (lo+i) (lo+(l+r) / 2) ∅ ∅ ∅) e
  case ipost=>
   rintro c dC ⟨rfl,l,r,rfl,Rw,Ce,Dd⟩
   change wpS _ _ _ _ (do moveDown' (lo+k) (lo+l);pure (ForInStep.yield (none,()))) _ _
   rw[moveDown'_eq]
   have Kl:lo+k< (arrOf dC).size:=by rw[B'.size];show hk
   exact ah (wpS_modify (ay #[rfl,B'.arr (bubble_perm _ _ _),?_,hp,ho.trans λj hj=> ?_]))
   .rw[show min (k+1) n=k+1 by lia];intro i j hi fG hj;change LE less (bK (bubble (arrOf dC) (lo+k) (lo+k - (lo+l))) i) (bK (bubble (arrOf dC) (lo+k) (lo+k - (lo+l))) j);rw[gS Kl ∅,gS Kl ∅,show lo+k - (lo+k - (lo+l))=lo+l by lia];have Kj: ∀i,lo<=i ->i<lo+l ->LE less (bK (arrOf dC) i) (bK (arrOf dC) (lo+k)):=λi h1 h2=>by have:=Ce (i - lo) ∅;rwa [show lo+(i - lo)=i by lia] at this
    have Kr: ∀i,lo+l<=i ->i<lo+k ->LE less (bK (arrOf dC) (lo+k)) (bK (arrOf dC) i):=λi h1 h2=>by have:=Dd (i - lo) ∅ ∅;rwa [show lo+(i - lo)=i by lia] at this
    repeat' split
    all_goals first
    | (exfalso;lia)
    | show O.refl _
    | show Kj _ ∅ ∅
    | show Kr _ ∅ ∅
    | show eJ _ _ ∅ ∅ ∅
   change bK (bubble (arrOf dC) (lo+k) (lo+k - (lo+l))) j=_
   rw[gS Kl ∅,ar ∅,ar ∅]
end
def y7:Bool ->KS ->KU KS ->Nat ->Nat ->Nat ->StateT K1 Sem (KO Nat):=sortPriv% PySem.Builtin.gallop
def JI:KU KS ->KU KS ->StateT K1 Sem (KU KS):=sortPriv% PySem.Builtin.mergeLo
def JJ:KU KS ->KU KS ->StateT K1 Sem (KU KS):=sortPriv% PySem.Builtin.mergeHi
abbrev b_ (st:K1)(g:Nat):K1:=SortSt.mk' (kindOf st) (arrOf st) (pendingOf st) g (failedOf st)
def Lk (left:Bool)(key:KS)(arr:KU KS)(base i:Nat):StateT K1 Sem (KO Bool):=do
 let x <- elem' arr (base+i)
 if left then lt' x key else return(<- lt' key x).map (!·)
section
variable {prog:KY}{w:KZ}{A:K2}{E:Fp ->JZ ->Prop}{s:JZ}{kd:SortKind}{a₀:KU KS}{less:KS ->KS ->Bool}
def wp_gal0 {st:K1}{left:Bool}{key:KS}{arr:KU KS}{base n dy:Nat}{Q:KO Nat ->K1 ->Prop}(Bf:Nat ->Bool)(hh:dy<n) (hb: ∀i,i<n -> ∀Q':KO Bool ->K1 ->Prop,Q' (some (Bf i)) st ->wpS (model prog w) A E s (Lk left key arr base i) Q' st) (mono: ∀i j,i<=j ->j<n ->Bf j=true ->Bf i=true) (h: ∀k,k<=n ->(∀i,i<k ->Bf i=true) ->(∀i,k<=i ->i<n ->Bf i=false) ->Q (some k) st): wpS (model prog w) A E s (y7 left key arr base n dy) Q st:=by
 have rM: ∀i j,i<=j ->j<n ->Bf i=false ->Bf j=false:=λi j fG hj e=>by
  cases e2:Bf j with
  | false=>rfl
  | true=>rw[mono i j fG hj e2] at e;cases e
 exact ah (hb dy hh _ ?_);dsimp only;cases hB:Bf dy with
 | true =>
  simp![bH];exact ah (wpS_mono (bF (I:=λi c a_=>a_=st /\ bU λla f=>dW (c=(none,la,f)) (i+1<=f) (la<f) (dy+la<n) (Bf (dy+la)=true)) (Q:=λc a_=>a_=st /\ bU λla f=>dW (c=(none,la,f)) (la<f) (dy+la<n) (Bf (dy+la)=true) (n - dy<=f \/ (dy+f<n /\ Bf (dy+f)=false))) ?_ ?_ #[rfl,0,1,rfl,by omega,by omega,by omega,hB]) ?_);rintro i c a_ _ hi ⟨rfl,la,f,rfl,h1,h2,h3,h4⟩;dsimp only;by_cases c1:f≥n - dy;rw[am c1];show ay #[rfl,la,f,rfl,h2,h3,h4, .inl c1];rw[ar c1];exact ah (hb _ (by omega) _ ?_);cases e:Bf (dy+f) with
  | true=>simp![bI,av,a8];show ay #[rfl,f,2*f+1,rfl,by omega,by omega,by omega,e]
  | false=>simp![bT,bH];show ay #[rfl,la,f,rfl,h2,h3,h4, .inr #[by omega,e]]
  rintro c a_ ⟨rfl,la,f,rfl,h1,h2,h3,h4⟩;show#[rfl,la,f,rfl,h2,h3,h4, .inl (by omega)];rintro c a_ ⟨rfl,la,f,rfl,h2,h3,h4,h5⟩;dsimp only;exact ah (wpS_mono (bF (I:=λi c dC=>dC=a_ /\ bU λlo hi=>pD (c=(none,lo,hi)) (lo<=hi) (hi<=n) (hi - lo<=n - i) (∀i,i<lo ->Bf i=true) (∀i,hi<=i ->i<n ->Bf i=false)) (Q:=λc dC=>dC=a_ /\ bU λlo hi=>dN (c=(none,lo,hi)) (hi<=n) (∀i,i<hi ->Bf i=true) (∀i,hi<=i ->i<n ->Bf i=false)) ?_ ?_ #[rfl,_,_,rfl,by omega,by omega,by omega,λi hi=>mono i (dy+la) (by omega) h3 h4,λi hi tX=> ?_]) ?_);rintro i c dC _ hi ⟨rfl,lo,gu,rfl,g1,g2,g3,g4,g5⟩;dsimp only;by_cases c1:lo≥gu;rw[am c1];have:lo=gu:=by omega
  subst this;show ay #[rfl,_,_,rfl,g2,g4,g5];rw[ar c1];exact ah (hb _ (by omega) _ ?_);cases e:Bf (lo+(gu - lo) / 2) with
  | true=>simp![bH];show ay #[rfl,_,_,rfl,by omega,g2,by omega,λj hj=>mono j _ (by omega) (by omega) e,g5]
  | false=>simp![av,a8];show ay #[rfl,_,_,rfl,by omega,by omega,by omega,g4,λj hj Kp=>rM _ j hj Kp e]
  rintro c dC ⟨rfl,lo,gu,rfl,g1,g2,g3,g4,g5⟩;have:lo=gu:=by omega
  subst this;show#[rfl,_,_,rfl,g2,g4,g5];obtain h5 | ⟨h5,h6⟩:=h5;omega;show rM (dy+f) i (by omega) tX h6;rintro c dC ⟨rfl,lo,gu,rfl,g2,g4,g5⟩;show ay (h _ g2 g4 g5)
 | false =>
  simp![av,a8];exact ah (wpS_mono (bF (I:=λi c a_=>a_=st /\ bU λla f=>dW (c=(none,la,f)) (i+1<=f) (la<f) (la<=dy) (Bf (dy - la)=false)) (Q:=λc a_=>a_=st /\ bU λla f=>dW (c=(none,la,f)) (la<f) (la<=dy) (Bf (dy - la)=false) (dy+1<=f \/ (f<=dy /\ Bf (dy - f)=true))) ?_ ?_ #[rfl,0,1,rfl,by omega,by omega,by omega,hB]) ?_);rintro i c a_ _ hi ⟨rfl,la,f,rfl,h1,h2,h3,h4⟩;dsimp only;by_cases c1:f≥dy+1;rw[am c1];show ay #[rfl,la,f,rfl,h2,h3,h4, .inl c1];rw[ar c1];exact ah (hb _ (by omega) _ ?_);cases e:Bf (dy - f) with
  | false=>simp![av,a8];show ay #[rfl,f,2*f+1,rfl,by omega,by omega,by omega,e]
  | true=>simp![bH];show ay #[rfl,la,f,rfl,h2,h3,h4, .inr #[by omega,e]]
  rintro c a_ ⟨rfl,la,f,rfl,h1,h2,h3,h4⟩;show#[rfl,la,f,rfl,h2,h3,h4, .inl (by omega)];rintro c a_ ⟨rfl,la,f,rfl,h2,h3,h4,h5⟩;dsimp only;exact ah (wpS_mono (bF (I:=λi c dC=>dC=a_ /\ bU λlo hi=>pD (c=(none,lo,hi)) (lo<=hi) (hi<=n) (hi - lo<=n - i) (∀i,i<lo ->Bf i=true) (∀i,hi<=i ->i<n ->Bf i=false)) (Q:=λc dC=>dC=a_ /\ bU λlo hi=>dN (c=(none,lo,hi)) (hi<=n) (∀i,i<hi ->Bf i=true) (∀i,hi<=i ->i<n ->Bf i=false)) ?_ ?_ #[rfl,_,_,rfl,by omega,by omega,by omega,λi hi=> ?_,λi hi tX=>rM (dy - la) i (by omega) tX h4]) ?_);rintro i c dC _ hi ⟨rfl,lo,gu,rfl,g1,g2,g3,g4,g5⟩;dsimp only;by_cases c1:lo≥gu;rw[am c1];have:lo=gu:=by omega
  subst this;show ay #[rfl,_,_,rfl,g2,g4,g5];rw[ar c1];exact ah (hb _ (by omega) _ ?_);cases e:Bf (lo+(gu - lo) / 2) with
  | true=>simp![bH];show ay #[rfl,_,_,rfl,by omega,g2,by omega,λj hj=>mono j _ (by omega) (by omega) e,g5]
  | false=>simp![av,a8];show ay #[rfl,_,_,rfl,by omega,by omega,by omega,g4,λj hj Kp=>rM _ j hj Kp e]
  rintro c dC ⟨rfl,lo,gu,rfl,g1,g2,g3,g4,g5⟩;have:lo=gu:=by omega
  subst this;show#[rfl,_,_,rfl,g2,g4,g5];obtain h5 | ⟨h5,h6⟩:=h5;omega;show mono i (dy - f) (by omega) (by omega) h6;rintro c dC ⟨rfl,lo,gu,rfl,g2,g4,g5⟩;show ay (h _ g2 g4 g5)
def wp_galL (O:Ord less)(L:eK prog w A E s kd a₀ less){st:K1}{key:KS}{arr:KU KS}{base n dy:Nat}{Q:KO Nat ->K1 ->Prop}(B:kindOf st=kd)(hk:key∈a₀.toList) (hm: ∀i,i<n ->base+i<arr.size /\ bK arr (base+i)∈a₀.toList) (hh:dy<n) (hs:Sg less arr base (base+n)) (h: ∀k,k<=n ->(∀i,i<k ->less (bK arr (base+i)) key=true) ->(∀i,k<=i ->i<n ->LE less key (bK arr (base+i))) ->Q (some k) st): wpS (model prog w) A E s (y7 true key arr base n dy) Q st:=by exact wp_gal0 (λi=>less (bK arr (base+i)) key) hh (λi hi Q' hq=> ?_) (λi j fG hj e=>O.Fb (hs (base+i) (base+j) (by omega) (by omega) (by omega)) e) h;unfold Lk;exact ah (wp_elem (hm i hi).1 ?_);simp![bH];show L _ _ _ _ (hm i hi).2 hk B hq
def wp_galR (O:Ord less)(L:eK prog w A E s kd a₀ less){st:K1}{key:KS}{arr:KU KS}{base n dy:Nat}{Q:KO Nat ->K1 ->Prop}(B:kindOf st=kd)(hk:key∈a₀.toList) (hm: ∀i,i<n ->base+i<arr.size /\ bK arr (base+i)∈a₀.toList) (hh:dy<n) (hs:Sg less arr base (base+n)) (h: ∀k,k<=n ->(∀i,i<k ->LE less (bK arr (base+i)) key) ->(∀i,k<=i ->i<n ->less key (bK arr (base+i))=true) ->Q (some k) st): wpS (model prog w) A E s (y7 false key arr base n dy) Q st:=by exact wp_gal0 (λi=> !less key (bK arr (base+i))) hh (λi hi Q' hq=> ?_) (λi j fG hj e=> ?_) (λk h1 h2 h3=>h k h1 (λi hi=> ?_) λi h4 h5=> ?_);unfold Lk;exact ah (wp_elem (hm i hi).1 ?_);simp![av,a8];show ah (L _ _ _ _ hk (hm i hi).2 B (ay hq));simp![Bool.not_eq_true'] at e ⊢;show O.trans _ _ _ (hs (base+i) (base+j) (by omega) (by omega) (by omega)) e;have:=h2 i hi;simp![Bool.not_eq_true'] at this;show this;have:=h3 i h4 h5;simpa using this
end
structure MI (less:Keyed ->Keyed ->Bool)(al bl o:List Keyed)(i j:Nat):Prop where
 pm:o.Perm (al.take i++bl.take j)
 so:o.Pairwise (LE less)
 ba: ∀x∈o, ∀y∈al.drop i,LE less x y
 bb: ∀x∈o, ∀y∈bl.drop j,LE less x y
section
variable {less:KS ->KS ->Bool}{al bl o:Fm KS}{i j:Nat}
theorem MI.swap (h:MI less al bl o i j):MI less bl al o j i:=#[h.pm.trans cK,h.so,h.bb,h.ba]
def take_add {α:Type}(l:Fm α)(i k:Nat):l.take (i+k)=l.take i++(l.drop i).take k:=by rw[List.take_add]
def MI.zf (h:MI less al bl o i j)(sa:al.Pairwise (LE less))(k:Nat)(hk: ∀x∈(al.drop i).take k, ∀y∈bl.drop j,LE less x y):MI less al bl (o++(al.drop i).take k) (i+k) j:=by
 have sd:(al.drop i).Pairwise (LE less):=sa.sublist (List.drop_sublist _ _);have e:(al.drop i).take k++al.drop (i+k)=al.drop i:=by rw[<- List.drop_drop,aV]
 have Bh:=sd;rw[<- e,cw] at Bh;exact#[?_,?_,?_,?_];rw[take_add,a9];exact(h.pm.append_right _).trans ?_;rw[a9];show List.Perm.append_left _ cK;rw[cw];show#[h.so,Bh.1,λx hx y hy=>h.ba x hx y (List.mem_of_mem_take hy)];intro x hx y hy;obtain hx | hx:=aR.mp hx;show h.ba x hx y (by rw[<- e];show aH _ hy);show Bh.2.2 x hx y hy;intro x hx y hy;obtain hx | hx:=aR.mp hx;show h.bb x hx y hy;show hk x hx y hy
def MI.fin (h:MI less al bl o i j)(sa:al.Pairwise (LE less))(sb:bl.Pairwise (LE less))(hk: ∀x∈bl.drop j, ∀y∈al.drop i,LE less x y):(o++bl.drop j++al.drop i).Perm (al++bl) /\ (o++bl.drop j++al.drop i).Pairwise (LE less):=by
 symm;rw[a9];exact(h.pm.append_right _).trans ?_;have e1:(al++bl).Perm ((al.take i++al.drop i)++(bl.take j++bl.drop j)):=by rw[aV,aV]
 exact List.Perm.trans ?_ e1.symm;rw[a9,a9];exact List.Perm.append_left _ ?_;rw[<- a9];show cK;rw[cw,cw];exact#[#[h.so,sb.sublist (List.drop_sublist _ _),h.bb],sa.sublist (List.drop_sublist _ _),λx hx y hy=> ?_];obtain hx | hx:=aR.mp hx;show h.ba x hx y hy;show hk x hx y hy
structure MH (less:Keyed ->Keyed ->Bool)(al bl t:List Keyed)(i j:Nat):Prop where
 pm:t.Perm (al.drop i++bl.drop j)
 so:t.Pairwise (LE less)
 ba: ∀x∈t, ∀y∈al.take i,LE less y x
 bb: ∀x∈t, ∀y∈bl.take j,LE less y x
theorem MH.swap {t:Fm KS}(h:MH less al bl t i j):MH less bl al t j i:=#[h.pm.trans cK,h.so,h.bb,h.ba]
def MH.zf {t:Fm KS}(h:MH less al bl t i j)(sa:al.Pairwise (LE less)){k:Nat}(Kn:k<=i)(hk: ∀x∈(al.take i).drop k, ∀y∈bl.take j,LE less y x):MH less al bl ((al.take i).drop k++t) k j:=by
 have sd:(al.take i).Pairwise (LE less):=sa.sublist (List.take_sublist _ _);have e0:(al.take i).take k=al.take k:=by rw[List.take_take,Nat.min_eq_left Kn]
 have e:al.take k++(al.take i).drop k=al.take i:=by rw[<- e0,aV]
 have Bh:=sd;rw[<- e,cw] at Bh;have e3:al.drop k=(al.take i).drop k++al.drop i:=by
  have:=aV i al;have e4:al.drop k=(al.take i++al.drop i).drop k:=by rw[this]
  rw[e4];by_cases c:i<=al.length;rw[List.drop_append_of_le_length (by rw[bi];lia)];have z:al.drop i= []:=List.drop_eq_nil_of_le ∅;rw[z,List.append_nil,List.append_nil]
 exact#[?_,?_,?_,?_];rw[e3,a9];show List.Perm.append_left _ h.pm;rw[cw];show#[Bh.2.1,h.so,λx hx y hy=>h.ba y hy x (by rw[<- e];show aH _ hx)];intro x hx y hy;obtain hx | hx:=aR.mp hx;show Bh.2.2 y hy x hx;show h.ba x hx y (by rw[<- e];show List.mem_append_left _ hy);intro x hx y hy;obtain hx | hx:=aR.mp hx;show hk x hx y hy;show h.bb x hx y hy
def MH.fin {t:Fm KS}(h:MH less al bl t i j)(sa:al.Pairwise (LE less))(sb:bl.Pairwise (LE less))(hk: ∀x∈al.take i, ∀y∈bl.take j,LE less x y):(al.take i++bl.take j++t).Perm (al++bl) /\ (al.take i++bl.take j++t).Pairwise (LE less):=by
 symm;exact(List.Perm.append_left _ h.pm).trans ?_;have e1:(al++bl).Perm ((al.take i++al.drop i)++(bl.take j++bl.drop j)):=by rw[aV,aV]
 exact List.Perm.trans ?_ e1.symm;rw[a9,a9];exact List.Perm.append_left _ ?_;rw[<- a9, <- a9];show List.Perm.append_right _ cK;rw[cw,cw];exact#[#[sa.sublist (List.take_sublist _ _),sb.sublist (List.take_sublist _ _),hk],h.so,λx hx y hy=> ?_];obtain hx | hx:=aR.mp hx;show h.ba y hy x hx;show h.bb y hy x hx
end
abbrev R5:=KO (KU KS)×KU KS×Nat×Nat×Nat
abbrev R6:=KO (KU KS)×KU KS×Nat×Nat×Nat×Nat
abbrev R7:=KO (KU KS)×KU KS×Nat×Nat×Nat×Nat×Nat
section
variable (a b:KU KS)
abbrev xG (o:KU KS)(i j:Nat):KU KS:=o++a.extract i a.size++b.extract j b.size
abbrev C8 (o:KU KS)(i j:Nat):KU KS:=o++b.extract j b.size++a.extract i a.size
def BE (mg:Nat)(o:KU KS)(i j ac bc:Nat):StateT K1 Sem (ForInStep R6):=do
 let x <- elem' b j
 let y <- elem' a i
 let g <- lt' x y
 match g with
 | some g=>
  if g=true then do
   let x <- elem' b j
   if(j+1==b.size)=true then pure (.done (some (xG a b (o.push x) i (j+1)),o.push x,i,j+1,0,bc+1))
   else if bc+1≥mg then pure (.done (none,o.push x,i,j+1,0,bc+1))
   else pure (.yield (none,o.push x,i,j+1,0,bc+1))
  else do
   let x <- elem' a i
   if(i+1+1==a.size)=true then pure (.done (some (C8 a b (o.push x) (i+1) j),o.push x,i+1,j,ac+1,0))
   else if ac+1≥mg then pure (.done (none,o.push x,i+1,j,ac+1,0))
   else pure (.yield (none,o.push x,i+1,j,ac+1,0))
 | _=>pure (.done (some (xG a b o i j),o,i,j,ac,bc))
def G9 (mg ac bc:Nat)(o:KU KS)(i j:Nat):StateT K1 Sem (ForInStep R7):=do
 let x <- elem' a i
 if(i+1+1==a.size)=true then pure (.done (some (C8 a b (o.push x) (i+1) j),o.push x,i+1,j,mg,ac,bc))
 else if(decide (ac<7) && decide (bc<7))=true then pure (.done (none,o.push x,i+1,j,mg,ac,bc))
 else pure (.yield (none,o.push x,i+1,j,mg,ac,bc))
def G_ (mg ac bc:Nat)(o:KU KS)(i j:Nat):StateT K1 Sem (ForInStep R7):=do
 let x <- elem' b j
 if(j+1==b.size)=true then pure (.done (some (xG a b (o.push x) i (j+1)),o.push x,i,j+1,mg,ac,bc))
 else do
  let y <- elem' a i
  let r <- y7 true y b (j+1) (b.size - (j+1)) 0
  match r with
  | some k=>
   if k >0 then
    if(j+1+k==b.size)=true then pure (.done (some (xG a b (o.push x++b.extract (j+1) (j+1+k)) i (j+1+k)),o.push x++b.extract (j+1) (j+1+k),i,j+1+k,mg,ac,k))
    else G9 a b mg ac k (o.push x++b.extract (j+1) (j+1+k)) i (j+1+k)
   else G9 a b mg ac k (o.push x) i (j+1)
  | _=>pure (.done (some (xG a b (o.push x) i (j+1)),o.push x,i,j+1,mg,ac,bc))
def Hd (mg ac bc:Nat)(o:KU KS)(i j:Nat):StateT K1 Sem (ForInStep R7):=do
 modify λs=>b_ s mg
 let x <- elem' b j
 let r <- y7 false x a i (a.size - i) 0
 match r with
 | some k=>
  if k >0 then
   if(i+k+1==a.size)=true then pure (.done (some (C8 a b (o++a.extract i (i+k)) (i+k) j),o++a.extract i (i+k),i+k,j,mg,k,bc))
   else if(i+k==a.size)=true then pure (.done (some (xG a b (o++a.extract i (i+k)) (i+k) j),o++a.extract i (i+k),i+k,j,mg,k,bc))
   else G_ a b mg k bc (o++a.extract i (i+k)) (i+k) j
  else G_ a b mg k bc o i j
 | _=>pure (.done (some (xG a b o i j),o,i,j,mg,ac,bc))
def EZ (c:R5):StateT K1 Sem (ForInStep R5):=do
 let d <- forIn [:a.size+b.size] ((none,c.2.1,c.2.2.1,c.2.2.2.1,0,0):R6) λ_ d=>BE a b c.2.2.2.2 d.2.1 d.2.2.1 d.2.2.2.1 d.2.2.2.2.1 d.2.2.2.2.2
 match d.1 with
 | some r=>pure (.done (some r,d.2.1,d.2.2.1,d.2.2.2.1,c.2.2.2.2))
 | none=>do
  liftM (rule "list.sort.gallop")
  let e <- forIn [:a.size+b.size] ((none,d.2.1,d.2.2.1,d.2.2.2.1,c.2.2.2.2+1,d.2.2.2.2.1,d.2.2.2.2.2):R7) λ_ e=>if e.2.2.2.2.1 >1 then Hd a b (e.2.2.2.2.1 - 1) e.2.2.2.2.2.1 e.2.2.2.2.2.2 e.2.1 e.2.2.1 e.2.2.2.1 else Hd a b e.2.2.2.2.1 e.2.2.2.2.2.1 e.2.2.2.2.2.2 e.2.1 e.2.2.1 e.2.2.2.1
  match e.1 with
  | some r=>pure (.done (some r,e.2.1,e.2.2.1,e.2.2.2.1,e.2.2.2.2.1))
  | none=>do
   modify λs=>b_ s (e.2.2.2.2.1+1)
   pure (.yield (none,e.2.1,e.2.2.1,e.2.2.2.1,e.2.2.2.2.1+1))
end
def mn {σ α β:Type}{m:StateT σ Sem α}{f g:α ->StateT σ Sem β}(h: ∀x,f x=g x):(m >>=f)=(m >>=g):=by rw[funext h]
def uf {σ α β:Type}{m m':StateT σ Sem α}{f g:α ->StateT σ Sem β}(e:m=m')(h: ∀x,f x=g x):(m >>=f)=(m' >>=g):=by rw[e,funext h]
def tT {α:Sort _}{c:Prop} [Decidable c]{x y x' y':α}(h:x=x')(h':y=y'):(if c then x else y)=(if c then x' else y'):=by rw[h,h']
def t0 {σ β:Type}{r:Std.Legacy.Range}{c:β}{f g:Nat ->β ->StateT σ Sem (ForInStep β)}(h: ∀i c,f i c=g i c):forIn r c f=forIn r c g:=by rw[funext λi=>funext (h i)]
section
variable (a b:KU KS)
theorem tH:JI a b=(do
  liftM (rule "list.sort.merge-lo")
  let x <- elem' b 0
  if(1==b.size)=true then pure (xG a b #[x] 0 1)
  else if(0+1==a.size)=true then pure (C8 a b #[x] 0 1)
  else do
   let g <- get
   let c <- forIn [:a.size+b.size] ((none, #[x],0,1,gallopOf g):R5) λ_ c=>EZ a b c
   match c.1 with
   | some r=>pure r
   | none=>unsupported "internal:list.sort.merge-bound"):=by
 exact mn λ_=>mn λx=> ?_
 exact tT rfl (tT rfl (mn λg=>uf (t0 λ_ c=> ?_) λc=> ?_))
 exact uf (t0 λ_ d=>rfl) λd=> ?_
 let⟨r,d⟩:=d
 cases r with
 | some r=>rfl
 | none =>
  exact mn λ_=>uf (t0 λ_ e=> ?_) λe=> ?_;exact tT ?_ ?_<;>
  .refine mn λ_=>mn λx=>mn λr=> ?_;cases r with
   | none=>rfl
   | some k=>
    exact tT (tT rfl (tT rfl ?_)) ?_<;>
    .exact mn λy=>tT rfl (mn λz=>mn λr=> ?_);cases r<;>rfl
  let⟨r,e⟩:=e;cases r<;>rfl
 let⟨r,c⟩:=c
 cases r<;>rfl
abbrev xH (o:KU KS)(i j:Nat):KU KS:=a.extract 0 i++b.extract 0 j++o.reverse
abbrev Dg (o:KU KS)(i j:Nat):KU KS:=b.extract 0 j++a.extract 0 i++o.reverse
def A3 (mg:Nat)(i j:Nat)(o:KU KS)(ac bc:Nat):StateT K1 Sem (ForInStep (KO (KU KS)×Nat×Nat×KU KS×Nat×Nat)):=do
 let x <- elem' b (j - 1)
 let y <- elem' a (i - 1)
 let g <- lt' x y
 match g with
 | some g=>
  if g=true then do
   let x <- elem' a (i - 1)
   if(i - 1==0)=true then pure (.done (some (xH a b (o.push x) (i - 1) j),i - 1,j,o.push x,ac+1,0))
   else if ac+1≥mg then pure (.done (none,i - 1,j,o.push x,ac+1,0))
   else pure (.yield (none,i - 1,j,o.push x,ac+1,0))
  else do
   let x <- elem' b (j - 1)
   if(j - 1==1)=true then pure (.done (some (Dg a b (o.push x) i (j - 1)),i,j - 1,o.push x,0,bc+1))
   else if bc+1≥mg then pure (.done (none,i,j - 1,o.push x,0,bc+1))
   else pure (.yield (none,i,j - 1,o.push x,0,bc+1))
 | _=>pure (.done (some (xH a b o i j),i,j,o,ac,bc))
abbrev S7:=KO (KU KS)×Nat×Nat×KU KS×Nat×Nat×Nat
def G' (mg ac bc:Nat)(i j:Nat)(o:KU KS):StateT K1 Sem (ForInStep S7):=do
 let x <- elem' a (i - 1)
 if(i - 1==0)=true then pure (.done (some (xH a b (o.push x) (i - 1) j),i - 1,j,o.push x,mg,ac,bc))
 else if(decide (ac<7) && decide (bc<7))=true then pure (.done (none,i - 1,j,o.push x,mg,ac,bc))
 else pure (.yield (none,i - 1,j,o.push x,mg,ac,bc))
def Hc (mg ac bc:Nat)(i j:Nat)(o:KU KS):StateT K1 Sem (ForInStep S7):=do
 let x <- elem' b (j - 1)
 if(j - 1==1)=true then pure (.done (some (Dg a b (o.push x) i (j - 1)),i,j - 1,o.push x,mg,ac,bc))
 else do
  let y <- elem' a (i - 1)
  let r <- y7 true y b 0 (j - 1) (j - 1 - 1)
  match r with
  | some k=>
   if j - 1 - k >0 then
    if(k==1)=true then pure (.done (some (Dg a b (o.push x++(b.extract k (j - 1)).reverse) i k),i,k,o.push x++(b.extract k (j - 1)).reverse,mg,ac,j - 1 - k))
    else if(k==0)=true then pure (.done (some (xH a b (o.push x++(b.extract k (j - 1)).reverse) i k),i,k,o.push x++(b.extract k (j - 1)).reverse,mg,ac,j - 1 - k))
    else G' a b mg ac (j - 1 - k) i k (o.push x++(b.extract k (j - 1)).reverse)
   else G' a b mg ac (j - 1 - k) i (j - 1) (o.push x)
  | _=>pure (.done (some (xH a b (o.push x) i (j - 1)),i,j - 1,o.push x,mg,ac,bc))
def He (mg ac bc:Nat)(i j:Nat)(o:KU KS):StateT K1 Sem (ForInStep S7):=do
 modify λs=>b_ s mg
 let x <- elem' b (j - 1)
 let r <- y7 false x a 0 i (i - 1)
 match r with
 | some k=>
  if i - k >0 then
   if(k==0)=true then pure (.done (some (xH a b (o++(a.extract k i).reverse) k j),k,j,o++(a.extract k i).reverse,mg,i - k,bc))
   else Hc a b mg (i - k) bc k j (o++(a.extract k i).reverse)
  else Hc a b mg (i - k) bc i j o
 | _=>pure (.done (some (xH a b o i j),i,j,o,mg,ac,bc))
abbrev S5:=KO (KU KS)×Nat×Nat×KU KS×Nat
def E1 (c:S5):StateT K1 Sem (ForInStep S5):=do
 let d <- forIn [:a.size+b.size] ((none,c.2.1,c.2.2.1,c.2.2.2.1,0,0):KO (KU KS)×Nat×Nat×KU KS×Nat×Nat) λ_ d=>A3 a b c.2.2.2.2 d.2.1 d.2.2.1 d.2.2.2.1 d.2.2.2.2.1 d.2.2.2.2.2
 match d.1 with
 | some r=>pure (.done (some r,d.2.1,d.2.2.1,d.2.2.2.1,c.2.2.2.2))
 | none=>do
  liftM (rule "list.sort.gallop")
  let e <- forIn [:a.size+b.size] ((none,d.2.1,d.2.2.1,d.2.2.2.1,c.2.2.2.2+1,d.2.2.2.2.1,d.2.2.2.2.2):S7) λ_ e=>if e.2.2.2.2.1 >1 then He a b (e.2.2.2.2.1 - 1) e.2.2.2.2.2.1 e.2.2.2.2.2.2 e.2.1 e.2.2.1 e.2.2.2.1 else He a b e.2.2.2.2.1 e.2.2.2.2.2.1 e.2.2.2.2.2.2 e.2.1 e.2.2.1 e.2.2.2.1
  match e.1 with
  | some r=>pure (.done (some r,e.2.1,e.2.2.1,e.2.2.2.1,e.2.2.2.2.1))
  | none=>do
   modify λs=>b_ s (e.2.2.2.2.1+1)
   pure (.yield (none,e.2.1,e.2.2.1,e.2.2.2.1,e.2.2.2.2.1+1))
theorem tI:JJ a b=(do
  liftM (rule "list.sort.merge-hi")
  let x <- elem' a (a.size - 1)
  if(a.size - 1==0)=true then pure (xH a b #[x] (a.size - 1) b.size)
  else if(b.size==1)=true then pure (Dg a b #[x] (a.size - 1) b.size)
  else do
   let g <- get
   let c <- forIn [:a.size+b.size] ((none,a.size - 1,b.size, #[x],gallopOf g):S5) λ_ c=>E1 a b c
   match c.1 with
   | some r=>pure r
   | none=>unsupported "internal:list.sort.merge-bound"):=by
 exact mn λ_=>mn λx=> ?_
 exact tT rfl (tT rfl (mn λg=>uf (t0 λ_ c=> ?_) λc=> ?_))
 exact uf (t0 λ_ d=>rfl) λd=> ?_
 let⟨r,d⟩:=d
 cases r with
 | some r=>rfl
 | none =>
  exact mn λ_=>uf (t0 λ_ e=> ?_) λe=> ?_;exact tT ?_ ?_<;>
  .refine mn λ_=>mn λx=>mn λr=> ?_;cases r with
   | none=>rfl
   | some k=>
    exact tT (tT rfl ?_) ?_<;>
    .exact mn λy=>tT rfl (mn λz=>mn λr=> ?_);cases r<;>rfl
  let⟨r,e⟩:=e;cases r<;>rfl
 let⟨r,c⟩:=c
 cases r<;>rfl
end
def dR {xs:KU KS}{i:Nat}(h:i<xs.size):xs.toList[i]? =some (bK xs i):=by rw[<- w5 h];simp
def t9 {xs:KU KS}{i:Nat}(h:i<xs.size):xs.toList.drop i=bK xs i::xs.toList.drop (i+1):=by have h':i<xs.toList.length:= ⇑h;have e:=dR h;rw[aA h'] at e;rw[cG h',aW e]
def nY {xs:KU KS}{i:Nat}(h:i<xs.size):(xs.toList.drop i).take 1= [bK xs i]:=by rw[t9 h];rfl
def eO {xs:KU KS}{i:Nat}{y:KS}(h:y∈xs.toList.drop i): ∃k,cJ (i<=k) (k<xs.size) (y=bK xs k):=by let⟨n,hn⟩:=cL.mp h;rw[List.getElem?_drop] at hn;have hl:=(aZ.mp hn).1;have nR:i+n<xs.size:= ⇑hl;rw[dR nR] at hn;show#[i+n, ∅,nR,(aW hn).symm]
def mJ {xs:KU KS}{i k:Nat}{y:KS}(h:y∈(xs.toList.drop i).take k): ∃n,dN (i<=n) (n<i+k) (n<xs.size) (y=bK xs n):=by let⟨n,hn⟩:=cL.mp h;rw[List.getElem?_take] at hn;split at hn;rename_i hk;rw[List.getElem?_drop] at hn;have hl:=(aZ.mp hn).1;have nR:i+n<xs.size:= ⇑hl;rw[dR nR] at hn;show#[i+n, ∅, ∅,nR,(aW hn).symm];cases hn
def gt {less:KS ->KS ->Bool}(O:Ord less){xs:KU KS}(h:xs.toList.Pairwise (LE less)){i j:Nat}(fG:i<=j)(hj:j<xs.size):LE less (bK xs i) (bK xs j):=by
 by_cases c:i=j;subst c;show O.refl _;rw[List.pairwise_iff_getElem] at h;have gu:i<xs.toList.length:=by simp;lia
 have yX:j<xs.toList.length:= ⇑hj;have:=h i j gu yX ∅;have e1:=dR (xs:=xs) (i:=i) ∅;have e2:=dR hj;rw[aA gu] at e1;rw[aA yX] at e2;rwa [aW e1,aW e2] at this
theorem mM {less:KS ->KS ->Bool}(O:Ord less){xs:KU KS}(h:xs.toList.Pairwise (LE less)){i n:Nat}(hn:i+n<=xs.size):Sg less xs i (i+n):=λx y _ MG hy=>gt O h MG ∅
def oZ (xs:KU KS)(i k:Nat):(xs.extract i (i+k)).toList=(xs.toList.drop i).take k:=by rw[Array.toList_extract,List.extract_eq_take_drop];congr 1;lia
def jA (xs:KU KS)(i:Nat):(xs.extract i xs.size).toList=xs.toList.drop i:=by rw[Array.toList_extract,List.extract_eq_take_drop];show List.take_of_length_le (by simp)
section
variable {prog:KY}{w:KZ}{A:K2}{E:Fp ->JZ ->Prop}{s:JZ}{kd:SortKind}{a₀:KU KS}{less:KS ->KS ->Bool}
structure mD (less:Keyed ->Keyed ->Bool)(a₀ a b:Array Keyed):Prop where
 sa:a.toList.Pairwise (LE less)
 sb:b.toList.Pairwise (LE less)
 ma: ∀i,i<a.size ->bK a i∈a₀.toList
 mb: ∀i,i<b.size ->bK b i∈a₀.toList
 na:1<=a.size
 nb:1<=b.size
 h0:less (bK b 0) (bK a 0)=true
 hl: ∀j,j<b.size ->less (bK b j) (bK a (a.size - 1))=true
def kR (less:KS ->KS ->Bool)(a b r:KU KS):Prop:=r.toList.Perm (a.toList++b.toList) /\ r.toList.Pairwise (LE less)
structure JL (less:Keyed ->Keyed ->Bool)(a b o:Array Keyed)(i j:Nat):Prop where
 mi:MI less a.toList b.toList o.toList i j
 hi:i+1<a.size
 hj:j<b.size
variable {a b:KU KS}
def mP (T:mD less a₀ a b){o:KU KS}{i j:Nat}(h:MI less a.toList b.toList o.toList i j)(hj:b.size<=j \/ a.size<=i):kR less a b (xG a b o i j):=by
 unfold kR xG;rw[bg,bg,jA,jA];have:=h.swap.fin T.sb T.sa λx hx y hy=>by obtain hj | hj:=hj;let⟨k,h1,h2,_⟩:=eO hy;lia;let⟨k,h1,h2,_⟩:=eO hx;lia
 show#[this.1.trans cK,this.2]
def mO (O:Ord less)(T:mD less a₀ a b){o:KU KS}{i j:Nat}(h:MI less a.toList b.toList o.toList i j)(hi:i+1=a.size):kR less a b (C8 a b o i j):=by unfold kR C8;rw[bg,bg,jA,jA];exact h.fin T.sa T.sb λx hx y hy=> ?_;let⟨k,h1,h2,rfl⟩:=eO hx;let⟨k',Ct,uB,rfl⟩:=eO hy;rw[show k'=a.size - 1 by lia];show O.le (T.hl k h2)
def p8 (O:Ord less)(T:mD less a₀ a b){o:KU KS}{i j:Nat}(h:MI less a.toList b.toList o.toList i j)(hj:j<b.size)(hc:i<a.size ->LE less (bK b j) (bK a i)):MI less a.toList b.toList (o.push (bK b j)).toList i (j+1):=by have:=(h.swap.zf T.sb 1 λx hx y hy=>by rw[nY hj] at hx;rw[aY.mp hx];let⟨k,h1,h2,rfl⟩:=eO hy;show O.trans _ _ _ (hc ∅) (gt O T.sa h1 h2)).swap;rw[nY hj] at this;rwa [Array.toList_push]
def vo (O:Ord less)(T:mD less a₀ a b){o:KU KS}{i j:Nat}(h:MI less a.toList b.toList o.toList i j)(hi:i<a.size)(hc:j<b.size ->LE less (bK a i) (bK b j)):MI less a.toList b.toList (o.push (bK a i)).toList (i+1) j:=by
 have:=h.zf T.sa 1 λx hx y hy=>by rw[nY hi] at hx;rw[aY.mp hx];let⟨k,h1,h2,rfl⟩:=eO hy;show O.trans _ _ _ (hc ∅) (gt O T.sb h1 h2)
 rw[nY hi] at this;rwa [Array.toList_push]
def CV (less:KS ->KS ->Bool)(a b:KU KS)(st:K1)(N:Nat)(r:ForInStep R7)(a_:K1):Prop:=(∃g,a_=b_ st g) /\ ((bU λx c=>r= .done (some x,c) /\ kR less a b x) \/ (i6 λo i j c=>cJ (r= .done (none,o,i,j,c) \/ r= .yield (none,o,i,j,c)) (JL less a b o i j) (N<=i+j)))
def wp_p3L (O:Ord less)(T:mD less a₀ a b){st a_:K1}{mg ac bc N:Nat}{o:KU KS}{i j:Nat}(hg: ∃g,a_=b_ st g)(J:JL less a b o i j)(hc:LE less (bK a i) (bK b j))(hN:N<=i+j):wpS (model prog w) A E s (G9 a b mg ac bc o i j) (CV less a b st N) a_:=by
 unfold G9;have hi:=J.hi;exact ah (wp_elem ∅ ?_);have m:=vo O T J.mi ∅ λ_=>hc;by_cases c:i+1+1=a.size;rw[am ⇑c];show ay #[hg, .inl #[_,_,rfl,mO O T m c]];rw[ar ⇑c];have J':JL less a b (o.push (bK a i)) (i+1) j:=#[m, ∅,J.hj]
 split;show ay #[hg, .inr #[_,_,_,_, .inl rfl,J', ∅]];show ay #[hg, .inr #[_,_,_,_, .inr rfl,J', ∅]]
def wp_p2L (O:Ord less)(L:eK prog w A E s kd a₀ less)(T:mD less a₀ a b){st a_:K1}{mg ac bc N:Nat}{o:KU KS}{i j:Nat}(hk:kindOf a_=kd)(hg: ∃g,a_=b_ st g)(J:JL less a b o i j)(hc:less (bK b j) (bK a i)=true)(hN:N<=i+j):wpS (model prog w) A E s (G_ a b mg ac bc o i j) (CV less a b st N) a_:=by
 unfold G_;have hi:=J.hi;have hj:=J.hj;exact ah (wp_elem hj ?_);have m:=p8 O T J.mi hj λ_=>O.le hc;by_cases c:j+1=b.size;rw[am ⇑c];show ay #[hg, .inl #[_,_,rfl,mP T m (.inl ∅)]];rw [ar ⇑c];exact ah (wp_elem ∅ ?_);exact ah (wp_galL O L hk (T.ma i ∅) (λk hk=>#[∅,T.mb _ ∅]) ∅ (mM O T.sb ∅) λk h1 h2 h3=> ?_);dsimp only;by_cases ck:k >0;rw[am ck];have m2:MI less a.toList b.toList (o.push (bK b j)++b.extract (j+1) (j+1+k)).toList i (j+1+k):=by rw[bg,oZ];exact(m.swap.zf T.sb k λx hx y hy=> ?_).swap;let⟨n,n1,n2,n3,rfl⟩:=mJ hx;let⟨k',k1,k2,rfl⟩:=eO hy;have:=h2 (n - (j+1)) ∅;rw[show j+1+(n - (j+1))=n by lia] at this;show O.trans _ _ _ (O.le this) (gt O T.sa k1 k2)
 by_cases c2:j+1+k=b.size;rw[am ⇑c2];show ay #[hg, .inl #[_,_,rfl,mP T m2 (.inl ∅)]];rw[ar ⇑c2];show wp_p3L O T hg #[m2,hi, ∅] (h3 k (ag _) ∅) ∅;rw[ar ck];have:k=0:= ∅;subst this;show wp_p3L O T hg #[m,hi, ∅] (h3 0 (ag _) ∅) ∅
def wp_p1L (O:Ord less)(L:eK prog w A E s kd a₀ less)(T:mD less a₀ a b){st a_:K1}{mg ac bc N:Nat}{o:KU KS}{i j:Nat}(hk:kindOf st=kd)(hg: ∃g,a_=b_ st g)(J:JL less a b o i j)(hN:N<=i+j):wpS (model prog w) A E s (Hd a b mg ac bc o i j) (CV less a b st N) a_:=by
 unfold Hd;have hi:=J.hi;have hj:=J.hj;exact ah (wpS_modify ?_);have Ci: ∃g,b_ a_ mg=b_ st g:=by let⟨g,rfl⟩:=hg;show#[mg,rfl]
 have lW:kindOf (b_ a_ mg)=kd:=by let⟨g,rfl⟩:=hg;show hk
 exact ah (wp_elem hj ?_);exact ah (wp_galR O L lW (T.mb j hj) (λk hk=>#[∅,T.ma _ ∅]) ∅ (mM O T.sa ∅) λk h1 h2 h3=> ?_);dsimp only;have RA:i+k<a.size:=by by_cases c:i+k<a.size;show c;have:=h2 (a.size - 1 - i) ∅;rw[show i+(a.size - 1 - i)=a.size - 1 by lia] at this;unfold LE at this;rw[T.hl j hj] at this;cases this
 have Aj:=h3 k (ag _) ∅;by_cases ck:k >0;rw[am ck];have m2:MI less a.toList b.toList (o++a.extract i (i+k)).toList (i+k) j:=by rw[bg,oZ];exact J.mi.zf T.sa k λx hx y hy=> ?_;let⟨n,n1,n2,n3,rfl⟩:=mJ hx;let⟨k',k1,k2,rfl⟩:=eO hy;have:=h2 (n - i) ∅;rw[show i+(n - i)=n by lia] at this;show O.trans _ _ _ this (gt O T.sb k1 k2)
 by_cases c2:i+k+1=a.size;rw[am ⇑c2];show ay #[Ci, .inl #[_,_,rfl,mO O T m2 c2]];rw[ar ⇑c2,ar (by simp;lia)];show wp_p2L O L T lW Ci #[m2, ∅,hj] Aj ∅;rw[ar ck];have:k=0:= ∅;subst this;show wp_p2L O L T lW Ci J Aj hN
def wp_one1 (O:Ord less)(L:eK prog w A E s kd a₀ less)(T:mD less a₀ a b){a_:K1}{mg ac bc:Nat}{o:KU KS}{i j:Nat}{Q:ForInStep R6 ->K1 ->Prop}(hk:kindOf a_=kd)(J:JL less a b o i j) (h1: ∀x c,kR less a b x ->Q (.done (some x,c)) a_) (h2: ∀o i' j' c,JL less a b o i' j' ->i'+j'=i+j+1 ->Q (.done (none,o,i',j',c)) a_ /\ Q (.yield (none,o,i',j',c)) a_): wpS (model prog w) A E s (BE a b mg o i j ac bc) Q a_:=by
 unfold BE;have hi:=J.hi;have hj:=J.hj;exact ah (wp_elem hj (ah (wp_elem ∅ (ah (L _ _ _ _ (T.mb j hj) (T.ma i ∅) hk ?_)))));dsimp only;cases e:less (bK b j) (bK a i) with
 | true=>simp![bH];exact ah (wp_elem hj ?_);have m:=p8 O T J.mi hj λ_=>O.le e;by_cases c:j+1=b.size;rw[am ⇑c];show ay (h1 _ _ (mP T m (.inl ∅)));rw[ar ⇑c];have:=h2 _ i (j+1) (0,bc+1) #[m,hi, ∅] ∅;split;show ay this.1;show ay this.2
 | false=>simp![av,a8];exact ah (wp_elem ∅ ?_);have m:=vo O T J.mi ∅ λ_=>e;by_cases c:i+1+1=a.size;rw[am ⇑c];show ay (h1 _ _ (mO O T m c));rw[ar ⇑c];have:=h2 _ (i+1) j (ac+1,0) #[m, ∅,hj] ∅;split;show ay this.1;show ay this.2
def wp_mLo (O:Ord less)(L:eK prog w A E s kd a₀ less)(T:mD less a₀ a b){st:K1}{Q:KU KS ->K1 ->Prop}(hk:kindOf st=kd)(h: ∀r g,kR less a b r ->Q r (b_ st g)):wpS (model prog w) A E s (JI a b) Q st:=by
 rw[tH];have na:=T.na;have nb:=T.nb;exact ah (wpS_lift (wpAny_rule #[rfl,?_]));exact ah (wp_elem ∅ ?_);have h': ∀r,kR less a b r ->Q r st:=λr hr=>h r (gallopOf st) hr;have m:MI less a.toList b.toList (#[bK b 0]:KU KS).toList 0 1:=by
  have m0:MI less a.toList b.toList (#[]:KU KS).toList 0 0:=#[by simp,by simp,by simp,by simp]
  show p8 O T m0 ∅ λ_=>O.le T.h0
 by_cases c:1=b.size;rw[am ⇑c];show ay (h' _ (mP T m (.inl ∅)));rw[ar ⇑c];by_cases c2:0+1=a.size;rw[am ⇑c2];show ay (h' _ (mO O T m c2));rw[ar ⇑c2];exact ah (wpS_get ?_);exact ah (wpS_mono (bF (I:=λn c a_=>(∃g,a_=b_ st g) /\ i6 λo i j mg=>cJ (c=(none,o,i,j,mg)) (JL less a b o i j) (n+1<=i+j)) (Q:=λc a_=>(∃g,a_=b_ st g) /\ bU λx d=>c=(some x,d) /\ kR less a b x) ?_ ?_ #[#[gallopOf st,rfl],_,0,1,_,rfl,#[m, ∅, ∅], ∅]) ?_)
 .rintro n c a_ _ hn ⟨hg,o,i,j,mg,rfl,J,hN⟩;unfold EZ;dsimp only;have lW:kindOf a_=kd:=by let⟨g,rfl⟩:=hg;show hk
  exact ah (wpS_mono (bF (I:=λx c gC=>gC=a_ /\ i6 λo' i' j' d=>cJ (c=(none,o',i',j',d)) (JL less a b o' i' j') (i'+j'=i+j+x)) (Q:=λc gC=>gC=a_ /\ ((bU λx d=>c=(some x,d) /\ kR less a b x) \/ i6 λo' i' j' d=>cJ (c=(none,o',i',j',d)) (JL less a b o' i' j') (i+j+1<=i'+j'))) ?_ ?_ #[rfl,o,i,j,_,rfl,J,rfl]) ?_);rintro x c gC _ hx ⟨rfl,o',i',j',⟨ac,bc⟩,rfl,J',Ap⟩;dsimp only;exact wp_one1 O L T lW J' (λx c hr=>#[rfl, .inl #[x,c,rfl,hr]]) λo2 i2 j2 c J2 h2=>#[#[rfl, .inr #[o2,i2,j2,c,rfl,J2, ∅]],#[rfl,o2,i2,j2,c,rfl,J2, ∅]]
  rintro c gC ⟨rfl,o',i',j',d,rfl,J',Ap⟩;show#[rfl, .inr #[o',i',j',d,rfl,J', ∅]]
  .rintro c gC ⟨rfl,⟨x,d,rfl,hr⟩ | ⟨o',i',j',⟨ac,bc⟩,rfl,J',Ap⟩⟩;show ay #[hg,x,_,rfl,hr]
   .dsimp only;exact ah (wpS_lift (wpAny_rule #[rfl,?_]));exact ah (wpS_mono (bF (I:=λx c kT=>(∃g,kT=b_ st g) /\ i6 λo' i' j' d=>cJ (c=(none,o',i',j',d)) (JL less a b o' i' j') (i+j+1<=i'+j')) (Q:=λc kT=>(∃g,kT=b_ st g) /\ ((bU λx d=>c=(some x,d) /\ kR less a b x) \/ i6 λo' i' j' d=>cJ (c=(none,o',i',j',d)) (JL less a b o' i' j') (i+j+1<=i'+j'))) ?_ ?_ #[hg,o',i',j',_,rfl,J',Ap]) ?_)
    .rintro x c kT _ hx ⟨tZ,o3,i3,j3,⟨JG,Ln,Ll⟩,rfl,J3,lX⟩;dsimp only;split;all_goals
      exact wpS_mono (wp_p1L O L T hk tZ J3 lX) ?_
      rintro r dE ⟨Cg,⟨x,c,rfl,hr⟩ | ⟨o,i,j,c,rfl | rfl,J4,h4⟩⟩
      show#[Cg, .inl #[x,c,rfl,hr]]
      show#[Cg, .inr #[o,i,j,c,rfl,J4,h4]]
      show#[Cg,o,i,j,c,rfl,J4,h4]
    rintro c kT ⟨tZ,o3,i3,j3,d,rfl,J3,lX⟩;show#[tZ, .inr #[o3,i3,j3,d,rfl,J3,lX]];rintro c kT ⟨tZ,⟨x,d,rfl,hr⟩ | ⟨o3,i3,j3,⟨JG,Ln,Ll⟩,rfl,J3,lX⟩⟩;show ay #[tZ,x,_,rfl,hr];dsimp only;exact ah (wpS_modify (ay #[?_,o3,i3,j3,_,rfl,J3, ∅]));let⟨g,rfl⟩:=tZ;show#[_,rfl]
 rintro c a_ ⟨hg,o,i,j,mg,rfl,J,hN⟩;have:=J.hi;have:=J.hj;lia;rintro c a_ ⟨⟨g,rfl⟩,x,d,rfl,hr⟩;show ay (h x g hr)
end
def ly {xs:KU KS}{i:Nat}{y:KS}(h:y∈xs.toList.take i): ∃n,cJ (n<i) (n<xs.size) (y=bK xs n):=by let⟨n,hn⟩:=cL.mp h;rw[List.getElem?_take] at hn;split at hn;have hl:=(aZ.mp hn).1;have nR:n<xs.size:= ⇑hl;rw[dR nR] at hn;show#[n, ∅,nR,(aW hn).symm];cases hn
def qT {xs:KU KS}{i k:Nat}{y:KS}(h:y∈(xs.toList.take i).drop k): ∃n,dN (k<=n) (n<i) (n<xs.size) (y=bK xs n):=by rw[List.drop_take] at h;let⟨n,h1,h2,h3,e⟩:=mJ h;show#[n,h1, ∅,h3,e]
def G4 {xs:KU KS}{i:Nat}(h0:1<=i)(h:i<=xs.size):(xs.toList.take i).drop (i - 1)= [bK xs (i - 1)]:=by rw[List.drop_take,show i - (i - 1)=1 by lia,nY ∅]
def gO (xs:KU KS)(k i:Nat):(xs.extract k i).toList=(xs.toList.take i).drop k:=by rw[Array.toList_extract,List.extract_eq_take_drop,List.drop_take]
def su (xs:KU KS)(i:Nat):(xs.extract 0 i).toList=xs.toList.take i:=by rw[gO,List.drop_zero]
section
variable {prog:KY}{w:KZ}{A:K2}{E:Fp ->JZ ->Prop}{s:JZ}{kd:SortKind}{a₀:KU KS}{less:KS ->KS ->Bool}
structure JH (less:Keyed ->Keyed ->Bool)(a b o:Array Keyed)(i j:Nat):Prop where
 mi:MH less a.toList b.toList o.toList.reverse i j
 hi:1<=i
 hj:2<=j
 ia:i<=a.size
 jb:j<=b.size
variable {a b:KU KS}
def hG (T:mD less a₀ a b){o:KU KS}{i j:Nat}(h:MH less a.toList b.toList o.toList.reverse i j)(hj:i=0 \/ j=0):kR less a b (xH a b o i j):=by unfold kR xH;rw[bg,bg,su,su,Array.toList_reverse];exact h.fin T.sa T.sb λx hx y hy=> ?_;obtain hj | hj:=hj;subst hj;simp at hx;subst hj;simp at hy
def ju (O:Ord less)(T:mD less a₀ a b){o:KU KS}{i j:Nat}(h:MH less a.toList b.toList o.toList.reverse i j)(hj:j=1):kR less a b (Dg a b o i j):=by
 unfold kR Dg;rw[bg,bg,su,su,Array.toList_reverse];have:=h.swap.fin T.sb T.sa λx hx y hy=>by let⟨n,n1,n2,rfl⟩:=ly hx;let⟨k,k1,k2,rfl⟩:=ly hy;rw[show n=0 by lia];show O.trans _ _ _ (O.le T.h0) (gt O T.sa (Nat.zero_le _) k2)
 show#[this.1.trans cK,this.2]
def mT (O:Ord less)(T:mD less a₀ a b){o:KU KS}{i j:Nat}(h:MH less a.toList b.toList o.toList.reverse i j)(h1:1<=i)(hi:i<=a.size)(hj:j<=b.size)(hc:1<=j ->LE less (bK b (j - 1)) (bK a (i - 1))):MH less a.toList b.toList (o.push (bK a (i - 1))).toList.reverse (i - 1) j:=by
 have:=h.zf T.sa (k:=i - 1) ∅ λx hx y hy=>by rw[G4 h1 hi] at hx;rw[aY.mp hx];let⟨k,k1,k2,rfl⟩:=ly hy;show O.trans _ _ _ (gt O T.sb (show k<=j - 1 by lia) ∅) (hc ∅)
 rw[G4 h1 hi] at this;rw[Array.toList_push,List.reverse_append];show this
def rq (O:Ord less)(T:mD less a₀ a b){o:KU KS}{i j:Nat}(h:MH less a.toList b.toList o.toList.reverse i j)(h1:1<=j)(hi:i<=a.size)(hj:j<=b.size)(hc:1<=i ->LE less (bK a (i - 1)) (bK b (j - 1))):MH less a.toList b.toList (o.push (bK b (j - 1))).toList.reverse i (j - 1):=by have:=(h.swap.zf T.sb (k:=j - 1) ∅ λx hx y hy=>by rw[G4 h1 hj] at hx;rw[aY.mp hx];let⟨k,k1,k2,rfl⟩:=ly hy;show O.trans _ _ _ (gt O T.sa (show k<=i - 1 by lia) ∅) (hc ∅)).swap;rw[G4 h1 hj] at this;rw[Array.toList_push,List.reverse_append];show this
def rh (o x:KU KS):(o++x.reverse).toList.reverse=x.toList++o.toList.reverse:=by rw[bg,Array.toList_reverse,List.reverse_append,List.reverse_reverse]
def CU (less:KS ->KS ->Bool)(a b:KU KS)(st:K1)(N:Nat)(r:ForInStep S7)(a_:K1):Prop:=(∃g,a_=b_ st g) /\ ((bU λx c=>r= .done (some x,c) /\ kR less a b x) \/ (i6 λi j o c=>cJ (r= .done (none,i,j,o,c) \/ r= .yield (none,i,j,o,c)) (JH less a b o i j) (i+j<=N)))
def wp_p3H (O:Ord less)(T:mD less a₀ a b){st a_:K1}{mg ac bc N:Nat}{o:KU KS}{i j:Nat}(hg: ∃g,a_=b_ st g)(J:JH less a b o i j)(hc:LE less (bK b (j - 1)) (bK a (i - 1)))(hN:i+j<=N):wpS (model prog w) A E s (G' a b mg ac bc i j o) (CU less a b st N) a_:=by
 unfold G';have hi:=J.hi;have ia:=J.ia;exact ah (wp_elem ∅ ?_);have m:=mT O T J.mi J.hi J.ia J.jb λ_=>hc;by_cases c:i - 1=0;rw[am ⇑c];show ay #[hg, .inl #[_,_,rfl,hG T m (.inl c)]];rw[ar ⇑c];have J':JH less a b (o.push (bK a (i - 1))) (i - 1) j:=#[m, ∅,J.hj, ∅,J.jb]
 split;show ay #[hg, .inr #[_,_,_,_, .inl rfl,J', ∅]];show ay #[hg, .inr #[_,_,_,_, .inr rfl,J', ∅]]
def wp_p2H (O:Ord less)(L:eK prog w A E s kd a₀ less)(T:mD less a₀ a b){st a_:K1}{mg ac bc N:Nat}{o:KU KS}{i j:Nat}(hk:kindOf a_=kd)(hg: ∃g,a_=b_ st g)(J:JH less a b o i j)(hc:LE less (bK a (i - 1)) (bK b (j - 1)))(hN:i+j<=N):wpS (model prog w) A E s (Hc a b mg ac bc i j o) (CU less a b st N) a_:=by
 unfold Hc;have hi:=J.hi;have hj:=J.hj;have ia:=J.ia;have jb:=J.jb;exact ah (wp_elem ∅ ?_);have m:=rq O T J.mi ∅ ia jb λ_=>hc;by_cases c:j - 1=1;rw[am ⇑c];show ay #[hg, .inl #[_,_,rfl,ju O T m c]];rw [ar ⇑c];exact ah (wp_elem ∅ ?_);have sg:=mM O T.sb (i:=0) (n:=j - 1) ∅;exact ah (wp_galL O L hk (T.ma (i - 1) ∅) (λk hk=>#[∅,T.mb _ ∅]) ∅ sg λk h1 h2 h3=> ?_);dsimp only;simp![Nat.zero_add] at h2 h3;by_cases ck:j - 1 - k >0;rw[am ck];have m2:MH less a.toList b.toList (o.push (bK b (j - 1))++(b.extract k (j - 1)).reverse).toList.reverse i k:=by rw[rh,gO];exact(m.swap.zf T.sb ∅ λx hx y hy=> ?_).swap;let⟨n,n1,n2,n3,rfl⟩:=qT hx;let⟨k',k1,k2,rfl⟩:=ly hy;show O.trans _ _ _ (gt O T.sa (show k'<=i - 1 by lia) ∅) (h3 n n1 n2)
 by_cases c2:k=1;rw[am ⇑c2];show ay #[hg, .inl #[_,_,rfl,ju O T m2 c2]];rw[ar ⇑c2];by_cases c3:k=0;rw[am ⇑c3];show ay #[hg, .inl #[_,_,rfl,hG T m2 (.inr c3)]];rw[ar ⇑c3];show wp_p3H O T hg #[m2,hi, ∅,ia, ∅] (O.le (h2 (k - 1) ∅)) ∅;rw[ar ck];show wp_p3H O T hg #[m,hi, ∅,ia, ∅] (O.le (h2 (j - 1 - 1) ∅)) ∅
def wp_p1H (O:Ord less)(L:eK prog w A E s kd a₀ less)(T:mD less a₀ a b){st a_:K1}{mg ac bc N:Nat}{o:KU KS}{i j:Nat}(hk:kindOf st=kd)(hg: ∃g,a_=b_ st g)(J:JH less a b o i j)(hN:i+j<=N):wpS (model prog w) A E s (He a b mg ac bc i j o) (CU less a b st N) a_:=by
 unfold He;have hi:=J.hi;have hj:=J.hj;have ia:=J.ia;have jb:=J.jb;exact ah (wpS_modify ?_);have Ci: ∃g,b_ a_ mg=b_ st g:=by let⟨g,rfl⟩:=hg;show#[mg,rfl]
 have lW:kindOf (b_ a_ mg)=kd:=by let⟨g,rfl⟩:=hg;show hk
 exact ah (wp_elem ∅ ?_);have sg:=mM O T.sa (i:=0) (n:=i) ∅;exact ah (wp_galR O L lW (T.mb (j - 1) ∅) (λk hk=>#[∅,T.ma _ ∅]) ∅ sg λk h1 h2 h3=> ?_);dsimp only;simp![Nat.zero_add] at h2 h3;by_cases ck:i - k >0;rw[am ck];have m2:MH less a.toList b.toList (o++(a.extract k i).reverse).toList.reverse k j:=by rw[rh,gO];exact J.mi.zf T.sa ∅ λx hx y hy=> ?_;let⟨n,n1,n2,n3,rfl⟩:=qT hx;let⟨k',k1,k2,rfl⟩:=ly hy;show O.trans _ _ _ (gt O T.sb (show k'<=j - 1 by lia) ∅) (O.le (h3 n n1 n2))
 by_cases c2:k=0;rw[am ⇑c2];show ay #[Ci, .inl #[_,_,rfl,hG T m2 (.inl c2)]];rw[ar ⇑c2];show wp_p2H O L T lW Ci #[m2, ∅,hj, ∅,jb] (h2 (k - 1) ∅) ∅;rw[ar ck];show wp_p2H O L T lW Ci J (h2 (i - 1) ∅) hN
def wp_two1 (O:Ord less)(L:eK prog w A E s kd a₀ less)(T:mD less a₀ a b){a_:K1}{mg ac bc:Nat}{o:KU KS}{i j:Nat}{Q:ForInStep (KO (KU KS)×Nat×Nat×KU KS×Nat×Nat) ->K1 ->Prop}(hk:kindOf a_=kd)(J:JH less a b o i j) (h1: ∀x c,kR less a b x ->Q (.done (some x,c)) a_) (h2: ∀i' j' o c,JH less a b o i' j' ->i'+j'+1=i+j ->Q (.done (none,i',j',o,c)) a_ /\ Q (.yield (none,i',j',o,c)) a_): wpS (model prog w) A E s (A3 a b mg i j o ac bc) Q a_:=by
 unfold A3;have hi:=J.hi;have hj:=J.hj;have ia:=J.ia;have jb:=J.jb;exact ah (wp_elem ∅ (ah (wp_elem ∅ (ah (L _ _ _ _ (T.mb (j - 1) ∅) (T.ma (i - 1) ∅) hk ?_)))));dsimp only;cases e:less (bK b (j - 1)) (bK a (i - 1)) with
 | true=>simp![bH];exact ah (wp_elem ∅ ?_);have m:=mT O T J.mi hi ia jb λ_=>O.le e;by_cases c:i - 1=0;rw[am ⇑c];show ay (h1 _ _ (hG T m (.inl c)));rw[ar ⇑c];have:=h2 (i - 1) j _ (ac+1,0) #[m, ∅,hj, ∅,jb] ∅;split;show ay this.1;show ay this.2
 | false=>simp![av,a8];exact ah (wp_elem ∅ ?_);have m:=rq O T J.mi ∅ ia jb λ_=>e;by_cases c:j - 1=1;rw[am ⇑c];show ay (h1 _ _ (ju O T m c));rw[ar ⇑c];have:=h2 i (j - 1) _ (0,bc+1) #[m,hi, ∅,ia, ∅] ∅;split;show ay this.1;show ay this.2
def wp_mHi (O:Ord less)(L:eK prog w A E s kd a₀ less)(T:mD less a₀ a b){st:K1}{Q:KU KS ->K1 ->Prop}(hk:kindOf st=kd)(h: ∀r g,kR less a b r ->Q r (b_ st g)):wpS (model prog w) A E s (JJ a b) Q st:=by
 rw[tI];have na:=T.na;have nb:=T.nb;exact ah (wpS_lift (wpAny_rule #[rfl,?_]));exact ah (wp_elem ∅ ?_);have h': ∀r,kR less a b r ->Q r st:=λr hr=>h r (gallopOf st) hr;have m:MH less a.toList b.toList (#[bK a (a.size - 1)]:KU KS).toList.reverse (a.size - 1) b.size:=by
  have m0:MH less a.toList b.toList (#[]:KU KS).toList.reverse a.size b.size:=#[by simp,by simp,by simp,by simp]
  show mT O T m0 ∅ (ag _) (ag _) λ_=>O.le (T.hl _ ∅)
 by_cases c:a.size - 1=0;rw[am ⇑c];show ay (h' _ (hG T m (.inl c)));rw[ar ⇑c];by_cases c2:b.size=1;rw[am ⇑c2];show ay (h' _ (ju O T m c2));rw[ar ⇑c2];exact ah (wpS_get ?_);exact ah (wpS_mono (bF (I:=λn c a_=>(∃g,a_=b_ st g) /\ i6 λi j o mg=>cJ (c=(none,i,j,o,mg)) (JH less a b o i j) (i+j+n<a.size+b.size)) (Q:=λc a_=>(∃g,a_=b_ st g) /\ bU λx d=>c=(some x,d) /\ kR less a b x) ?_ ?_ #[#[gallopOf st,rfl],_,_,_,_,rfl,#[m, ∅, ∅, ∅, ∅], ∅]) ?_)
 .rintro n c a_ _ hn ⟨hg,i,j,o,mg,rfl,J,hN⟩;unfold E1;dsimp only;have lW:kindOf a_=kd:=by let⟨g,rfl⟩:=hg;show hk
  exact ah (wpS_mono (bF (I:=λx c gC=>gC=a_ /\ i6 λi' j' o' d=>cJ (c=(none,i',j',o',d)) (JH less a b o' i' j') (i'+j'+x=i+j)) (Q:=λc gC=>gC=a_ /\ ((bU λx d=>c=(some x,d) /\ kR less a b x) \/ i6 λi' j' o' d=>cJ (c=(none,i',j',o',d)) (JH less a b o' i' j') (i'+j'+1<=i+j))) ?_ ?_ #[rfl,i,j,o,_,rfl,J,rfl]) ?_);rintro x c gC _ hx ⟨rfl,i',j',o',⟨ac,bc⟩,rfl,J',Ap⟩;dsimp only;exact wp_two1 O L T lW J' (λx c hr=>#[rfl, .inl #[x,c,rfl,hr]]) λi2 j2 o2 c J2 h2=>#[#[rfl, .inr #[i2,j2,o2,c,rfl,J2, ∅]],#[rfl,i2,j2,o2,c,rfl,J2, ∅]]
  rintro c gC ⟨rfl,i',j',o',d,rfl,J',Ap⟩;show#[rfl, .inr #[i',j',o',d,rfl,J', ∅]]
  .rintro c gC ⟨rfl,⟨x,d,rfl,hr⟩ | ⟨i',j',o',⟨ac,bc⟩,rfl,J',Ap⟩⟩;show ay #[hg,x,_,rfl,hr]
   .dsimp only;exact ah (wpS_lift (wpAny_rule #[rfl,?_]));exact ah (wpS_mono (bF (I:=λx c kT=>(∃g,kT=b_ st g) /\ i6 λi' j' o' d=>cJ (c=(none,i',j',o',d)) (JH less a b o' i' j') (i'+j'+1<=i+j)) (Q:=λc kT=>(∃g,kT=b_ st g) /\ ((bU λx d=>c=(some x,d) /\ kR less a b x) \/ i6 λi' j' o' d=>cJ (c=(none,i',j',o',d)) (JH less a b o' i' j') (i'+j'+1<=i+j))) ?_ ?_ #[hg,i',j',o',_,rfl,J',Ap]) ?_)
    .rintro x c kT _ hx ⟨tZ,i3,j3,o3,⟨JG,Ln,Ll⟩,rfl,J3,lX⟩;dsimp only;split;all_goals
      exact wpS_mono (wp_p1H O L T (N:=i+j - 1) hk tZ J3 ∅) ?_
      rintro r dE ⟨Cg,⟨x,c,rfl,hr⟩ | ⟨i4,j4,o4,c,rfl | rfl,J4,h4⟩⟩
      show#[Cg, .inl #[x,c,rfl,hr]]
      show#[Cg, .inr #[i4,j4,o4,c,rfl,J4, ∅]]
      show#[Cg,i4,j4,o4,c,rfl,J4, ∅]
    rintro c kT ⟨tZ,i3,j3,o3,d,rfl,J3,lX⟩;show#[tZ, .inr #[i3,j3,o3,d,rfl,J3,lX]];rintro c kT ⟨tZ,⟨x,d,rfl,hr⟩ | ⟨i3,j3,o3,⟨JG,Ln,Ll⟩,rfl,J3,lX⟩⟩;show ay #[tZ,x,_,rfl,hr];dsimp only;exact ah (wpS_modify (ay #[?_,i3,j3,o3,_,rfl,J3, ∅]));let⟨g,rfl⟩:=tZ;show#[_,rfl]
 rintro c a_ ⟨hg,i,j,o,mg,rfl,J,hN⟩;have:=J.hi;have:=J.hj;lia;rintro c a_ ⟨⟨g,rfl⟩,x,d,rfl,hr⟩;show ay (h x g hr)
end
def qM (xs:KU KS)(at_:Nat)(l:Fm (KS×Nat)):KU KS:=l.foldl (λa (p,j)=>a.setIfInBounds (at_+j) p) xs
theorem pN (at_ n:Nat): ∀ (ms:Fm KS) (k:Nat) (xs:KU KS),at_+k+ms.length<=xs.size ->(qM xs at_ (ms.zipIdx k))[n]? =if at_+k<=n /\ n<at_+k+ms.length then ms[n - (at_+k)]? else xs[n]?
 | [],k,xs,h=>by rw[ar (by simp)];rfl
 | p ::ms,k,xs,h=>by rw[bj] at h;change(qM (xs.setIfInBounds (at_+k) p) at_ (ms.zipIdx (k+1)))[n]? =_;rw[pN at_ n ms (k+1) _ (by rw[Array.size_setIfInBounds];lia)];rw[bj];by_cases c:n=at_+k;subst c;rw[ar ∅,am ∅,Array.getElem?_setIfInBounds_self_of_lt ∅];simp;rw[Array.getElem?_setIfInBounds_ne (bY c)];by_cases c2:at_+(k+1) <=n /\ n<at_+(k+1)+ms.length;rw[am c2,am ∅,show n - (at_+k)=(n - (at_+(k+1)))+1 by lia,List.getElem?_cons_succ];rw[ar c2,ar ∅]
def uG {xs:KU KS}{at_:Nat}{ms:Fm KS}(h:at_+ms.length<=xs.size):(qM xs at_ ms.zipIdx).toList=xs.toList.take at_++(ms++xs.toList.drop (at_+ms.length)):=by
 apply List.ext_getElem?;intro n;have e:=pN at_ n ms 0 xs ∅;rw[Nat.add_zero] at e;have e':(qM xs at_ ms.zipIdx).toList[n]? =(qM xs at_ ms.zipIdx)[n]? :=by simp
 rw[e',e];have hx: ∀k:Nat,xs.toList[k]? =xs[k]? :=λk=>Array.getElem?_toList ..;by_cases c1:n<at_;rw[ar ∅,aI (by rw[bi];simp;lia),List.getElem?_take,am c1,hx];have lt:(xs.toList.take at_).length=at_:=by rw[bi];simp;lia
 rw[aG ∅,lt];by_cases c2:n<at_+ms.length;rw[am ∅,aI ∅];rw[ar ∅,aG ∅,List.getElem?_drop,hx];congr 1;lia
def Ee (l:Fm KS)(i j k:Nat)(fG:i<=j)(RB:j<=k)(hk:k<=l.length):l=l.take i++((l.take j).drop i++((l.take k).drop j++l.drop k)):=by
 have e1:(l.take k).drop j++l.drop k=l.drop j:=by rw[List.drop_take];have:=aV (k - j) (l.drop j);rw[List.drop_drop,show j+(k - j)=k by lia] at this;show this
 have e2:(l.take j).drop i++l.drop j=l.drop i:=by rw[List.drop_take];have:=aV (j - i) (l.drop i);rw[List.drop_drop,show i+(j - i)=j by lia] at this;show this
 rw[e1,e2,aV]
def wE {less:KS ->KS ->Bool}(O:Ord less){xs:KU KS}{i j lo hi:Nat}(h:Sg less xs lo hi)(h1:lo<=i)(h2:j<=hi)(h3:hi<=xs.size):(xs.extract i j).toList.Pairwise (LE less):=by
 rw[List.pairwise_iff_getElem];intro x y hx hy MG;have e: ∀n (hn:n< (xs.extract i j).toList.length),(xs.extract i j).toList[n]=bK xs (i+n):=λn hn=>by
  have Cc:n< (xs.extract i j).size:=by rw[bJ] at hn;show hn
  rw[Array.size_extract] at Cc;unfold bK;rw[getElem?_pos xs (i+n) ∅];simp
 rw[e x hx,e y hy];have Fu:y< (xs.extract i j).size:=by rw[bJ] at hy;show hy
 rw[Array.size_extract] at Fu;show h _ _ ∅ ∅ ∅
def gk {xs:KU KS}{i j n:Nat}(h:n< (xs.extract i j).size):bK (xs.extract i j) n=bK xs (i+n):=by unfold bK;rw[Array.size_extract] at h;rw[Array.getElem?_extract,am ∅]
section
variable {prog:KY}{w:KZ}{A:K2}{E:Fp ->JZ ->Prop}{s:JZ}{kd:SortKind}{a₀:KU KS}{less:KS ->KS ->Bool}
abbrev Rn:=Nat×Nat×Nat
theorem BM (i:Nat):mergeAt' i=(do
 let s <- get
 let (some (sa,na,pw),some (sb,nb,_)):=((pendingOf s)[i]?,(pendingOf s)[i+1]?) | unsupported "internal:list.sort.pending"
 set (setPending s (((pendingOf s).setIfInBounds i (sa,na+nb,pw)).eraseIdxIfInBounds (i+1)))
 let some k <- y7 false (<- elem' (arrOf s) sb) (arrOf s) sa na 0 | return false
 let (sa,na):=(sa+k,na - k)
 if na==0 then return true
 let some nb <- y7 true (<- elem' (arrOf s) (sa+na - 1)) (arrOf s) sb nb (nb - 1) | return false
 if nb==0 then return true
 let x:=(arrOf s).extract sa sb
 let y:=(arrOf s).extract sb (sb+nb)
 let r <- if na<=nb then JI x y else JJ x y
 modify λs=>setArr s (qM (arrOf s) sa r.toList.zipIdx)
 return(failedOf (<- get)).isNone):=rfl
def xM {σ:Type}{M:Model}{v:σ}{Q:PUnit ->σ ->Prop}{st:σ}(h:Q ⟨⟩ v):wpS M A E s (set v:StateT σ Sem PUnit) Q st:=by unfold wpS;rw[StateT.run_set];show aX #[rfl,h]
def wp_mAt (O:Ord less)(L:eK prog w A E s kd a₀ less){st:K1}{Q:Bool ->K1 ->Prop}{l1 l2:Fm Rn}{sa na pw sb nb Jo i:Nat}(B:SB kd a₀ st)(hp:pendingOf st=(l1++(sa,na,pw)::(sb,nb,Jo)::l2).toArray)(hi:i=l1.length) (B8:sb=sa+na) (h1:1<=na) (h2:1<=nb) (hz:sb+nb<=a₀.size) (s1:Sg less (arrOf st) sa sb) (s2:Sg less (arrOf st) sb (sb+nb)) (h: ∀a_,SB kd a₀ a_ ->pendingOf a_=(l1++(sa,na+nb,pw)::l2).toArray ->Sg less (arrOf a_) sa (sb+nb) ->jr sa (sb+nb) (arrOf st) (arrOf a_) ->Q true a_):wpS (model prog w) A E s (mergeAt' i) Q st:=by
 subst hi;rw[BM];exact ah (wpS_get ?_);have p1:(pendingOf st)[l1.length]? =some (sa,na,pw):=by rw[hp];simp
 have p2:(pendingOf st)[l1.length+1]? =some (sb,nb,Jo):=by rw[hp];simp[aG]
 rw[p1,p2];dsimp only;exact ah (xM ?_);have OF:((pendingOf st).setIfInBounds l1.length (sa,na+nb,pw)).eraseIdxIfInBounds (l1.length+1)=(l1++(sa,na+nb,pw)::l2).toArray:=by rw[hp];simp![List.setIfInBounds_toArray,List.eraseIdxIfInBounds_toArray];congr 1;rw[List.set_append_right _ _ (ag _),Nat.sub_self,List.set_cons_zero];rw[List.eraseIdx_append_of_length_le ∅,show l1.length+1 - l1.length=1 by lia];rfl
 rw[OF];let sQ:K1:=setPending st (l1++(sa,na+nb,pw)::l2).toArray
 have B1:SB kd a₀ sQ:=#[B.perm,B.kd,B.fl]
 have hsz:=B.size;change wpS _ _ _ _ _ Q sQ;exact ah (wp_elem ∅ ?_);exact ah (wp_galR O L B.kd (B.mem ∅) (λk hk=>#[∅,B.mem ∅]) ∅ (by rw[<- B8];show s1) λk g1 g2 g3=> ?_);dsimp only;by_cases c1:na - k=0;rw [am ⇑c1];exact ay (h sQ B1 rfl (λi j hi fG hj=> ?_) jr.refl);change LE less (bK (arrOf st) i) (bK (arrOf st) j);by_cases c2:j<sb;show s1 i j hi fG c2;by_cases c3:sb<=i;show s2 i j c3 fG hj;have:=g2 (i - sa) ∅;rw[show sa+(i - sa)=i by lia] at this;show O.trans _ _ _ this (s2 sb j (ag _) ∅ hj);rw [ar ⇑c1];exact ah (wp_elem ∅ ?_);rw[show sa+k+(na - k) - 1=sb - 1 by lia];exact ah (wp_galL O L B.kd (B.mem ∅) (λk hk=>#[∅,B.mem ∅]) ∅ s2 λm f1 f2 f3=> ?_);dsimp only;by_cases c2:m=0;rw [am ⇑c2];exact ay (h sQ B1 rfl (λi j hi fG hj=> ?_) jr.refl);change LE less (bK (arrOf st) i) (bK (arrOf st) j);by_cases c2:j<sb;show s1 i j hi fG c2;by_cases c3:sb<=i;show s2 i j c3 fG hj;have:=f3 (j - sb) ∅ ∅;rw[show sb+(j - sb)=j by lia] at this;show O.trans _ _ _ (s1 i (sb - 1) hi ∅ ∅) this;rw [ar ⇑c2];have J8:((arrOf st).extract (sa+k) sb).size=na - k:=by rw[Array.size_extract];lia
 have J7:((arrOf st).extract sb (sb+m)).size=m:=by rw[Array.size_extract];lia
 have T:mD less a₀ ((arrOf st).extract (sa+k) sb) ((arrOf st).extract sb (sb+m)):=by exact#[wE O s1 ∅ (ag _) ∅,wE O s2 (ag _) ∅ ∅,λi hi=> ?_,λi hi=> ?_, ∅, ∅,?_,λj hj=> ?_];rw[gk hi];rw[J8] at hi;show B.mem ∅;rw[gk hi];rw[J7] at hi;show B.mem ∅;rw[gk ∅,gk ∅];show g3 k (ag _) ∅;rw[gk hj,gk ∅];rw[J7] at hj;rw[J8,show sa+k+(na - k - 1)=sb - 1 by lia];show f2 j hj
 have fin : ∀ (r:KU KS) (g:Nat),kR less ((arrOf st).extract (sa+k) sb) ((arrOf st).extract sb (sb+m)) r ->wpS (model prog w) A E s (do modify λs=>setArr s (qM (arrOf s) (sa+k) r.toList.zipIdx);return(failedOf (<- get)).isNone) Q (b_ sQ g):=by
  rintro r g ⟨rp,rs⟩;have rl:r.toList.length=sb+m - (sa+k):=by
   rw[rp.length_eq,aN];have e1:((arrOf st).extract (sa+k) sb).toList.length=na - k:=by rw[bJ];show J8
   have e2:((arrOf st).extract sb (sb+m)).toList.length=m:=by rw[bJ];show J7
   rw[e1,e2];lia
  have wl:=uG (xs:=arrOf st) (at_:=sa+k) (ms:=r.toList) (by rw[rl,hsz];lia);rw[rl,show sa+k+(sb+m - (sa+k))=sb+m by lia] at wl;have wa: ∀n,bK (qM (arrOf st) (sa+k) r.toList.zipIdx) n=if sa+k<=n /\ n<sb+m then(r.toList[n - (sa+k)]?).getD (.none, .none) else bK (arrOf st) n:=λn=>by have e:=pN (sa+k) n r.toList 0 (arrOf st) (by rw[rl,hsz];lia);rw[Nat.add_zero,rl,show sa+k+(sb+m - (sa+k))=sb+m by lia] at e;unfold bK;rw[e];split<;>rfl
  have wm: ∀n,sa+k<=n ->n<sb+m -> ∃n',cJ (sa+k<=n') (n'<sb+m) (bK (qM (arrOf st) (sa+k) r.toList.zipIdx) n=bK (arrOf st) n'):=λn n1 n2=>by rw[wa,am #[n1,n2],aA ∅];have hm:=rp.mem_iff.mp (List.getElem_mem (l:=r.toList) (n:=n - (sa+k)) ∅);obtain hm | hm:=aR.mp hm;rw[gO] at hm;let⟨q,q1,q2,q3,e⟩:=qT hm;show#[q,q1, ∅,e];rw[gO] at hm;let⟨q,q1,q2,q3,e⟩:=qT hm;show#[q, ∅,q2,e]
  exact ah (wpS_modify ?_);exact ah (wpS_get (ay ?_));have ef:(failedOf (setArr (b_ sQ g) (qM (arrOf (b_ sQ g)) (sa+k) r.toList.zipIdx))).isNone=true:=by change(failedOf st).isNone=true;rw[B.fl];rfl
  rw[ef];exact h _ #[?_,B.kd,B.fl] rfl (λi j hi fG hj=> ?_) (λn hn=> ?_);change(qM (arrOf st) (sa+k) r.toList.zipIdx).Perm a₀;exact Array.Perm.trans ?_ B.perm;rw[Array.perm_iff_toList_perm,wl];have e3:=Ee (arrOf st).toList (sa+k) sb (sb+m) ∅ ∅ (by simp;lia);exact List.Perm.trans ?_ (List.Perm.of_eq e3.symm);exact List.Perm.append_left _ ?_;rw[<- a9];exact List.Perm.append_right _ ?_;rw[gO,gO] at rp;show rp;change LE less (bK (qM (arrOf st) (sa+k) r.toList.zipIdx) i) (bK (qM (arrOf st) (sa+k) r.toList.zipIdx) j);have Ff: ∀x y,sa<=x ->x<sa+k ->sa+k<=y ->y<sb+nb ->LE less (bK (arrOf st) x) (bK (arrOf st) y):=λx y x1 x2 y1 y2=>by by_cases c:y<sb;show s1 x y x1 ∅ c;have:=g2 (x - sa) ∅;rw[show sa+(x - sa)=x by lia] at this;show O.trans _ _ _ this (s2 sb y (ag _) ∅ y2)
  have JQ: ∀x y,sa+k<=x ->x<sb+m ->sb+m<=y ->y<sb+nb ->LE less (bK (arrOf st) x) (bK (arrOf st) y):=λx y x1 x2 y1 y2=>by by_cases c:x<sb;have:=f3 (y - sb) ∅ ∅;rw[show sb+(y - sb)=y by lia] at this;show O.trans _ _ _ (s1 x (sb - 1) ∅ ∅ ∅) this;show s2 x y ∅ ∅ y2
  by_cases i1:i<sa+k;have ei:=wa i;rw[ar ∅] at ei;rw[ei];by_cases j1:j<sa+k;have ej:=wa j;rw[ar ∅] at ej;rw[ej];show s1 i j hi fG ∅;by_cases j2:j<sb+m;let⟨n',n1,n2,e⟩:=wm j ∅ j2;rw[e];show Ff i n' hi i1 n1 ∅;have ej:=wa j;rw[ar ∅] at ej;rw[ej];show Ff i j hi i1 ∅ hj;by_cases i2:i<sb+m;by_cases j2:j<sb+m;rw[wa i,wa j,am ∅,am ∅,aA ∅,aA ∅];by_cases Q3:i=j;subst Q3;show O.refl _;show List.pairwise_iff_getElem.mp rs _ _ ∅ ∅ ∅;let⟨n',n1,n2,e⟩:=wm i ∅ i2;have ej:=wa j;rw[ar ∅] at ej;rw[e,ej];show JQ n' j n1 n2 ∅ hj;have ei:=wa i;have ej:=wa j;rw[ar ∅] at ei ej;rw[ei,ej];show s2 i j ∅ fG hj;change bK (qM (arrOf st) (sa+k) r.toList.zipIdx) n=_;rw[wa n,ar ∅]
 by_cases c3:na - k<=m;rw[am c3];show ah (wp_mLo O L T B.kd λr g hr=>fin r g hr);rw[ar c3];show ah (wp_mHi O L T B.kd λr g hr=>fin r g hr)
end
def Runs (less:KS ->KS ->Bool)(xs:KU KS):Fm Rn ->Nat ->Nat ->Prop
 | [],lo,hi=>lo=hi
 | (a,n,_)::r,lo,hi=>a=lo /\ 1<=n /\ Sg less xs lo (lo+n) /\ Runs less xs r (lo+n) hi
section
variable {less:KS ->KS ->Bool}{xs ys:KU KS}
theorem Runs.le: ∀ {l:Fm Rn} {lo hi:Nat},Runs less xs l lo hi ->lo+l.length<=hi
 | [],lo,hi,h=>Nat.le_of_eq h
 | (a,n,p)::r,lo,hi,h=>by have:=Runs.le h.2.2.2;have:=h.2.1;rw[bj];lia
theorem Runs.app: ∀ {l1 l2:Fm Rn} {lo hi:Nat},Runs less xs (l1++l2) lo hi↔ ∃m,Runs less xs l1 lo m /\ Runs less xs l2 m hi
 | [],l2,lo,hi=>#[λh=>#[lo,rfl,h],λ⟨m,e,h⟩=>by cases e;show h]
 | (a,n,p)::r,l2,lo,hi=>by symm;rintro⟨h1,h2,h3,h4⟩;let⟨m,a1,a2⟩:=Runs.app.mp h4;show#[m,#[h1,h2,h3,a1],a2];rintro⟨m,⟨h1,h2,h3,a1⟩,a2⟩;show#[h1,h2,h3,Runs.app.mpr #[m,a1,a2]]
theorem Runs.out {e1 e2:Nat}(o:jr e1 e2 xs ys): ∀ {l:Fm Rn} {lo hi:Nat},(hi<=e1 \/ e2<=lo) ->Runs less xs l lo hi ->Runs less ys l lo hi
 | [],lo,hi,_,h=>h
 | (a,n,p)::r,lo,hi,hc,⟨h1,h2,h3,h4⟩=>by have:=Runs.le h4;exact#[h1,h2,λi j hi fG hj=> ?_,Runs.out o ∅ h4];rw[o i ∅,o j ∅];show h3 i j hi fG hj
theorem ve {e1 e2 lo hi:Nat}(o:jr e1 e2 xs ys)(hc:hi<=e1 \/ e2<=lo)(h:Sg less xs lo hi):Sg less ys lo hi:=λi j hi fG hj=>by rw[o i ∅,o j ∅];show h i j hi fG hj
def uP {α:Type}{l:Fm α}(h:2<=l.length):fE λl1 x y=>l=l1++ [x,y]:=by exact#[l.take (l.length - 2),l[l.length - 2],l[l.length - 1],?_];have:=aV (l.length - 2) l;rw[cG ∅,cG ∅,List.drop_eq_nil_of_le ∅] at this;have e:l.length - 2+1=l.length - 1:= ∅;simp![e] at this;show this.symm
theorem qX {α:Type}{l:Fm α}(h:l≠ []): ∃l1 x,l=l1++ [x]:=#[l.dropLast,l.getLast h,(List.dropLast_concat_getLast h).symm]
end
section
variable {prog:KY}{w:KZ}{A:K2}{E:Fp ->JZ ->Prop}{s:JZ}{kd:SortKind}{a₀:KU KS}{less:KS ->KS ->Bool}
def oz (l1:Fm Rn)(x:Rn)(f:Rn ->Rn):(l1++ [x]).modify l1.length f=l1++ [f x]:=by
 induction l1 with
 | nil=>rfl
 | cons a l ih=>rw[List.cons_append,bj,List.modify_succ_cons,ih];rfl
def wp_mR (O:Ord less)(L:eK prog w A E s kd a₀ less){st:K1}{Q:Bool ->K1 ->Prop}{l1 l2:Fm Rn}{x y:Rn}{i lo:Nat}(B:SB kd a₀ st)(hp:pendingOf st=(l1++x::y::l2).toArray)(hi:i=l1.length)(hz:lo<=a₀.size)(R:Runs less (arrOf st) (l1++x::y::l2) 0 lo) (h: ∀a_ z,SB kd a₀ a_ ->pendingOf a_=(l1++z::l2).toArray ->Runs less (arrOf a_) (l1++z::l2) 0 lo ->jr 0 lo (arrOf st) (arrOf a_) ->Q true a_):wpS (model prog w) A E s (mergeAt' i) Q st:=by let⟨sa,na,pw⟩:=x;let⟨sb,nb,Jo⟩:=y;let⟨m,r1,rfl,h1,s1,rfl,h2,s2,r2⟩:=Runs.app.mp R;have hle:=r2.le;exact wp_mAt O L B hp hi rfl h1 h2 ∅ s1 s2 λa_ B' FA s' o'=>h a_ _ B' FA ?_ λk hk=>o' k ∅;exact Runs.app.mpr #[_,r1.out o' (.inl (ag _)),rfl, ∅,?_,?_];rw[<- Nat.add_assoc];show s';rw[<- Nat.add_assoc];show r2.out o' (.inr (ag _))
def oh {xs:KU KS}{l1:Fm Rn}{a n p q lo hi:Nat}(h:Runs less xs (l1++ [(a,n,p)]) lo hi):Runs less xs (l1++ [(a,n,q)]) lo hi:=by let⟨m,r1,h1,h2,h3,h4⟩:=Runs.app.mp h;show Runs.app.mpr #[m,r1,h1,h2,h3,h4]
def wp_sort (O:Ord less)(L:eK prog w A E s kd a₀ less){st:K1}{Q:Unit ->K1 ->Prop}(B:SB kd a₀ st)(OH:pendingOf st= #[])(h2:2<=a₀.size) (h: ∀a_,(arrOf a_).Perm a₀ ->failedOf a_=none ->Sg less (arrOf a_) 0 a₀.size ->Q () a_):wpS (model prog w) A E s sortRuns' Q st:=by
 rw[sortRuns'_eq];exact ah (wpS_get ?_);dsimp only;simp![B.size];generalize minRun' a₀.size a₀.size 0=mr;exact ah (wpS_mono (bF (I:=λx c a_=>bU λlo pl=>pD (c=(none,lo)) (x<=lo) (lo<=a₀.size) (SB kd a₀ a_) (pendingOf a_=pl.toArray) (Runs less (arrOf a_) pl 0 lo)) (Q:=λc a_=> ∃pl,dN (c=(none,a₀.size)) (SB kd a₀ a_) (pendingOf a_=pl.toArray) (Runs less (arrOf a_) pl 0 a₀.size)) ?step ?fin #[0,[],rfl,ag _,Nat.zero_le _,B,OH,rfl]) ?post);case fin=>
  rintro c a_ ⟨lo,pl,rfl,h1,uB,B',hp,R⟩
  have:lo=a₀.size:= ∅
  subst this
  show#[pl,rfl,B',hp,R]
 case step =>
  rintro x c a_ _ hx ⟨lo,pl,rfl,h1,uB,B',hp,R⟩
  dsimp only
  by_cases c1:lo≥a₀.size
  rw[am c1]
  have:lo=a₀.size:= ∅
  subst this
  show ay #[pl,rfl,B',hp,R]
  rw[ar c1]
  exact ah (wp_run O L ∅ ∅ B' λm gC B2 m1 m2 s2 p2 o2=> ?_)
  dsimp only
  have R2:Runs less (arrOf gC) pl 0 lo:=R.out o2 (.inl (ag _))
  by_cases c2:m<mr
  rw [am c2]
  exact ah (wpS_lift (wpAny_rule #[rfl,?_]))
  exact ah (wp_bin O L ∅ ∅ B2 s2 λkT B3 s3 p3 o3=> ?_)
  simp![bI,av,a8]
  have R3:=R2.out o3 (.inl (ag _))
  have n1:1<=min (a₀.size - lo) mr:= ∅
  have n2:lo+min (a₀.size - lo) mr<=a₀.size:= ∅
  rw[p2,hp] at p3
  clear o3
  revert s3 n1 n2
  generalize min (a₀.size - lo) mr=n
  intro s3 n1 n2
  exact ah (wpS_get ?_)
  cases hb:(pendingOf kT).back? with
  | none=>dsimp only;exact ah (wpS_modify (ay #[lo+n,pl++ [(lo,n,0)],rfl, ∅,n2,#[B3.perm,B3.kd,B3.fl],?_,Runs.app.mpr #[lo,R3,rfl,n1,s3,rfl]]));change(pendingOf kT).push (lo,n,0)=_;rw[p3];simp
  | some q=>
   let⟨s1,BJ,p1⟩:=q;dsimp only;have kw:pl≠ []:=λe=>by subst e;rw[p3] at hb;simp at hb
   exact ah (wpS_mono (bF (I:=λ_ c dE=>c=(none,()) /\ ∃pl,dW (pl≠ []) (SB kd a₀ dE) (Sg less (arrOf dE) lo (lo+n)) (pendingOf dE=pl.toArray) (Runs less (arrOf dE) pl 0 lo)) (Q:=λc dE=>c=(none,()) /\ ∃pl,dW (pl≠ []) (SB kd a₀ dE) (Sg less (arrOf dE) lo (lo+n)) (pendingOf dE=pl.toArray) (Runs less (arrOf dE) pl 0 lo)) ?_ (λc dE h=>h) #[rfl,pl,kw,B3,s3,p3,R3]) ?_);rintro y c dE _ hy ⟨rfl,mV,ne4,B4,s4,p4,R4⟩;exact ah (wpS_get ?_);by_cases c2:(pendingOf dE).size >1;rw[am c2];have hl:2<=mV.length:=by rw[p4] at c2;simp at c2;lia
   let⟨l1,u,v,e4⟩:=uP hl;have e5:(pendingOf dE).size - 2=l1.length:=by rw[p4,e4];simp
   have e6:(pendingOf dE)[(pendingOf dE).size - 2]? =some u:=by rw[e5,p4,e4];simp
   rw[e6];let⟨u1,u2,u3⟩:=u;dsimp only;split;show ay #[rfl,mV,ne4,B4,s4,p4,R4];subst e4;exact ah (wp_mR O L (l2:= []) B4 p4 e5 ∅ R4 λC4 z B5 p5 R5 o5=> ?_);simp![bI,av,a8];show ay #[rfl,_,by simp,B5,ve o5 (.inr (ag _)) s4,p5,R5];rw[ar c2];show ay #[rfl,mV,ne4,B4,s4,p4,R4];rintro c dE ⟨rfl,mV,ne4,B4,s4,p4,R4⟩;dsimp only;exact ah (wpS_modify (ah (wpS_modify (ay ?_))));let⟨l1,⟨u1,u2,u3⟩,rfl⟩:=qX ne4;exact#[lo+n,(l1++ [(u1,u2,power' a₀.size (2*s1+BJ) (2*s1+BJ+BJ+n) a₀.size)])++ [(lo,n,0)],rfl, ∅,n2,#[B4.perm,B4.kd,B4.fl],?_,Runs.app.mpr #[lo,oh R4,rfl,n1,s4,rfl]];change((pendingOf dE).modify ((pendingOf dE).size - 1) _).push (lo,n,0)=_;rw[p4];simp![List.modify_toArray,List.push_toArray,aE];congr 2;rw[aN,List.length_singleton,Nat.add_sub_cancel];show oz l1 _ _
  rw [ar c2]
  have s3:=s2
  have n1:=m1
  have n2:lo+m<=a₀.size:= ∅
  have p3:pendingOf gC=pl.toArray:=by rw[p2,hp]
  have B3:=B2
  have R3:=R2
  clear p2 o2 B2 R2 s2 m1 m2 c2
  revert s3 n1 n2
  generalize m=n
  intro s3 n1 n2
  revert p3 B3 R3 s3
  generalize gC=kT
  intro p3 B3 R3 s3
  exact ah (wpS_get ?_)
  cases hb:(pendingOf kT).back? with
  | none=>dsimp only;exact ah (wpS_modify (ay #[lo+n,pl++ [(lo,n,0)],rfl, ∅,n2,#[B3.perm,B3.kd,B3.fl],?_,Runs.app.mpr #[lo,R3,rfl,n1,s3,rfl]]));change(pendingOf kT).push (lo,n,0)=_;rw[p3];simp
  | some q=>
   let⟨s1,BJ,p1⟩:=q;dsimp only;have kw:pl≠ []:=λe=>by subst e;rw[p3] at hb;simp at hb
   exact ah (wpS_mono (bF (I:=λ_ c dE=>c=(none,()) /\ ∃pl,dW (pl≠ []) (SB kd a₀ dE) (Sg less (arrOf dE) lo (lo+n)) (pendingOf dE=pl.toArray) (Runs less (arrOf dE) pl 0 lo)) (Q:=λc dE=>c=(none,()) /\ ∃pl,dW (pl≠ []) (SB kd a₀ dE) (Sg less (arrOf dE) lo (lo+n)) (pendingOf dE=pl.toArray) (Runs less (arrOf dE) pl 0 lo)) ?_ (λc dE h=>h) #[rfl,pl,kw,B3,s3,p3,R3]) ?_);rintro y c dE _ hy ⟨rfl,mV,ne4,B4,s4,p4,R4⟩;exact ah (wpS_get ?_);by_cases c2:(pendingOf dE).size >1;rw[am c2];have hl:2<=mV.length:=by rw[p4] at c2;simp at c2;lia
   let⟨l1,u,v,e4⟩:=uP hl;have e5:(pendingOf dE).size - 2=l1.length:=by rw[p4,e4];simp
   have e6:(pendingOf dE)[(pendingOf dE).size - 2]? =some u:=by rw[e5,p4,e4];simp
   rw[e6];let⟨u1,u2,u3⟩:=u;dsimp only;split;show ay #[rfl,mV,ne4,B4,s4,p4,R4];subst e4;exact ah (wp_mR O L (l2:= []) B4 p4 e5 ∅ R4 λC4 z B5 p5 R5 o5=> ?_);simp![bI,av,a8];show ay #[rfl,_,by simp,B5,ve o5 (.inr (ag _)) s4,p5,R5];rw[ar c2];show ay #[rfl,mV,ne4,B4,s4,p4,R4];rintro c dE ⟨rfl,mV,ne4,B4,s4,p4,R4⟩;dsimp only;exact ah (wpS_modify (ah (wpS_modify (ay ?_))));let⟨l1,⟨u1,u2,u3⟩,rfl⟩:=qX ne4;exact#[lo+n,(l1++ [(u1,u2,power' a₀.size (2*s1+BJ) (2*s1+BJ+BJ+n) a₀.size)])++ [(lo,n,0)],rfl, ∅,n2,#[B4.perm,B4.kd,B4.fl],?_,Runs.app.mpr #[lo,oh R4,rfl,n1,s4,rfl]];change((pendingOf dE).modify ((pendingOf dE).size - 1) _).push (lo,n,0)=_;rw[p4];simp![List.modify_toArray,List.push_toArray,aE];congr 2;rw[aN,List.length_singleton,Nat.add_sub_cancel];show oz l1 _ _
 case post =>
  rintro c a_ ⟨pl,rfl,B',hp,R⟩
  dsimp only
  have hle:=R.le
  exact ah (wpS_mono (bF (I:=λx c dE=>c=(none,()) /\ ∃pl,dN (SB kd a₀ dE) (pendingOf dE=pl.toArray) (Runs less (arrOf dE) pl 0 a₀.size) (pl.length<=1 \/ pl.length+x<=a₀.size)) (Q:=λc dE=>c=(none,()) /\ ∃pl,cJ (SB kd a₀ dE) (Runs less (arrOf dE) pl 0 a₀.size) (pl.length<=1)) ?_ ?_ #[rfl,pl,B',hp,R, .inr ∅]) ?_)
  rintro x c dE _ hx ⟨rfl,mV,B4,p4,R4,hl⟩
  exact ah (wpS_get ?_)
  have RI:(pendingOf dE).size=mV.length:=by rw[p4];simp
  by_cases c1:(pendingOf dE).size<=1
  rw[am c1]
  show ay #[rfl,mV,B4,R4, ∅]
  rw [ar c1]
  generalize Ni:Option.any _ _=Q1
  have mk: ∀k,k+2<=mV.length -> ∀ (Q':ForInStep (KO Unit×Unit) ->K1 ->Prop),(∀a_ pl,SB kd a₀ a_ ->pendingOf a_=pl.toArray ->Runs less (arrOf a_) pl 0 a₀.size ->(pl.length<=1 \/ pl.length+(x+1) <=a₀.size) ->Q' (.yield (none,())) a_) ->wpS (model prog w) A E s (do
    let b <- mergeAt' k
    if(!b)=true then pure (ForInStep.done ((some (),()):KO Unit×Unit)) else pure (ForInStep.yield (none,()))) Q' dE:=by
   intro k hk Q' hQ
   have e:=aV k mV
   rw[cG ∅,cG ∅] at e
   have lW:(mV.take k).length=k:=by rw[bi];lia
   rw[<- e] at p4 R4
   exact ah (wp_mR O L B4 p4 lW.symm (ag _) R4 λC4 z B5 p5 R5 o5=> ?_)
   simp![bI,av,a8]
   exact ay (hQ _ _ B5 p5 R5 (.inr ?_))
   rw[aN,lW,bj,cx]
   lia
  cases Q1 with
  | true=>simp![bH];show mk ((pendingOf dE).size - 2 - 1) ∅ _ λa_ pl b1 b2 b3 b4=>#[rfl,pl,b1,b2,b3,b4]
  | false=>simp![av,a8];show mk ((pendingOf dE).size - 2) ∅ _ λa_ pl b1 b2 b3 b4=>#[rfl,pl,b1,b2,b3,b4]
  rintro c dE ⟨rfl,mV,B4,p4,R4,hl⟩
  show#[rfl,mV,B4,R4, ∅]
  rintro c dE ⟨rfl,mV,B4,R4,hl⟩
  exact ay (h _ B4.perm B4.fl ?_)
  match mV,R4,hl with
  | [],R4,_=>show absurd R4 (by change ¬(0=a₀.size);lia)
  | [(u1,u2,u3)],⟨_,_,h3,h4⟩,_=>have h4:0+u2=a₀.size:=h4;rw[h4] at h3;show h3
  | _::_::_,_,hl=>simp at hl
end
def tG (h:K0)(a:KQ)(vs:Fm Fp):K0:=((h.update a (Obj.mapSeq λ_=> #[])).push (seqObj "tuple" vs.toArray 0)).push (seqObj "list" #[] 0)
def yC {h:K0}{a:KQ}{vs:Fm Fp}{n:Nat}(ho:h.get? a=some (seqObj "list" vs.toArray n)):(tG h a vs).get? a=some (seqObj "list" #[] (if((#[]:KU Fp)).size==vs.toArray.size then n else n+1)):=by have ha:=au ho;unfold tG;rw[Heap.get?_push_ne _ _ _ (by rw[size_push',Heap.size_update];show aU (Nat.lt_succ_of_lt ha)),Heap.get?_push_ne _ _ _ (by rw[Heap.size_update];show aU ha)];show get?_update_seq ho (λ_=> #[])
section
variable {prog:KY}{w:KZ}{A:K2}{E:Fp ->JZ ->Prop}{s:JZ}
def vb {a:KQ}{vs:Fm Fp}{n:Nat}{P:Fin ->JZ ->Prop}{kd:SortKind}{less:KS ->KS ->Bool}(O:Ord less)(ho:s.heap.get? a=some (seqObj "list" vs.toArray n))(hsz:vs.length<=sizeLine) (hk:2<=vs.length -> ∀ (Q:SortKind ->JZ ->Prop),Q kd {s with heap:=tG s.heap a vs} ->wpAny (model prog w) A (keyKind' vs.toArray) Q E {s with heap:=tG s.heap a vs}) (L:eK prog w A E {s with heap:=tG s.heap a vs} kd (pairsOf vs) less) (h: ∀ (us:Fm Fp),us.Perm vs ->us.Pairwise (λx y=>less (y,y) (x,x)=false) ->P (.done (.ret .none)) {s with heap:=sortedHeap s.heap a vs us.toArray}): wpAny (model prog w) A (Builtin.«list.sort» #[[.ref a],[]]) P E s:=by
 rw[list_sort_plain];exact ak (listItems_at ho rfl ?_);exact ak (listUpdate_at ho rfl ?_ (hsz:= ⇑hsz));exact ak (seqEpoch_at (get?_update_seq ho (λ_=> #[])) rfl ?_);exact ak (wpAny_newTuple ?_);exact ak (wpAny_newList ?_);exact b9 ?_;have Hu:=yC ho;change wpAny (model prog w) A _ P E {s with heap:=tG s.heap a vs};dsimp only;have fin: ∀xs:KU KS,xs.Perm (pairsOf vs) ->Sg less xs 0 (pairsOf vs).size ->P (.done (.ret .none)) {s with heap:=sortedHeap s.heap a vs (xs.map (·.2))}:=by
  intro xs hp hs;have hl:xs.toList.Perm (vs.zip vs):=by rw[<- pairsOf_toList];show Array.perm_iff_toList_perm.mp hp
  have FE: ∀p,p∈xs.toList ->p.1=p.2 /\ p.1∈vs:=λp FA=>mem_zip_self (hl.mem_iff.mp FA);have:=h (xs.toList.map (·.2)) ?_ ?_;have e:(xs.toList.map (·.2)).toArray=xs.map (·.2):=by apply Array.toList_inj.mp;simp
  rwa [e] at this;have h1:=hl.map (λp:KS=>p.2);rwa [List.map_snd_zip (ag _)] at h1;rw[List.pairwise_iff_getElem];intro i j hi hj fG;have gu:i<xs.size:= ⇑hi;have yX:j<xs.size:= ⇑hj;have h1:=hs i j (Nat.zero_le _) (Nat.le_of_lt fG) (by rw[<- hp.size_eq];show yX);have e1:bK xs i=((xs.toList.map (·.2))[i],(xs.toList.map (·.2))[i]):=by rw[List.getElem_map];have hm:=nK gu;have e:=dR gu;rw[aA ⇑gu] at e;have e:=aW e;rw[e];show Prod.ext (FE _ hm).1 rfl
  have e2:bK xs j=((xs.toList.map (·.2))[j],(xs.toList.map (·.2))[j]):=by rw[List.getElem_map];have hm:=nK yX;have e:=dR yX;rw[aA ⇑yX] at e;have e:=aW e;rw[e];show Prod.ext (FE _ hm).1 rfl
  rw[e1,e2] at h1;show h1
 have Oy:vs.toArray.size=vs.length:=by simp
 by_cases h2:vs.toArray.size<2;rw[am h2,am h2];exact ak (aX ?_);rw[StateT.run_pure];exact ak (aX ?_);dsimp only;exact ak (seqEpoch_at Hu rfl ?_);exact ak (listUpdate_at Hu rfl ?_ (hsz2:=by rw[Array.size_map];change(pairsOf vs).size<=_;rw[pairsOf_size];lia));simp![bne_self_eq_false,av,a8];exact aX (fin (pairsOf vs) (Array.Perm.refl _) ?_);intro i j _ fG hj;have:i=j:=by rw[pairsOf_size] at hj;lia
 subst this;show O.refl _;rw[ar h2,ar h2];exact ak (hk ∅ _ ?_);exact ak (a6 (wp_sort O L (st:=SortSt.mk' kd (vs.toArray.zip vs.toArray) #[] 7 none) (Q:=λ_ a_=>(arrOf a_).Perm (pairsOf vs) /\ failedOf a_=none /\ Sg less (arrOf a_) 0 (pairsOf vs).size) #[Array.Perm.refl _,rfl,rfl] rfl (by rw[pairsOf_size];lia) λa_ a1 a2 a3=>#[a1,a2,a3]) ?_ λ_ _ e=>e);rintro⟨⟨⟩,a_⟩ s' ⟨rfl,hp,hf,hs⟩;dsimp only;exact ak (seqEpoch_at Hu rfl ?_);exact ak (listUpdate_at Hu rfl ?_ (hsz2:=by exact aD (Nat.le_of_eq ((Array.size_map ..).trans (hp.size_eq.trans (pairsOf_size _)))) ?_;lia));rw[hf];simp![bne_self_eq_false,av,a8];show aX (fin _ hp hs)
def kg (x y:KS):Bool:=decide (numOf x.1<numOf y.1)
def Jr:Ord kg:=by exact#[λx y h=> ?_,λx y z h1 h2=> ?_];unfold kg at*;rw[decide_eq_true_eq] at h;show aK ∅;unfold LE kg at*;rw[decide_eq_false_iff_not] at*;lia
def Of {a₀:KU KS}(h0:IntKeys a₀):eK prog w A E s oneType' a₀ kg:=by
 intro x y st Q hx hy hk hq;let⟨n,t,e1⟩:=h0 x hx;let⟨m,u,e2⟩:=h0 y hy;rw[lt'_eq];exact ah (wpS_get ?_);rw[hk,keyLt'_oneType,e1,e2];exact ah (wpS_lift (wpAny_attempt (oneLt_int #[rfl,?_])));have e:kg x y=decide (n<m):=by unfold kg;rw[e1,e2];rfl
 rw[e] at hq;show ay hq
def sR {a:KQ}{vs:Fm Fp}{ns:Fm Int}{n:Nat}{P:Fin ->JZ ->Prop}(ho:s.heap.get? a=some (seqObj "list" vs.toArray n)) (hI:IntsAre vs ns) (hsz:vs.length<=sizeLine) (h: ∀ (out:KU Fp) (C6:Fm Int),IntsAre out.toList C6 ->C6.Perm ns ->C6.Pairwise (· <= ·) ->P (.done (.ret .none)) {s with heap:=sortedHeap s.heap a vs out}): wpAny (model prog w) A (Builtin.«list.sort» #[[.ref a],[]]) P E s:=by
 exact vb Jr ho hsz (kd:=oneType') (λh2 Q hq=> ?_) (Of hI.intKeys) λus hp hs=> ?_;let⟨v₁,v₂,c7,rfl⟩:fE λv₁ v₂ c7=>vs=v₁::v₂::c7:=by
  match vs,h2 with
  | [],h2=>simp at h2
  | [_],h2=>simp at h2
  | v₁::v₂::c7,_=>show#[v₁,v₂,c7,rfl]
 rw[keyKind_ints hI];show aX hq;have oN: ∀v,v∈us -> ∃n t,v= .int n t:=λv hv=>hI.all v (hp.mem_iff.mp hv);exact h us.toArray (us.map numOf) ⇑(intsAre_map us oN) ?_ ?_;have:=hp.map numOf;rwa [hI.nums] at this;rw[List.pairwise_map];exact hs.imp λ{x y} e=> ?_;unfold kg at e;rw[decide_eq_false_iff_not] at e;simp only at e;lia
end
end TS
namespace L2
open PySem PySem.Spec PyProof.Rows
abbrev cT:=Sum Int Str
def kj:cT ->Fp ->Bool
 | .inl k,v=>Value.isInt k v
 | .inr x,v=>Value.isStrOf x v
def JP (w:KZ):cT ->Int
 | .inl k=>hashInt k
 | .inr x=>hashStr w x
theorem cQ: ∀ {k:cT} {v:Fp},kj k v=true ->(bU λi t=>k=Sum.inl i /\ v=Value.int i t) \/ (bU λx t=>k=Sum.inr x /\ v=Value.str x t)
 | .inl i,v,h=>by let⟨t,e⟩:=Value.isInt_shape (k:=i) (v:=v) h;show .inl #[i,t,rfl,e]
 | .inr x,v,h=>by let⟨t,e⟩:=Value.isStrOf_shape (x:=x) (v:=v) h;show .inr #[x,t,rfl,e]
def tO (i:Int)(t:Tok):kj (.inl i) (.int i t)=true:=by simp[kj,Value.isInt]
def tN (x:Str)(t:Tok):kj (.inr x) (.str x t)=true:=by simp[kj,Value.isStrOf]
def BV (a b:Int):decide ((Sum.inl a:cT)=Sum.inl b)=(a==b):=by by_cases e:a=b;subst e;simp;have h:¬(Sum.inl a:cT)=Sum.inl b:=λq=>e (Sum.inl.inj q);rw[aK h];show(beq_eq_false_iff_ne.mpr e).symm
def BR (a b:Str):decide ((Sum.inr a:cT)=Sum.inr b)=decide (a=b):=by by_cases e:a=b;subst e;simp;have h:¬(Sum.inr a:cT)=Sum.inr b:=λq=>e (Sum.inr.inj q);rw[aK h,aK e]
theorem BU (a:Int)(b:Str):decide ((Sum.inl a:cT)=Sum.inr b)=false:=aK (λq=>nomatch q)
theorem BS (a:Str)(b:Int):decide ((Sum.inr a:cT)=Sum.inl b)=false:=aK (λq=>nomatch q)
def cY (prog:KY)(w:KZ):PySem.KeyKind prog w cT where
 is:=kj
 hash:=JP w
 inj :=λv a b ha hb=>by
  rcases cQ ha with⟨i,t,rfl,rfl⟩ | ⟨x,t,rfl,rfl⟩
  rcases cQ hb with⟨j,u,rfl,e⟩ | ⟨y,u,rfl,e⟩
  injection e with e1 _;rw[e1];show nomatch e
  rcases cQ hb with⟨j,u,rfl,e⟩ | ⟨y,u,rfl,e⟩
  show nomatch e
  injection e with e1 _;rw[e1]
 byValue:=λk v h=>by rcases cQ h with⟨i,t,rfl,rfl⟩ | ⟨x,t,rfl,rfl⟩ <;>rfl
 pyHash:=λhv h=>by
  rcases cQ hv with⟨i,t,rfl,rfl⟩ | ⟨x,t,rfl,rfl⟩
  show wpAny_pyHash_int h;show wpAny_pyHash_str h
 eqBool:=λhu hv h=>by
  rcases cQ hu with⟨i,t,rfl,rfl⟩ | ⟨x,t,rfl,rfl⟩
  rcases cQ hv with⟨j,u,rfl,rfl⟩ | ⟨y,u,rfl,rfl⟩
  rw[BV] at h;show wpAny_eqBool_int h;rw[BU] at h;show SeqAt.EqAt.int_str i t y u _ _ _ _ h;rcases cQ hv with⟨j,u,rfl,rfl⟩ | ⟨y,u,rfl,rfl⟩
  rw[BS] at h;show SeqAt.EqAt.str_int x t j u _ _ _ _ h;rw[BR] at h;show wpAny_eqBool_str h
 «strs» :=λk x t v h=>by
  rcases cQ h with⟨i,u,rfl,e⟩ | ⟨y,u,rfl,e⟩
  show nomatch e
  injection e with e1 _;subst e1;cases v<;>rfl
theorem oB (prog:KY)(w:KZ)(i:Int)(t:Tok):(cY prog w).is (.inl i) (.int i t)=true:=tO i t
theorem oA (prog:KY)(w:KZ)(x:Str)(t:Tok):(cY prog w).is (.inr x) (.str x t)=true:=tN x t
set_option genInjectivity true in
inductive V where
  | di | bl (b:Bool) | int (i:Int) | str (x:Str) | sF (b:Array UInt8) | As (b:UInt64) | ref (a:Addr) | ty (n:String)
 deriving DecidableEq
def RelV:V ->Fp ->Prop
 | .di,u=>u=Value.none
 | .bl b,u=>u=Value.bool b
 | .int i,u=> ∃t,u=Value.int i t
 | .str x,u=> ∃t,u=Value.str x t
 | .sF b,u=> ∃t,u=Value.bytes b t
 | .As b,u=> ∃t,u=Value.float b t
 | .ref a,u=>u=Value.ref a
 | .ty n,u=>u=Value.type n
abbrev b0:Fm V ->Fm Fp ->Prop:=Paired RelV
theorem b0.length {xs:Fm V}{us:Fm Fp}(r:b0 xs us):xs.length=us.length:=Paired.length r
theorem b0.get: ∀ {xs:Fm V} {us:Fm Fp} {i:Nat} {x:V},b0 xs us ->xs[i]? =some x -> ∃u,us[i]? =some u /\ RelV x u
 | _,_,_,_, .nil,e=>by simp at e
 | _,_,0,_, .cons r _,e=>by simp at e;subst e;show#[_,rfl,r]
 | _,_,i+1,x, .cons _ t,e=>by let⟨u,h1,h2⟩:=b0.get (i:=i) (x:=x) t ⇑e;show#[u, ⇑h1,h2]
theorem b0.set {x:V}{u:Fp}(r:RelV x u): ∀ {xs:Fm V} {us:Fm Fp} (i:Nat),b0 xs us ->b0 (xs.set i x) (us.set i u)
 | _,_,_, .nil=> .nil
 | _,_,0, .cons _ t=> .cons r t
 | _,_,i+1, .cons q t=> .cons q (b0.set r i t)
theorem b0.append: ∀ {xs ys:Fm V} {us ws:Fm Fp},b0 xs us ->b0 ys ws ->b0 (xs++ys) (us++ws)
 | _,_,_,_, .nil,s=>s
 | _,_,_,_, .cons r t,s=> .cons r (b0.append t s)
theorem b0.take: ∀ {xs:Fm V} {us:Fm Fp} (n:Nat),b0 xs us ->b0 (xs.take n) (us.take n)
 | _,_,0,_=> .nil
 | _,_,_+1, .nil=> .nil
 | _,_,n+1, .cons r t=> .cons r (b0.take n t)
theorem b0.drop: ∀ {xs:Fm V} {us:Fm Fp} (n:Nat),b0 xs us ->b0 (xs.drop n) (us.drop n)
 | _,_,0,r=>r
 | _,_,_+1, .nil=> .nil
 | _,_,n+1, .cons _ t=>b0.drop n t
def i9:KO V ->KO Fp ->Prop
 | some v,some u=>RelV v u
 | none,none=>True
 | _,_=>False
def KV {κ:Type}:Fm (κ×V) ->Fm (κ×Fp) ->Prop:=Paired λ(p:κ×V) (q:κ×Fp)=>p.1=q.1 /\ RelV p.2 q.2
def kV:cT ->V
 | .inl i=> .int i
 | .inr x=> .str x
set_option genInjectivity true in
inductive HO where
 /-- a list -/
 | lst (xs:List V)
 /-- a tuple (never changes) -/
 | tup (xs:List V)
 /-- a dict Dx keys are ints and texts;one Dx keys are tuples of ints and texts (C3 empty one is both) -/
 | dK (kvs:List (cT×V)) | dT (kvs:List (List cT×V))
 /-- a set of ints:bq members,bq size -/
 | set (S:Int ->Bool) (n:Nat)
 /-- an instance of C3 class at C,bq dict at dx,bq attributes -/
 | ins (C dx:Addr) (fs:List (Str×V))
 /-- C3 dict of C3 instance at x -/
 | own (x:Addr)
 /-- C3 dict of an exception -/
 | xd (fs:List (Str×V))
 /-- a bound method,f of x -/
 | met (f x:Addr)
 /-- a range object lo,lo+1, .. below hi -/
 | G8 (lo hi:Int)
 /-- a Ef N6 is known to C3 object (C3 Ji;a dict while a loop walks it):read,never written while it is so -/
 | oP (o:Obj) (u:HO)
 /-- a code E5 table -/
 | zE (ps:Array Value)
 /-- any vC Ef,by Dy is true of bq one object (a def of Mm own:Rc a S n:=HO.ext λh=> ..) -/
 | ext (φ:Heap ->Prop)
abbrev Hp:=KQ ->KO HO
def cU (H:Hp)(a:KQ)(o:HO):Hp:=λb=>if b=a then some o else H b
def bV {H:Hp}{a:KQ}{o:HO}:cU H a o a=some o:=by unfold cU;rw[am rfl]
def bP {H:Hp}{a b:KQ}{o:HO}(h:b≠a):cU H a o b=H b:=by unfold cU;rw[ar h]
def E7 {H:Hp}{a b:KQ}{o u:HO}(h:H a=some o)(h':H b=some u)(d:o≠u):a≠b:=by intro e;subst e;rw[h] at h';show d (aW h')
def cC {H:Hp}{a b:KQ}{o:HO}(h:H a=some o)(h':H b=none):a≠b:=by intro e;subst e;rw[h] at h';cases h'
def ln (h:K0)(a:KQ)(bq:KU Fp):Prop:= ∃o,h.get? a=some o /\ o.cls= .type "tuple" /\ ∃n,o.data= .seq bq n /\ o.dict=none
theorem ln.t {h:K0}{a:KQ}{bq:KU Fp}(x:ln h a bq):IsTup h a bq:=let ⟨o,e,c,n,d,_⟩:=x;#[o,e,c,n,d]
theorem ln.lt {h:K0}{a:KQ}{bq:KU Fp}(x:ln h a bq):a<h.objs.size:=let ⟨_,e,_⟩:=x;au e
theorem ln.new (h:K0)(bq:KU Fp):ln (h.push {cls:= .type "tuple",data:= .seq bq}) h.objs.size bq:=#[_,aT _ rfl,rfl,_,rfl,rfl]
section
variable (P:KY)(w:KZ)
def cV (H:Hp)(h:K0)(a:KQ):HO ->Prop
 | .lst xs=>xs.length<=sizeLine /\ bU λ(bq:Fm Fp) (n:Nat)=>b0 xs bq /\ h.get? a=some {cls:= .type "list",data:= .seq bq.toArray n}
 | .tup xs=>xs.length<=sizeLine /\ ∃bq:Fm Fp,b0 xs bq /\ ln h a bq.toArray
 | .dK kvs=>kvs.length<=sizeLine /\ (a==sysModules)=false /\ ∃vs,KV kvs vs /\ h.DictOf (cY P w) a vs
 | .dT kvs=>kvs.length<=sizeLine /\ (a==sysModules)=false /\ ∃xs:Fm (Fm cT×KQ×Fp),Paired (λ(p:Fm cT×V) (q:Fm cT×KQ×Fp)=>p.1=q.1 /\ H q.2.1=some (.tup (p.1.map kV)) /\ RelV p.2 q.2.2) kvs xs /\∃o es ep,h.get? a=some o /\ o.ExactDict /\ o.data= .dict es ep /\ es.toList=xs.map (entryOfKey (tupleKind (cY P w))) /\ (xs.map (·.1)).Nodup
 | .set S n=>h.SetOf (intKind P w) a S n
 | .ins C dx fs=>H dx=some (.own a) /\ fs.length<=1000 /\ dx≠a /\ h.get? a=some (W.instObj C dx) /\∃mA,h.Ns1 dx mA /\ (∀f,i9 (fs.lookup f) (mA f)) /\ PySem.Within mA (fs.map (·.1))
 | .own _=> ∃o,h.get? a=some o
 | .xd fs=> ∃mA,h.Ns1 a mA /\ ∀f,i9 (fs.lookup f) (mA f)
 | .G8 lo hi=>fE λt u v=>h.get? a=some {cls:= .type "range",data:= .fields (List.toArray [.int lo t, .int hi u, .int 1 v])}
 | .oP o u=>h.get? a=some o /\ cV H h a u
 | .zE ps=>h.get? a=some {cls:= .none,data:= .fields ps}
 | .met f x=>h.get? a=some (W.methodObj (.ref f) (.ref x))
 | .ext φ=>φ h /\ (∃o,h.get? a=some o) /\ ∀h1 h2:K0,φ h1 ->(∀o,h1.get? a=some o ->h2.get? a=some o) ->φ h2
def fM (H:Hp)(h:K0):Prop:= ∀a o,H a=some o ->cV P w H h a o
end
section
variable {P:KY}{w:KZ}{H H':Hp}{h h':K0}{a:KQ}{o:HO}
def cV.lt (x:cV P w H h a o):a<h.objs.size:=by
 cases o with
 | lst xs=>let⟨_,_,_,_,e⟩:=x;show au e
 | tup xs=>let⟨_,_,_,p⟩:=x;show p.lt
 | dK kvs=>let⟨_,_,_,_,o,_,_,e,_⟩:=x;show au e
 | dT kvs=>let⟨_,_,_,_,o,_,_,e,_⟩:=x;show au e
 | set S n=>let⟨o,_,_,_,e,_⟩:=x;show au e
 | ins C dx fs=>let⟨_,_,_,e,_⟩:=x;show au e
 | own y=>let⟨_,e⟩:=x;show au e
 | xd fs=>let⟨_,⟨_,_,_,e,_⟩,_⟩:=x;show au e
 | G8 lo hi=>let⟨_,_,_,e⟩:=x;show au e
 | oP ob u=>let⟨e,_⟩:=x;show au e
 | zE ps=>show au (show h.get? a=some _ from x)
 | met f y=>show au (show h.get? a=some _ from x)
 | ext φ=>let⟨_,⟨_,e⟩,_⟩:=x;show au e
theorem Paired.BL {α β:Type}{F G:α ->β ->Prop}: ∀ {l₁:Fm α} {l₂:Fm β},Paired F l₁ l₂ ->(∀a b,F a b ->G a b) ->Paired G l₁ l₂
 | _,_, .nil,_=> .nil
 | _,_, .cons r t,f=> .cons (f _ _ r) (Paired.BL t f)
def cV.jL (x:cV P w H h a o)(k: ∀b u,(b=a \/ H b=some (.own a)) ->h.get? b=some u ->h'.get? b=some u) (ho: ∀b,H b=some (.own a) ->H' b=some (.own a)) (ht: ∀b xs,H b=some (.tup xs) ->H' b=some (.tup xs)):cV P w H' h' a o:=by
 induction o with
 | lst xs=>let⟨z,bq,n,r,e⟩:=x;show#[z,bq,n,r,k _ _ (.inl rfl) e]
 | tup xs=>let⟨z,bq,r,ob,e,c⟩:=x;show#[z,bq,r,ob,k _ _ (.inl rfl) e,c]
 | dK kvs=>let⟨z,y,vs,r,ob,es,ep,e,c⟩:=x;show#[z,y,vs,r,ob,es,ep,k _ _ (.inl rfl) e,c]
 | dT kvs=>let⟨z,y,xs,r,ob,es,ep,e,c⟩:=x;show#[z,y,xs,Paired.BL r λp q z=>#[z.1,ht _ _ z.2.1,z.2.2],ob,es,ep,k _ _ (.inl rfl) e,c]
 | set S n=>let⟨ob,es,ep,t,e,c⟩:=x;show#[ob,es,ep,t,k _ _ (.inl rfl) e,c]
 | ins C dx fs=>let⟨d,z,ne,e,mA,⟨od,es,ep,e2,c⟩,r⟩:=x;show#[ho _ d,z,ne,k _ _ (.inl rfl) e,mA,#[od,es,ep,k _ _ (.inr d) e2,c],r]
 | own y=>let⟨ob,e⟩:=x;show#[ob,k _ _ (.inl rfl) e]
 | xd fs=>let⟨mA,⟨od,es,ep,e,c⟩,r⟩:=x;show#[mA,#[od,es,ep,k _ _ (.inl rfl) e,c],r]
 | G8 lo hi=>let⟨t,u,v,e⟩:=x;show#[t,u,v,k _ _ (.inl rfl) e]
 | oP ob u ih=>let⟨e,q⟩:=x;show#[k _ _ (.inl rfl) e,ih q]
 | zE ps=>have e:h.get? a=some {cls:= .none,data:= .fields ps}:=x;change h'.get? a=some {cls:= .none,data:= .fields ps};show k a _ (.inl rfl) e
 | met f y=>have e:h.get? a=some (W.methodObj (.ref f) (.ref y)):=x;change h'.get? a=some (W.methodObj (.ref f) (.ref y));show k a _ (.inl rfl) e
 | ext φ=>let⟨p,⟨o,e⟩,st⟩:=x;show#[st _ _ p λo q=>k _ _ (.inl rfl) q,#[o,k _ _ (.inl rfl) e],st]
theorem fM.lt (x:fM P w H h)(e:H a=some o):a<h.objs.size:=(x a o e).lt
def fM.fresh (x:fM P w H h)(e:h.objs.size<=a):H a=none:=by
 cases q:H a with
 | none=>rfl
 | some u=>show absurd (aF (x.lt q) e) (bB _)
theorem fM.kept (x:fM P w H h)(k: ∀b u,h.get? b=some u ->h'.get? b=some u):fM P w H h':=λa o e=>(x a o e).jL (λb u _ q=>k b u q) (λ_ q=>q) λ_ _ q=>q
theorem fM.laid (x:fM P w H h)(k: ∀b u,h.get? b=some u ->h'.get? b=some u)(hp:h.objs.size<=a)(new:cV P w (cU H a o) h' a o):fM P w (cU H a o) h':=λb u e=>by have hn:=x.fresh hp;by_cases hb:b=a;subst hb;rw[bV] at e;cases e;show new;rw[bP hb] at e;show(x b u e).jL (λc v _ q=>k c v q) (λc q=>by rw[bP (cC q hn)];show q) λc xs q=>by rw[bP (cC q hn)];show q
end
def Rd (H:Hp)(a:KQ)(u:HO):Prop:=H a=some u \/ ∃o,H a=some (.oP o u)
def Rd.ok {P:KY}{w:KZ}{H:Hp}{h:K0}{a:KQ}{u:HO}(r:Rd H a u)(x:fM P w H h):cV P w H h a u:=by obtain r | ⟨o,r⟩:=r;show x a u r;let⟨_,q⟩:=x a _ r;show q
def Gm:KO HO ->Prop
 | some (.lst _)=>True
 | some (.dK _)=>True
 | some (.dT _)=>True
 | some (.set _ _)=>True
 | some (.ins _ _ _)=>True
 | some (.ext _)=>True
 | _=>False
section
variable {P:KY}{w:KZ}{H:Hp}{h h':K0}{x e:KQ}{o':HO}
theorem fM.write (ok:fM P w H h)(mu:Gm (H x))(he:e=x \/ H e=some (.own x))(k: ∀b u,b≠e ->h.get? b=some u ->h'.get? b=some u)(De: ∃u,h'.get? e=some u) (new:cV P w (cU H x o') h' x o'):fM P w (cU H x o') h':=λb u q=>by
 have E6: ∀c y,H c=some (.own y) ->c≠x:=λc y r z=>by subst z;rw[r] at mu;show mu
 have Jy: ∀c xs,H c=some (.tup xs) ->c≠x:=λc xs r z=>by subst z;rw[r] at mu;show mu
 by_cases hb:b=x;subst hb;rw[bV] at q;cases q;show new;rw [bP hb] at q;by_cases Cn:b=e;have q':H b=some (.own x):=by obtain z | z:=he;show absurd (Cn.trans z) hb;rw[Cn];show z
 rw[q] at q';cases q';let⟨v,hv⟩:=De;show#[v,by rw[Cn];show hv];exact(ok b u q).jL (λc v hc r=>k c v ?_ r) (λc r=>by rw[bP (E6 c b r)];show r) λc xs r=>by rw[bP (Jy c xs r)];show r
 obtain rfl | hc:=hc;show Cn;rintro rfl;obtain z | z:=he;show E6 c b hc z;rw[hc] at z;cases z;show hb rfl
end
structure Un (fs ex:List Addr)(H H':Hp)(h h':Heap):Prop where
 keep: ∀b o,h.get? b=some o ->H b=none ->b∉fs ->b∉ex ->h'.get? b=some o
 slot: ∀b o,h.get? b=some o ->H b=none ->b∈fs ->b∉ex -> ∃sl,h'.get? b=some {o with slots:=sl}
 free: ∀b o,h.get? b=some o ->H b=none ->b∉ex ->H' b=none
 there: ∀b o,h.get? b=some o ->b∉ex -> ∃o',h'.get? b=some o'
 gA: ∀b xs,H b=some (.tup xs) ->H' b=some (.tup xs)
 gp: ∀b o u,H b=some (.oP o u) ->H' b=some (.oP o u)
 gV: ∀b ps,H b=some (.zE ps) -> ∃more,H' b=some (.zE (ps++more))
section
variable {fs QX ex RH:Fm KQ}{H H1 H2:Hp}{h h1 h2 h':K0}{a x e:KQ}{o:HO}
def Un.any (u:Un fs ex H H1 h h1){b:KQ}{ob:Obj}(q:h.get? b=some ob)(n:H b=none)(hx:b∉ex): ∃sl,h1.get? b=some {ob with slots:=sl}:=by by_cases hb:b∈fs;show u.slot b ob q n hb hx;show#[ob.slots,u.keep b ob q n hb hx]
theorem Un.kept (k: ∀b u,h.get? b=some u ->h'.get? b=some u):Un fs ex H H h h':=#[λb ob q _ _ _=>k b ob q,λb ob q _ _ _=>#[ob.slots,k b ob q],λ_ _ _ n _=>n,λb ob q _=>#[ob,k b ob q],λ_ _ q=>q,λ_ _ _ q=>q,λ_ ps q=>#[#[],by rw[q];simp]]
theorem Un.refl:Un fs ex H H h h:=Un.kept λ_ _ q=>q
theorem Un.laid (k: ∀b u,h.get? b=some u ->h'.get? b=some u)(hp:h.objs.size<=a)(hn:H a=none):Un fs ex H (cU H a o) h h' where
 keep:=λb u q _ _ _=>k b u q
 slot:=λb u q _ _ _=>#[u.slots,k b u q]
 free:=λb u q n _=>by rw[bP (aU (aF (au q) hp))];show n
 there:=λb u q _=>#[u,k b u q]
 gA:=λb xs q=>by rw[bP (cC q hn)];show q
 gp:=λb u xs q=>by rw[bP (cC q hn)];show q
 gV:=λb ps q=>#[#[],by rw[bP (cC q hn),q];simp]
def Un.write (mu:Gm (H x))(he:e=x \/ H e=some (.own x))(k: ∀b u,b≠e ->h.get? b=some u ->h'.get? b=some u)(De: ∃u,h'.get? e=some u):Un fs ex H (cU H x o) h h':=by
 have hx: ∀b,H b=none ->b≠x:=λb n z=>by subst z;rw[n] at mu;show mu
 have hb: ∀b,H b=none ->b≠e:=λb n z=>by subst z;obtain r | r:=he;show hx b n r;rw[n] at r;cases r
 have hm: ∀b u,H b=some u ->¬Gm (some u) ->b≠x:=λb u q nm z=>by subst z;rw[q] at mu;show nm mu
 exact#[λb u q n _ _=>k b u (hb b n) q,λb u q n _ _=>#[u.slots,k b u (hb b n) q],λb u q n _=>by rw[bP (hx b n)];show n,λb u q _=> ?_,λb xs q=>by rw[bP (hm b _ q λz=>z)];show q,λb u xs q=>by rw[bP (hm b _ q λz=>z)];show q,λb ps q=>#[#[],by rw[bP (hm b _ q λz=>z),q];simp]];by_cases Cn:b=e;subst Cn;show De;show#[u,k b u Cn q]
end
def G3 (h:K0)(H:Hp):Fm KQ:=(List.range h.objs.size).filter λa=>(H a).isSome
def nA (h:K0)(H:Hp):K0:=W.hideAll h (G3 h H)
theorem tY (h:K0)(H:Hp):(nA h H).objs.size=h.objs.size:=W.hideAll_size _ _
theorem wv {h:K0}{H:Hp}{b:KQ}{o:Obj}(e:h.get? b=some o)(n:H b=none):(nA h H).get? b=some o:=W.hideAll_get _ e λhm=>by have q:(H b).isSome=true:=(List.mem_filter.mp hm).2;rw[n] at q;simp at q
def yw {h:K0}{H:Hp}{b:KQ}{o:Obj}(e:(nA h H).get? b=some o):h.get? b=some o /\ H b=none:=by
 have e':h.get? b=some o:=W.of_hideAll (G3 h H) e;exact#[e',?_];cases q:H b with
 | none=>rfl
 | some x=>have hm:b∈G3 h H:=List.mem_filter.mpr #[List.mem_range.mpr (au e'),by simp[q]];have z:(nA h H).get? b=none:=W.hideAll_none (G3 h H) hm;rw[z] at e;cases e
def zh (g h:K0)(L:KQ):Fm (KQ×Obj):=(List.range h.objs.size).filterMap λa=>if a=L \/ (g.get? a).isSome=true then none else(h.get? a).map λo=>(a,o)
def c7 (g h:K0)(L d:KQ):Fm (KQ×Obj):=(zh g h L).filter λp=>decide (p.1≠d)
structure Mod (K:PySem.W.Frag)(mg:Str ->Option Value)(base:Heap):Prop where
 Fe:K.In base
 glob:base.Ns mainGlobals mg
 blt: ∃mb,base.Ns builtinsNs mb /\ ∀x:Str,x≠ "__name__" ->mb x=bootBuiltins x
 nolimit:base.NoLimit
structure Cx where
 prog:Program
 w:World
 K:PySem.W.Frag
 mg:Str ->Option Value
 base:Heap
 A:Around
 N:List Str
 s₀:Shared
 H₀:Hp
 env:Env
 outer:List Env
 stack:List Env
 ex:List Addr
 fn:Str ->Bool
 calm:Bool
 pn:List (Addr×Obj)
 xe:Value ->Shared ->Prop
def eC (l:Fm Env):Fm KQ:=l.filterMap (·.frame)
abbrev Cx.fs (X:Cx):Fm KQ:=eC X.outer
def HS (sc:Scope)(x:Str):Prop:=sc.names.lookup x=some .local \/ sc.names.lookup x=some .cell \/ sc.names.lookup x=some .free
def Loc (sc:Scope)(x:Str):Prop:=sc.names.lookup x=some .local \/ sc.names.lookup x=some .cell
def Look (env:Env)(h:K0)(m:Str ->KO Fp)(x:Str)(u:Fp):Prop:=(env.kindOf x=some .local /\ m x=some u) \/ ((env.kindOf x=some .cell \/ env.kindOf x=some .free) /\ ∃c,env.cells.lookup x=some c /\ h.IsCell c (some u))
structure Cx.Ok (X:Cx):Prop where
 mod:Mod X.K X.mg X.base
 kind:X.env.scope.kind= .function
 glob:X.env.globals=mainGlobals
 blt:X.env.builtins=builtinsNs
 above:X.s₀.heap.objs.size<=X.env.locals
 inj: ∀x y c,X.env.cells.lookup x=some c ->X.env.cells.lookup y=some c ->x=y
 has: ∀x,(X.env.kindOf x=some .cell \/ X.env.kindOf x=some .free) -> ∃c,X.env.cells.lookup x=some c
 Dl: ∀x c,X.fn x=true ->X.env.cells.lookup x=some c ->X.s₀.heap.objs.size<=c
 hd:X.calm=true ->X.A.handled=none
 frames:X.A.frames=some X.stack
 Ba:X.stack=X.outer \/ (X.stack=X.env::X.outer /\ X.env.frame=some X.env.locals)
 Le: ∀b∈X.ex,b≠X.env.locals /\ ∀x c,X.env.cells.lookup x=some c ->c≠b
 bs: ∀b o,X.base.get? b=some o ->X.s₀.heap.get? b=some o /\ X.H₀ b=none
 xI:X.base.objs.size<=X.s₀.heap.objs.size
 tD: ∀b o,X.base.get? b=some o ->b∉X.ex
 qz: ∀b∈X.ex,b∉X.fs
 gN:X.s₀.heap.FunFrames X.base X.outer
 xF: ∀b∈X.fs,X.H₀ b=none
structure Inv (X:Cx)(aa:List (Addr×Obj))(σ:List (Option V))(H:Hp)(s:Shared):Prop where
 ok:X.Ok
 os:s.os=X.s₀.os
 bare:AllBare s.gens
 base:Un X.fs X.ex X.H₀ H X.s₀.heap s.heap
 loc: ∃m,s.heap.Ns X.env.locals m /\ ∀ (i:Nat) (x:Str) (v:V),X.N[i]? =some x ->σ[i]? =some (some v) ->HS X.env.scope x -> ∃u,RelV v u /\ Look X.env s.heap m x u
 cell: ∀x c,X.env.cells.lookup x=some c -> ∃v,s.heap.IsCell c v
 free:H X.env.locals=none
 eN: ∀x c,X.env.cells.lookup x=some c ->H c=none
 pin: ∀p∈X.pn++aa,s.heap.get? p.1=some p.2 /\ H p.1=none /\ p.1≠X.env.locals /\ p.1∉X.fs /\ ∀v,p.2.data≠ .cell v
 cI:fM X.prog X.w H s.heap
 len:σ.length=X.N.length
section
variable {X:Cx}{aa:Fm (KQ×Obj)}{σ:Fm (KO V)}{H H':Hp}{s:JZ}{h':K0}
theorem Cx.Ok.JA (ok:X.Ok){b:KQ}{o:Obj}(e:X.base.get? b=some o):b∉X.fs:=λhb=>by have:=(ok.gN.mem hb).1;rw[e] at this;cases this
theorem Inv.bs (I:Inv X aa σ H s): ∀b o,X.base.get? b=some o ->s.heap.get? b=some o /\ H b=none:=λb o e=>#[I.base.keep b o (I.ok.bs b o e).1 (I.ok.bs b o e).2 (I.ok.JA e) (I.ok.tD b o e),I.base.free b o (I.ok.bs b o e).1 (I.ok.bs b o e).2 (I.ok.tD b o e)]
theorem Inv.bk (I:Inv X aa σ H s): ∀b o,X.base.get? b=some o ->s.heap.get? b=some o:=λb o e=>(I.bs b o e).1
theorem Inv.mod (I:Inv X aa σ H s):Mod X.K X.mg X.base:=I.ok.mod
theorem Inv.kl (I:Inv X aa σ H s):X.K.In s.heap:=I.ok.mod.Fe.keeps I.bk
theorem Inv.fr (I:Inv X aa σ H s): ∃m,Fr X.base X.env.locals s.heap m:=
 let ⟨m,hn,_⟩:=I.loc
 #[m,hn,I.bk,aD I.ok.xI I.ok.above]
theorem Inv.lt (I:Inv X aa σ H s):X.env.locals<s.heap.objs.size:=let ⟨_,hn,_⟩:=I.loc;hn.lt
theorem Inv.sz (I:Inv X aa σ H s):X.s₀.heap.objs.size<=s.heap.objs.size:=aD I.ok.above (Nat.le_of_lt I.lt)
theorem Inv.Jz (I:Inv X aa σ H s){a:KQ}(h:s.heap.objs.size<=a):a∉X.fs:=λhb=>by let⟨_,o,ho,_⟩:=I.ok.gN.mem hb;show absurd (aF (au ho) (aD I.sz h)) (bB _)
theorem Inv.wV (I:Inv X aa σ H s): ∀x c,X.env.cells.lookup x=some c ->c≠X.env.locals:=λx c e z=>by let⟨v,o,ho,hd⟩:=I.cell x c e;let⟨m,⟨o',es,ep,yV,wx,_⟩,_⟩:=I.loc;rw[z,yV] at ho;cases ho;rw[wx] at hd;cases hd
def Inv.gN (I:Inv X aa σ H s):s.heap.FunFrames X.base X.outer:=by
 have all: ∀ (l:Fm Env),(∀b∈eC l,b∈X.fs) ->X.s₀.heap.FunFrames X.base l ->s.heap.FunFrames X.base l:=by
  intro l;induction l with
  | nil=>intro _ _;trivial
  | cons env r ih=>intro hs hl;let⟨hk,⟨L,o,hf,hn,ho,hd⟩,hr⟩:=hl;have hL:L∈X.fs:=hs L (by unfold eC;rw[List.filterMap_cons,hf];show a4);let⟨sl,e⟩:=I.base.slot L o ho (I.ok.xF L hL) hL λz=>I.ok.qz L z hL;show#[hk,#[L,_,hf,hn,e,hd],ih (λb hb=>hs b (by unfold eC;rw[List.filterMap_cons,hf];show aS _ hb)) hr]
 show all X.outer (λ_ hb=>hb) I.ok.gN
def Inv.stack (I:Inv X aa σ H s):s.heap.FunFrames X.base X.stack:=by obtain e | ⟨e,hf⟩:=I.ok.Ba;rw[e];show I.gN;rw[e];let⟨m,hn,_⟩:=I.loc;exact .cons (by rw[I.ok.kind];decide) hf hn ?_ I.gN;show Heap.get?_none_of_le (aD I.ok.xI I.ok.above)
theorem Inv.mK (I:Inv X aa σ H s): ∀b∈eC X.stack,b∈X.env.locals::X.fs:=λb hb=>by obtain e | ⟨e,hf⟩:=I.ok.Ba;rw[e] at hb;show aS _ hb;rw[e] at hb;unfold eC at hb;rw[List.filterMap_cons,hf] at hb;show hb
theorem Inv.jt (I:Inv X aa σ H s): ∀b∈eC X.stack,H b=none:=λb hb=>by obtain e | hb:=az.mp (I.mK b hb);rw[e];show I.free;let⟨_,o,ho,_⟩:=I.ok.gN.mem hb;show I.base.free b o ho (I.ok.xF b hb) λz=>I.ok.qz b z hb
def Inv.step {g':KU GenState}{t':Nat}{d':Drawn}{ch:Fm KQ}(I:Inv X aa σ H s) (uA: ∀b∈ch,(b∈X.ex \/ X.s₀.heap.objs.size<=b) /\ b≠X.env.locals /\ (∀x c,X.env.cells.lookup x=some c ->c≠b) /\ ∀p∈X.pn++aa,p.1≠b) (keep: ∀b o,b≠X.env.locals ->b∉X.fs ->b∉ch ->s.heap.get? b=some o ->H b=none ->h'.get? b=some o) (slot: ∀b o,b≠X.env.locals ->b∈X.fs ->b∉ch ->s.heap.get? b=some o ->H b=none -> ∃sl,h'.get? b=some {o with slots:=sl}) (free: ∀b o,b∉ch ->s.heap.get? b=some o ->H b=none ->H' b=none) (there: ∀b o,b∉ch ->s.heap.get? b=some o -> ∃o',h'.get? b=some o') (gA: ∀b xs,H b=some (.tup xs) ->H' b=some (.tup xs)) (gp: ∀b o u,H b=some (.oP o u) ->H' b=some (.oP o u)) (gV: ∀b ps,H b=some (.zE ps) -> ∃more,H' b=some (.zE (ps++more))) (ns: ∀m,s.heap.Ns X.env.locals m ->h'.Ns X.env.locals m) (cI:fM X.prog X.w H' h') (hg:AllBare g'): Inv X aa σ H' {s with heap:=h',gens:=g',drawn:=d',toks:=t'}:=by
 have Mr: ∀b o,X.s₀.heap.get? b=some o ->b≠X.env.locals:=λb o e=>aU (aF (au e) I.ok.above);have Hi: ∀b o,X.s₀.heap.get? b=some o ->b∉X.ex ->b∉ch:=λb o e hx hb=>by obtain z | z:=(uA b hb).1;show hx z;show absurd (aF (au e) z) (bB _)
 have cellK: ∀x c,X.env.cells.lookup x=some c -> ∀v,s.heap.IsCell c v ->h'.IsCell c v:=λx c e v ⟨o,ho,hd⟩=>by have E8:c∉ch:=λz=>(uA c z).2.2.1 x c e rfl;by_cases hc:c∈X.fs;let⟨sl,q⟩:=slot c o (I.wV x c e) hc E8 ho (I.eN x c e);show#[_,q,hd];show#[o,keep c o (I.wV x c e) hc E8 ho (I.eN x c e),hd]
 exact#[I.ok,I.os,hg,#[λb o e n hb hx=> ?_,λb o e n hb hx=> ?_,λb o e n hx=> ?_,λb o e hx=> ?_,λb xs e=>gA b xs (I.base.gA b xs e),λb o xs e=>gp b o xs (I.base.gp b o xs e),λb ps e=> ?_],?_,λx c e=> ?_,?_,λx c e=> ?_,λp hp=> ?_,cI,I.len];show keep b o (Mr b o e) hb (Hi b o e hx) (I.base.keep b o e n hb hx) (I.base.free b o e n hx);let⟨sl,e1⟩:=I.base.slot b o e n hb hx;let⟨Jh,e2⟩:=slot b _ (Mr b o e) hb (Hi b o e hx) e1 (I.base.free b o e n hx);show#[Jh,e2];let⟨o',e1⟩:=I.base.there b o e hx;show free b o' (Hi b o e hx) e1 (I.base.free b o e n hx);let⟨o',e1⟩:=I.base.there b o e hx;show there b o' (Hi b o e hx) e1;let⟨m1,e1⟩:=I.base.gV b ps e;let⟨m2,e2⟩:=gV b _ e1;show#[m1++m2,by rw[e2,Array.append_assoc]];let⟨m,hn,hl⟩:=I.loc;exact#[m,ns m hn,λi x v e1 e2 e3=> ?_];let⟨u,r,l⟩:=hl i x v e1 e2 e3;exact#[u,r,?_];obtain l | ⟨k,c,e,z⟩:=l;show .inl l;show .inr #[k,c,e,cellK x c e _ z];let⟨v,z⟩:=I.cell x c e;show#[v,cellK x c e v z];let⟨m,⟨o,_,_,ho,_⟩,_⟩:=I.loc;show free _ o (λz=>(uA _ z).2.1 rfl) ho I.free;let⟨v,o,ho,hd⟩:=I.cell x c e;show free c o (λz=>(uA c z).2.2.1 x c e rfl) ho (I.eN x c e);let⟨e,n,ne,nf,d⟩:=I.pin p hp;have E8:p.1∉ch:=λz=>(uA p.1 z).2.2.2 p hp rfl;show#[keep p.1 p.2 ne nf E8 e n,free p.1 p.2 E8 e n,ne,nf,d]
def Inv.un {t':Nat}(I:Inv X aa σ H s)(u:Un X.fs [] H H' s.heap h')(cI:fM X.prog X.w H' h'):Inv X aa σ H' {s with heap:=h',toks:=t'}:=by let⟨m,⟨o,es,ep,ho,r⟩,_⟩:=id I.loc;let⟨sl,hL⟩:=u.any ho I.free (by simp);show I.step (g':=s.gens) (d':=s.drawn) (ch:= []) (λ_ z=>nomatch z) (λb o _ hb _ e n=>u.keep b o e n hb (by simp)) (λb o _ hb _ e n=>u.slot b o e n hb (by simp)) (λb o _ e n=>u.free b o e n (by simp)) (λb o _ e=>u.there b o e (by simp)) u.gA u.gp u.gV (λm' hm=>by let⟨o',Lf,Lg,yV,r'⟩:=hm;rw[ho] at yV;cases yV;show#[_,Lf,Lg,hL,r']) cI I.bare
def Inv.call {g':KU GenState}{t':Nat}{d':Drawn}{ch:Fm KQ}(I:Inv X aa σ H s)(u:Un (eC X.stack) ch H H' s.heap h')(cI:fM X.prog X.w H' h')(hg:AllBare g') (uA: ∀b∈ch,(b∈X.ex \/ X.s₀.heap.objs.size<=b) /\ b≠X.env.locals /\ (∀x c,X.env.cells.lookup x=some c ->c≠b) /\ ∀p∈X.pn++aa,p.1≠b): Inv X aa σ H' {s with heap:=h',gens:=g',drawn:=d',toks:=t'}:=by let⟨m,⟨o,es,ep,ho,r⟩,_⟩:=id I.loc;let⟨sl,hL⟩:=u.any ho I.free λz=>(uA _ z).2.1 rfl;show I.step (ch:=ch) uA (λb o hL hb hc e n=>u.keep b o e n (λz=>(az.mp (I.mK b z)).elim hL hb) hc) (λb o _ _ hc e n=>u.any e n hc) (λb o hc e n=>u.free b o e n hc) (λb o hc e=>u.there b o e hc) u.gA u.gp u.gV (λm' hm=>by let⟨o',Lf,Lg,yV,r'⟩:=hm;rw[ho] at yV;cases yV;show#[_,Lf,Lg,hL,r']) cI hg
def Inv.turned {t':Nat}{it:KQ}(I:Inv X aa σ H s)(k: ∀b o,b≠it ->s.heap.get? b=some o ->h'.get? b=some o)(hn:H it=none)(hL:it≠X.env.locals) (h1:it∈X.ex \/ X.s₀.heap.objs.size<=it) (h2: ∀x c,X.env.cells.lookup x=some c ->c≠it) (h3: ∀p∈X.pn++aa,p.1≠it):Inv X aa σ H {s with heap:=h',toks:=t'}:=by
 have Mq: ∀b u,H b=some u ->b≠it:=λb u e z=>by rw[z,hn] at e;cases e
 exact I.step (g':=s.gens) (d':=s.drawn) (ch:= [it]) (λb hb=> ?_) (λb o _ _ hc e _=>k b o (λz=>hc (by simp[z])) e) (λb o _ _ hc e _=>#[o.slots,k b o (λz=>hc (by simp[z])) e]) (λ_ _ _ _ n=>n) (λb o hc e=>#[o,k b o (λz=>hc (by simp[z])) e]) (λ_ _ e=>e) (λ_ _ _ e=>e) (λb ps e=>#[#[],by rw[e];simp]) (λm hm=> ?_) (λb u e=> ?_) I.bare;have e:b=it:=by simpa using hb
 subst e;show#[h1,hL,h2,h3];let⟨o,es,ep,ho,r⟩:=hm;show#[o,es,ep,k _ o (bY hL) ho,r];exact(I.cI b u e).jL (λc v hc q=>k c v ?_ q) (λ_ q=>q) λ_ _ q=>q;obtain z | z:=hc;rw[z];show Mq b u e;show Mq c _ z
theorem Inv.tok (I:Inv X aa σ H s)(t:Nat):Inv X aa σ H {s with toks:=t}:=I.un (h':=s.heap) (t':=t) Un.refl I.cI
theorem Inv.kept {t':Nat}(I:Inv X aa σ H s)(k: ∀b u,s.heap.get? b=some u ->h'.get? b=some u):Inv X aa σ H {s with heap:=h',toks:=t'}:=I.un (Un.kept k) (I.cI.kept k)
theorem Inv.laid {a:KQ}{o:HO}{t':Nat}(I:Inv X aa σ H s)(k: ∀b u,s.heap.get? b=some u ->h'.get? b=some u)(hp:s.heap.objs.size<=a)(new:cV X.prog X.w (cU H a o) h' a o): Inv X aa σ (cU H a o) {s with heap:=h',toks:=t'}:=I.un (Un.laid k hp (I.cI.fresh hp)) (I.cI.laid k hp new)
theorem Inv.write {x e:KQ}{o:HO}{t':Nat}(I:Inv X aa σ H s)(mu:Gm (H x))(he:e=x \/ H e=some (.own x))(k: ∀b u,b≠e ->s.heap.get? b=some u ->h'.get? b=some u)(De: ∃u,h'.get? e=some u) (new:cV X.prog X.w (cU H x o) h' x o):Inv X aa σ (cU H x o) {s with heap:=h',toks:=t'}:=I.un (Un.write mu he k De) (I.cI.write mu he k De new)
theorem Inv.weak {σ':Fm (KO V)}(I:Inv X aa σ H s)(hl:σ'.length=σ.length)(w: ∀ (i:Nat) v,σ'[i]? =some (some v) ->σ[i]? =some (some v)):Inv X aa σ' H s:=#[I.ok,I.os,I.bare,I.base,let ⟨m,hn,nR⟩:=I.loc;#[m,hn,λi x v e1 e2 e3=>nR i x v e1 (w i v e2) e3],I.cell,I.free,I.eN,I.pin,I.cI,hl.trans I.len]
theorem Inv.rC {fc:Fm (KQ×Obj)}(I:Inv X aa σ H s)(h: ∀p∈fc,s.heap.get? p.1=some p.2 /\ H p.1=none /\ p.1≠X.env.locals /\ p.1∉X.fs /\ ∀v,p.2.data≠ .cell v):Inv X fc σ H s:=#[I.ok,I.os,I.bare,I.base,I.loc,I.cell,I.free,I.eN,λp hp=>(aR.mp hp).elim (λz=>I.pin p (List.mem_append_left _ z)) (h p),I.cI,I.len]
def j9 {N:Fm Str}(hN:N.Nodup){i j:Nat}{x:Str}(a:N[i]? =some x)(b:N[j]? =some x):i=j:=by let⟨h1,e1⟩:=aZ.mp a;let⟨h2,e2⟩:=aZ.mp b;show(List.getElem_inj hN).mp (e1.trans e2.symm)
def iI {M:Model}{A:K2}{E:Fp ->JZ ->Prop}{i:Nat}{x:Str}{v:V}{u:Fp}{Q:Unit ->JZ ->Prop}(I:Inv X aa σ H s)(hN:X.N.Nodup)(hi:X.N[i]? =some x)(hx:Loc X.env.scope x)(r:RelV v u) (h: ∀s',Inv X aa (σ.set i (some v)) H s' ->(∃a,Heap.SameBut a s.heap s'.heap /\ (a=X.env.locals \/ X.env.cells.lookup x=some a)) ->Q () s') (hf:X.fn x=true \/ X.env.scope.names.lookup x=some .local:=by first | show .inl rfl | show .inr rfl | assumption):wpAny M A (storeName X.env x u) Q E s:=by
 let⟨m,hn,hl⟩:=id I.loc;have Ck:(X.env.scope.kind== .class || (X.env.scope.kind== .module && X.env.locals !=X.env.globals))=false:=by rw[I.ok.kind];rfl
 have Hx:i<σ.length:=by rw[I.len];show(aZ.mp hi).1
 have wV:=I.wV;have tracked: ∀ {a:KQ} {h':K0},(∃o,s.heap.get? a=some o /\ H a=none) ->Heap.SameBut a s.heap h' ->fM X.prog X.w H h':=λ{a h'} ha hs b ob e=>by let⟨_,_,Ak⟩:=ha;exact(I.cI b ob e).jL (λc w' hc q=>(hs.2 c ?_).trans q) (λ_ q=>q) λ_ _ q=>q;rintro rfl;obtain rfl | hc:=hc;rw[Ak] at e;cases e;rw[Ak] at hc;cases hc
 obtain hk | hk:=hx;exact wpAny_storeName_local hk hn (λh' Cc hs=> ?_) Ck;let⟨oL,_,_,MW,_⟩:=id hn;exact h _ #[I.ok,I.os,I.bare,#[λb o e n hb hx=> ?_,λb o e n hb hx=> ?_,I.base.free,λb o e hx=> ?_,I.base.gA,I.base.gp,I.base.gV],#[_,Cc,λj y v' e1 e2 e3=> ?_],λy c e=> ?_,I.free,I.eN,λp hp=> ?_,tracked #[oL,MW,I.free] hs, ⇑I.len] #[_,hs, .inl rfl];show(hs.2 b (aU (aF (au e) I.ok.above))).trans (I.base.keep b o e n hb hx);let⟨sl,e1⟩:=I.base.slot b o e n hb hx;show#[sl,(hs.2 b (aU (aF (au e) I.ok.above))).trans e1];let⟨o',e1⟩:=I.base.there b o e hx;show#[o',(hs.2 b (aU (aF (au e) I.ok.above))).trans e1];by_cases hj:j=i;subst hj;rw[hi] at e1;cases e1;rw[List.getElem?_set_self Hx] at e2;cases e2;show#[u,r, .inl #[hk,by simp]];rw[List.getElem?_set_ne (bY hj)] at e2;let⟨u',r',q⟩:=hl j y v' e1 e2 e3;exact#[u',r',?_];rcases q with⟨k,e⟩ | ⟨k,c,e,z⟩
 exact .inl #[k,?_];have:y≠x:=λe=>hj (j9 hN e1 (e▸hi));simp[this,e];show .inr #[k,c,e,z.sameBut hs (wV y c e)];let⟨w',z⟩:=I.cell y c e;show#[w',z.sameBut hs (wV y c e)];let⟨e,n,ne,nf,d⟩:=I.pin p hp;show#[(hs.2 p.1 ne).trans e,n,ne,nf,d];have Kv:X.fn x=true:=by obtain z | z:=hf;show z;rw[z] at hk;cases hk
 let⟨c,hc⟩:=I.ok.has x (.inl hk);let⟨w',z⟩:=I.cell x c hc;exact wpAny_storeName_cell I.ok.kind hk hc z (λh' FT hs=> ?_);let⟨oc,MU,Kf⟩:=id z;exact h {s with heap:=h'} #[I.ok,I.os,I.bare,#[λb o e n hb hx=> ?_,λb o e n hb hx=> ?_,I.base.free,λb o e hx=> ?_,I.base.gA,I.base.gp,I.base.gV],#[m,hn.sameBut hs (bY (wV x c hc)),λj y v' e1 e2 e3=> ?_],λy c' e=> ?_,I.free,I.eN,λp hp=> ?_,tracked #[oc,MU,I.eN x c hc] hs, ⇑I.len] #[c,hs, .inr hc];show(hs.2 b (aU (aF (au e) (I.ok.Dl x c Kv hc)))).trans (I.base.keep b o e n hb hx);let⟨sl,e1⟩:=I.base.slot b o e n hb hx;show#[sl,(hs.2 b (aU (aF (au e) (I.ok.Dl x c Kv hc)))).trans e1];let⟨o',e1⟩:=I.base.there b o e hx;show#[o',(hs.2 b (aU (aF (au e) (I.ok.Dl x c Kv hc)))).trans e1];by_cases hj:j=i;subst hj;rw[hi] at e1;cases e1;rw[List.getElem?_set_self Hx] at e2;cases e2;show#[u,r, .inr #[.inl hk,c,hc,FT]];rw[List.getElem?_set_ne (bY hj)] at e2;let⟨u',r',q⟩:=hl j y v' e1 e2 e3;exact#[u',r',?_];obtain q | ⟨k,c',e,z'⟩:=q;show .inl q;exact .inr #[k,c',e,z'.sameBut hs ?_];rintro rfl;show hj (j9 hN e1 (I.ok.inj _ _ _ e hc▸hi));by_cases Nj:c'=c;subst Nj;show#[_,FT];let⟨w2,z2⟩:=I.cell y c' e;show#[w2,z2.sameBut hs Nj];let⟨e,n,ne,nf,d⟩:=I.pin p hp;exact#[(hs.2 p.1 ?_).trans e,n,ne,nf,d];intro q;rw[q,MU] at e;have q':oc=p.2:=aW e;show d w' (by rw[<- q'];show Kf)
theorem gX {M:Model}{A:K2}{E:Fp ->JZ ->Prop}{i:Nat}{x:Str}{v:V}{u:Fp}{Q:Unit ->JZ ->Prop}(I:Inv X aa σ H s)(hN:X.N.Nodup)(hi:X.N[i]? =some x)(hx:Loc X.env.scope x)(r:RelV v u) (h: ∀s',Inv X aa (σ.set i (some v)) H s' ->Q () s') (hf:X.fn x=true \/ X.env.scope.names.lookup x=some .local:=by first | show .inl rfl | show .inr rfl | assumption):wpAny M A (storeName X.env x u) Q E s:=iI I hN hi hx r (λs' I' _=>h s' I') hf
def Inv.sE {s':JZ}{ch:Fm KQ}(I:Inv X aa σ H s)(ho:s'.os=s.os)(u:Un (eC X.stack) ch H H' s.heap s'.heap)(cI:fM X.prog X.w H' s'.heap)(hg:AllBare s'.gens) (uA: ∀b∈ch,(b∈X.ex \/ X.s₀.heap.objs.size<=b) /\ b≠X.env.locals /\ (∀x c,X.env.cells.lookup x=some c ->c≠b) /\ ∀p∈X.pn++aa,p.1≠b):Inv X aa σ H' s':=by let⟨h',g',d',t',o'⟩:=s';have e:o'=s.os:=ho;subst e;show I.call (g':=g') (t':=t') (d':=d') u cI hg uA
end
abbrev XK:=Fp ->KO KQ ->Hp ->Prop
abbrev St:=Fm (KO V)
abbrev VK:=V ->Hp ->Prop
abbrev TE:=St ->Hp ->VK ->Prop
abbrev TT:=St ->Hp ->(Bool ->Hp ->Prop) ->Prop
abbrev TA:=St ->Hp ->(Fm V ->Hp ->Prop) ->Prop
structure gc where
 nx:St ->Hp ->Prop
 rt:VK
 bk:St ->Hp ->Prop:=λ_ _=>False
 ct:St ->Hp ->Prop:=λ_ _=>False
abbrev TS:=gc ->St ->Hp ->Prop
def EP (X:Cx)(aa:Fm (KQ×Obj))(σ:St)(Q:VK)(u:Fp)(s':JZ):Prop:=bU λv H'=>cJ (Inv X aa σ H' s') (RelV v u) (Q v H')
def TP (X:Cx)(aa:Fm (KQ×Obj))(σ:St)(Q:Bool ->Hp ->Prop)(b:Bool)(s':JZ):Prop:= ∃H',Inv X aa σ H' s' /\ Q b H'
def AP (X:Cx)(aa:Fm (KQ×Obj))(σ:St)(Q:Fm V ->Hp ->Prop)(us:Fm Fp)(s':JZ):Prop:=bU λvs H'=>cJ (Inv X aa σ H' s') (b0 vs us) (Q vs H')
def SP (X:Cx)(aa:Fm (KQ×Obj))(D:gc)(f:Flow)(s':JZ):Prop:=
 match f with
 | .next=>bU λσ' H'=>Inv X aa σ' H' s' /\ D.nx σ' H'
 | .brk=>bU λσ' H'=>Inv X aa σ' H' s' /\ D.bk σ' H'
 | .cont=>bU λσ' H'=>Inv X aa σ' H' s' /\ D.ct σ' H'
 | .ret u=>fE λv σ' H'=>cJ (Inv X aa σ' H' s') (RelV v u) (D.rt v H')
def PE (X:Cx)(e:Expr)(t:TE):Prop:=∀ (aa:Fm (KQ×Obj)) (s:JZ) (σ:St) (H:Hp) (Q:VK),Inv X aa σ H s ->t σ H Q ->wpAny (model X.prog X.w) X.A (eval e X.env) (EP X aa σ Q) X.xe s
def PT (X:Cx)(e:Expr)(t:TT):Prop:=∀ (aa:Fm (KQ×Obj)) (s:JZ) (σ:St) (H:Hp) (Q:Bool ->Hp ->Prop),Inv X aa σ H s ->t σ H Q ->wpAny (model X.prog X.w) X.A (isTrue e X.env (eval e X.env)) (TP X aa σ Q) X.xe s
def PW (X:Cx)(e:Expr)(t:TT):Prop:=∀ (gr:Sem Fp) (aa:Fm (KQ×Obj)) (s:JZ) (σ:St) (H:Hp) (Q:Bool ->Hp ->Prop),Inv X aa σ H s ->t σ H Q ->wpAny (model X.prog X.w) X.A (isTrue e X.env gr) (TP X aa σ Q) X.xe s
theorem PW.pt {X:Cx}{e:Expr}{t:TT}(h:PW X e t):PT X e t:=h _
def PA (X:Cx)(es:Fm Expr)(t:TA):Prop:=∀ (pos:Pos) (aa:Fm (KQ×Obj)) (s:JZ) (σ:St) (H:Hp) (Q:Fm V ->Hp ->Prop),Inv X aa σ H s ->t σ H Q ->wpAny (model X.prog X.w) X.A (spliced (backTo pos (starEach es X.env))) (AP X aa σ Q) X.xe s
def PS (X:Cx)(st:Stmt)(t:TS):Prop:=∀ (aa:Fm (KQ×Obj)) (s:JZ) (σ:St) (H:Hp) (D:gc),Inv X aa σ H s ->t D σ H ->wpAny (model X.prog X.w) X.A (exec st X.env) (SP X aa D) X.xe s
def mE (X:Cx)(st:Fm Stmt)(t:TS):Prop:=∀ (aa:Fm (KQ×Obj)) (s:JZ) (σ:St) (H:Hp) (D:gc),Inv X aa σ H s ->t D σ H ->wpAny (model X.prog X.w) X.A (execs st X.env) (SP X aa D) X.xe s
theorem cR {α:Type}{t:Sem α}{Q Q':α ->JZ ->Prop}{M:Model}{A:K2}{E:Fp ->JZ ->Prop}{s:JZ}(h:wpAny M A t Q E s)(hQ: ∀a s,Q a s ->Q' a s):wpAny M A t Q' E s:=a6 h hQ λ_ _ x=>x
section
variable {X:Cx}
def bin {a b:Expr}{ta tb:TE}(ha:PE X a ta)(hb:PE X b tb){aa:Fm (KQ×Obj)}{s:JZ}{σ:St}{H:Hp}{R:V ->V ->Hp ->Prop}(I:Inv X aa σ H s)(h:ta σ H λx H1=>tb σ H1 λy H2=>R x y H2) {α:Type} {Q:α ->JZ ->Prop} {f:Fp ->Fp ->Sem α} (hf: ∀v u s2 x y H2,Inv X aa σ H2 s2 ->RelV x v ->RelV y u ->R x y H2 ->wpAny (model X.prog X.w) X.A (f v u) Q X.xe s2): wpAny (model X.prog X.w) X.A (eval a X.env) (λv s₁=>wpAny (model X.prog X.w) X.A (eval b X.env) (λu s₂=>wpAny (model X.prog X.w) X.A (f v u) Q X.xe s₂) X.xe s₁) X.xe s:=by exact cR (ha aa s σ H _ I h) λv s1 ⟨x,H1,I1,r1,q1⟩=> ?_;exact cR (hb aa s1 σ H1 _ I1 q1) λu s2 ⟨y,H2,I2,r2,q2⟩=> ?_;show hf v u s2 x y H2 I2 r1 r2 q2
def xU (i:Nat):TE:=λσ H Q=> ∃v,σ[i]? =some (some v) /\ Q v H
def tC (v:V):TE:=λ_ H Q=>Q v H
def Bs {i:Nat}{x:Str}{pos:Pos}(hN:X.N[i]? =some x)(hv:HS X.env.scope x)(hd:(x==("__debug__" :Str))=false:=by decide)(si:(x==("__classdict__" :Str))=false:=by decide):PE X (.Name x pos) (xU i):=by
 intro aa s σ H Q I h;let⟨v,e,h⟩:=h;let⟨m,hn,hl⟩:=I.loc;let⟨u,r,l⟩:=hl i x v hN e hv;have fin:EP X aa σ Q u s:=#[v,H,I,r,h]
 rcases l with⟨hk,hm⟩ | ⟨hk,c,hc,Am⟩
 show wpAny_Name (wpAny_loadName_local I.ok.kind hk hn hm fin) hd;obtain hk | hk:=hk;show wpAny_Name (wpAny_loadName_cell I.ok.kind hk hc Am fin) hd;show wpAny_Name (wpAny_loadName_free I.ok.kind hk hc Am fin si) hd
theorem ao {i j pos}:PE X (.Constant (.int i) j pos) (tC (.int i)):=λ_ _ _ H _ I h=>wpAny_Constant_int #[.int i,H,I.tok _,#[_,rfl],h]
theorem hJ {b j pos}:PE X (.Constant (.bool b) j pos) (tC (.bl b)):=λ_ _ _ H _ I h=>Constant_bool #[.bl b,H,I,rfl,h]
theorem cb {x j pos}:PE X (.Constant (.str x) j pos) (tC (.str x)):=λ_ _ _ H _ I h=>Calls.Constant_str #[.str x,H,I.tok _,#[_,rfl],h]
def Gl (X:Cx)(x:Str):Prop:=X.env.kindOf x=some .globalImplicit
theorem jx {E:Fp ->JZ ->Prop}{aa:Fm (KQ×Obj)}{s:JZ}{σ:St}{H:Hp}{x:Str}{u:Fp}{pos:Pos}{Q:Fp ->JZ ->Prop}(I:Inv X aa σ H s)(hg:Gl X x)(hm:X.mg x=some u)(h:Q u s) (hd:(x==("__debug__" :Str))=false:=by decide):wpAny (model X.prog X.w) X.A (eval (.Name x pos) X.env) Q E s:=Calls.Name_function_global I.ok.kind hg (Calls.loadGlobal_global (by rw[I.ok.glob];show I.mod.glob.keeps I.bk) hm h) hd
def kh {E:Fp ->JZ ->Prop}{aa:Fm (KQ×Obj)}{s:JZ}{σ:St}{H:Hp}{x:Str}{u:Fp}{pos:Pos}{Q:Fp ->JZ ->Prop}(I:Inv X aa σ H s)(hg:Gl X x)(hm:X.mg x=none)(hv:bootBuiltins x=some u)(h:Q u s) (hn:x≠ "__name__" :=by decide) (hd:(x==("__debug__" :Str))=false:=by decide):wpAny (model X.prog X.w) X.A (eval (.Name x pos) X.env) Q E s:=by let⟨mb,h1,h2⟩:=I.mod.blt;show Calls.Name_function_global I.ok.kind hg (Calls.loadGlobal_builtin (by rw[I.ok.glob];show I.mod.glob.keeps I.bk) hm (by rw[I.ok.blt];show h1.keeps I.bk) ((h2 x hn).trans hv) h) hd
theorem mW {x:Str}{v:V}{u:Fp}{pos:Pos}(hg:Gl X x)(hm:X.mg x=some u)(r:RelV v u)(hd:(x==("__debug__" :Str))=false:=by decide):PE X (.Name x pos) (tC v):=λ_ _ _ H _ I h=>jx I hg hm #[v,H,I,r,h] hd
theorem ge {x:Str}{v:V}{u:Fp}{pos:Pos}(hg:Gl X x)(hm:X.mg x=none)(hv:bootBuiltins x=some u)(r:RelV v u)(hn:x≠ "__name__" :=by decide)(hd:(x==("__debug__" :Str))=false:=by decide):PE X (.Name x pos) (tC v):=λ_ _ _ H _ I h=>kh I hg hm hv #[v,H,I,r,h] hn hd
variable {a b:Expr}{ta tb:TE}{pos:Pos}
def PC (X:Cx)(op:CmpOp)(a b:Expr)(t:TE):Prop:=∀ (aa:Fm (KQ×Obj)) (s:JZ) (σ:St) (H:Hp) (Q:VK),Inv X aa σ H s ->t σ H Q ->wpAny (model X.prog X.w) X.A (eval a X.env) (λv s₁=>wpAny (model X.prog X.w) X.A (eval b X.env) (λu s₂=>wpAny (model X.prog X.w) X.A (compareOp op v u) (EP X aa σ Q) X.xe s₂) X.xe s₁) X.xe s
def vH (b:Expr){op:CmpOp}(h:op≠ .In)(h2:op≠ .NotIn):behindInMarks op b=false:=by
 have e1:(op==CmpOp.In)=false:=by cases op<;>first | rfl | show absurd rfl h
 have e2:(op==CmpOp.NotIn)=false:=by cases op<;>first | rfl | show absurd rfl h2
 cases b<;>simp[behindInMarks,e1,e2]
def tB (t:TE):TT:=λσ H Q=>t σ H λx H1=> ∃c,x= .bl c /\ Q c H1
def Jp {op:CmpOp}{t:TE}(h:PC X op a b t)(h1:behindInMarks op b=false:=by first | show vH _ ⋯ ⋯ | rfl):PT X (.Compare a [op] [b] pos) (tB t):=by intro aa s σ H Q I hw;exact wpAny_isTrue_Compare1 (cR (h aa s σ H _ I hw) λv s1 h1=>cR h1 λu s2 h2=>cR h2 λc s3 ⟨x,H1,I1,r1,q1⟩=> ?_) h1;let⟨d,rfl,q⟩:=q1;cases r1;show cq #[H1,I1,q]
def eo {e:Expr}{t:TE}(h:PE X e t)(he: ∀gr,isTrue e X.env gr=(do let v <- gr;standAt e.pos;holding [v] (truthy v)):=by intro _;rfl):PT X e (tB t):=by intro aa s σ H Q I hw;exact isTrue_plain (cR (h aa s σ H _ I hw) λv s1 ⟨x,H1,I1,r1,q1⟩=> ?_) (he _);let⟨d,rfl,q⟩:=q1;cases r1;show cq #[H1,I1,q]
variable {tA G5:TT}{c7:Fm Expr}
def Eo (t u:TT):TT:=λσ H Q=>t σ H λc H1=>if c=true then u σ H1 Q else Q false H1
def Mc (t u:TT):TT:=λσ H Q=>t σ H λc H1=>if c=true then Q true H1 else u σ H1 Q
def Ek (t:TT):TT:=λσ H Q=>t σ H λc H1=>Q (!c) H1
def mS (ha:PT X a tA):PW X (.BoolOp .And [a] pos) tA:=by
 intro wh aa s σ H Q I h;exact isTrue_and (cR (ha aa s σ H Q I h) λc s1 e=> ?_);cases c with
 | true=>show isTrue_and_nil e
 | false=>show e
def fq (ha:PT X a tA):PW X (.BoolOp .Or [a] pos) tA:=by
 intro wh aa s σ H Q I h;exact isTrue_or (cR (ha aa s σ H Q I h) λc s1 e=> ?_);cases c with
 | false=>show isTrue_or_nil e
 | true=>show e
def p7 (ha:PT X a tA)(hb:PW X (.BoolOp .And (b::c7) pos) G5):PW X (.BoolOp .And (a::b::c7) pos) (Eo tA G5):=by
 intro wh aa s σ H Q I h;exact isTrue_and (cR (ha aa s σ H _ I h) λc s1 ⟨H1,I1,q1⟩=> ?_);cases c with
 | true=>show hb wh aa s1 σ H1 Q I1 q1
 | false=>show#[H1,I1,q1]
def fP (ha:PT X a tA)(hb:PW X (.BoolOp .Or (b::c7) pos) G5):PW X (.BoolOp .Or (a::b::c7) pos) (Mc tA G5):=by
 intro wh aa s σ H Q I h;exact isTrue_or (cR (ha aa s σ H _ I h) λc s1 ⟨H1,I1,q1⟩=> ?_);cases c with
 | true=>show#[H1,I1,q1]
 | false=>show hb wh aa s1 σ H1 Q I1 q1
def eu (ha:PT X a tA):PT X (.UnaryOp .Not a pos) (Ek tA):=by intro aa s σ H Q I h;show isTrue_not (ha aa s σ H (λc H1=>Q (!c) H1) I h)
def zM (ta tb:TE):TE:=λσ H Q=>ta σ H λx H1=> ∃c,x= .bl c /\ if c=true then tb σ H1 Q else Q (.bl false) H1
def zI (ta:TE):TE:=λσ H Q=>ta σ H λx H1=> ∃c,x= .bl c /\ Q (.bl (!c)) H1
theorem p_ {op}{t:TE}(h:PE X a t):PE X (.BoolOp op [a] pos) t:=λaa s σ H Q I hw=>BoolOp_one (h aa s σ H Q I hw)
def mX (ha:PE X a ta)(hb:PE X (.BoolOp .And (b::c7) pos) tb):PE X (.BoolOp .And (a::b::c7) pos) (zM ta tb):=by
 intro aa s σ H Q I h;exact BoolOp_and (cR (ha aa s σ H _ I h) λv s1 ⟨x,H1,I1,r1,q1⟩=> ?_);let⟨c,rfl,q1⟩:=q1;cases r1;exact cq ?_;cases c with
 | true=>show hb aa s1 σ H1 Q I1 q1
 | false=>show#[.bl false,H1,I1,rfl,q1]
def Bt (ha:PE X a ta):PE X (.UnaryOp .Not a pos) (zI ta):=by intro aa s σ H Q I h;exact UnaryOp_ (cR (ha aa s σ H _ I h) λv s1 ⟨x,H1,I1,r1,q1⟩=> ?_);let⟨c,rfl,q1⟩:=q1;cases r1;show not_of (cq #[.bl (!c),H1,I1,rfl,q1])
def Md (t:TT)(ta tb:TE):TE:=λσ H Q=>t σ H λc H1=>if c=true then ta σ H1 Q else tb σ H1 Q
def vw {c:Expr}(hc:PT X c tA)(ha:PE X a ta)(hb:PE X b tb):PE X (.IfExp c a b pos) (Md tA ta tb):=by
 intro aa s σ H Q I h;exact wpAny_IfExp (cR (hc aa s σ H _ I h) λd s1 ⟨H1,I1,q1⟩=> ?_);cases d with
 | true=>show ha aa s1 σ H1 Q I1 q1
 | false=>show hb aa s1 σ H1 Q I1 q1
end
def dw (K:KW)(H:Hp)(a:KQ)(xs:Fm V):Prop:=Rd H a (.lst xs) \/fE λ(o:Obj) (bq:KU Fp) (n:Nat)=>pD (K.lookup a=some o) (o.cls= .type "list") (o.dict=none) (o.data= .seq bq n) (bq.size<=sizeLine) (b0 xs bq.toList)
def gw (K:KW)(H:Hp)(a:KQ)(xs:Fm V):Prop:=Rd H a (.tup xs) \/fE λ(o:Obj) (bq:KU Fp) (n:Nat)=>pD (K.lookup a=some o) (o.cls= .type "tuple") (o.dict=none) (o.data= .seq bq n) (bq.size<=sizeLine) (b0 xs bq.toList)
def Lo:Fp ->KO V
 | .none=>some .di
 | .bool b=>some (.bl b)
 | .int i _=>some (.int i)
 | .str x _=>some (.str x)
 | .bytes b _=>some (.sF b)
 | .float b _=>some (.As b)
 | .ref a=>some (.ref a)
 | .type n=>some (.ty n)
 | _=>none
def RelV.abs {x:V}{u:Fp}(r:RelV x u):Lo u=some x:=by
 cases x with
 | di=>cases r;rfl
 | bl _=>cases r;rfl
 | int _=>let⟨t,rfl⟩:=r;rfl
 | str _=>let⟨t,rfl⟩:=r;rfl
 | sF _=>let⟨t,rfl⟩:=r;rfl
 | As _=>let⟨t,rfl⟩:=r;rfl
 | ref _=>cases r;rfl
 | ty _=>cases r;rfl
theorem RelV.inj {x y:V}{u:Fp}(r:RelV x u)(q:RelV y u):x=y:=aW (r.abs.symm.trans q.abs)
theorem b0.inj: ∀ {xs ys:Fm V} {us:Fm Fp},b0 xs us ->b0 ys us ->xs=ys
 | _,_,_, .nil, .nil=>rfl
 | _,_,_, .cons r t, .cons r' t'=>by rw[r.inj r',b0.inj t t']
section
variable {X:Cx}{aa:Fm (KQ×Obj)}{σ:St}{H:Hp}{s:JZ}{a:KQ}{xs ys:Fm V}
theorem dw.of {K:KW}(h:H a=some (.lst xs)):dw K H a xs:= .inl (.inl h)
theorem gw.of {K:KW}(h:H a=some (.tup xs)):gw K H a xs:= .inl (.inl h)
def Inv.list (I:Inv X aa σ H s)(h:dw X.K H a xs): ∃bq:Fm Fp,cJ (b0 xs bq) (PlainL s.heap a bq.toArray) (xs.length<=sizeLine):=by obtain h | ⟨o,bq,n,hk,hc,hd,hs,hz,r⟩:=h;let⟨z,bq,n,r,e⟩:=h.ok I.cI;show#[bq,r,#[_,n,e,rfl,rfl,rfl],z];exact#[bq.toList,r,#[o,n,I.kl a o hk,hc,hd, ⇑hs],?_];have e:=r.length;simp![bJ] at e;lia
def Inv.tuple (I:Inv X aa σ H s)(h:gw X.K H a xs): ∃bq:Fm Fp,cJ (b0 xs bq) (IsTup s.heap a bq.toArray) (xs.length<=sizeLine):=by obtain h | ⟨o,bq,n,hk,hc,_,hs,hz,r⟩:=h;let⟨z,bq,r,p⟩:=h.ok I.cI;show#[bq,r,p.t,z];exact#[bq.toList,r,#[o,I.kl a o hk,hc,n, ⇑hs],?_];have e:=r.length;simp![bJ] at e;lia
def Inv.list_inj (I:Inv X aa σ H s)(h:dw X.K H a xs)(h':dw X.K H a ys):xs=ys:=by let⟨bq,r,⟨o,n,e,_,_,d⟩,_⟩:=I.list h;let⟨its',r',⟨o',n',e',_,_,d'⟩,_⟩:=I.list h';rw[e] at e';cases e';rw[d] at d';injection d' with d1 _;have:bq=its':= ⇑(congrArg Array.toList d1);subst this;show r.inj r'
def Inv.lw (I:Inv X aa σ H s)(h:gw X.K H a xs)(h':gw X.K H a ys):xs=ys:=by let⟨bq,r,⟨o,e,_,n,d⟩,_⟩:=I.tuple h;let⟨its',r',⟨o',e',_,n',d'⟩,_⟩:=I.tuple h';rw[e] at e';cases e';rw[d] at d';injection d' with d1 _;have:bq=its':= ⇑(congrArg Array.toList d1);subst this;show r.inj r'
end
abbrev Cx.jF (X:Cx)(E:Fp ->JZ ->Prop):Cx:= {X with xe:=E}
abbrev Cx.yy (X:Cx):Cx:=X.jF λ_ _=>False
theorem Cx.Ok.jF {X:Cx}(ok:X.Ok)(E:Fp ->JZ ->Prop):(X.jF E).Ok:=#[ok.mod,ok.kind,ok.glob,ok.blt,ok.above,ok.inj,ok.has,ok.Dl,ok.hd,ok.frames,ok.Ba,ok.Le,ok.bs,ok.xI,ok.tD,ok.qz,ok.gN,ok.xF]
theorem Cx.Ok.fo {X:Cx}{E:Fp ->JZ ->Prop}(ok:(X.jF E).Ok):X.Ok:=#[ok.mod,ok.kind,ok.glob,ok.blt,ok.above,ok.inj,ok.has,ok.Dl,ok.hd,ok.frames,ok.Ba,ok.Le,ok.bs,ok.xI,ok.tD,ok.qz,ok.gN,ok.xF]
section
variable {X:Cx}{aa:Fm (KQ×Obj)}{σ:St}{H:Hp}{s:JZ}{E:Fp ->JZ ->Prop}
theorem Inv.jF (I:Inv X aa σ H s)(E:Fp ->JZ ->Prop):Inv (X.jF E) aa σ H s:=#[I.ok.jF E,I.os,I.bare,I.base,I.loc,I.cell,I.free,I.eN,I.pin,I.cI,I.len]
theorem Inv.fo (I:Inv (X.jF E) aa σ H s):Inv X aa σ H s:=#[I.ok.fo,I.os,I.bare,I.base,I.loc,I.cell,I.free,I.eN,I.pin,I.cI,I.len]
def SP.fo {D:gc}{f:Flow}{s':JZ}(h:SP (X.jF E) aa D f s'):SP X aa D f s':=by
 cases f with
 | next=>let⟨σ',H',I,q⟩:=h;show#[σ',H',I.fo,q]
 | brk=>let⟨σ',H',I,q⟩:=h;show#[σ',H',I.fo,q]
 | cont=>let⟨σ',H',I,q⟩:=h;show#[σ',H',I.fo,q]
 | ret u=>let⟨v,σ',H',I,r,q⟩:=h;show#[v,σ',H',I.fo,r,q]
theorem mE.yy {st:Fm Stmt}{t:TS}(h:mE X.yy st t):mE X st t:=λaa s σ H D I hw=>a6 (h aa s σ H D (I.jF _) hw) (λ_ _ q=>q.fo) λ_ _ z=>False.elim z
end
section
variable {X:Cx}{st:Stmt}{c7:Fm Stmt}{t u:TS}{e:Expr}{te:TE}{pos:Pos}
def zJ:TS:=λD σ H=>D.nx σ H
def A6 (t u:TS):TS:=λD σ H=>t {D with nx:=u D} σ H
theorem bw:mE X [] zJ:=λ_ _ σ H _ I h=>wpAny_execs_nil #[σ,H,I,h]
def ax (h1:PS X st t)(h2:mE X c7 u):mE X (st::c7) (A6 t u):=by
 intro aa s σ H D I h;exact wpAny_execs_cons (cR (h1 aa s σ H {D with nx:=u D} I h) λf s1 q=> ?_);cases f with
 | next=>let⟨σ',H',I',q⟩:=q;show h2 aa s1 σ' H' D I' q
 | ret v=>show q
 | brk=>show q
 | cont=>show q
def aJ (h1:PS X st t):mE X [st] t:=by
 intro aa s σ H D I h;exact wpAny_execs_cons (cR (h1 aa s σ H D I h) λf s1 q=> ?_);cases f with
 | next=>show wpAny_execs_nil q
 | ret v=>show q
 | brk=>show q
 | cont=>show q
def Inv.quiet {aa:Fm (KQ×Obj)}{σ:St}{H:Hp}{s:JZ}(I:Inv X aa σ H s):interactive X.env=false:=by simp[interactive,I.ok.kind]
def zK (te:TE):TS:=λD σ H=>te σ H λ_ H1=>D.nx σ H1
def mU (he:PE X e te)(hs:swapsWith e none pos.line X.env=pure false:=by rfl):PS X (.Expr e pos) (zK te):=by intro aa s σ H D I h;show wpAny_Expr_any (cR (he aa s σ H _ I h) λv s1 ⟨x,H1,I1,r1,q1⟩=>#[σ,H1,I1,q1]) I.quiet hs
def Ei (te:TE):TS:=λD σ H=>te σ H D.rt
def bx (he:PE X e te):PS X (.Return (some e) pos) (Ei te):=by intro aa s σ H D I h;show wpAny_Return_some (cR (he aa s σ H _ I h) λv s1 ⟨x,H1,I1,r1,q1⟩=>#[x,σ,H1,I1,r1,q1])
def Em (c:TT)(t u:TS):TS:=λD σ H=>c σ H λb H1=>if b=true then t D σ H1 else u D σ H1
def cP {c:Expr}{a b:Fm Stmt}{tc:TT}(hc:PT X c tc)(ha:mE X a t)(hb:mE X b u):PS X (.If c a b pos) (Em tc t u):=by
 intro aa s σ H D I h;exact wpAny_If (cR (hc aa s σ H _ I h) λd s1 ⟨H1,I1,q1⟩=> ?_);cases d with
 | true=>show ha aa s1 σ H1 D I1 q1
 | false=>show hb aa s1 σ H1 D I1 q1
end
abbrev TG:=V ->St ->Hp ->(St ->Hp ->Prop) ->Prop
abbrev uj:=Fm V ->St ->Hp ->(St ->Hp ->Prop) ->Prop
def PG (X:Cx)(eg:Expr)(t:TG):Prop:=∀ (aa:Fm (KQ×Obj)) (s:JZ) (σ:St) (H:Hp) (v:V) (u:Fp) (Q:St ->Hp ->Prop),Inv X aa σ H s ->RelV v u ->t v σ H Q ->wpAny (model X.prog X.w) X.A (assign eg X.env u) (λ_ s'=>bU λσ' H'=>Inv X aa σ' H' s' /\ Q σ' H') X.xe s
def Gj (X:Cx)(ts:Fm Expr)(t:uj):Prop:=∀ (aa:Fm (KQ×Obj)) (s:JZ) (σ:St) (H:Hp) (vs:Fm V) (us:Fm Fp) (Q:St ->Hp ->Prop),Inv X aa σ H s ->b0 vs us ->t vs σ H Q ->wpAny (model X.prog X.w) X.A (assignInOrder ((assignEach ts X.env).map (·.2)) us) (λ_ s'=>bU λσ' H'=>Inv X aa σ' H' s' /\ Q σ' H') X.xe s
abbrev xb:=V ->V ->V ->Hp ->(Hp ->Prop) ->Prop
def Gi (X:Cx)(t:xb):Prop:=∀ (aa:Fm (KQ×Obj)) (s:JZ) (σ:St) (H:Hp) (o i v:V) (ov iv u:Fp) (Q:Hp ->Prop),Inv X aa σ H s ->RelV o ov ->RelV i iv ->RelV v u ->t o i v H Q ->wpAny (model X.prog X.w) X.A (setItem ov iv u) (λ_ s'=> ∃H',Inv X aa σ H' s' /\ Q H') X.xe s
section
variable {X:Cx}{pos:Pos}
def im (i:Nat):TG:=λv σ H Q=>Q (σ.set i (some v)) H
def bL {i:Nat}{x:Str}(hN:X.N.Nodup)(hi:X.N[i]? =some x)(hx:Loc X.env.scope x)(hf:X.fn x=true \/ X.env.scope.names.lookup x=some .local:=by first | show .inl rfl | show .inr rfl | assumption):PG X (.Name x pos) (im i):=by intro aa s σ H v u Q I r h;show wpAny_assign_Name (gX I hN hi hx r (λs' I'=>#[_,H,I',h]) hf)
def Cv:uj:=λvs σ H Q=>vs= [] /\ Q σ H
def sq (t:TG)(u:uj):uj:=λvs σ H Q=>bU λv r=>vs=v::r /\ t v σ H λσ' H'=>u r σ' H' Q
def d7:Gj X [] Cv:=by intro aa s σ H vs us Q I r h;let⟨e,h⟩:=h;subst e;cases r;show assignInOrder_nil #[σ,H,I,h]
def cr {e:Expr}{es:Fm Expr}{t:TG}{u:uj}(h1:PG X e t)(h2:Gj X es u) (hs:(assignEach (e::es) X.env).map (·.2)=assign e X.env::(assignEach es X.env).map (·.2):=by rfl):Gj X (e::es) (sq t u):=by
 intro aa s σ H vs us Q I r h;let⟨v,vr,e1,h⟩:=h;subst e1;cases r with
 | cons r rr=>rw[hs];exact assignInOrder_cons (cR (h1 aa s σ H _ _ _ I r h) λ_ s1 ⟨σ1,H1,I1,q1⟩=> ?_);show h2 aa s1 σ1 H1 _ _ Q I1 rr q1
def Cu (K:KW)(n:Nat)(t:uj):TG:=λv σ H Q=>bU λa xs=>dN (v= .ref a) (gw K H a xs) (xs.length=n) (t xs σ H Q)
def fQ {es:Fm Expr}{k:Nat}{t:uj}{n:Nat}(hc:X.calm=true)(h:Gj X es t) (hn:(assignEach es X.env).length=n:=by rfl) (xD:(assignEach es X.env).findIdx? (·.1)=none:=by rfl):PG X (.Tuple es k pos) (Cu X.K n t):=by intro aa s σ H v u Q I r hw;let⟨a,xs,e1,hq,hl,hw⟩:=hw;subst e1;cases r;let⟨bq,rv,ht,hz⟩:=I.tuple hq;exact assign_Tuple_tuple (I.ok.hd hc) ht (by simp[hn, <- hl,rv.length]) xD λh' hx=> ?_;have I1:Inv X aa σ H {s with heap:=h'}:=I.kept (t':=s.toks) λb o e=>hx b o (aU (au e)) e;show h aa _ σ H xs _ Q I1 ⇑rv hw
def F0 (to ti:TE)(t:xb):TG:=λv σ H Q=>to σ H λo H1=>ti σ H1 λi H2=>t o i v H2 λH3=>Q σ H3
theorem fR {o i:Expr}{to ti:TE}{t:xb}(ho:PE X o to)(hi:PE X i ti)(hs:Gi X t) (ha: ∀v,assign (.Subscript o i pos) X.env v=(do
  let ov <- holding [v] (eval o X.env)
  let iv <- holding [v,ov] (eval i X.env)
  standAt pos
  holding [v,ov,iv] (setItem ov iv v)
  release [v,ov,iv] []):=by intro _;rfl):PG X (.Subscript o i pos) (F0 to ti t):=by
 intro aa s σ H v u Q I r h
 rw[ha]
 exact ak (b9 (cR (ho aa s σ H _ I h) λov s1 ⟨x,H1,I1,r1,q1⟩=> ?_))
 exact ak (b9 (cR (hi aa s1 σ H1 _ I1 q1) λiv s2 ⟨y,H2,I2,r2,q2⟩=> ?_))
 exact ak (wpAny_standAt (ak (b9 (cR (hs aa s2 σ H2 x y v ov iv u _ I2 r1 r2 r q2) λ_ s3 ⟨H3,I3,q3⟩=> ?_))))
 show wpAny_release #[σ,H3,I3,q3]
def u8 (te:TE)(g:TG):TS:=λD σ H=>te σ H λx H1=>g x σ H1 D.nx
def eX {tg e:Expr}{te:TE}{g:TG}(he:PE X e te)(hg:PG X tg g)(hs:swapsWithSole [tg] e pos.line X.env=pure false:=by rfl)(hw:swappedStores [tg] e X.env=pure none:=by rfl) (h1:(assignEach [tg] X.env).map (·.2)= [assign tg X.env]:=by rfl):PS X (.Assign [tg] e pos) (u8 te g):=by intro aa s σ H D I h;exact wpAny_Assign_stores (cR (he aa s σ H _ I h) λv s1 ⟨x,H1,I1,r1,q1⟩=> ?_) hs hw;rw[h1];show cR (hg aa s1 σ H1 x v _ I1 r1 q1) λ_ s2 q=>q
def Bq {i:Nat}{x:Str}{e:Expr}{te:TE}{eI:Pos}(hN:X.N.Nodup)(hi:X.N[i]? =some x)(hx:Loc X.env.scope x)(he:PE X e te)(hs:swapsWith e (some (.Name x eI)) pos.line X.env=pure false:=by rfl)(hf:X.fn x=true \/ X.env.scope.names.lookup x=some .local:=by first | show .inl rfl | show .inr rfl | assumption): PS X (.Assign [.Name x eI] e pos) (u8 te (im i)):=by intro aa s σ H D I h;exact wpAny_Assign_Name (cR (he aa s σ H _ I h) λv s1 ⟨y,H1,I1,r1,q1⟩=> ?_) hs;show gX I1 hN hi hx r1 (λs2 I2=>#[_,H1,I2,q1]) hf
end
structure It where
 go:Nat ->Hp ->Prop
 CW:Nat ->Hp ->V ->Hp ->Prop
 stop:Nat ->Hp ->Prop
def fk (X:Cx)(aa:Fm (KQ×Obj))(H:Hp)(b:KQ):Prop:=H b=none /\ b≠X.env.locals /\ b∉X.fs /\ (b∈X.ex \/ X.s₀.heap.objs.size<=b) /\ (∀x c,X.env.cells.lookup x=some c ->c≠b) /\ ∀p∈X.pn++aa,p.1≠b
def Inv.wz {X:Cx}{aa:Fm (KQ×Obj)}{σ:St}{H H':Hp}{s:JZ}{b:KQ}(I:Inv X aa σ H s)(hb:s.heap.objs.size<=b)(hn:H' b=none):fk X aa H' b:=by exact#[hn,Nat.ne_of_gt (aF I.lt hb),I.Jz hb, .inr (aD I.sz hb),λx c e z=> ?_,λp hp z=> ?_];let⟨v,q⟩:=I.cell x c e;show absurd (aF q.lt (by rw[z];show hb)) (bB _);show absurd (aF (au (I.pin p hp).1) (by rw[z];show hb)) (bB _)
structure pE (P:Program)(w:World)(K:PySem.W.Frag)(tg:Expr)(J:It)(fp:List Addr)(it:Addr)(tn:Nat ->Heap ->Prop):Prop where
 mem:it∈fp
 obj: ∀i h,tn i h -> ∀b∈fp, ∃o,h.get? b=some o /\ ∀v,o.data≠ .cell v
 keep: ∀i h h',tn i h ->(∀b∈fp, ∀o,h.get? b=some o ->h'.get? b=some o) ->tn i h'
 item: ∀ (X:Cx),X.prog=P ->X.w=w ->X.K=K ->X.calm=true -> ∀ (i:Nat) (aa:List (Addr×Obj)) (s:Shared) (σ:St) (H:Hp) (E:Value ->Shared ->Prop),Inv X aa σ H s ->(∀b∈fp,fk X aa H b) ->tn i s.heap ->J.go i H ->wpAny (model P w) X.A (pyNext (.ref it)) (λr s1=> ∃u,r=some u /\wpAny (model P w) X.A (letOwnedTupleGo tg (.ref it) u) (λ_ s2=>bU λx H'=>dW (Inv X aa σ H' s2) (RelV x u) (J.CW i H x H') (tn (i+1) s2.heap) (∀b∈fp,H' b=none)) E s1) E s
 done: ∀ (X:Cx),X.prog=P ->X.w=w ->X.K=K ->X.calm=true -> ∀ (i:Nat) (aa:List (Addr×Obj)) (s:Shared) (σ:St) (H:Hp) (E:Value ->Shared ->Prop),Inv X aa σ H s ->(∀b∈fp,fk X aa H b) ->tn i s.heap ->J.stop i H ->wpAny (model P w) X.A (pyNext (.ref it)) (λr s1=>r=none /\ Inv X aa σ H s1) E s
 self: ∀ (A:Around) (i:Nat) (s:Shared) (Q:Value ->Shared ->Prop) (E:Value ->Shared ->Prop),tn i s.heap ->Q (.ref it) s ->wpAny (model P w) A (pyIter (.ref it)) Q E s
abbrev TI:=St ->Hp ->(It ->Hp ->Prop) ->Prop
def NJ (X:Cx)(aa:Fm (KQ×Obj))(σ:St)(tg:Expr)(R:It ->Hp ->Prop)(Fj:Fp)(s2:JZ):Prop:=Dn λ(it:KQ) (fp:Fm KQ) (tn:Nat ->K0 ->Prop) (J:It) (H':Hp)=>pD (Fj= .ref it) (Inv X aa σ H' s2) (pE X.prog X.w X.K tg J fp it tn) (tn 0 s2.heap) (∀b∈fp,fk X aa H' b) (R J H')
def PI (X:Cx)(tg iter:Expr)(wi:TI):Prop:=∀ (aa:Fm (KQ×Obj)) (s:JZ) (σ:St) (H:Hp) (R:It ->Hp ->Prop),Inv X aa σ H s ->wi σ H R ->wpAny (model X.prog X.w) X.A (eval iter X.env) (λv s1=>wpAny (model X.prog X.w) X.A (pyIter v) (NJ X aa σ tg R) X.xe s1) X.xe s
def sk {M:Model}{A:K2}{E:Fp ->JZ ->Prop}{s:JZ}{tg:Expr}{it:KQ}{u:Fp}{o:Obj}{n:String}{vs:KU Fp}{Q:Unit ->JZ ->Prop}(ho:s.heap.get? it=some o)(hc:o.cls= .type n)(hd:o.data= .fields vs) (hn: ["enumerate","zip","dict_itemiterator","dict_reverseitemiterator","odict_iterator","itertools.zip_longest","itertools.pairwise"].contains n=false) (hQ:Q () s):wpAny M A (letOwnedTupleGo tg (.ref it) u) Q E s:=by
 unfold letOwnedTupleGo;cases tg <;>first
 | show aX hQ
 | (cases u<;>first
  | show aX hQ
  | (exact ak (wpAny_load ho ?_)
     rw[hc,hd]
     change wpAny M A (if(["enumerate","zip","dict_itemiterator","dict_reverseitemiterator","odict_iterator","itertools.zip_longest","itertools.pairwise"].contains n && vs[0]? ==some (rawInt _))=true then _ else _) Q E s
     rw[ar (by intro h;rw[hn,Bool.false_and] at h;cases h)]
     show aX hQ))
def Lv (K:KW)(a:KQ):It:=#[λi H=>bU λxs x=>dw K H a xs /\ xs[i]? =some x,λi H x H'=>H'=H /\ ∀xs,dw K H a xs ->xs[i]? =some x,λi H=> ∃xs,dw K H a xs /\ xs.length<=i]
def Lu (K:KW)(a:KQ):It:=#[λi H=>bU λxs x=>gw K H a xs /\ xs[i]? =some x,λi H x H'=>H'=H /\ ∀xs,gw K H a xs ->xs[i]? =some x,λi H=> ∃xs,gw K H a xs /\ xs.length<=i]
def HU (lo:Int)(n:Nat):It:=#[λi _=>i<n,λi H x H'=>H'=H /\ x= .int (lo+i),λi _=>n<=i]
def sO {P:KY}{w:KZ}{K:KW}{tg:Expr}(a it:KQ):pE P w K tg (Lv K a) [it] it (λi h=>h.IsListIter it a i) where
 mem:=by simp
 obj:=λi h st b hb=>by have e:b=it:= ⇑hb;subst e;let⟨o,e,c,d⟩:=st;show#[o,e,λv z=>by rw[d] at z;cases z]
 keep:=λi h h' st k=>st.at λo e=>k it (by simp) o e
 item:=by intro X hP hw hK hc i aa s σ H E I hf st hg;subst hP hw hK;let⟨xs,x,hq,hx⟩:=hg;let⟨bq,rv,p,hz⟩:=I.list hq;let⟨u,hu,ru⟩:=rv.get hx;let⟨f0,f1,f2,f3,f4,f5⟩:=hf it (by simp);exact wpAny_pyNext_list_item st p.isList (x:=u) ⇑hu λh' a_ sb=> ?_;have I1:Inv X aa σ H {s with heap:=h'}:=I.turned (t':=s.toks) (λb o hb e=>(sb.2 b hb).trans e) f0 f1 f3 f4 f5;let⟨o,e,c,d⟩:=id a_;show#[u,rfl,sk (s:= {s with heap:=h'}) e c d ⋯ #[x,H,I1,ru,#[rfl,λys hy=>by rw[I.list_inj hy hq];show hx],a_,λb hb=>(hf b hb).1]]
 done:=by intro X hP hw hK hc i aa s σ H E I hf st hg;subst hP hw hK;let⟨xs,hq,hx⟩:=hg;let⟨bq,rv,p,hz⟩:=I.list hq;let⟨f0,f1,f2,f3,f4,f5⟩:=hf it (by simp);have hl:=rv.length;show wpAny_pyNext_list_end (I.ok.hd hc) st p.isList (by simp;lia) λh' eb=>#[rfl,I.turned (t':=s.toks) (λb o hb e=>eb b o hb e) f0 f1 f3 f4 f5]
 self:=λ_ _ _ _ _ st h=>wpAny_pyIter_listiter st h
def pS {P:KY}{w:KZ}{K:KW}{tg:Expr}(a it:KQ):pE P w K tg (Lu K a) [it] it (λi h=>h.IsTupleIter it a i) where
 mem:=by simp
 obj:=λi h st b hb=>by have e:b=it:= ⇑hb;subst e;let⟨o,e,c,d⟩:=st;show#[o,e,λv z=>by rw[d] at z;cases z]
 keep:=λi h h' st k=>st.at λo e=>k it (by simp) o e
 item:=by intro X hP hw hK hc i aa s σ H E I hf st hg;subst hP hw hK;let⟨xs,x,hq,hx⟩:=hg;let⟨bq,rv,p,hz⟩:=I.tuple hq;let⟨u,hu,ru⟩:=rv.get hx;let⟨f0,f1,f2,f3,f4,f5⟩:=hf it (by simp);exact wpAny_pyNext_tuple_item st (show s.heap.IsTuple a bq.toArray from p) (x:=u) ⇑hu λh' a_ sb=> ?_;have I1:Inv X aa σ H {s with heap:=h'}:=I.turned (t':=s.toks) (λb o hb e=>(sb.2 b hb).trans e) f0 f1 f3 f4 f5;let⟨o,e,c,d⟩:=id a_;show#[u,rfl,sk (s:= {s with heap:=h'}) e c d ⋯ #[x,H,I1,ru,#[rfl,λys hy=>by rw[I.lw hy hq];show hx],a_,λb hb=>(hf b hb).1]]
 done:=by intro X hP hw hK hc i aa s σ H E I hf st hg;subst hP hw hK;let⟨xs,hq,hx⟩:=hg;let⟨bq,rv,p,hz⟩:=I.tuple hq;let⟨f0,f1,f2,f3,f4,f5⟩:=hf it (by simp);have hl:=rv.length;show wpAny_pyNext_tuple_end (I.ok.hd hc) st (show s.heap.IsTuple a bq.toArray from p) (by simp;lia) λh' eb=>#[rfl,I.turned (t':=s.toks) (λb o hb e=>eb b o hb e) f0 f1 f3 f4 f5]
 self:=λ_ _ _ _ _ st h=>wpAny_pyIter_tupleiter st h
def pT {P:KY}{w:KZ}{K:KW}{tg:Expr}(it:KQ)(lo:Int)(n:Nat):pE P w K tg (HU lo n) [it] it (λi h=>IsRangeIter h it (lo+(i:Nat)*1) ((n:Int) - (i:Nat)) 1) where
 mem:=by simp
 obj :=λi h st b hb=>by have e:b=it:= ⇑hb;subst e;show#[_,st,λv z=>by have z':Data.fields _=Data.cell v:=z;cases z']
 keep:=λi h h' st k=>k it (by simp) _ st
 item:=by intro X hP hw hK hc i aa s σ H E I hf st hg;subst hP hw hK;let⟨f0,f1,f2,f3,f4,f5⟩:=hf it (by simp);have W:=Walks.range (prog:=X.prog) (w:=X.w) (I.ok.hd hc) it lo 1 n;exact W.item i s _ _ hg st λv h' tk hv a_ kk=> ?_;let⟨t,rfl⟩:=hv;have I1:Inv X aa σ H {s with heap:=h',toks:=tk}:=I.turned (λb o hb e=>kk b o ⇑hb e) f0 f1 f3 f4 f5;exact#[_,rfl,sk (s:= {s with heap:=h',toks:=tk}) (n:= "range_iterator") a_ rfl rfl ⋯ #[.int (lo+i),H,I1,#[t,?_],#[rfl,rfl],a_,λb hb=>(hf b hb).1]];rw[Int.mul_one]
 done:=by intro X hP hw hK hc i aa s σ H E I hf st hg;subst hP hw hK;let⟨f0,f1,f2,f3,f4,f5⟩:=hf it (by simp);show wpAny_pyNext_range_end (I.ok.hd hc) st (by have:n<=i:=hg;lia) λh' eb=>#[rfl,I.turned (t':=s.toks) (λb o hb e=>eb b o hb e) f0 f1 f3 f4 f5]
 self:=λ_ _ _ _ _ st h=>wpAny_pyIter_rangeiter st h
section
variable {X:Cx}{tg:Expr}
def Ag (K:KW)(tl:TE):TI:=λσ H R=>tl σ H λx H1=> ∃a,cJ (x= .ref a) (∃xs,dw K H1 a xs) (R (Lv K a) H1)
def Fs (K:KW)(tl:TE):TI:=λσ H R=>tl σ H λx H1=> ∃a,cJ (x= .ref a) (∃xs,gw K H1 a xs) (R (Lu K a) H1)
def ft {l:Expr}{tl:TE}(hl:PE X l tl):PI X tg l (Ag X.K tl):=by intro aa s σ H R I h;exact cR (hl aa s σ H _ I h) λv s1 ⟨x,H1,I1,r1,q1⟩=> ?_;let⟨a,e,⟨xs,hq⟩,q⟩:=q1;subst e;cases r1;let⟨bq,rv,p,hz⟩:=I1.list hq;exact wpAny_pyIter_list p.isList ?_;exact#[s1.heap.objs.size,[s1.heap.objs.size],_,_,H1,rfl,I1.kept (t':=s1.toks) λb o e=>aw _ e,sO a _,#[_,aT _ rfl,rfl,rfl],λb hb=> ?_,q];have e:b=s1.heap.objs.size:= ⇑hb;subst e;show I1.wz (ag _) (I1.cI.fresh (ag _))
def vt {l:Expr}{tl:TE}(hl:PE X l tl):PI X tg l (Fs X.K tl):=by intro aa s σ H R I h;exact cR (hl aa s σ H _ I h) λv s1 ⟨x,H1,I1,r1,q1⟩=> ?_;let⟨a,e,⟨xs,hq⟩,q⟩:=q1;subst e;cases r1;let⟨bq,rv,p,hz⟩:=I1.tuple hq;exact wpAny_pyIter_tuple (show s1.heap.IsTuple a bq.toArray from p) ?_;exact#[s1.heap.objs.size,[s1.heap.objs.size],_,_,H1,rfl,I1.kept (t':=s1.toks) λb o e=>aw _ e,pS a _,#[_,aT _ rfl,rfl,rfl],λb hb=> ?_,q];have e:b=s1.heap.objs.size:= ⇑hb;subst e;show I1.wz (ag _) (I1.cI.fresh (ag _))
def vm {aa:Fm (KQ×Obj)}{σ:St}{H:Hp}{s:JZ}{R:It ->Hp ->Prop}{E:Fp ->JZ ->Prop}{lo hi:Int}{t u v:Tok}{tk:Nat}(I:Inv X aa σ H s)(h1: -(2 ^ 62) <=lo)(h2:lo<2 ^ 62)(h3: -(2 ^ 62) <=hi)(h4:hi<2 ^ 62) (q:R (HU lo (hi - lo).toNat) H):wpAny (model X.prog X.w) X.A (pyIter (.ref s.heap.objs.size)) (NJ X aa σ tg R) E {s with heap:=s.heap.push {cls:= .type "range",data:= .fields (List.toArray [.int lo t, .int hi u, .int 1 v])},toks:=tk}:=by
 exact wpAny_pyIter_range (IsRange.new ..) (small_one h1 h2 h3 h4) ?_;have I1:Inv X aa σ H {s with heap:=s.heap.push {cls:= .type "range",data:= .fields (List.toArray [.int lo t, .int hi u, .int 1 v])},toks:=tk}:=I.kept λb o e=>aw _ e;exact#[(s.heap.push {cls:= .type "range",data:= .fields (List.toArray [.int lo t, .int hi u, .int 1 v])}).objs.size,[(s.heap.push {cls:= .type "range",data:= .fields (List.toArray [.int lo t, .int hi u, .int 1 v])}).objs.size],_,_,H,rfl,I1.kept (t':=tk) λb o e=>aw _ e,pT _ lo (hi - lo).toNat,?_,λb hb=> ?_,q];have e1:lo+((0:Nat):Int)*1=lo:=by simp
 have e2:(((hi - lo).toNat:Nat):Int) - ((0:Nat):Int)=Builtin.Range.rangeSize lo hi 1:=by rw[rangeSize_one];split<;>lia
 change IsRangeIter _ _ (lo+((0:Nat):Int)*1) ((((hi - lo).toNat:Nat):Int) - ((0:Nat):Int)) 1;rw[e1,e2];show aT _ rfl;have e:b=(s.heap.push {cls:= .type "range",data:= .fields (List.toArray [.int lo t, .int hi u, .int 1 v])}).objs.size:=by simpa using hb
 subst e;show I1.wz (ag _) (I1.cI.fresh (ag _))
def Af (ta:TA):TI:=λσ H R=>ta σ H λvs H1=> ∃j:Int,dN (vs= [.int j]) (-(2 ^ 62) <=j) (j<2 ^ 62) (R (HU 0 j.toNat) H1)
def iO {a:Expr}{ta:TA}{p pos:Pos}(hg:Gl X "range")(hm:X.mg "range" =none)(ha:PA X [a] ta)(hs:starEach [a] X.env= [(false,eval a X.env)]:=by rfl):PI X tg (.Call (.Name "range" p) [a] [] pos) (Af ta):=by
 intro aa s σ H R I h;exact Call_ (kh I hg hm boot_range (PyProof.Rows.callWith_type1 (cR (ha pos aa s σ H _ I h) λus s1 ⟨vs,H1,I1,r1,q1⟩=> ?_) hs rfl));let⟨j,e,q1,q2,q⟩:=q1;subst e;cases r1 with
 | cons r rr=>cases rr;let⟨t,rfl⟩:=r;show call_range_1 (vm I1 ∅ ∅ q1 q2 ⇑q)
def En (wi:TI)(g:TG)(tb:TS):TS:=λD σ H=>wi σ H λJ H1=> ∃W:Nat ->Nat ->St ->Hp ->Prop,(∃m,W 0 m σ H1) /\ ∀i m σ H,W i m σ H ->(J.stop i H /\ D.nx σ H) \/ (J.go i H /\ ∃N:St ->Hp ->Prop,(∀σ' H',N σ' H' -> ∃m',m'<m /\ W (i+1) m' σ' H') /\ ∀x H',J.CW i H x H' ->g x σ H' λσ2 H2=>tb {D with nx:=N,ct:=N,bk:=D.nx} σ2 H2)
def iN (fp:Fm KQ)(h:K0):Fm (KQ×Obj):=fp.filterMap λb=>(h.get? b).map λo=>(b,o)
theorem dL {fp:Fm KQ}{h:K0}{b:KQ}{o:Obj}(hb:b∈fp)(e:h.get? b=some o):(b,o)∈iN fp h:=List.mem_filterMap.mpr #[b,hb,by rw[e];rfl]
def tt {fp:Fm KQ}{h:K0}{p:KQ×Obj}(hp:p∈iN fp h):p.1∈fp /\ h.get? p.1=some p.2:=by
 let⟨b,hb,e⟩:=List.mem_filterMap.mp hp;cases q:h.get? b with
 | none=>rw[q] at e;cases e
 | some o=>rw[q] at e;have e':(b,o)=p:=aW e;subst e';show#[hb,q]
theorem Inv.pinned {aa:Fm (KQ×Obj)}{σ:St}{H:Hp}{s:JZ}{fp:Fm KQ}(I:Inv X aa σ H s)(hf: ∀b∈fp,fk X aa H b)(ho: ∀b∈fp, ∃o,s.heap.get? b=some o /\ ∀v,o.data≠ .cell v):Inv X (aa++iN fp s.heap) σ H s:=I.rC λp hp=>(aR.mp hp).elim (λz=>I.pin p (aH _ z)) λz=>by let⟨hb,e⟩:=tt z;let⟨f0,f1,f2,_⟩:=hf p.1 hb;let⟨o,e',d⟩:=ho p.1 hb;rw[e] at e';cases e';show#[e,f0,f1,f2,d]
theorem Inv.fN {aa pl:Fm (KQ×Obj)}{σ:St}{H:Hp}{s:JZ}(I:Inv X (aa++pl) σ H s):Inv X aa σ H s:=I.rC λp hp=>I.pin p (aH _ (List.mem_append_left _ hp))
def jW {iter:Expr}{body:Fm Stmt}{wi:TI}{g:TG}{tb:TS}{pos:Pos}(hp:PassesOwn (model X.prog X.w) X.A X.env X.xe)(hc:X.calm=true)(hi:PI X tg iter wi)(hg:PG X tg g)(hb:mE X body tb) (hs: ∀x,foldedSetIterable iter X.env x=pure x:=by intro _;rfl):PS X (.For tg iter body [] pos) (En wi g tb):=by
 intro aa s σ H D I h;exact wpAny_For (cR (hi aa s σ H _ I h) λv s1 h1=>cR h1 λFj s2 h2=> ?_) hs;let⟨it,fp,tn,J,H2,e,I2,T,gC,f2,W,⟨m0,w0⟩,turn⟩:=h2;subst e;have jM: ∀ {H':Hp},(∀b∈fp,H' b=none) -> ∀b∈fp,fk X aa H' b:=λhn b hb=>#[hn b hb,(f2 b hb).2]
 exact codeAny_forLoop_any (λn s'=>fE λi σ' H'=>dN (Inv X aa σ' H' s') (tn i s'.heap) (∀b∈fp,H' b=none) (W i n σ' H')) ?_ m0 #[0,σ,H2,I2,gC,λb hb=>(f2 b hb).1,w0];rintro n s3 ⟨i,σ3,H3,I3,kT,Nu,w3⟩;rcases turn i n σ3 H3 w3 with⟨stop,qn⟩ | ⟨go,N,hN,step⟩
 .exact wpAny_passesOwn hp (cR (T.done X rfl rfl rfl hc i aa s3 σ3 H3 X.xe I3 (jM Nu) kT stop) λr s4 ⟨hr,I4⟩=> ?_);subst hr;show wpAny_execs_nil #[σ3,H3,I4,qn]
 .exact wpAny_passesOwn hp (cR (T.item X rfl rfl rfl hc i aa s3 σ3 H3 X.xe I3 (jM Nu) kT go) λr s4 ⟨u,hr,h4⟩=> ?_);subst hr;exact wpAny_passesOwn hp (cR h4 λ_ s5 ⟨x,H5,I5,r5,y5,C4,QY⟩=> ?_);have Rf:=I5.pinned (jM QY) (T.obj _ _ C4);exact wpAny_passesOwn hp (cR (hg _ s5 σ3 H5 x u _ Rf r5 (step x H5 y5)) λ_ s6 ⟨σ6,H6,I6,q6⟩=> ?_);exact wpAny_passesOwn hp (cR (hb _ s6 σ6 H6 _ I6 q6) λf s7 q7=> ?_);have again: ∀ {σ7:St} {H7:Hp},Inv X (aa++iN fp s5.heap) σ7 H7 s7 ->N σ7 H7 -> ∃m,m<n /\ fE λi σ' H'=>dN (Inv X aa σ' H' s7) (tn i s7.heap) (∀b∈fp,H' b=none) (W i m σ' H'):=λ{σ7 H7} I7 n7=>by let⟨m',hm,w7⟩:=hN σ7 H7 n7;exact#[m',hm,i+1,σ7,H7,I7.fN,T.keep _ _ _ C4 λb hb o e=>(I7.pin (b,o) (aH _ (aH _ (dL hb e)))).1,λb hb=> ?_,w7];let⟨o,e,d⟩:=T.obj _ _ C4 b hb;show(I7.pin (b,o) (aH _ (aH _ (dL hb e)))).2.1
  cases f with
  | next=>let⟨σ7,H7,I7,n7⟩:=q7;show again I7 n7
  | cont=>let⟨σ7,H7,I7,n7⟩:=q7;show again I7 n7
  | brk=>let⟨σ7,H7,I7,q7⟩:=q7;show#[σ7,H7,I7.fN,q7]
  | ret v=>let⟨x7,σ7,H7,I7,r7,q7⟩:=q7;show#[x7,σ7,H7,I7.fN,r7,q7]
end
abbrev R2:=V ->V ->Hp ->VK ->Prop
def iB (X:Cx)(f:Fp ->Fp ->Sem Fp)(r:R2):Prop:=∀ (aa:Fm (KQ×Obj)) (s:JZ) (σ:St) (H:Hp) (x y:V) (v u:Fp) (Q:VK),Inv X aa σ H s ->RelV x v ->RelV y u ->r x y H Q ->wpAny (model X.prog X.w) X.A (f v u) (EP X aa σ Q) X.xe s
def Lp (X:Cx)(f:Fp ->Sem Fp)(r:V ->Hp ->VK ->Prop):Prop:=∀ (aa:Fm (KQ×Obj)) (s:JZ) (σ:St) (H:Hp) (x:V) (v:Fp) (Q:VK),Inv X aa σ H s ->RelV x v ->r x H Q ->wpAny (model X.prog X.w) X.A (f v) (EP X aa σ Q) X.xe s
def dn (X:Cx)(f:Fp)(r:Fm V ->Hp ->VK ->Prop):Prop:=∀ (aa:Fm (KQ×Obj)) (s:JZ) (σ:St) (H:Hp) (xs:Fm V) (us:Fm Fp) (Q:VK),Inv X aa σ H s ->b0 xs us ->r xs H Q ->wpAny (model X.prog X.w) X.A (call f us) (EP X aa σ Q) X.xe s
def Lq (X:Cx)(r:V ->Hp ->(Bool ->Hp ->Prop) ->Prop):Prop:=∀ (aa:Fm (KQ×Obj)) (s:JZ) (σ:St) (H:Hp) (x:V) (v:Fp) (Q:Bool ->Hp ->Prop),Inv X aa σ H s ->RelV x v ->r x H Q ->wpAny (model X.prog X.w) X.A (truthy v) (TP X aa σ Q) X.xe s
def Ej (r:R2)(ta tb:TE):TE:=λσ H Q=>ta σ H λx H1=>tb σ H1 λy H2=>r x y H2 Q
def L9 (r:V ->Hp ->VK ->Prop)(ta:TE):TE:=λσ H Q=>ta σ H λx H1=>r x H1 Q
def rI (C:Int ->Int ->Prop)(g:Int ->Int ->V):R2:=λx y H Q=>bU λi j=>dN (x= .int i) (y= .int j) (C i j) (Q (g i j) H)
def yg (g:Int ->Int ->V):R2:=λx y H Q=>bU λi j=>cJ (x= .int i) (y= .int j) (Q (g i j) H)
def rU (g:Int ->V):V ->Hp ->VK ->Prop:=λx H Q=> ∃i,x= .int i /\ Q (g i) H
section
variable {X:Cx}{a b c:Expr}{ta tb tc:TE}{pos:Pos}
def CI (ha:PE X a ta)(hb:PE X b tb){aa:Fm (KQ×Obj)}{s:JZ}{σ:St}{H:Hp}{R:V ->V ->Hp ->Prop}(I:Inv X aa σ H s) (h:ta σ H λx H1=>tb σ H1 λy H2=>R x y H2) {Q:Fp ->JZ ->Prop} {f:Fp ->Fp ->Sem Fp} (hf: ∀v u s2 x y H2,Inv X aa σ H2 s2 ->RelV x v ->RelV y u ->R x y H2 ->wpAny (model X.prog X.w) X.A (f v u) Q X.xe s2): wpAny (model X.prog X.w) X.A (eval a X.env) (λv s₁=>wpAny (model X.prog X.w) X.A (eval b X.env) (λu s₂=>wpAny (model X.prog X.w) X.A (f v u) Q X.xe s₂) X.xe s₁) X.xe s:=by exact cR (ha aa s σ H _ I h) λv s1 ⟨x,H1,I1,r1,q1⟩=> ?_;exact cR (hb aa s1 σ H1 _ I1 q1) λu s2 ⟨y,H2,I2,r2,q2⟩=> ?_;show hf v u s2 x y H2 I2 r1 r2 q2
def a5 {op:Operator}{r:R2}(ho:iB X (binaryOp op) r)(ha:PE X a ta)(hb:PE X b tb):PE X (.BinOp a op b pos) (Ej r ta tb):=by intro aa s σ H Q I h;show wpAny_BinOp (CI ha hb I h λv u s2 x y H2 I2 rx ry q=>ho aa s2 σ H2 x y v u Q I2 rx ry q)
def zZ {op:UnaryOp}{r:V ->Hp ->VK ->Prop}(ho:Lp X (unaryOp op) r)(ha:PE X a ta):PE X (.UnaryOp op a pos) (L9 r ta):=by intro aa s σ H Q I h;show UnaryOp_ (cR (ha aa s σ H _ I h) λv s1 ⟨x,H1,I1,r1,q1⟩=>ho aa s1 σ H1 x v Q I1 r1 q1)
def Hf {f:Fp ->Fp ->Sem Fp}{C:Int ->Int ->Prop}{g:Int ->Int ->Int} (rule: ∀ (i j:Int) (t u:Tok) (s:JZ) (Q:Fp ->JZ ->Prop) (E:Fp ->JZ ->Prop),C i j ->Q (.int (g i j) s.toks) {s with toks:=s.toks+1} ->wpAny (model X.prog X.w) X.A (f (.int i t) (.int j u)) Q E s): iB X f (rI C λi j=> .int (g i j)):=by intro aa s σ H x y v u Q I rx ry h;let⟨i,j,rfl,rfl,hc,q⟩:=h;let⟨t,rfl⟩:=rx;let⟨t',rfl⟩:=ry;show rule i j t t' s _ _ hc #[.int (g i j),H,I.tok _,#[_,rfl],q]
def E3 {f:Fp ->Fp ->Sem Fp}{g:Int ->Int ->Int} (rule: ∀ (i j:Int) (t u:Tok) (s:JZ) (Q:Fp ->JZ ->Prop) (E:Fp ->JZ ->Prop),Q (.int (g i j) s.toks) {s with toks:=s.toks+1} ->wpAny (model X.prog X.w) X.A (f (.int i t) (.int j u)) Q E s): iB X f (yg λi j=> .int (g i j)):=by intro aa s σ H x y v u Q I rx ry h;let⟨i,j,rfl,rfl,q⟩:=h;let⟨t,rfl⟩:=rx;let⟨t',rfl⟩:=ry;show rule i j t t' s _ _ #[.int (g i j),H,I.tok _,#[_,rfl],q]
def yr {f:Fp ->Fp ->Sem Fp}{g:Int ->Int ->Bool} (rule: ∀ (i j:Int) (t u:Tok) (s:JZ) (Q:Fp ->JZ ->Prop) (E:Fp ->JZ ->Prop),Q (.bool (g i j)) s ->wpAny (model X.prog X.w) X.A (f (.int i t) (.int j u)) Q E s): iB X f (yg λi j=> .bl (g i j)):=by intro aa s σ H x y v u Q I rx ry h;let⟨i,j,rfl,rfl,q⟩:=h;let⟨t,rfl⟩:=rx;let⟨t',rfl⟩:=ry;show rule i j t t' s _ _ #[.bl (g i j),H,I,rfl,q]
def xr (i j:Int):Prop:=0<j /\ j<1073741824
def nP (i j:Int):Prop:=0<=j /\ j<=1000000 /\ i.natAbs<2 ^ 64
def d8 (i j:Int):Prop:=(-(2 ^ 64) <i /\ i<2 ^ 64) \/ (-(2 ^ 64) <j /\ j<2 ^ 64)
def d8.ok {i j:Int}(h:d8 i j):IntMulOk i j:=by
 rcases h with⟨h1,h2⟩ | ⟨h1,h2⟩
 show .of_left (intBits_le_64 h1 h2);show .of_right (intBits_le_64 h1 h2)
theorem cz:iB X (binaryOp .Add) (yg λi j=> .int (i+j)):=E3 λ_ _ _ _ _ _ _ q=>add_int q
theorem gI:iB X (binaryOp .Sub) (yg λi j=> .int (i - j)):=E3 λ_ _ _ _ _ _ _ q=>sub_int q
theorem dX:iB X (binaryOp .Mult) (rI d8 λi j=> .int (i*j)):=Hf λ_ _ _ _ _ _ _ hc q=>mul_int q hc.ok
theorem rG:iB X (binaryOp .FloorDiv) (rI xr λi j=> .int (i / j)):=Hf λi j _ _ _ _ _ hc q=>by have h1:(0:Int) <j:=hc.1;have h2:j<1073741824:=hc.2;show floordiv_int ∅ (by rw[Int.fdiv_eq_ediv_of_nonneg i ∅];show q) (.inl (PyProof.noPylong_small ∅))
theorem iQ:iB X (binaryOp .Mod) (rI (λ_ j=>0<j) λi j=> .int (i % j)):=Hf λi j _ _ _ _ _ hc q=>by have h1:(0:Int) <j:=hc;show mod_int' ∅ (by rw[Int.fmod_eq_emod_of_nonneg i ∅];show q)
theorem gJ:iB X (binaryOp .Pow) (rI nP λi j=> .int (i ^ j.toNat)):=Hf λ_ _ _ _ _ _ _ hc q=>pow_int_small hc.1 hc.2.1 hc.2.2 q
def N1 {f:Fp ->Sem Fp}{g:Int ->Int} (rule: ∀ (i:Int) (t:Tok) (s:JZ) (Q:Fp ->JZ ->Prop) (E:Fp ->JZ ->Prop),Q (.int (g i) s.toks) {s with toks:=s.toks+1} ->wpAny (model X.prog X.w) X.A (f (.int i t)) Q E s): Lp X f (rU λi=> .int (g i)):=by intro aa s σ H x v Q I rx h;let⟨i,rfl,q⟩:=h;let⟨t,rfl⟩:=rx;show rule i t s _ _ #[.int (g i),H,I.tok _,#[_,rfl],q]
theorem uN:Lp X (unaryOp .USub) (rU λi=> .int (-i)):=N1 λ_ _ _ _ _ q=>neg_int q
end
def ya:V ->V ->Bool
 | .di, .di=>true | .di, .int _=>true | .int _, .di=>true | .di, .bl _=>true | .bl _, .di=>true | .di, .str _=>true | .str _, .di=>true
 | .int _, .int _=>true | .bl _, .bl _=>true | .str _, .str _=>true | .sF _, .sF _=>true
 | .int _, .str _=>true | .str _, .int _=>true | .bl _, .str _=>true | .str _, .bl _=>true
 | _,_=>false
def Mk:R2:=λx y H Q=>ya x y=true /\ Q (.bl (decide (x=y))) H
def Mi:R2:=λx y H Q=>ya x y=true /\ Q (.bl (!decide (x=y))) H
def sx {i j:Int}:decide (V.int i=V.int j)=(i==j):=by rw[Bool.eq_iff_iff];simp
def wM {i j:Bool}:decide (V.bl i=V.bl j)=(i==j):=by rw[Bool.eq_iff_iff];simp
def sw {i j:Str}:decide (V.str i=V.str j)=(i==j):=by rw[Bool.eq_iff_iff];simp
def sy {i j:KU UInt8}:decide (V.sF i=V.sF j)=(i.toList==j.toList):=by rw[Bool.eq_iff_iff];cases i;cases j;simp
section
variable {X:Cx}{a b c:Expr}{ta tb tc:TE}{pos:Pos}
def cf {aa:Fm (KQ×Obj)}{σ:St}{H:Hp}{s:JZ}{Q:VK}{k k':Bool}(I:Inv X aa σ H s)(q:Q (.bl k) H)(e:k=k'):EP X aa σ Q (.bool k') s:=by subst e;show#[.bl k,H,I,rfl,q]
def eA:iB X (compareOp .Eq) Mk:=by
 intro aa s σ H x y v u Q I rx ry h;let⟨hs,q⟩:=h;cases x with
 | di=>
  cases rx;cases y with
  | di=>cases ry;show PySem.EqNone.eq_none_none (cf I q (by simp))
  | bl j=>cases ry;show PySem.EqNone.eq_none_bool (cf I q (by simp))
  | int j=>let⟨t',rfl⟩:=ry;show PySem.EqNone.eq_none_int (cf I q (by simp))
  | str j=>let⟨t',rfl⟩:=ry;show PySem.EqNone.eq_none_str (cf I q (by simp))
  | _=>show absurd (show false=true from hs) aO
 | bl i=>
  cases rx;cases y with
  | di=>cases ry;show PySem.EqNone.eq_bool_none (cf I q (by simp))
  | bl j=>cases ry;show eq_bool (cf I q wM)
  | str j=>let⟨t',rfl⟩:=ry;show PySem.EqMixed.eq_bool_str (cf I q (by simp))
  | _=>show absurd (show false=true from hs) aO
 | int i=>
  let⟨t,rfl⟩:=rx;cases y with
  | di=>cases ry;show PySem.EqNone.eq_int_none (cf I q (by simp))
  | int j=>let⟨t',rfl⟩:=ry;show eq_int (cf I q sx)
  | str j=>let⟨t',rfl⟩:=ry;show PySem.EqMixed.eq_int_str (cf I q (by simp))
  | _=>show absurd (show false=true from hs) aO
 | str i=>
  let⟨t,rfl⟩:=rx;cases y with
  | di=>cases ry;show PySem.EqNone.eq_str_none (cf I q (by simp))
  | bl j=>cases ry;show PySem.EqMixed.eq_str_bool (cf I q (by simp))
  | int j=>let⟨t',rfl⟩:=ry;show PySem.EqMixed.eq_str_int (cf I q (by simp))
  | str j=>let⟨t',rfl⟩:=ry;show eq_str (cf I q sw)
  | _=>show absurd (show false=true from hs) aO
 | sF i=>
  let⟨t,rfl⟩:=rx;cases y with
  | sF j=>let⟨t',rfl⟩:=ry;show W.eq_bytes (cf I q sy)
  | _=>show absurd (show false=true from hs) aO
 | _=>cases y<;>show absurd (show false=true from hs) aO
def lG:iB X (compareOp .NotEq) Mi:=by
 intro aa s σ H x y v u Q I rx ry h;let⟨hs,q⟩:=h;cases x with
 | di=>
  cases rx;cases y with
  | di=>cases ry;show PySem.EqNone.ne_none_none (cf I q (by simp))
  | bl j=>cases ry;show PySem.EqNone.ne_none_bool (cf I q (by simp))
  | int j=>let⟨t',rfl⟩:=ry;show PySem.EqNone.ne_none_int (cf I q (by simp))
  | str j=>let⟨t',rfl⟩:=ry;show PySem.EqNone.ne_none_str (cf I q (by simp))
  | _=>show absurd (show false=true from hs) aO
 | bl i=>
  cases rx;cases y with
  | di=>cases ry;show PySem.EqNone.ne_bool_none (cf I q (by simp))
  | bl j=>cases ry;show ne_bool (cf I q (congrArg not wM))
  | str j=>let⟨t',rfl⟩:=ry;show PySem.EqMixed.ne_bool_str (cf I q (by simp))
  | _=>show absurd (show false=true from hs) aO
 | int i=>
  let⟨t,rfl⟩:=rx;cases y with
  | di=>cases ry;show PySem.EqNone.ne_int_none (cf I q (by simp))
  | int j=>let⟨t',rfl⟩:=ry;show ne_int (cf I q (congrArg not sx))
  | str j=>let⟨t',rfl⟩:=ry;show PySem.EqMixed.ne_int_str (cf I q (by simp))
  | _=>show absurd (show false=true from hs) aO
 | str i=>
  let⟨t,rfl⟩:=rx;cases y with
  | di=>cases ry;show PySem.EqNone.ne_str_none (cf I q (by simp))
  | bl j=>cases ry;show PySem.EqMixed.ne_str_bool (cf I q (by simp))
  | int j=>let⟨t',rfl⟩:=ry;show PySem.EqMixed.ne_str_int (cf I q (by simp))
  | str j=>let⟨t',rfl⟩:=ry;show ne_str (cf I q (congrArg not sw))
  | _=>show absurd (show false=true from hs) aO
 | sF i=>
  let⟨t,rfl⟩:=rx;cases y with
  | sF j=>let⟨t',rfl⟩:=ry;show W.ne_bytes (cf I q (congrArg not sy))
  | _=>show absurd (show false=true from hs) aO
 | _=>cases y<;>show absurd (show false=true from hs) aO
theorem jZ:iB X (compareOp .Lt) (yg λi j=> .bl (decide (i<j))):=yr λ_ _ _ _ _ _ _ q=>lt_int q
theorem E2:iB X (compareOp .LtE) (yg λi j=> .bl (decide (i<=j))):=yr λ_ _ _ _ _ _ _ q=>le_int q
theorem lH:iB X (compareOp .Gt) (yg λi j=> .bl (decide (j<i))):=yr λ_ _ _ _ _ _ _ q=>gt_int q
theorem rF:iB X (compareOp .GtE) (yg λi j=> .bl (decide (j<=i))):=yr λ_ _ _ _ _ _ _ q=>ge_int q
def tf:iB X (compareOp .In) (λx y H Q=>bU λi j=>cJ (x= .str i) (y= .str j) (Q (.bl (!(Builtin.Str.occurrences j i 0 j.length 1).isEmpty)) H)):=by intro aa s σ H x y v u Q I rx ry h;let⟨i,j,rfl,rfl,q⟩:=h;let⟨t,rfl⟩:=rx;let⟨t',rfl⟩:=ry;show in_str (cf I q rfl)
def bA (b:Expr){op:CmpOp}(h:op≠ .In:=by decide)(h2:op≠ .NotIn:=by decide):behindInMarks op b=false:=by
 have e1:(op==CmpOp.In)=false:=by cases op<;>first | rfl | show absurd rfl h
 have e2:(op==CmpOp.NotIn)=false:=by cases op<;>first | rfl | show absurd rfl h2
 cases b<;>simp[behindInMarks,e1,e2]
def fu {op:CmpOp}{r:R2}(ho:iB X (compareOp op) r)(ha:PE X a ta)(hb:PE X b tb)(hm:behindInMarks op b=false):PE X (.Compare a [op] [b] pos) (Ej r ta tb):=by intro aa s σ H Q I h;show wpAny_Compare1 (CI ha hb I h λv u s2 x y H2 I2 rx ry q=>ho aa s2 σ H2 x y v u Q I2 rx ry q) hm
def uW (t:TE):TT:=λσ H Q=>t σ H λx H'=> ∃k,x= .bl k /\ Q k H'
def br {op:CmpOp}{r:R2}(ho:iB X (compareOp op) r)(ha:PE X a ta)(hb:PE X b tb)(hm:behindInMarks op b=false):PT X (.Compare a [op] [b] pos) (uW (Ej r ta tb)):=by intro aa s σ H Q I h;exact wpAny_isTrue_Compare1 (cR (ha aa s σ H _ I h) λv s1 ⟨x,H1,I1,r1,q1⟩=>cR (hb aa s1 σ H1 _ I1 q1) λu s2 ⟨y,H2,I2,r2,q2⟩=>cR (ho aa s2 σ H2 x y v u _ I2 r1 r2 q2) λc s3 ⟨z,H3,I3,r3,k,e,q3⟩=> ?_) hm;subst e;cases r3;show cq #[H3,I3,q3]
def u7 (r r':R2)(ta tb tc:TE):TE:=λσ H Q=>ta σ H λx H1=>tb σ H1 λy H2=>r x y H2 λz H3=> ∃k,z= .bl k /\(if k=true then tc σ H3 λw' H4=>r' y w' H4 Q else Q (.bl false) H3)
def oo {op Jt:CmpOp}{r r':R2}(ho:iB X (compareOp op) r)(yV:iB X (compareOp Jt) r')(ha:PE X a ta)(hb:PE X b tb)(hc:PE X c tc) (hm:lastMarks [op,Jt] [b,c]=false:=by with_unfolding_all rfl):PT X (.Compare a [op,Jt] [b,c] pos) (uW (u7 r r' ta tb tc)):=by
 intro aa s σ H Q I h;exact isTrue_chain (cR (ha aa s σ H _ I h) λv s1 ⟨x,H1,I1,r1,q1⟩=>test_link (cR (hb aa s1 σ H1 _ I1 q1) λu s2 ⟨y,H2,I2,r2,q2⟩=>cR (ho aa s2 σ H2 x y v u _ I2 r1 r2 q2) λd s3 ⟨z,H3,I3,r3,k,e,q3⟩=> ?_)) hm;subst e;cases r3;exact cq ?_;cases k with
 | false=>let⟨k',e',q'⟩:=q3;cases e';show ite_ff #[H3,I3,q']
 | true=>exact ite_tt (test_last (cR (hc aa s3 σ H3 _ I3 q3) λw' s4 ⟨z',H4,I4,r4,q4⟩=>cR (yV aa s4 σ H4 y z' u w' _ I4 r2 r4 q4) λd' s5 ⟨z2,H5,I5,r5,k2,e2,q5⟩=> ?_));subst e2;cases r5;show cq #[H5,I5,q5]
def zi (K:KW)(x:V)(H:Hp)(k:Bool):Prop:=
 match x with
 | .di=>k=false
 | .bl b=>k=b
 | .int i=>k=(i !=0)
 | .str y=>y.length<=sizeLine /\ k=((y.length:Int) !=0)
 | .sF y=>y.size<=sizeLine /\ k=((y.size:Int) !=0)
 | .ref p=>(∃xs,dw K H p xs /\ k= !xs.isEmpty) \/ (∃xs,gw K H p xs /\ k= !xs.isEmpty) \/ ∃kvs,H p=some (.dK kvs) /\ k= !kvs.isEmpty
 | _=>False
def qx {κ:Type}{kvs:Fm (κ×V)}{vs:Fm (κ×Fp)}(r:KV kvs vs):(!vs.isEmpty)= !kvs.isEmpty:=by cases r<;>rfl
def ko {xs:Fm V}{bq:Fm Fp}(r:b0 xs bq):(!bq.toArray.isEmpty)= !xs.isEmpty:=by cases r<;>simp
def gL:(sizeLine:Nat) <2 ^ 63:=by rw[sizeLine_eq];decide
def A4:Lq X (λx H Q=> ∃k,zi X.K x H k /\ Q k H):=by
 intro aa s σ H x v Q I rx h;let⟨k,e,q⟩:=h;have hl:=gL;have hs:sizeLine=16777216:=sizeLine_eq;cases x with
 | di=>cases rx;have e':k=false:=e;subst e';show truthy_none #[H,I,q]
 | bl b=>cases rx;have e':k=b:=e;subst e';show cq #[H,I,q]
 | int i=>let⟨t,rfl⟩:=rx;have e':k=(i !=0):=e;subst e';show PySem.P.truthy_int #[H,I,q]
 | str y=>let⟨t,rfl⟩:=rx;let⟨hy,e'⟩:y.length<=sizeLine /\ k=((y.length:Int) !=0):=e;subst e';show PySem.P.truthy_str ∅ #[H,I.tok _,q]
 | sF y=>let⟨t,rfl⟩:=rx;let⟨hy,e'⟩:y.size<=sizeLine /\ k=((y.size:Int) !=0):=e;subst e';show W.truthy_bytes ∅ #[H,I.tok _,q]
 | ref p=>
  cases rx;have e':(∃xs,dw X.K H p xs /\ k= !xs.isEmpty) \/ (∃xs,gw X.K H p xs /\ k= !xs.isEmpty) \/ ∃kvs,H p=some (.dK kvs) /\ k= !kvs.isEmpty:=e;rcases e' with⟨xs,hx,e'⟩ | ⟨xs,hx,e'⟩ | ⟨kvs,hx,e'⟩
  subst e';let⟨bq,r,pl,hz⟩:=I.list hx;have dj:=r.length;show wpAny_truthy_list pl.isList (by simp![aE];lia) #[H,I.tok _,by rw[ko r];show q];subst e';let⟨bq,r,pl,hz⟩:=I.tuple hx;have dj:=r.length;show truthy_tuple pl (by simp![aE];lia) #[H,I.tok _,by rw[ko r];show q];subst e';let⟨hz,hS,vs,r,m⟩:kvs.length<=sizeLine /\ (p==sysModules)=false /\ ∃vs,KV kvs vs /\ s.heap.DictOf (cY X.prog X.w) p vs:=I.cI p _ hx;have dj:kvs.length=vs.length:=Paired.length r;show wpAny_truthy_dict hS m ∅ #[H,I.tok _,by rw[qx r];show q]
 | _=>show(show False from e).elim
def vp (ha:PE X a ta)(he: ∀gr,isTrue a X.env gr=(do let v <- gr;standAt a.pos;holding [v] (truthy v))): PT X a (λσ H Q=>ta σ H λx H'=> ∃k,zi X.K x H' k /\ Q k H'):=by intro aa s σ H Q I h;show isTrue_plain (cR (ha aa s σ H _ I h) λv s1 ⟨x,H1,I1,r1,q1⟩=>A4 aa s1 σ H1 x v Q I1 r1 q1) (he _)
def qa:iB X (binaryOp .Add) (λx y H Q=>bU λi j=>dN (x= .str i) (y= .str j) (i.length+j.length<=sizeLine) (Q (.str (i++j)) H)):=by intro aa s σ H x y v u Q I rx ry h;let⟨i,j,rfl,rfl,hz,q⟩:=h;let⟨t,rfl⟩:=rx;let⟨t',rfl⟩:=ry;show add_str (λt' tk=>#[.str (i++j),H,I.tok _,#[_,rfl],q]) hz
def vals1 {x:V}{us:Fm Fp}(r:b0 [x] us): ∃u,us= [u] /\ RelV x u:=by
 cases r with
 | cons r1 r2=>cases r2;show#[_,rfl,r1]
def vals2 {x y:V}{us:Fm Fp}(r:b0 [x,y] us):bU λu w'=>cJ (us= [u,w']) (RelV x u) (RelV y w'):=by
 cases r with
 | cons r1 r2=>
  cases r2 with
  | cons r3 r4=>cases r4;show#[_,_,rfl,r1,r3]
def wW:dn X (.builtin "abs") (λxs H Q=> ∃i,xs= [.int i] /\ Q (.int (if i<0 then -i else i)) H):=by intro aa s σ H xs us Q I r h;let⟨i,rfl,q⟩:=h;let⟨u,rfl,t,rfl⟩:=vals1 r;show call_abs_int λu tk=>#[.int (if i<0 then -i else i),H,I.tok _,#[_,rfl],q]
def nD:dn X (.type "str") (λxs H Q=> ∃i,cJ (xs= [.int i]) (i.natAbs.log2<1920) (Q (.str (toString i)) H)):=by intro aa s σ H xs us Q I r h;let⟨i,rfl,hz,q⟩:=h;let⟨u,rfl,t,rfl⟩:=vals1 r;show PySem.P.str_of_int hz #[.str _,H,I.tok _,#[_,rfl],q]
end
structure CQ (h:Heap)(x dx C:Addr)(mA:Str ->Option Value):Prop where
 obj:h.get? x=some (PySem.W.instObj C dx)
 ns:h.Ns1 dx mA
 ne:dx≠x
def tK {h:K0}{dx:KQ}{mA:Str ->KO Fp}(n:h.Ns1 dx mA): ∃od,h.get? dx=some od /\ ∀name,W.lookIn name od=some (mA name):=by
 let⟨o,es,ep,ho,hd,hk,_,hm⟩:=n;exact#[o,ho,λname=> ?_];have e:=hm name;unfold nsFind findBy at e;rw[<- Array.find?_toList] at e;unfold W.lookIn;rw[hd];dsimp only;split;rename_i y q;rw[q] at e;show congrArg some e;rename_i q;rw[q] at e;have a:es.toList.any (·.refKey)=false:=by rw[List.any_eq_false];intro y hy;let⟨z,t,Ko⟩:=hk y (Array.mem_toList_iff.mp hy);simp[DictEntry.refKey,Ko]
 have a':¬es.toList.any (·.refKey)=true:=by rw[a];show aO
 rw[ar a'];show congrArg some e
theorem CQ.look {h:K0}{x dx C:KQ}{mA:Str ->KO Fp}(I:CQ h x dx C mA): ∃od,W.InstAt h x (W.instObj C dx) C (some od) /\ ∀name,W.lookIn name od=some (mA name):=
 let ⟨od,ho,hl⟩:=tK I.ns
 #[od,#[I.obj,rfl,rfl,ho],hl]
def i9.some_of {v:V}{o:KO Fp}(r:i9 (some v) o): ∃u,o=some u /\ RelV v u:=by
 cases o with
 | none=>show(show False from r).elim
 | some u=>show#[u,rfl,r]
section
variable {P:KY}{w:KZ}{H H':Hp}{h h':K0}{a C dx:KQ}{fs QX:Fm (Str×V)}
def yQ (cI:fM P w H h)(e:H a=some (.ins C dx fs)): ∃mA,dW (CQ h a dx C mA) (∀f,i9 (fs.lookup f) (mA f)) (PySem.Within mA (fs.map (·.1))) (fs.length<=1000) (H dx=some (.own a)):=by
 let⟨d,z,ne,ob,mA,n,r,q⟩:=(show cV P w H h a (.ins C dx fs) from cI a _ e)
 show#[mA,#[ob,n,ne],r,q,z,d]
end
structure LD (K:PySem.W.Frag)(C:Addr):Prop where
 pg:PySem.W.plainGet K C Str.empty=true
 hd:PySem.W.hasDictIn K C=true
 po:PySem.W.plainOver K C=true
 sa:PySem.W.findIn K (.ref C) "__setattr__" =some (some (.builtin "object.__setattr__"))
theorem LD.get {K:KW}{C:KQ}(c:LD K C)(f:Str):W.plainGet K C f=true:=c.pg
section
variable {X:Cx}{aa:Fm (KQ×Obj)}{σ:St}{H:Hp}{s:JZ}{A:K2}{E:Fp ->JZ ->Prop}{Q:Fp ->JZ ->Prop}{c:Fp}{b:Bool}
inductive i8 (K:PySem.W.Frag)(H:Hp):V ->Value ->Prop where
 | di:i8 K H .di (.type "NoneType")
 | bl (x:Bool):i8 K H (.bl x) (.type "bool")
 | int (i:Int):i8 K H (.int i) (.type "int")
 | str (x:Str):i8 K H (.str x) (.type "str")
 | As (x:UInt64):i8 K H (.As x) (.type "float")
 | lst {a:Addr} {xs:List V} (e:H a=some (.lst xs)):i8 K H (.ref a) (.type "list")
 | oP {a:Addr} {o:Obj} {xs:List V} (e:H a=some (.oP o (.lst xs))):i8 K H (.ref a) (.type "list")
 | tup {a:Addr} {xs:List V} (e:H a=some (.tup xs)):i8 K H (.ref a) (.type "tuple")
 | dK {a:Addr} {kvs:List (cT×V)} (e:H a=some (.dK kvs)):i8 K H (.ref a) (.type "dict")
 | dT {a:Addr} {kvs:List (List cT×V)} (e:H a=some (.dT kvs)):i8 K H (.ref a) (.type "dict")
 | ins {a C dx:Addr} {fs:List (Str×V)} (e:H a=some (.ins C dx fs)) (cl:LD K C) (ha:PySem.W.findIn K (.ref C) "__class__" =some (some (.builtin "object.__class__"))) (hn:PySem.W.specialIn K (.builtin "object.__class__") "__get__" =some (some (.builtin "getset_descriptor.__get__"))) (MQ:PySem.W.takesIn K (.builtin "object.__class__")=some true) (hm:PySem.W.mroIn K C (.type "object")=some true):i8 K H (.ref a) (.ref C)
def tQ {x:V}{u t:Fp}(I:Inv X aa σ H s)(rx:RelV x u)(ty:i8 X.K H x t)(e:W.kitOne X.K t c=some b)(h: ∀tk,Q (.bool b) {s with toks:=tk}): wpAny (model X.prog X.w) A (call (.builtin "isinstance") [u,c]) Q E s:=by
 cases ty with
 | di=>cases (show u=Value.none from rx);show bG W.kitx_none I.kl True.intro e (λz=>nomatch z) h
 | bl y=>cases (show u=Value.bool y from rx);show bG W.kitx_bool I.kl True.intro e (λz=>nomatch z) h
 | int i=>let⟨t,q⟩:=(show ∃t,u=Value.int i t from rx);cases q;show bG W.kitx_int I.kl True.intro e (λz=>nomatch z) h
 | str y=>let⟨t,q⟩:=(show ∃t,u=Value.str y t from rx);cases q;show bG W.kitx_str I.kl True.intro e (λz=>nomatch z) h
 | As y=>let⟨t,q⟩:=(show ∃t,u=Value.float y t from rx);cases q;show bG W.kitx_float I.kl True.intro e (λz=>nomatch z) h
 | @lst a xs ea=>
  cases (show u=Value.ref a from rx);let⟨_,_,n,_,h1⟩:=(show cV X.prog X.w H s.heap a (.lst xs) from I.cI a _ ea)
  show bG W.kitx_list I.kl #[_,h1,rfl] e (λz=>nomatch z) h
 | @oP a ob xs ea=>
  cases (show u=Value.ref a from rx);let⟨_,_,_,n,_,h1⟩:=(show cV X.prog X.w H s.heap a (.oP ob (.lst xs)) from I.cI a _ ea)
  show bG W.kitx_list I.kl #[_,h1,rfl] e (λz=>nomatch z) h
 | @tup a xs ea=>
  cases (show u=Value.ref a from rx);let⟨_,_,_,p⟩:=(show cV X.prog X.w H s.heap a (.tup xs) from I.cI a _ ea)
  let⟨o,h1,h2,_⟩:=p;show bG W.kitx_tuple I.kl #[o,h1,h2] e (λz=>nomatch z) h
 | @dK a kvs ea=>
  cases (show u=Value.ref a from rx);let⟨_,_,vs,_,p⟩:=(show cV X.prog X.w H s.heap a (.dK kvs) from I.cI a _ ea)
  let⟨o,es,ep,h1,h2,_⟩:=p;show bG W.kitx_dict I.kl #[o,h1,h2.1] e (λz=>nomatch z) h
 | @dT a kvs ea=>
  cases (show u=Value.ref a from rx);let⟨_,_,xs,_,o,es,ep,h1,h2,_⟩:=(show cV X.prog X.w H s.heap a (.dT kvs) from I.cI a _ ea)
  show bG W.kitx_dict I.kl #[o,h1,h2.1] e (λz=>nomatch z) h
 | @ins a C dx fs ea cl ha hn MQ hm=>cases (show u=Value.ref a from rx);let⟨mA,O,_⟩:=yQ I.cI ea;let⟨od,J,_⟩:=O.look;show bG (W.kitx_own (cl.get _) cl.hd ha hn MQ hm) I.kl J e (λz=>nomatch z) h
end
structure dD (k:Nat)(A:Around):Prop where
 hd:A.handled=none
 dp:A.depth+3*k+5<recursionLimit
 un:A.units+16*k+200<cLine
theorem dD.mono {j k:Nat}{A:K2}(r:dD k A)(h:j<=k):dD j A:=#[r.hd,by have:=r.dp;lia,by have:=r.un;lia]
theorem dD.deeper {k:Nat}{A:K2}(r:dD (k+1) A)(env:Env):dD k (A.deeper env):=#[r.hd,by have:=r.dp;change A.depth+1+3*k+5<_;lia,by have:=r.un;change A.units+3+16*k+200<_;lia]
def dD.depth {k:Nat}{A:K2}(r:dD k A):A.depth<recursionLimit:=by have:=r.dp;lia
def dD.units {k:Nat}{A:K2}(r:dD k A):A.units+64<cLine:=by have:=r.un;lia
def A7:TA:=λ_ H Q=>Q [] H
def uZ (ta:TE)(tr:TA):TA:=λσ H Q=>ta σ H λx H1=>tr σ H1 λxs H2=>Q (x::xs) H2
section
variable {X:Cx}{e:Expr}{es:Fm Expr}{te:TE}{t:TA}{pos:Pos}
theorem aq:PA X [] A7:=λ_ _ _ _ H Q I h=>Calls.spliced_nil #[[],H,I, .nil,h]
def ae (ha:PE X e te)(hr:PA X es t)(hs:starEach (e::es) X.env=(false,eval e X.env)::starEach es X.env:=by rfl):PA X (e::es) (uZ te t):=by intro pos aa s σ H Q I h;rw[hs];change wpAny _ _ (spliced ((false,eval e X.env)::backTo pos (starEach es X.env))) _ _ s;exact Calls.spliced_cons (cR (ha aa s σ H _ I h) λu s1 ⟨x,H1,I1,r1,q1⟩=> ?_);show cR (hr pos aa s1 σ H1 _ I1 q1) λus s2 ⟨xs,H2,I2,r2,q2⟩=>#[x::xs,H2,I2, .cons r1 r2,q2]
def Eh (t:TA):TE:=λσ H Q=>t σ H λxs H1=>xs.length<=sizeLine /\ ∀p,H1 p=none ->Q (.ref p) (cU H1 p (.tup xs))
def El (t:TA):TE:=λσ H Q=>t σ H λxs H1=>xs.length<=sizeLine /\ ∀p,H1 p=none ->Q (.ref p) (cU H1 p (.lst xs))
def dJ {x1}(h:PA X es t):PE X (.Tuple es x1 pos) (Eh t):=by intro aa s σ H Q I hq;exact wpAny_Tuple_spliced (cR (h pos aa s σ H _ I hq) λus s1 ⟨xs,H1,I1,r,z,q⟩=>#[by rw[<- r.length];show z,?_]);have hf:H1 s1.heap.objs.size=none:=I1.cI.fresh (ag _);exact#[.ref s1.heap.objs.size,cU H1 s1.heap.objs.size (.tup xs),I1.laid (t':=s1.toks) (λb u e=>aw _ e) (ag _) ?_,rfl,q _ hf];show#[z,us,r,#[_,aT _ rfl,rfl,_,rfl,rfl]]
def dz (h:PA X es t):PE X (.List es pos) (El t):=by intro aa s σ H Q I hq;exact wpAny_List_spliced (cR (h pos aa s σ H _ I hq) λus s1 ⟨xs,H1,I1,r,z,q⟩=>#[by rw[<- r.length];show z,?_]);have hf:H1 s1.heap.objs.size=none:=I1.cI.fresh (ag _);exact#[.ref s1.heap.objs.size,cU H1 s1.heap.objs.size (.lst xs),I1.laid (t':=s1.toks) (λb u e=>aw _ e) (ag _) ?_,rfl,q _ hf];show#[z,us,0,r,aT _ rfl]
end
abbrev Sp:=Fm V ->Hp ->VK ->XK ->Prop
abbrev uv:=Fm Env ->Hp ->JZ ->XK ->Fp ->JZ ->Prop
structure zm (P:Program)(w:World)(K:PySem.W.Frag)(mg:Str ->Option Value)(base:Heap)(A:Around)(outer:List Env)(s:Shared)(H:Hp):Prop where
 frames:A.frames=some outer
 mod:Mod K mg base
 bs: ∀b o,base.get? b=some o ->s.heap.get? b=some o /\ H b=none
 xI:base.objs.size<=s.heap.objs.size
 gN:s.heap.FunFrames base outer
 xF: ∀b∈eC outer,H b=none
 cI:fM P w H s.heap
 bare:AllBare s.gens
def CE (outer:Fm Env)(P:KY)(w:KZ)(H:Hp)(s:JZ)(Q:VK)(u:Fp)(s':JZ):Prop:=bU λv H'=>pD (s'.os=s.os) (AllBare s'.gens) (Un (eC outer) [] H H' s.heap s'.heap) (fM P w H' s'.heap) (RelV v u) (Q v H')
def CR (CX:uv)(outer:Fm Env)(P:KY)(w:KZ)(H:Hp)(s:JZ)(Q:VK)(E:XK)(r:Result)(s':JZ):Prop:=
 match r with
 | .ok (.ret u)=>CE outer P w H s Q u s'
 | .ok _=>False
 | .error e=>CX outer H s E e s'
structure c_ (P:Program)(w:World)(K:PySem.W.Frag)(mg:Str ->Option Value)(base:Heap)(CX:uv)(k:Nat)(f:Addr)(fd:FuncData)(ps:List Str)(sp:Sp):Prop where
 len: ∀vs H Q E,sp vs H Q E ->vs.length=ps.length
 run: ∀ (A:Around) (outer:List Env) (s:Shared) (H:Hp) (args:Args) (us:List Value) (vs:List V) (Q:VK) (E:XK),dD k A ->zm P w K mg base A outer s H ->BindsTo s fd args (ps.zip us) ->b0 vs us ->sp vs H Q E ->codeAny (model P w) A (.call (.ref f) args) (CR CX outer P w H s Q E) s
theorem c_.imp {P:KY}{w:KZ}{K:KW}{mg:Str ->KO Fp}{base:K0}{CX:uv}{k:Nat}{f:KQ}{fd:FuncData}{ps:Fm Str}{sp Mf:Sp}(F:c_ P w K mg base CX k f fd ps sp) (h: ∀vs H Q E,Mf vs H Q E ->sp vs H Q E):c_ P w K mg base CX k f fd ps Mf:=#[λvs H Q E q=>F.len vs H Q E (h _ _ _ _ q),λA outer s H args us vs Q E hr he hb hv hs=>F.run A outer s H args us vs Q E hr he hb hv (h _ _ _ _ hs)]
section
variable {X:Cx}{aa:Fm (KQ×Obj)}{σ:St}{H:Hp}{s s':JZ}
theorem Inv.F7 (I:Inv X aa σ H s):zm X.prog X.w X.K X.mg X.base X.A X.stack s H:=#[I.ok.frames,I.ok.mod,I.bs,aD I.ok.xI I.sz,I.stack,I.jt,I.cI,I.bare]
def Inv.after {Q:VK}{u:Fp}(I:Inv X aa σ H s)(h:CE X.stack X.prog X.w H s Q u s'):EP X aa σ Q u s':=by let⟨v,H',os,bare,un,cI,r,q⟩:=h;let⟨hh,g,d,t,Oa⟩:=s';obtain rfl:Oa=s.os:=os;show#[v,H',I.call (h':=hh) (g':=g) (d':=d) (t':=t) (ch:= []) un cI bare (λb z=>absurd z (by simp)),r,q]
end
def lz (sp:Sp)(Ax:Fm V)(E:XK)(t:TA):TE:=λσ H Q=>t σ H λvs H1=>sp (vs++Ax) H1 Q E
def Binds (K:KW)(fd:FuncData)(ps:Fm Str)(ds:Fm Fp):Prop:=∀ (s:JZ) (us:Fm Fp),K.In s.heap ->(us++ds).length=ps.length ->BindsTo s fd #[us,[]] (ps.zip (us++ds))
theorem Binds.all {K:KW}{fd:FuncData}{ps:Fm Str}(h: ∀us:Fm Fp,us.length=ps.length ->bindArgs fd #[us,[]]=pure (ps.zip us)):Binds K fd ps []:=λs us _ hl=>by rw[List.append_nil] at hl ⊢;show .of_eq (h us hl)
def gT (CX:uv)(X:Cx)(E:XK):Prop:= ∀ (aa:Fm (KQ×Obj)) (σ:St) (H:Hp) (s:JZ) (e:Fp) (s':JZ),Inv X aa σ H s ->CX X.stack H s E e s' ->X.xe e s'
section
variable {X:Cx}{CX:uv}{k:Nat}{f C:KQ}{fd:FuncData}{ps:Fm Str}{sp:Sp}{Ax:Fm V}{ds:Fm Fp}{E:XK}{x m:Str}{p pos kP:Pos}{e o:Expr}{es:Fm Expr}{ta:TE}{t:TA}
def Bk {aa:Fm (KQ×Obj)}{σ:St}{H:Hp}{s:JZ}{Q:VK}{us:Fm Fp}{vs:Fm V}(F:c_ X.prog X.w X.K X.mg X.base CX k f fd ps sp)(hr:dD k X.A)(hb:Binds X.K fd ps ds)(hd:b0 Ax ds)(hx:gT CX X E) (I:Inv X aa σ H s) (r:b0 vs us) (h:sp (vs++Ax) H Q E):wpAny (model X.prog X.w) X.A (call (.ref f) us) (EP X aa σ Q) X.xe s:=by
 have r2:b0 (vs++Ax) (us++ds):=r.append hd;have hl:(us++ds).length=ps.length:=by rw[<- r2.length];show F.len _ _ _ _ h
 exact wpAny_call (codeAny_mono (F.run X.A X.stack s H #[us,[]] (us++ds) (vs++Ax) Q E hr I.F7 (hb s us I.kl hl) r2 h) λr s' hq=> ?_);cases r with
 | error e=>show hx aa σ H s e s' I hq
 | ok fl=>
  cases fl with
  | ret u=>show I.after hq
  | next=>show False.elim hq
  | brk=>show False.elim hq
  | cont=>show False.elim hq
def rE (F:c_ X.prog X.w X.K X.mg X.base CX k f fd ps sp)(hr:dD k X.A)(hg:Gl X x)(hm:X.mg x=some (.ref f))(hk:W.keepIn X.K (.ref f)=true)(hb:Binds X.K fd ps ds)(hd:b0 Ax ds)(hx:gT CX X E) (ha:PA X (e::es) t) (li:(x==("__debug__" :Str))=false:=by decide) (he:starEach (e::es) X.env=(false,eval e X.env)::starEach es X.env:=by rfl) (lT:(backTo pos (starEach es X.env)).any (·.1)=false:=by rfl): PE X (.Call (.Name x p) (e::es) [] pos) (lz sp Ax E t):=by intro aa s σ H Q I h;exact wpAny_Call_Name_kw (jx I hg hm ?_ li);exact W.callWith_K (h₀:=X.base) I.ok.mod.Fe hk (cR (ha pos aa s σ H _ I h) λus s1 ⟨vs,H1,I1,r,q⟩=>#[I1.kl,?_]) he lT;show Bk F hr hb hd hx I1 r q
end
structure dm (N P:List Str)(sc:Scope):Prop where
 kind:sc.kind= .function
 co:sc.isCoroutine=false
 gen:sc.isGenerator=false
 nd:N.Nodup
 pre:N.take P.length=P
 par: ∀x∈P,sc.names.lookup x=some .local \/ sc.names.lookup x=some .cell
 BI: ∀y∈sc.names,y.2≠ .free
theorem mq {kindOf:Str ->KO NameKind}{x:Str}: ∀ {binds:Fm (Str×Fp)} {m:Str ->KO Fp},(∀v,(x,v)∉binds) ->bindL kindOf binds m x=m x
 | [],_,_=>rfl
 | (n,v)::r,m,h=>by
  unfold bindL;rw[mq λw hw=>h w (aS _ hw)];split;have:x≠n:=by rintro rfl;show h v a4
  simp[this];rfl
theorem mx {kindOf:Str ->KO NameKind}{x:Str}: ∀ {binds:Fm (Str×Fp)} {m:Str ->KO Fp},(∀v,(x,v)∉binds) ->bindC kindOf binds m x=m x
 | [],_,_=>rfl
 | (n,v)::r,m,h=>by
  unfold bindC;rw[mx λw hw=>h w (aS _ hw)];split;rfl;have:x≠n:=by rintro rfl;show h v a4
  simp[this]
theorem mw {kindOf:Str ->KO NameKind}{x:Str}{v:Fp}: ∀ {P:Fm Str} {vs:Fm Fp} {i:Nat} {m:Str ->KO Fp},P.Nodup ->P[i]? =some x ->vs[i]? =some v ->kindOf x=some .local ->bindL kindOf (P.zip vs) m x=some v
 | [],_,_,_,_,h,_,_=>by simp at h
 | _::_,[],_,_,_,_,h,_=>by simp at h
 | p::P,w::vs,0,m,nd,h1,h2,hk=>by simp at h1 h2;subst h1;subst h2;change bindL kindOf ((p,w)::P.zip vs) m p=_;unfold bindL;rw[mq λv hv=>(List.nodup_cons.mp nd).1 (List.of_mem_zip hv).1,am hk];simp
 | p::P,w::vs,i+1,m,nd,h1,h2,hk=>by change bindL kindOf ((p,w)::P.zip vs) m x=_;unfold bindL;show mw (i:=i) (List.nodup_cons.mp nd).2 ⇑h1 ⇑h2 hk
theorem mz {kindOf:Str ->KO NameKind}{x:Str}{v:Fp}: ∀ {P:Fm Str} {vs:Fm Fp} {i:Nat} {m:Str ->KO Fp},P.Nodup ->P[i]? =some x ->vs[i]? =some v ->kindOf x≠some .local ->bindC kindOf (P.zip vs) m x=some v
 | [],_,_,_,_,h,_,_=>by simp at h
 | _::_,[],_,_,_,_,h,_=>by simp at h
 | p::P,w::vs,0,m,nd,h1,h2,hk=>by simp at h1 h2;subst h1;subst h2;change bindC kindOf ((p,w)::P.zip vs) m p=_;unfold bindC;rw[mx λv hv=>(List.nodup_cons.mp nd).1 (List.of_mem_zip hv).1,ar hk];simp
 | p::P,w::vs,i+1,m,nd,h1,h2,hk=>by change bindC kindOf ((p,w)::P.zip vs) m x=_;unfold bindC;show mz (i:=i) (List.nodup_cons.mp nd).2 ⇑h1 ⇑h2 hk
def start (N:Fm Str)(vs:Fm V):St:=vs.map some++List.replicate (N.length - vs.length) none
def dF (CX:uv)(P:KY)(w:KZ)(K:KW)(mg:Str ->KO Fp)(base:K0)(N:Fm Str)(qual:Str)(scope:Scope)(f:KQ)(cd:Fp)(A:K2)(outer:Fm Env)(s:JZ)(H:Hp)(E:XK):Cx where
 prog:=P
 w:=w
 K:=K
 mg:=mg
 base:=base
 A:=A.deeper (envOfC qual scope s.heap.objs.size f cd)
 N:=N
 s₀:=s
 H₀:=H
 env:=envOfC qual scope s.heap.objs.size f cd
 outer:=outer
 stack:=envOfC qual scope s.heap.objs.size f cd::outer
 ex:= []
 calm:=true
 fn:=λ_=>true
 pn:= []
 xe:=λe s'=>wpAny (model P w) (A.deeper (envOfC qual scope s.heap.objs.size f cd)) (leaving (envOfC qual scope s.heap.objs.size f cd) e) (λ_ Jm=>CX outer H s E e Jm) (λe' Jm=>CX outer H s E e' Jm) s'
def pA {sc:Scope}{n:Nat}{x:Str}(h:sc.names.lookup x=some .cell): ∃c,(cellsFrom n sc.names []).lookup x=some c:=by have q:=W.cellsFrom_some sc.names n [] (.inl h);show Option.isSome_iff_exists.mp q
def tS {CX:uv}{P:KY}{w:KZ}{K:KW}{mg:Str ->KO Fp}{base:K0}{N ps:Fm Str}{qual:Str}{scope:Scope}{f:KQ}{cd:Fp}{A:K2}{outer:Fm Env}{s s1:JZ}{H:Hp}{E:XK}{us:Fm Fp}{vs:Fm V} (S:dm N ps scope) (hd:A.handled=none) (e0:zm P w K mg base A outer s H) (hl:vs.length=ps.length) (r:b0 vs us) (x:InCallC s s.heap.objs.size (bindL (envOfC qual scope s.heap.objs.size f cd).kindOf (ps.zip us) λ_=>none) (cellsFrom (s.heap.objs.size+1) scope.names []) (bindC (envOfC qual scope s.heap.objs.size f cd).kindOf (ps.zip us) λ_=>none) s1): Inv (dF CX P w K mg base N qual scope f cd A outer s H E) [] (start N vs) H s1:=by
 have lT:ps.length<=N.length:=by have:=congrArg List.length S.pre;rw[bi] at this;lia
 let⟨h1,tk,rfl,hk⟩:=x.done;have z8: ∀b:KQ,b∉(dF CX P w K mg base N qual scope f cd A outer s H E).ex:=λb z=>absurd (show b∈([]:Fm KQ) from z) (by simp);exact#[#[e0.mod,S.kind,rfl,rfl,ag _,λy z c h1 h2=> ?_,λy hy=> ?_,λy c _ h=> ?_,λ_=>hd,Around.frames_deeper e0.frames, .inr #[rfl,rfl],λb z=>absurd z (z8 b),e0.bs,e0.xI,λb _ _=>z8 b,λb z=>absurd z (z8 b),e0.gN,e0.xF],
  rfl,e0.bare,Un.kept hk,#[_,x.toInCall.ns,λi y v h1 h2 h3=> ?_],λy c h=>#[_,x.cell y c h],e0.cI.fresh (ag _),λy c h=> ?_,λp hp=>absurd (show p∈([]:Fm (KQ×Obj)) from hp) (by simp),e0.cI.kept hk,?_]
 show name_of_addr x.apart (cD h1) (cD h2);have hy:scope.names.lookup y=some .cell \/ scope.names.lookup y=some .free:=hy;obtain hy | hy:=hy;show pA hy;show absurd rfl (S.BI _ (cD hy));show Nat.le_of_lt (x.above y c (cD h));have hi:i<vs.length:=by unfold start at h2;by_cases hi:i<vs.length;show hi;rw[aG ⇑hi] at h2;rw[cy] at h2;split at h2<;>cases h2
 have ha:vs[i]? =some v:=by
  unfold start at h2;rw[aI ⇑hi,aB] at h2;cases e:vs[i]? with
  | none=>rw[e] at h2;cases h2
  | some a=>rw[e] at h2;cases h2;rfl
 let⟨u,hu,rv⟩:=r.get ha;have hp:ps[i]? =some y:=by rw[<- S.pre,List.getElem?_take_of_lt ∅];show h1
 have Ms:ps.Nodup:=by rw[<- S.pre];show S.nd.sublist (List.take_sublist _ _)
 exact#[u,rv,?_];obtain k | k:=S.par y (bD hp);show .inl #[k,mw Ms hp hu k];let⟨c,e⟩:=pA (n:=s.heap.objs.size+1) k;exact .inr #[.inl k,c,e,?_];have q:=x.cell y c e;rw[mz Ms hp hu (by change scope.names.lookup y≠_;rw[k];decide)] at q;show q;show e0.cI.fresh (Nat.le_of_lt (x.above y c (cD h)));unfold start;change _=N.length;rw[aN,af,List.length_replicate];lia
def Ar {CX:uv}{P:KY}{w:KZ}{K:KW}{mg:Str ->KO Fp}{base:K0}{k:Nat}{f:KQ}{name qual:Str}{params:Arguments}{body:Fm Stmt}{scope:Scope}{dV kV gU pm cdv ct oc:Fp}{an od:KO KQ} {uw:KU (KO Fp)} {N ps:Fm Str} {sp:Sp} (lk:K.lookup f=some #[oc,od, .func (W.fnOf name qual params body scope dV kV gU pm an cdv ct),uw]) (si:W.codeIn K cdv qual=true) (S:dm N ps scope) (len: ∀vs H Q E,sp vs H Q E ->vs.length=ps.length) (eB: ∀ (A:K2) (outer:Fm Env) (s:JZ) (H:Hp) (vs:Fm V) (Q:VK) (E:XK),dD k (A.deeper (envOfC qual scope s.heap.objs.size f cdv)) ->sp vs H Q E ->∃t,mE (dF CX P w K mg base N qual scope f cdv A outer s H E) body t /\ t {nx:=λ_ H'=>Q .di H',rt:=Q} (start N vs) H): c_ P w K mg base CX (k+1) f (W.fnOf name qual params body scope dV kV gU pm an cdv ct) ps sp:=by
 exact#[len,λA outer s H args us vs Q E hr e0 hb r tU=> ?_];have hl:=len _ _ _ _ tU;have KX:K.In s.heap:=e0.mod.Fe.keeps λb o e=>(e0.bs b o e).1;have lim:s.heap.NoLimit:=e0.mod.nolimit.keeps λb o e=>(e0.bs b o e).1;have FK: ∀y∈ps.zip us,scope.names.lookup y.1=some .local \/ (scope.names.lookup y.1=some .cell /\ ((cellsFrom (s.heap.objs.size+1) scope.names []).lookup y.1).isSome=true):=λ⟨n,v⟩ hy=>by obtain q | q:=S.par n (List.of_mem_zip hy).1;show .inl q;show .inr #[q,W.cellsFrom_some _ _ _ (.inl q)]
 exact codeAny_call_function hr.depth (KX _ _ lk) rfl S.co S.gen rfl (W.codeRec_of KX si) (hb _ _ _ _ ?_);exact wpAny_newFunctionEnv_cells S.kind FK λenv he s1 x=> ?_;subst he;exact#[lim.keeps x.toInCall.keep,codeAny_func ?_];let⟨t,ht,hq⟩:=eB A outer s H vs Q E (hr.deeper _) tU;have I:Inv (dF CX P w K mg base N qual scope f cdv A outer s H E) [] (start N vs) H s1:=tS S hr.hd e0 hl r x;exact a6 (ht [] s1 (start N vs) H _ I hq) (λfl s' hs=> ?_) λe s' hs=>hs;have fin: ∀ {σ':St} {H':Hp} {v:V} {u:Fp},Inv (dF CX P w K mg base N qual scope f cdv A outer s H E) [] σ' H' s' ->RelV v u ->Q v H' ->CE outer P w H s Q u s':=λ{σ' H' v u} J rv q=>#[v,H',J.os,J.bare,J.base,J.cI,rv,q]
 cases fl with
 | ret u=>let⟨v,σ',H',J,rv,q⟩:=hs;show fin J rv q
 | next=>let⟨σ',H',J,q⟩:=hs;show fin (v:=V.di) (u:=Value.none) J rfl q
 | brk=>let⟨_,_,_,q⟩:=hs;show False.elim q
 | cont=>let⟨_,_,_,q⟩:=hs;show False.elim q
section
variable {X:Cx}{x:Str}{p pos:Pos}{e:Expr}{es:Fm Expr}{t:TA}{id T:String}{r:Fm V ->Hp ->VK ->Prop}
def Je (r:Fm V ->Hp ->VK ->Prop)(t:TA):TE:=λσ H Q=>t σ H λvs H1=>r vs H1 Q
def bn (hc:dn X (.builtin id) r)(hg:Gl X x)(hm:X.mg x=none)(hv:bootBuiltins x=some (.builtin id))(ha:PA X (e::es) t)(hn:x≠ "__name__" :=by decide)(li:(x==("__debug__" :Str))=false:=by decide) (he:starEach (e::es) X.env=(false,eval e X.env)::starEach es X.env:=by rfl) (lT:(backTo pos (starEach es X.env)).any (·.1)=false:=by rfl):PE X (.Call (.Name x p) (e::es) [] pos) (Je r t):=by intro aa s σ H Q I h;exact wpAny_Call_Name_kw (kh I hg hm hv ?_ hn li);show PyProof.Rows.callWith_builtin1 (cR (ha pos aa s σ H _ I h) λus s1 ⟨vs,H1,I1,r1,q1⟩=>hc aa s1 σ H1 vs us Q I1 r1 q1) he lT
def cX (hc:dn X (.type T) r)(hg:Gl X x)(hm:X.mg x=none)(hv:bootBuiltins x=some (.type T))(ha:PA X (e::es) t)(hn:x≠ "__name__" :=by decide)(li:(x==("__debug__" :Str))=false:=by decide) (he:starEach (e::es) X.env=(false,eval e X.env)::starEach es X.env:=by rfl) (lT:(backTo pos (starEach es X.env)).any (·.1)=false:=by rfl):PE X (.Call (.Name x p) (e::es) [] pos) (Je r t):=by intro aa s σ H Q I h;exact wpAny_Call_Name_kw (kh I hg hm hv ?_ hn li);show PyProof.Rows.callWith_type1 (cR (ha pos aa s σ H _ I h) λus s1 ⟨vs,H1,I1,r1,q1⟩=>hc aa s1 σ H1 vs us Q I1 r1 q1) he lT
end
end L2
namespace HT
open PySem PyProof.Rows
section
variable {prog:KY}{w:KZ}{A:K2}{E:Fp ->JZ ->Prop}{s:JZ}
def jS (n d:Nat):KO Int ->Nat
 | none=>d
 | some v=>if v<0 then(v+(n:Int)).toNat else min v.toNat n
theorem vi (n d:Nat):jS n d none=d:=rfl
def yb (n d k:Nat):jS n d (some (k:Int))=min k n:=by change(if(k:Int) <0 then((k:Int)+(n:Int)).toNat else min (k:Int).toNat n)=min k n;rw[ar ∅,Int.toNat_natCast]
end
end HT
namespace L2
open PySem PySem.Spec PyProof.Rows
abbrev TO:=St ->Hp ->(KO Int ->Hp ->Prop) ->Prop
def PO (X:Cx)(e:KO Expr)(t:TO):Prop:=∀ (aa:Fm (KQ×Obj)) (s:JZ) (σ:St) (H:Hp) (Q:KO Int ->Hp ->Prop),Inv X aa σ H s ->t σ H Q ->wpAny (model X.prog X.w) X.A (evalPart e X.env) (λu s'=>bU λo H'=>cJ (Inv X aa σ H' s') (IsPart u o) (Q o H')) X.xe s
def qU:TO:=λ_ H Q=>Q none H
def zH (t:TE):TO:=λσ H Q=>t σ H λx H1=> ∃i,x= .int i /\ Q (some i) H1
section
variable {X:Cx}{e:Expr}{te:TE}{lo hi:KO Expr}{tl th:TO}{pos p2:Pos}
def cM:PO X none qU:=by intro aa s σ H Q I h;rw[evalPart_none];show aX #[none,H,I, .none,h]
def bZ (h:PE X e te):PO X (some e) (zH te):=by intro aa s σ H Q I hw;rw[evalPart_some];exact cR (h aa s σ H _ I hw) λu s1 ⟨x,H1,I1,r1,q1⟩=> ?_;let⟨i,rfl,q⟩:=q1;let⟨t,rfl⟩:=r1;show#[some i,H1,I1, .int i t,q]
def Lr (X:Cx)(r:V ->KO Int ->KO Int ->Hp ->VK ->Prop):Prop:=∀ (aa:Fm (KQ×Obj)) (s:JZ) (σ:St) (H:Hp) (x:V) (v vl vu:Fp) (lo hi:KO Int) (sl:KQ) (Q:VK),Inv X aa σ H s ->RelV x v ->s.heap.IsSliceOf sl vl vu .none ->IsPart vl lo ->IsPart vu hi ->r x lo hi H Q ->bU λT id=>cJ (typeLookup (.type T) "__getitem__" =pure (some (.builtin id))) (s.TypeIs v T) (wpAny (model X.prog X.w) X.A (getItem v (.ref sl)) (EP X aa σ Q) X.xe s)
def L' (r:V ->KO Int ->KO Int ->Hp ->VK ->Prop)(te:TE)(tl th:TO):TE:=λσ H Q=>te σ H λx H1=>tl σ H1 λl H2=>th σ H2 λu H3=>r x l u H3 Q
def bN {r:V ->KO Int ->KO Int ->Hp ->VK ->Prop}(hr:Lr X r)(he:PE X e te)(hl:PO X lo tl)(hu:PO X hi th):PE X (.Subscript e (.Slice lo hi none p2) pos) (L' r te tl th):=by intro aa s σ H Q I h;exact Subscript_ (cR (he aa s σ H _ I h) λv s1 ⟨x,H1,I1,r1,q1⟩=> ?_);exact wpAny_Slice (cR (hl aa s1 σ H1 _ I1 q1) λvl s2 ⟨l,H2,I2,pl,q2⟩=>cR (hu aa s2 σ H2 _ I2 q2) λvu s3 ⟨u,H3,I3,pu,q3⟩=> ?_);rw[evalPart_none];exact aX ?_;have I4:Inv X aa σ H3 {s3 with heap:=s3.heap.push {cls:= .type "slice",data:= .fields (List.toArray [vl,vu, .none])}}:=I3.kept (t':=s3.toks) λb ob q=>aw _ q;let⟨T,id,hT,ht,hg⟩:=hr aa {s3 with heap:=s3.heap.push {cls:= .type "slice",data:= .fields (List.toArray [vl,vu, .none])}} σ H3 x v vl vu l u s3.heap.objs.size Q I4 r1 (Heap.IsSliceOf.new ..) pl pu q3;change wpAny (model X.prog X.w) X.A (subscriptTail e (.Slice lo hi none p2) v (.ref s3.heap.objs.size)) (EP X aa σ Q) X.xe {s3 with heap:=s3.heap.push {cls:= .type "slice",data:= .fields (List.toArray [vl,vu, .none])}};show tail_any (ops:= [.ref s3.heap.objs.size,v]) ht hT hg (by with_unfolding_all rfl)
def py (xs:Fm V)(lo hi:KO Int):Fm V:=(xs.drop (HT.jS xs.length 0 lo)).take (HT.jS xs.length xs.length hi - HT.jS xs.length 0 lo)
def px (xs:Fm V)(lo hi:KO Int):(py xs lo hi).length<=xs.length:=by unfold py;rw[bi,cx];lia
end
def lg (n:Nat)(i:Int):KO Nat:=if 0<=i then(if i<n then some i.toNat else none) else if -(n:Int) <=i then some (i+n).toNat else none
def fL {α:Type}(xs:Fm α)(i:Int):KO α:=(lg xs.length i).bind λj=>xs[j]?
def rY {n:Nat}{i:Int}{j:Nat}(h:lg n i=some j): seqIndex? i n=some j /\ j<n /\ -(n:Int) <=i /\ i<n:=by unfold lg at h;by_cases h0:0<=i;rw[am h0] at h;by_cases h1:i<n;rw[am h1] at h;have e:i.toNat=j:=aW h;show#[by rw[seqIndex_of h0 h1,e], ∅, ∅,h1];rw[ar h1] at h;cases h;rw[ar h0] at h;by_cases h1: -(n:Int) <=i;rw[am h1] at h;have e:(i+n).toNat=j:=aW h;show#[by rw[seqIndex_neg ∅ h1,e], ∅,h1, ∅];rw[ar h1] at h;cases h
def nL {α:Type}{xs:Fm α}{i:Int}{v:α}(h:fL xs i=some v): ∃j,dW (seqIndex? i xs.length=some j) (xs[j]? =some v) (j<xs.length) (-(xs.length:Int) <=i) (i<xs.length):=by
 unfold fL at h;cases e:lg xs.length i with
 | none=>rw[e] at h;cases h
 | some j=>rw[e] at h;let⟨h1,h2,h3,h4⟩:=rY e;show#[j,h1,h,h2,h3,h4]
def eT {α:Type}{xs:Fm α}{j:Nat}{v:α}(h:xs[j]? =some v):fL xs (j:Int)=some v:=by
 have hj:j<xs.length:=(aZ.mp h).1;have e:lg xs.length (j:Int)=some j:=by unfold lg;rw[am ∅,am ∅];simp
 unfold fL;rw[e];show h
def zj (b:Expr):Prop:= ∀o i,subscripted b false o i=operate [o,i] (getItem o i)
def Ds (X:Cx)(r:R2):Prop:=∀ (value slice:Expr) (aa:Fm (KQ×Obj)) (s:JZ) (σ:St) (H:Hp) (x y:V) (v u:Fp) (Q:VK),Inv X aa σ H s ->RelV x v ->RelV y u ->r x y H Q ->subscripted slice false v u=operate [v,u] (getItem v u) ->wpAny (model X.prog X.w) X.A (subscriptTail value slice v u) (EP X aa σ Q) X.xe s
def AH (X:Cx)(id:String)(r:V ->Fm V ->Hp ->VK ->Prop):Prop:=∀ (aa:Fm (KQ×Obj)) (s:JZ) (σ:St) (H:Hp) (x:V) (xs:Fm V) (v:Fp) (us:Fm Fp) (Q:VK),Inv X aa σ H s ->RelV x v ->b0 xs us ->r x xs H Q ->wpAny (model X.prog X.w) X.A (call (.builtin id) (v::us)) (EP X aa σ Q) X.xe s
section
variable {X:Cx}{a b:Expr}{ta tb:TE}{pos:Pos}
def b7 {r:R2}(hr:Ds X r)(ha:PE X a ta)(hb:PE X b tb)(hs:zj b):PE X (.Subscript a b pos) (Ej r ta tb):=by intro aa s σ H Q I h;show Subscript_ (CI ha hb I h λv u s2 x y H2 I2 rx ry q=>hr a b aa s2 σ H2 x y v u Q I2 rx ry q (hs _ _))
def Bo (K:KW):R2:=λx y H Q=>i6 λp xs i v=>dW (x= .ref p) (y= .int i) (dw K H p xs) (fL xs i=some v) (Q v H)
def Bn (K:KW):R2:=λx y H Q=>i6 λp xs i v=>dW (x= .ref p) (y= .int i) (gw K H p xs) (fL xs i=some v) (Q v H)
def EF:R2:=λx y H Q=>fE λz i c=>dW (x= .str z) (y= .int i) (z.length<=sizeLine) (fL z.cps.toList i=some c) (Q (.str ⟨#[c]⟩) H)
def cH:Ds X (Bo X.K):=by
 intro value slice aa s σ H x y v u Q I rx ry h hs;let⟨p,xs,i,z,rfl,rfl,hq,he,q⟩:=h;cases rx;let⟨t,rfl⟩:=ry;let⟨bq,r,pl,hz⟩:=I.list hq;let⟨j,h1,h2,h3,h4,h5⟩:=nL he;let⟨w,ew,og⟩:=r.get h2;have hl:=r.length;have hn:=gL;have fin:EP X aa σ Q w s:=#[z,H,I,og,q]
 by_cases h0:0<=i;have hj:i.toNat=j:=by rw[seqIndex_of h0 h5] at h1;show aW h1
 show item_listR pl.isList h0 ∅ (by rw[hj];simpa using ew) fin hs;have hj:(i+(bq.toArray.size:Int)).toNat=j:=by rw[seqIndex_neg ∅ h4] at h1;rw[aE, <- hl];show aW h1
 show subscriptTail_builtinR (x:=w) pl.isList.typeIs slot_list_getitem.lookup (wpAny_getItem_list_neg (Q:=λr s'=>r=w /\ EP X aa σ Q r s') pl.isList ∅ (by rw[aE] <;>lia) ∅ (by rw[hj];simpa using ew) #[rfl,fin]) hs
def de:Ds X (Bn X.K):=by
 intro value slice aa s σ H x y v u Q I rx ry h hs;let⟨p,xs,i,z,rfl,rfl,hq,he,q⟩:=h;cases rx;let⟨t,rfl⟩:=ry;let⟨bq,r,pl,hz⟩:=I.tuple hq;let⟨j,h1,h2,h3,h4,h5⟩:=nL he;let⟨w,ew,og⟩:=r.get h2;have hl:=r.length;have hn:=gL;have fin:EP X aa σ Q w s:=#[z,H,I,og,q]
 show subscriptTail_builtinR (x:=w) pl.typeIs slot_tuple_getitem.lookup (getItem_tuple (j:=j) (Q:=λr s'=>r=w /\ EP X aa σ Q r s') pl ∅ ∅ (by rw[aE, <- hl];show h1) ⇑ew #[rfl,fin]) hs
def qw:Ds X EF:=by
 intro value slice aa s σ H x y v u Q I rx ry h hs;let⟨z,i,c,rfl,rfl,hz,he,q⟩:=h;let⟨t,rfl⟩:=rx;let⟨t',rfl⟩:=ry;let⟨j,h1,h2,h3,h4,h5⟩:=nL he;have hl:z.cps.toList.length=z.length:=by simp[Str.length]
 rw[hl] at h1 h4 h5;have hn:=gL;show tail_any (typeIs_str s z t) slot_str_getitem.lookup (getItem_str (c:=c) (by have e1:decide (i< -(2 ^ 63:Int))=false:=aK ∅;have e2:decide (i≥2 ^ 63)=false:=aK ∅;rw[e1,e2,Bool.or_false]) (by rw[h1];simpa using h2) #[.str ⟨#[c]⟩,H,I.tok _,#[_,rfl],q]) hs
def qh (bq:Fm Fp)(n j:Nat)(u:Fp):Obj.mapSeq (·.setIfInBounds j u) {cls:= .type "list",data:= .seq bq.toArray n}= {cls:= .type "list",data:= .seq (bq.set j u).toArray n}:=by simp[Obj.mapSeq]
def Inv.lst {aa:Fm (KQ×Obj)}{σ:St}{H:Hp}{s:JZ}{p:KQ}{xs:Fm V}(I:Inv X aa σ H s)(h:H p=some (.lst xs)): bU λ(bq:Fm Fp) (n:Nat)=>cJ (b0 xs bq) (s.heap.get? p=some {cls:= .type "list",data:= .seq bq.toArray n}) (xs.length<=sizeLine):=by let⟨z,bq,n,r,e⟩:=I.cI p _ h;show#[bq,n,r,e,z]
def Inv.BN {aa:Fm (KQ×Obj)}{σ:St}{H:Hp}{s:JZ}{p:KQ}{xs ys:Fm V}{bq its':Fm Fp}{n n':Nat}{f:Obj ->Obj}(I:Inv X aa σ H s)(h:H p=some (.lst xs)) (ho:s.heap.get? p=some {cls:= .type "list",data:= .seq bq.toArray n}) (hf:f {cls:= .type "list",data:= .seq bq.toArray n}= {cls:= .type "list",data:= .seq its'.toArray n'}) (r:b0 ys its') (hz:ys.length<=sizeLine) (t:Nat): Inv X aa σ (cU H p (.lst ys)) {s with heap:=s.heap.update p f,toks:=t}:=by
 have e:(s.heap.update p f).get? p=some {cls:= .type "list",data:= .seq its'.toArray n'}:=by rw[Heap.get?_update_self f ho (by rw[hf] <;>rfl),hf]
 exact I.write (x:=p) (e:=p) (by rw[h];trivial) (.inl rfl) (λb u hb q=>(Heap.get?_update_other _ _ (bY hb)).trans q) #[_,e] ?_;show#[hz,its',n',r,e]
def zU:V ->V ->V ->Hp ->(Hp ->Prop) ->Prop:=λo i v H Q=>i6 λp xs k j=>dW (o= .ref p) (i= .int k) (H p=some (.lst xs)) (lg xs.length k=some j) (Q (cU H p (.lst (xs.set j v))))
def dP:Gi X zU:=by
 intro aa s σ H o i v ov iv u Q I ro ri rv h;let⟨p,xs,k,j,rfl,rfl,hp,hj,q⟩:=h;cases ro;let⟨t,rfl⟩:=ri;let⟨bq,n,r,ho,hz⟩:=I.lst hp;let⟨h1,h2,h3,h4⟩:=rY hj;have hl:=r.length;have hn:=gL;have I':Inv X aa σ (cU H p (.lst (xs.set j v))) {s with heap:=s.heap.update p (Obj.mapSeq (·.setIfInBounds j u))}:=I.BN hp ho (qh bq n j u) (r.set rv j) (by rw[List.length_set];show hz) s.toks;by_cases h0:0<=k;have hk:k.toNat=j:=by rw[seqIndex_of h0 h4] at h1;show aW h1
 show W.ki_setAt ho h0 ∅ (by rw[aE, <- hl];show h4) (by rw[hk];show#[_,I',q]);have hk:(k+(bq.toArray.size:Int)).toNat=j:=by rw[seqIndex_neg ∅ h3] at h1;rw[aE, <- hl];show aW h1
 show W.ki_setBack ho ∅ (by rw[aE, <- hl];show h3) ∅ (by rw[hk];show#[_,I',q])
def mL (lo hi:KO Int)(n:Nat):(sliceBounds lo hi none n).1=((HT.jS n 0 lo:Nat):Int) /\ (sliceBounds lo hi none n).2.1=((HT.jS n n hi:Nat):Int) /\ (sliceBounds lo hi none n).2.2=1:=by
 exact#[?_,?_,rfl];cases lo with
 | none=>simp[sliceBounds,HT.jS]
 | some i=>simp![sliceBounds,HT.jS,Option.getD_none,show(1:Int) >0 by decide,bH];by_cases h:i<0;simp![h,bH] <;>lia;simp![h,a8] <;>lia
 cases hi with
 | none=>simp[sliceBounds,HT.jS]
 | some i=>simp![sliceBounds,HT.jS,Option.getD_none,show(1:Int) >0 by decide,bH];by_cases h:i<0;simp![h,bH] <;>lia;simp![h,a8] <;>lia
def kY (bq:Fm Fp)(lo hi:KO Int):slicePick bq.toArray lo hi none=((bq.drop (HT.jS bq.length 0 lo)).take (HT.jS bq.length bq.length hi - HT.jS bq.length 0 lo)).toArray:=by let⟨h1,h2,h3⟩:=mL lo hi bq.toArray.size;unfold slicePick;rw[h1,h2,h3];simp![sliceRange_one,pick_run,aE] <;>rfl
def EC (K:KW):V ->KO Int ->KO Int ->Hp ->VK ->Prop:=λx lo hi H Q=>bU λa xs=>cJ (x= .ref a) (dw K H a xs) (∀p,H p=none ->Q (.ref p) (cU H p (.lst (py xs lo hi))))
def q0:Lr X (EC X.K):=by intro aa s σ H x v vl vu lo hi sl Q I rx hs pl pu h;let⟨a,xs,rfl,hx,q⟩:=h;cases rx;let⟨bq,r,ht,hz⟩:=I.list hx;have dj:=r.length;exact#["list",_,slot_list_getitem.lookup,ht.isList.typeIs,?_];exact wpAny_getItem_list_slice ht.isList hs pl pu .none (by simp) ?_ (by rw[aE] <;>lia);rw[kY, <- dj];exact#[.ref s.heap.objs.size,_,I.laid (t':=s.toks) (o:= .lst (py xs lo hi)) (λb ob q=>aw _ q) (ag _) ?_,rfl,q _ (I.cI.fresh (ag _))];show#[aD (px xs lo hi) hz,_,0,(r.drop (HT.jS xs.length 0 lo)).take (HT.jS xs.length xs.length hi - HT.jS xs.length 0 lo),aT _ rfl]
def gv:V ->Bool
 | .di=>true
 | .bl _=>true
 | .int _=>true
 | .str _=>true
 | _=>false
def uC:V ->V ->Bool
 | .di, .di=>true
 | .bl a, .bl b=>a==b
 | .bl a, .int b=>(if a then 1 else 0)==b
 | .int a, .bl b=>a==(if b then 1 else 0)
 | .int a, .int b=>a==b
 | .str a, .str b=>a==b
 | _,_=>false
def wJ {A:K2}{s:JZ}{y x:V}{u v:Fp}(ry:RelV y u)(rx:RelV x v)(fy:gv y=true)(fx:gv x=true):SeqAt.EqAt A s u v (uC y x):=by
 cases y with
 | di=>
  cases ry;cases x with
  | di=>cases rx;show SeqAt.EqAt.same _
  | bl b=>cases rx;show SeqAt.EqAt.none_bool b
  | int b=>let⟨t,rfl⟩:=rx;show SeqAt.EqAt.none_int b t
  | str b=>let⟨t,rfl⟩:=rx;show SeqAt.EqAt.none_str b t
  | _=>show absurd (show false=true from fx) aO
 | bl a=>
  cases ry;cases x with
  | di=>cases rx;show SeqAt.EqAt.bool_none a
  | bl b=>cases rx;show SeqAt.EqAt.bool_bool a b
  | int b=>let⟨t,rfl⟩:=rx;show SeqAt.EqAt.bool_int a b t
  | str b=>let⟨t,rfl⟩:=rx;show SeqAt.EqAt.bool_str a b t
  | _=>show absurd (show false=true from fx) aO
 | int a=>
  let⟨t',rfl⟩:=ry;cases x with
  | di=>cases rx;show SeqAt.EqAt.int_none a t'
  | bl b=>cases rx;show SeqAt.EqAt.int_bool a t' b
  | int b=>let⟨t,rfl⟩:=rx;show SeqAt.EqAt.int_int a t' b t
  | str b=>let⟨t,rfl⟩:=rx;show SeqAt.EqAt.int_str a t' b t
  | _=>show absurd (show false=true from fx) aO
 | str a=>
  let⟨t',rfl⟩:=ry;cases x with
  | di=>cases rx;show SeqAt.EqAt.str_none a t'
  | bl b=>cases rx;show SeqAt.EqAt.str_bool a t' b
  | int b=>let⟨t,rfl⟩:=rx;show SeqAt.EqAt.str_int a t' b t
  | str b=>let⟨t,rfl⟩:=rx;show SeqAt.EqAt.str_str a t' b t
  | _=>show absurd (show false=true from fx) aO
 | _=>show absurd (show false=true from fy) aO
def zd (x:V)(u:Fp):Bool:=match u with
 | .none=>uC .di x
 | .bool b=>uC (.bl b) x
 | .int i _=>uC (.int i) x
 | .str z _=>uC (.str z) x
 | _=>false
def wH {x y:V}{u:Fp}(r:RelV y u)(f:gv y=true):zd x u=uC y x:=by
 cases y with
 | di=>cases r;rfl
 | bl b=>cases r;rfl
 | int i=>let⟨t,rfl⟩:=r;rfl
 | str z=>let⟨t,rfl⟩:=r;rfl
 | _=>show absurd (show false=true from f) aO
theorem nM {x:V}: ∀ {xs:Fm V} {us:Fm Fp},b0 xs us ->xs.all gv=true ->us.any (zd x)=xs.any λy=>uC y x
 | _,_, .nil,_=>rfl
 | y::xs,u::us, .cons r t,f=>by rw[List.all_cons,Bool.and_eq_true] at f;rw[List.any_cons,List.any_cons,wH r f.1,nM t f.2]
theorem kf {A:K2}{s:JZ}{x:V}{v:Fp}(rx:RelV x v)(fx:gv x=true): ∀ {xs:Fm V} {us:Fm Fp},b0 xs us ->xs.all gv=true -> ∀u∈us,SeqAt.EqAt A s u v (zd x u)
 | _,_, .nil,_=>λu hu=>by cases hu
 | y::xs,u::us, .cons r t,f=>λu' hu=>by rw[List.all_cons,Bool.and_eq_true] at f;obtain rfl | hu:=az.mp hu;rw[wH r f.1];show wJ r rx f.1 fx;show kf rx fx t f.2 u' hu
def Fn (x:V)(xs:Fm V):Bool:=xs.any λy=>uC y x
def Mj (K:KW)(neg:Bool):R2:=λx y H Q=>bU λp xs=>dW (y= .ref p) (dw K H p xs \/ gw K H p xs) (gv x=true) (xs.all gv=true) (Q (.bl (if neg then !Fn x xs else Fn x xs)) H)
def m8:iB X (compareOp .NotIn) (Mj X.K true):=by intro aa s σ H x y v u Q I rx ry h;let⟨p,xs,rfl,hq,fx,fs,q⟩:=h;cases ry;obtain hq | hq:=hq;let⟨bq,r,pl,hz⟩:=I.list hq;exact SeqAt.notIn_listAt (zd x) pl.isList (λw hw=>kf rx fx r fs w ⇑hw) #[.bl _,H,I,rfl,?_];rw[show bq.toArray.any (zd x)=bq.any (zd x) by simp,nM r fs];show q;let⟨bq,r,pl,hz⟩:=I.tuple hq;exact SeqAt.notIn_tupleAt (zd x) pl (λw hw=>kf rx fx r fs w ⇑hw) #[.bl _,H,I,rfl,?_];rw[show bq.toArray.any (zd x)=bq.any (zd x) by simp,nM r fs];show q
def m7:iB X (compareOp .NotIn) (λx y H Q=>bU λi j=>cJ (x= .str i) (y= .str j) (Q (.bl (!(!(Builtin.Str.occurrences j i 0 j.length 1).isEmpty))) H)):=by intro aa s σ H x y v u Q I rx ry h;let⟨i,j,rfl,rfl,q⟩:=h;let⟨t,rfl⟩:=rx;let⟨t',rfl⟩:=ry;show notIn_str #[.bl _,H,I,rfl,q]
def nH:dn X (.builtin "len") (λxs H Q=>bU λp ys=>cJ (xs= [.ref p]) (dw X.K H p ys \/ gw X.K H p ys) (Q (.int ys.length) H)):=by intro aa s σ H xs us Q I r h;let⟨p,ys,rfl,hq,q⟩:=h;let⟨u,rfl,rx⟩:=vals1 r;cases rx;have hn:=gL;obtain hq | hq:=hq;let⟨bq,r',pl,hz⟩:=I.list hq;have dj:=r'.length;show Calls.call_len_list pl.isList (by simp![aE] <;>lia) #[.int ys.length,H,I.tok _,#[s.toks+1,by rw[aE,dj]],q];let⟨bq,r',pl,hz⟩:=I.tuple hq;have dj:=r'.length;show len_tuple pl (by simp![aE] <;>lia) #[.int ys.length,H,I.tok _,#[s.toks+1,by rw[aE,dj]],q]
def nG:dn X (.builtin "len") (λxs H Q=> ∃z,cJ (xs= [.str z]) (z.length<=sizeLine) (Q (.int z.length) H)):=by intro aa s σ H xs us Q I r h;let⟨z,rfl,hz,q⟩:=h;let⟨u,rfl,t,rfl⟩:=vals1 r;have hn:=gL;show len_str ∅ #[.int z.length,H,I.tok _,#[_,rfl],q]
def nF:dn X (.type "list") (λxs H Q=>bU λp ys=>cJ (xs= [.ref p]) (dw X.K H p ys \/ gw X.K H p ys) (∀l,H l=none ->Q (.ref l) (cU H l (.lst ys)))):=by
 intro aa s σ H xs us Q I r h;let⟨p,ys,rfl,hq,q⟩:=h;let⟨u,rfl,rx⟩:=vals1 r;cases rx;have fin: ∀ (bq:Fm Fp),b0 ys bq ->ys.length<=sizeLine -> ∀ (h':K0) (c':Nat),(∀b o',s.heap.get? b=some o' ->h'.get? b=some o') ->h'.get? s.heap.objs.size=some {cls:= .type "list",dict:=none,data:= .seq bq.toArray c',slots:= #[]} ->EP X aa σ Q (.ref s.heap.objs.size) {s with heap:=h'}:=λbq r' hz h' c' kp e=>#[.ref s.heap.objs.size,_,I.laid (t':=s.toks) kp (ag _) (show cV X.prog X.w _ h' _ (.lst ys) from#[hz,bq,c',r',e]),rfl,q _ (I.cI.fresh (ag _))]
 obtain hq | hq:=hq;let⟨bq,r',pl,hz⟩:=I.list hq;have dj:=r'.length;let⟨o,ho,hc,n,hd⟩:=pl.isList;show call_list_seq p (.inl rfl) ho hc hd (λh' c' kp e=>fin bq r' hz h' c' kp e) (by simp![aE] <;>lia);let⟨bq,r',pl,hz⟩:=I.tuple hq;have dj:=r'.length;let⟨o,ho,hc,n,hd⟩:=pl;show call_list_seq p (.inr rfl) ho hc hd (λh' c' kp e=>fin bq r' hz h' c' kp e) (by simp![aE] <;>lia)
def ll:dn X (.type "tuple") (λxs H Q=>bU λp ys=>xs= [.ref p] /\ ((dw X.K H p ys /\ ∀l,H l=none ->Q (.ref l) (cU H l (.tup ys))) \/ (gw X.K H p ys /\ Q (.ref p) H))):=by
 intro aa s σ H xs us Q I r h;let⟨p,ys,rfl,h⟩:=h;let⟨u,rfl,rx⟩:=vals1 r;cases rx;rcases h with⟨hq,q⟩ | ⟨hq,q⟩
 let⟨bq,r',pl,hz⟩:=I.list hq;have dj:=r'.length;exact call_tuple_list pl.isList (λh' kp=> ?_) (by simp![aE] <;>lia);have I1:Inv X aa σ H {s with heap:=h'}:=I.kept (t':=s.toks) kp;have I2:Inv X aa σ (cU H h'.objs.size (.tup ys)) {s with heap:=h'.push {cls:= .type "tuple",data:= .seq bq.toArray}}:=I1.laid (t':=s.toks) (λb o e=>aw _ e) (ag _) (show cV X.prog X.w _ _ _ (.tup ys) from#[hz,bq,r',ln.new _ _]);show#[.ref h'.objs.size,_,I2,rfl,q _ (I1.cI.fresh (ag _))];let⟨bq,r',pl,hz⟩:=I.tuple hq;show call_tuple_same pl #[.ref p,H,I,rfl,q]
def Jc (K:KW)(T:String)(x:V)(H:Hp):Prop:=match x with
 | .str _=>T= "str"
 | .int _=>T= "int"
 | .ref p=>(T= "list" /\ ∃xs,dw K H p xs) \/ (T= "tuple" /\ ∃o,cJ (K.lookup p=some o) (o.cls= .type "tuple") (o.dict=none)) \/(T= "dict" /\ ((∃kvs,H p=some (.dK kvs)) \/ ∃kvs,H p=some (.dT kvs))) \/ (T= "set" /\ ∃S n,H p=some (.set S n))
 | _=>False
def A2 {aa:Fm (KQ×Obj)}{σ:St}{H:Hp}{s:JZ}{T:String}{x:V}{v:Fp}(I:Inv X aa σ H s)(r:RelV x v)(ty:Jc X.K T x H): s.TypeIs v T /\ ∀a,v= .ref a -> ∃ob,s.heap.get? a=some ob /\ ob.dict=none:=by
 cases x with
 | str z=>let⟨t,rfl⟩:=r;cases (show T= "str" from ty);show#[typeIs_str s z t,λ_ e=>nomatch e]
 | int i=>let⟨t,rfl⟩:=r;cases (show T= "int" from ty);show#[typeIs_int s i t,λ_ e=>nomatch e]
 | ref p =>
  cases r;rcases ty with⟨rfl,xs,hq⟩ | ⟨rfl,o,hk,hc,hd⟩ | ⟨rfl,hk⟩ | ⟨rfl,S,n,hk⟩
  let⟨bq,_,pl,_⟩:=I.list hq;exact#[pl.isList.typeIs,λa e=> ?_];cases e;let⟨o,n,e,c,hd,_⟩:=pl;show#[o,e,hd];exact#[#[o,I.kl p o hk,hc],λa e=> ?_];cases e;show#[o,I.kl _ o hk,hd];have z: ∃o,s.heap.get? p=some o /\ o.ExactDict:=by
   rcases hk with⟨kvs,hk⟩ | ⟨kvs,hk⟩
   let⟨_,_,_,_,o,_,_,e,ex,_⟩:=I.cI p _ hk;show#[o,e,ex];let⟨_,_,_,_,o,_,_,e,ex,_⟩:=I.cI p _ hk;show#[o,e,ex]
  let⟨o,e,ex⟩:=z;exact#[#[o,e,ex.1],λa e2=> ?_];cases e2;show#[o,e,ex.2.1];let⟨o,_,_,_,e,ex,_⟩:=I.cI p _ hk;exact#[#[o,e,ex.1],λa e2=> ?_];cases e2;show#[o,e,ex.2.1]
 | _=>show False.elim ty
def Jf (K:KW)(T:String)(r:V ->Fm V ->Hp ->VK ->Prop)(to:TE)(t:TA):TE:=λσ H Q=>to σ H λx H1=>Jc K T x H1 /\ t σ H1 λxs H2=>r x xs H2 Q
variable {o e:Expr}{es:Fm Expr}{to:TE}{t:TA}{name:Str}{kP dH:Pos}{T id:String}{r:V ->Fm V ->Hp ->VK ->Prop}
def fg (pa:PlainAttrs T)(slot:Slot T name id)(Oq:typeOf (.builtin id)=pure (.type "method_descriptor"))(hm:AH X id r)(ho:PE X o to)(ha:PA X (e::es) t) (FW:attributeBase o name X.env (eval o X.env)=eval o X.env:=by rfl) (Kw:((backTo dH (starEach (e::es) X.env)).all (λx=> !x.1) && (backToKw dH (keywordEach [] X.env)).all (λx=>x.1.isSome) && decide ((e::es).length+([]:Fm Keyword).length+(if([]:Fm Keyword).isEmpty then 0 else 1) <30))=true:=by rfl) (FH:(kP.endLine==dH.line)=true:=by rfl) (hs:starEach (e::es) X.env=(false,eval e X.env)::starEach es X.env:=by rfl) (B9:(backTo dH (starEach es X.env)).any (·.1)=false:=by rfl): PE X (.Call (.Attribute o name kP) (e::es) [] dH) (Jf X.K T r to t):=by intro aa s σ H Q I h;exact wpAny_Call_method_late FW Kw FH rfl (cR (ho aa s σ H _ I h) λv s1 ⟨x,H1,I1,r1,ty,q1⟩=> ?_);let⟨h1,h2⟩:=A2 I1 r1 ty;exact#[T,id,pa,slot,Oq,h1,h2,?_];have hA:=ha dH aa s1 σ H1 _ I1 q1;rw[hs] at hA ⊢;exact Calls.callWith_builtin (by change(false || (backTo dH (starEach es X.env)).any (·.1))=false;rw[B9] <;>rfl) (Calls.evalArgs_plain ?_);show cR hA λus s2 ⟨vs,H2,I2,r2,q2⟩=>hm aa s2 σ H2 x vs v us Q I2 r1 r2 q2
end
def NK (X:Cx)(id:String)(r:V ->Fm V ->Hp ->VK ->Prop):Prop:=∀ (aa:Fm (KQ×Obj)) (s:JZ) (σ:St) (H:Hp) (x:V) (xs:Fm V) (v:Fp) (us:Fm Fp) (Q:VK),Inv X aa σ H s ->RelV x v ->b0 xs us ->r x xs H Q ->wpAny (model X.prog X.w) X.A (call (.builtin id) (v::us)) (EP X aa σ Q) X.xe s
def b0.one: ∀ {x:V} {us:Fm Fp},b0 [x] us -> ∃u,us= [u] /\ RelV x u :=by intro x us h;cases h with | cons r t=>cases t;show#[_,rfl,r]
section
variable {X:Cx}{aa:Fm (KQ×Obj)}{σ:St}{H:Hp}{s:JZ}{l b:KQ}{xs ys zs:Fm V}
def Inv.Fa {bq its':Fm Fp}{n:Nat}{f:KU Fp ->KU Fp}{t':Nat}(I:Inv X aa σ H s)(hH:H l=some (.lst xs)) (e:s.heap.get? l=some {cls:= .type "list",data:= .seq bq.toArray n}) (hf:f bq.toArray=its'.toArray) (hv:b0 ys its') (hz:ys.length<=sizeLine): Inv X aa σ (cU H l (.lst ys)) {s with heap:=s.heap.update l (Obj.mapSeq f),toks:=t'}:=by have q:=PySem.IsL.update e f;rw[hf] at q;exact I.write (x:=l) (e:=l) (by rw[hH];show trivial) (.inl rfl) (λb' u hb hu=>(Heap.get?_update_other s.heap (Obj.mapSeq f) (bY hb)).trans hu) #[_,q] ?_;show#[hz,its',_,hv,q]
def Inv.BO (I:Inv X aa σ H s)(hH:H l=some (.lst xs)):xs.length<=sizeLine /\ bU λ(bq:Fm Fp) (n:Nat)=>cJ (b0 xs bq) (xs.length=bq.length) (s.heap.get? l=some {cls:= .type "list",data:= .seq bq.toArray n}):=by let⟨z,bq,n,r,e⟩:=I.cI l _ hH;show#[z,bq,n,r,r.length,e]
def vG {n:Nat}(h:n<=sizeLine):Builtin.List.listTooLong n=false:=by unfold Builtin.List.listTooLong;show aK ∅
end
section
variable {X:Cx}
def rn:V ->Fm V ->Hp ->VK ->Prop:=λx vs H Q=>fE λl xs y=>dW (x= .ref l) (vs= [y]) (H l=some (.lst xs)) (xs.length<sizeLine) (Q .di (cU H l (.lst (xs++ [y]))))
def gf:NK X "list.append" rn:=by intro aa s σ H x vs v us Q I rx rv h;let⟨l,xs,y,rfl,rfl,hH,hz,q⟩:=h;cases rx;let⟨u,rfl,ru⟩:=rv.one;let⟨z,bq,n,r,hl,e⟩:=I.BO hH;exact call_meets F.slot_list_append #[_,e,rfl] F.entry_list_append (F.args_list_append_2 _ _) (PySem.list_append l bq.toArray n u (by rw[aE];lia)) #[e,?_];exact#[.di,_,I.Fa (its':=bq++ [u]) hH e (by simp) (r.append (.cons ru .nil)) ?_,rfl,q];rw[aN,List.length_singleton];lia
def rm:V ->Fm V ->Hp ->VK ->Prop:=λx vs H Q=>i6 λl b xs zs=>pD (x= .ref l) (vs= [.ref b]) (H l=some (.lst xs)) (H b=some (.lst zs)) (xs.length+zs.length<=sizeLine) (Q .di (cU H l (.lst (xs++zs))))
def tE:NK X "list.extend" rm:=by
 intro aa s σ H x vs v us Q I rx rv h;let⟨l,b,xs,zs,rfl,rfl,hH,hB,hz,q⟩:=h;cases rx;let⟨u,rfl,ru⟩:=rv.one;cases ru;let⟨z,bq,n,r,hl,e⟩:=I.BO hH;let⟨z2,yN,n2,r2,Nc,e2⟩:=I.BO hB;have hsz:bq.toArray.size+yN.toArray.size<=sizeLine:=by rw[aE,aE];lia
 have FF:¬(!bq.toArray.isEmpty && Builtin.List.listTooLong (bq.toArray.size+yN.toArray.size))=true:=by rw[vG hsz,Bool.and_false];show aO
 exact call_meets F.slot_list_extend #[_,e,rfl] F.entry_list_extend (F.args_list_extend_2 _ _) (AutoSeq1.list_extend_list_list_0 l bq.toArray n b yN.toArray n2 FF (by rw[aE];lia) ∅) #[e,e2,?_];exact#[.di,_,I.Fa (its':=bq++yN) hH e (by simp) (r.append r2) ?_,rfl,q];rw[aN];lia
end
section
variable {κ:Type} [DecidableEq κ]
def gz (kvs:Fm (κ×V))(k:κ):KO V:=(kvs.find? λkv=>decide (kv.1=k)).map (·.2)
def gm (kvs:Fm (κ×V))(k:κ)(v:V):Fm (κ×V):=if(kvs.any λkv=>decide (kv.1=k))=true then kvs.map (λkv=>if kv.1=k then(kv.1,v) else kv) else kvs++ [(k,v)]
def jH {p:κ×V}{r:Fm (κ×V)}{k:κ}(e:p.1=k):gz (p::r) k=some p.2:=by simp[gz,List.find?_cons,e]
def jI {p:κ×V}{r:Fm (κ×V)}{k:κ}(e:¬p.1=k):gz (p::r) k=gz r k:=by simp[gz,List.find?_cons,e]
theorem nW (k:κ): ∀kvs:Fm (κ×V),(kvs.any λkv=>decide (kv.1=k))=(gz kvs k).isSome
 | []=>rfl
 | p::r=>by rw[List.any_cons];by_cases e:p.1=k;simp![jH e,bo e,Bool.true_or,Option.isSome_some];rw[jI e,aK e,Bool.false_or];show nW k r
def je (kvs:Fm (κ×V))(k:κ)(v:V):(gm kvs k v).length<=kvs.length+1:=by unfold gm;split;rw[af];lia;rw[aN,bj,List.length_nil];lia
def i9.tR {o:KO V}{u:KO Fp}(r:i9 o u):o.isSome=u.isSome:=by
 cases o with
 | none=>cases u with
  | none=>rfl
  | some _=>show(show False from r).elim
 | some _=>cases u with
  | none=>show(show False from r).elim
  | some _=>rfl
def i9.getD {o:KO V}{u:KO Fp}{d:V}{d':Fp}(r:i9 o u)(rd:RelV d d'):RelV (o.getD d) (u.getD d'):=by
 cases o with
 | none=>cases u with
  | none=>show rd
  | some _=>show(show False from r).elim
 | some _=>cases u with
  | none=>show(show False from r).elim
  | some _=>show r
def KV.val {kvs:Fm (κ×V)}{vs:Fm (κ×Fp)}(r:KV kvs vs)(k:κ):i9 (gz kvs k) (valueAt vs k):=by
 unfold KV at r;induction r with
 | nil=>show True.intro
 | @cons p q ps qs h t ih=>
  let⟨h1,h2⟩:=h;by_cases e:p.1=k;have e':q.1=k:=h1.symm.trans e;have b:valueAt (q::qs) k=some q.2:=by simp[valueAt,List.find?_cons,e']
  rw[jH e,b];show h2;have e':¬q.1=k:=λz=>e (h1.trans z);have b:valueAt (q::qs) k=valueAt qs k:=by simp[valueAt,List.find?_cons,e']
  rw[jI e,b];show ih
def KV.any {kvs:Fm (κ×V)}{vs:Fm (κ×Fp)}(r:KV kvs vs)(k:κ):(kvs.any λkv=>decide (kv.1=k))=vs.any λkv=>decide (kv.1=k):=by
 unfold KV at r;induction r with
 | nil=>rfl
 | cons h t ih=>rw[List.any_cons,List.any_cons,ih,h.1]
def KV.Bl {kvs:Fm (κ×V)}{vs:Fm (κ×Fp)}(r:KV kvs vs)(k:κ){y:V}{u:Fp}(ry:RelV y u): KV (kvs.map λkv=>if kv.1=k then(kv.1,y) else kv) (vs.map λkv=>if kv.1=k then(kv.1,u) else kv):=by
 unfold KV at r ⊢;induction r with
 | nil=>show .nil
 | @cons p q ps qs h t ih=>rw[aC,aC];exact .cons ?_ ih;let⟨h1,h2⟩:=h;by_cases e:p.1=k;rw[am e,am (h1.symm.trans e)];show#[h1,ry];rw[ar e,ar (λz=>e (h1.trans z))];show#[h1,h2]
def KV.put {kvs:Fm (κ×V)}{vs:Fm (κ×Fp)}(r:KV kvs vs)(k:κ){y:V}{u:Fp}(ry:RelV y u):KV (gm kvs k y) (stored vs k u):=by unfold gm stored;rw[r.any k];by_cases e:(vs.any λkv=>decide (kv.1=k))=true;rw[am e,am e];show r.Bl k ry;rw[ar e,ar e];show Paired.snoc r #[rfl,ry]
def KV.keys {kvs:Fm (κ×V)}{vs:Fm (κ×Fp)}(r:KV kvs vs):kvs.map (·.1)=vs.map (·.1):=by
 unfold KV at r;induction r with
 | nil=>rfl
 | cons h t ih=>rw[aC,aC,ih,h.1]
theorem KV.length {kvs:Fm (κ×V)}{vs:Fm (κ×Fp)}(r:KV kvs vs):kvs.length=vs.length:=Paired.length r
end
def rX {P:KY}{w:KZ}{k:cT}{u:Fp}(r:RelV (kV k) u):(cY P w).is k u=true:=by
 cases k with
 | inl i=>let⟨t,e⟩:=(show ∃t,u=Value.int i t from r);subst e;show oB P w i t
 | inr x=>let⟨t,e⟩:=(show ∃t,u=Value.str x t from r);subst e;show oA P w x t
theorem lR {P:KY}{w:KZ}: ∀ {ks:Fm cT} {us:Fm Fp},b0 (ks.map kV) us ->ItemsAre (cY P w) ks us
 | [],_,r=>by rw[List.map_nil] at r;cases r;show .nil
 | k::ks,_,r=>by
  rw[aC] at r;cases r with
  | cons h t=>show .cons (rX h) (lR t)
abbrev KT (H:Hp):Fm (Fm cT×V) ->Fm (Fm cT×KQ×Fp) ->Prop:=Paired λp q=>p.1=q.1 /\ H q.2.1=some (.tup (p.1.map kV)) /\ RelV p.2 q.2.2
def KT.val {H:Hp}{kvs:Fm (Fm cT×V)}{xs:Fm (Fm cT×KQ×Fp)}(r:KT H kvs xs)(k:Fm cT):i9 (gz kvs k) ((atKey xs k).map (·.2)):=by
 induction r with
 | nil=>show True.intro
 | @cons p q ps qs h t ih=>
  let⟨h1,_,h2⟩:=h;by_cases e:p.1=k;have e':q.1=k:=h1.symm.trans e;have b:atKey (q::qs) k=some q.2:=by simp[atKey,List.find?_cons,e']
  rw[jH e,b];show h2;have e':¬q.1=k:=λz=>e (h1.trans z);have b:atKey (q::qs) k=atKey qs k:=by simp[atKey,List.find?_cons,e']
  rw[jI e,b];show ih
def KT.Bl {H:Hp}{kvs:Fm (Fm cT×V)}{xs:Fm (Fm cT×KQ×Fp)}(r:KT H kvs xs)(k:Fm cT){y:V}{u:Fp}(ry:RelV y u): KT H (kvs.map λkv=>if kv.1=k then(kv.1,y) else kv) (xs.map (putAt k u)):=by
 induction r with
 | nil=>show .nil
 | @cons p q ps qs h t ih=>rw[aC,aC];exact .cons ?_ ih;let⟨h1,h2,h3⟩:=h;unfold putAt;by_cases e:p.1=k;rw[am e,am (h1.symm.trans e)];show#[h1,h2,ry];rw[ar e,ar (λz=>e (h1.trans z))];show#[h1,h2,h3]
def KT.put {H:Hp}{kvs:Fm (Fm cT×V)}{xs:Fm (Fm cT×KQ×Fp)}(r:KT H kvs xs)(k:Fm cT){b:KQ}{y:V}{u:Fp}(hb:H b=some (.tup (k.map kV)))(ry:RelV y u): KT H (gm kvs k y) (storedH xs k b u):=by
 have e:(kvs.any λkv=>decide (kv.1=k))=(atKey xs k).isSome:=by rw[nW,(r.val k).tR,Option.isSome_map]
 unfold gm storedH;rw[e];by_cases q:(atKey xs k).isSome=true;rw[am q,am q];show r.Bl k ry;rw[ar q,ar q];show Paired.snoc r #[rfl,hb,ry]
theorem KT.keeps {H H':Hp}{kvs:Fm (Fm cT×V)}{xs:Fm (Fm cT×KQ×Fp)}(r:KT H kvs xs)(ht: ∀b ys,H b=some (.tup ys) ->H' b=some (.tup ys)):KT H' kvs xs:=Paired.BL r λ_ _ z=>#[z.1,ht _ _ z.2.1,z.2.2]
section
variable {P:KY}{w:KZ}{H:Hp}{h:K0}{a:KQ}
theorem zS {u:HO}(ok:fM P w H h)(e:Rd H a u):cV P w H h a u:=e.ok ok
theorem o9 {kvs:Fm (cT×V)}(ok:fM P w H h)(e:Rd H a (.dK kvs)):kvs.length<=sizeLine /\ (a==sysModules)=false /\ ∃vs,KV kvs vs /\ h.DictOf (cY P w) a vs:=
 show cV P w H h a (.dK kvs) from zS ok e
theorem Ay {kvs:Fm (cT×V)}(ok:fM P w H h)(e:H a=some (.dK kvs)):kvs.length<=sizeLine /\ (a==sysModules)=false /\ ∃vs,KV kvs vs /\ h.DictOf (cY P w) a vs:=o9 ok (.inl e)
def nk {ks:Fm cT}(ok:fM P w H h)(e:H a=some (.tup (ks.map kV))):(tupleKind (cY P w)).is h ks a:=by
 let⟨_,bq,r,o,h1,h2,n,h3,_⟩:=(show cV P w H h a (.tup (ks.map kV)) from ok a _ e)
 show#[o,bq.toArray,n,h1,h2,h3, ⇑(lR r)]
def o8 {kvs:Fm (Fm cT×V)}(ok:fM P w H h)(e:Rd H a (.dT kvs)):kvs.length<=sizeLine /\ (a==sysModules)=false /\∃xs,KT H kvs xs /\ h.DictOfH (tupleKind (cY P w)) a xs:=by
 let⟨z,y,xs,r,o,es,ep,h1,h2,h3,h4,h5⟩:=(show cV P w H h a (.dT kvs) from zS ok e)
 exact#[z,y,xs,r,o,es,ep,h1,h2,h3,h4,λx hx=> ?_,h5];have all: ∀ {l:Fm (Fm cT×V)} {m:Fm (Fm cT×KQ×Fp)},KT H l m -> ∀x∈m,(tupleKind (cY P w)).is h x.1 x.2.1:=by
  intro l m q;induction q with
  | nil=>intro x hx;show nomatch hx
  | @cons p q ps qs hq t ih=>intro x hx;obtain e | hx:=az.mp hx;subst e;show nk ok (by rw[<- hq.1];show hq.2.1);show ih x hx
 show all r x hx
theorem F9 {kvs:Fm (Fm cT×V)}(ok:fM P w H h)(e:H a=some (.dT kvs)):kvs.length<=sizeLine /\ (a==sysModules)=false /\∃xs,KT H kvs xs /\ h.DictOfH (tupleKind (cY P w)) a xs:=o8 ok (.inl e)
end
def nO (H:Hp)(a:KQ)(y:V)(r:KO V):Prop:=(bU λkvs k=>cJ (Rd H a (.dK kvs)) (y=kV k) (r=gz kvs k)) \/ fE λkvs k b=>dN (Rd H a (.dT kvs)) (y= .ref b) (H b=some (.tup (k.map kV))) (r=gz kvs k)
def xq (H:Hp)(a:KQ)(y v:V)(H':Hp):Prop:=(bU λkvs k=>dN (H a=some (.dK kvs)) (y=kV k) (kvs.length<sizeLine) (H'=cU H a (.dK (gm kvs k v)))) \/fE λkvs k b=>dW (H a=some (.dT kvs)) (y= .ref b) (H b=some (.tup (k.map kV))) (kvs.length<sizeLine) (H'=cU H a (.dT (gm kvs k v)))
theorem nO.k {H:Hp}{a:KQ}{kvs:Fm (cT×V)}{k:cT}(e:H a=some (.dK kvs)):nO H a (kV k) (gz kvs k):= .inl #[kvs,k, .inl e,rfl,rfl]
theorem xq.k {H:Hp}{a:KQ}{kvs:Fm (cT×V)}{k:cT}{v:V}(e:H a=some (.dK kvs))(hl:kvs.length<sizeLine):xq H a (kV k) v (cU H a (.dK (gm kvs k v))):= .inl #[kvs,k,e,rfl,hl,rfl]
section
variable {X:Cx}{aa:Fm (KQ×Obj)}{σ:St}{H:Hp}{s:JZ}{a:KQ}{y v:V}{u r:Fp}{o:KO V}{A:K2}{E:Fp ->JZ ->Prop}
def Inv.big (I:Inv X aa σ H s):sysModules<s.heap.objs.size:=by have h:mainGlobals<s.heap.objs.size:=(I.mod.glob.keeps I.bk).lt;show Nat.lt_trans ⋯ h
def ua {Q:Fp ->JZ ->Prop}(hu:A.units+1<cLine)(I:Inv X aa σ H s)(g:nO H a y (some v))(ry:RelV y u)(h: ∀w' s',Inv X aa σ H s' ->RelV v w' ->Q w' s'): wpAny (model X.prog X.w) A (getItem (.ref a) u) Q E s:=by
 rcases g with⟨kvs,k,e,ey,l⟩ | ⟨kvs,k,b,e,ey,eb,l⟩
 subst ey;let⟨z,hd,vs,mR,dd⟩:=o9 I.cI e;let⟨w',hw,og⟩:=i9.some_of (v:=v) (o:=valueAt vs k) (by rw[l];show mR.val k);show wpAny_getItem_of (rX ry) dd.mapOf hw (h w' _ (I.tok _) og);subst ey;cases (show u=Value.ref b from ry);let⟨z,hd,xs,mR,dd⟩:=o8 I.cI e;let⟨w',hw,og⟩:=i9.some_of (v:=v) (o:=(atKey xs k).map (·.2)) (by rw[l];show mR.val k);let⟨p,hp,MT⟩:=Option.map_eq_some_iff.mp hw;exact wpAny_getItem_heap (tupleKind_room_in1 hu) (nk I.cI eb) dd hp ?_;rw[MT];show h w' _ (I.tok _) og
theorem sA {h':K0}{t':Nat}{ob:HO}(I:Inv X aa σ H s)(mu:Gm (H a))(hs:Heap.SameBut a s.heap h')(he: ∃q,h'.get? a=some q)(new:cV X.prog X.w (cU H a ob) h' a ob): Inv X aa σ (cU H a ob) {s with heap:=h',toks:=t'}:=I.write (x:=a) (e:=a) mu (.inl rfl) (λb q hb z=>(hs.2 b hb).trans z) he new
theorem CD {P:KY}{w:KZ}{H':Hp}{h':K0}{kvs:Fm (cT×V)}{vs:Fm (cT×Fp)}(z:kvs.length<=sizeLine)(hd:(a==sysModules)=false)(mR:KV kvs vs)(dd:h'.DictOf (cY P w) a vs): cV P w H' h' a (.dK kvs):=#[z,hd,vs,mR,dd]
def t_ {H':Hp}{Q:Unit ->JZ ->Prop}(hu:A.units+1<cLine)(I:Inv X aa σ H s)(g:xq H a y v H')(ry:RelV y u)(rv:RelV v r)(h: ∀s',Inv X aa σ H' s' ->Q () s'): wpAny (model X.prog X.w) A (setItem (.ref a) u r) Q E s:=by
 rcases g with⟨kvs,k,e,ey,l,eH⟩ | ⟨kvs,k,b,e,ey,eb,l,eH⟩
 subst ey eH;let⟨z,hd,vs,mR,dd⟩:=Ay I.cI e;have hz:vs.length<=sizeLine:=by rw[<- mR.length];show z
 have hl:(gm kvs k v).length<=sizeLine:=by have:=je kvs k v;lia
 exact wpAny_setItem_pairs (hsz:=hz) (rX ry) dd λh' HI hs=>h _ ?_;have he: ∃q,h'.get? a=some q:=let ⟨q,_,_,hq,_⟩:=HI;#[q,hq]
 show sA I (by rw[e];show True.intro) hs he (CD hl hd (mR.put k rv) HI);subst ey eH;cases (show u=Value.ref b from ry);let⟨z,hd,xs,mR,dd⟩:=F9 I.cI e;have hz:xs.length<=sizeLine:=by rw[<- Paired.length mR];show z
 have hl:(gm kvs k v).length<=sizeLine:=by have:=je kvs k v;lia
 exact wpAny_setItem_heap (hsz:=hz) (tupleKind_room_in1 hu) (nk I.cI eb) dd λh' HI hs=>h _ ?_;let⟨q,es,ep,hq,h2,h3,h4,_,h5⟩:=HI;exact sA I (by rw[e];show True.intro) hs #[q,hq] #[hl,hd,_,(mR.put k eb rv).keeps λc ys ec=> ?_,q,es,ep,hq,h2,h3,h4,h5];rw[bP (E7 ec e (λz=>nomatch z))];show ec
end
def Gk (i:Expr):Prop:= ∀ov iv,subscripted i false ov iv=operate [ov,iv] (getItem ov iv)
def xV {prog:KY}{w:KZ}{A:K2}{E:Fp ->JZ ->Prop}{s:JZ}{env:Env}{value slice:Expr}{pos:Pos}{T id:String}{Q:Fp ->JZ ->Prop} (hl:typeLookup (.type T) "__getitem__" =pure (some (.builtin id))) (hs:Gk slice) (h:wpAny (model prog w) A (eval value env) (λo s₁=>wpAny (model prog w) A (eval slice env) (λi s₂=>s₂.TypeIs o T /\ wpAny (model prog w) A (getItem o i) Q E s₂) E s₁) E s): wpAny (model prog w) A (eval (.Subscript value slice pos) env) Q E s:=by
 exact Subscript_ (a6 h (λo s₁ h₁=>a6 h₁ (λi s₂ h₂=> ?_) λ_ _ x=>x) λ_ _ x=>x);let⟨hT,h₂⟩:=h₂;unfold subscriptTail;exact ak ?_;rw[getitemInPython_of_ne hT.not_modules];exact ak (wpAny_specialOf hT hl ?_);have fin:wpAny (model prog w) A (subscripted slice false o i) (λr s₃=>wpAny (model prog w) A (letTemporaryGo value o r >>=λ_=>pure r) Q E s₃) E s₂:=by rw[hs o i];show wpAny_operating (a6 h₂ (λr s₃ h₃=>ak (wpAny_letTemporaryGo (aX h₃))) λ_ _ x=>x)
 first
 | show aX (ak fin)
 | show ak (aX (ak fin))
 | show ak fin
def o_ {X:Cx}{aa:Fm (KQ×Obj)}{σ:St}{H:Hp}{s:JZ}{a:KQ}{y:V}{o:KO V}(I:Inv X aa σ H s)(g:nO H a y o):s.TypeIs (.ref a) "dict" :=by
 rcases g with⟨kvs,k,e,_,_⟩ | ⟨kvs,k,b,e,_,_,_⟩
 let⟨_,_,vs,_,dd⟩:=o9 I.cI e;show dd.typeIs;let⟨_,_,xs,_,dd⟩:=o8 I.cI e;show dd.typeIs
def zL (td ty:TE):TE:=λσ H Q=>td σ H λx H1=>ty σ H1 λy H2=>bU λa v=>cJ (x= .ref a) (nO H2 a y (some v)) (Q v H2)
def zR (td ty tv:TE):TS:=λD σ H=>tv σ H λv H1=>td σ H1 λx H2=>ty σ H2 λy H3=>bU λa H4=>cJ (x= .ref a) (xq H3 a y v H4) (D.nx σ H4)
section
variable {X:Cx}{o i e value:Expr}{pos eI Ec:Pos}{td ty tv:TE}
def rD (hu:X.A.units+1<cLine)(ho:PE X o td)(hi:PE X i ty)(hs:Gk i):PE X (.Subscript o i pos) (zL td ty):=by intro aa s σ H Q I h;exact xV PySem.F.slot_dict_getitem.lookup hs (cR (ho aa s σ H _ I h) λu s1 ⟨x,H1,I1,rx,q1⟩=>cR (hi aa s1 σ H1 _ I1 q1) λiv s2 ⟨y,H2,I2,ry,a,v,ex,g,q2⟩=> ?_);subst ex;obtain rfl:u=Value.ref a:=rx;show#[o_ I2 g,ua hu I2 g ry λw' s3 I3 og=>#[v,H2,I3,og,q2]]
def yk (hu:X.A.units+1<cLine)(ho:PE X o td)(hi:PE X i ty)(hv:PE X value tv)(hs:swapsWith value (some (.Subscript o i eI)) pos.line X.env=pure false): PS X (.Assign [.Subscript o i eI] value pos) (zR td ty tv):=by intro aa s σ H D I h;exact wpAny_Assign_Subscript (cR (hv aa s σ H _ I h) λr s1 ⟨v,H1,I1,rv,q1⟩=>cR (ho aa s1 σ H1 _ I1 q1) λu s2 ⟨x,H2,I2,rx,q2⟩=>cR (hi aa s2 σ H2 _ I2 q2) λiv s3 ⟨y,H3,I3,ry,a,H4,ex,g,q3⟩=> ?_) hs;subst ex;obtain rfl:u=Value.ref a:=rx;show t_ hu I3 g ry rv λs4 I4=>#[σ,H4,I4,q3]
end
theorem wL {P:KY}{w:KZ}{H:Hp}(h:K0)(hb:sysModules<h.objs.size):cV P w H (h.push {cls:= .type "dict",data:= .dict #[]}) h.objs.size (.dK []):=#[Nat.zero_le _,beq_eq_false_iff_ne.mpr (bY (aU hb)),[], .nil,Heap.DictOf.new h]
def uX:TE:=λ_ H Q=> ∀p,H p=none ->Q (.ref p) (cU H p (.dK []))
section
variable {X:Cx}{pos:Pos}
theorem vx:PE X (.Dict [] [] pos) uX:=λaa s σ H Q I h=>wpAny_Dict_empty #[.ref s.heap.objs.size,_,I.laid (a:=s.heap.objs.size) (o:= .dK []) (t':=s.toks) (λ_ _ q=>aw _ q) (ag _) (wL s.heap I.big),rfl,h _ (I.cI.fresh (ag _))]
end
structure M1 (X:Cx)(o:Expr)(m:Str)(kP:Pos)(e:Expr)(dH:Pos):Prop where
 base:attributeBase o m X.env (eval o X.env)=eval o X.env
 Ld:((backTo dH (starEach [e] X.env)).all (λx=> !x.1) && (backToKw dH (keywordEach [] X.env)).all (λx=>x.1.isSome) && decide (([e]:List Expr).length+([]:List Keyword).length+(if([]:List Keyword).isEmpty then 0 else 1) <30))=true
 line:(kP.endLine==dH.line)=true
 trees:backTo dH (starEach [e] X.env)= [(false,eval e X.env)]
structure M2 (X:Cx)(o:Expr)(m:Str)(kP:Pos)(e f:Expr)(dH:Pos):Prop where
 base:attributeBase o m X.env (eval o X.env)=eval o X.env
 Ld:((backTo dH (starEach [e,f] X.env)).all (λx=> !x.1) && (backToKw dH (keywordEach [] X.env)).all (λx=>x.1.isSome) && decide (([e,f]:List Expr).length+([]:List Keyword).length+(if([]:List Keyword).isEmpty then 0 else 1) <30))=true
 line:(kP.endLine==dH.line)=true
 trees:backTo dH (starEach [e,f] X.env)= [(false,eval e X.env),(false,eval f X.env)]
def NM (H:Hp)(a:KQ):Prop:=(∃kvs,Rd H a (.dK kvs)) \/ ∃kvs,Rd H a (.dT kvs)
def BX {X:Cx}{aa:Fm (KQ×Obj)}{σ:St}{H:Hp}{s:JZ}{a:KQ}(I:Inv X aa σ H s)(d:NM H a): s.TypeIs (.ref a) "dict" /\ (∀b,Value.ref a= .ref b -> ∃ob,s.heap.get? b=some ob /\ ob.dict=none) /\ (a==sysModules)=false:=by
 rcases d with⟨kvs,e⟩ | ⟨kvs,e⟩
 let⟨_,hd,vs,_,dd⟩:=o9 I.cI e;exact#[dd.typeIs,λb q=> ?_,hd];cases q;let⟨ob,_,_,h1,h2,_⟩:=dd;show#[ob,h1,h2.2.1];let⟨_,hd,xs,_,dd⟩:=o8 I.cI e;exact#[dd.typeIs,λb q=> ?_,hd];cases q;let⟨ob,_,_,h1,h2,_⟩:=dd;show#[ob,h1,h2.2.1]
section
variable {X:Cx}{aa:Fm (KQ×Obj)}{σ:St}{H:Hp}{s:JZ}{a:KQ}{y d:V}{u r:Fp}{o:KO V}{A:K2}{E:Fp ->JZ ->Prop}
def CF {Q:Fp ->JZ ->Prop}(hu:A.units+1<cLine)(I:Inv X aa σ H s)(g:nO H a y o)(ry:RelV y u)(rd:RelV d r)(h: ∀w' s',Inv X aa σ H s' ->RelV (o.getD d) w' ->Q w' s'): wpAny (model X.prog X.w) A (call (.builtin "dict.get") [.ref a,u,r]) Q E s:=by
 rcases g with⟨kvs,k,e,ey,l⟩ | ⟨kvs,k,b,e,ey,eb,l⟩
 subst ey;let⟨z,hd,vs,mR,dd⟩:=o9 I.cI e;exact call_meetsIn PySem.F.slot_dict_get dd.typeIs PySem.F.entry_dict_get (PySem.F.args_dict_get_3 _ _ _) (meets_dict_get_default (cY X.prog X.w) a (rX ry) hd r) #[_,dd.mapOf,h _ _ (I.tok _) ?_];rw[l];show(mR.val k).getD rd;subst ey;cases (show u=Value.ref b from ry);let⟨z,hd,xs,mR,dd⟩:=o8 I.cI e;exact call_meetsIn PySem.F.slot_dict_get dd.typeIs PySem.F.entry_dict_get (PySem.F.args_dict_get_3 _ _ _) (meetsH_dict_get_default (tupleKind (cY X.prog X.w)) a b hd r) #[tupleKind_room_in1 hu,k,xs,nk I.cI eb,dd,h _ _ (I.tok _) ?_];rw[l];show(mR.val k).getD rd
end
def uY (td ty tx:TE):TE:=λσ H Q=>td σ H λx H1=> ∃a,cJ (x= .ref a) (NM H1 a) (ty σ H1 λy H2=>tx σ H2 λz H3=> ∃o,nO H3 a y o /\ Q (o.getD z) H3)
section
variable {X:Cx}{o e f:Expr}{kP dH:Pos}{td ty tx:TE}
def vy (hu:X.A.units+1<cLine)(ho:PE X o td)(he:PE X e ty)(hf:PE X f tx)(m:M2 X o "get" kP e f dH):PE X (.Call (.Attribute o "get" kP) [e,f] [] dH) (uY td ty tx):=by intro aa s σ H Q I h;exact wpAny_Call_method m.base m.Ld m.line PySem.F.plainAttrs_dict PySem.F.slot_dict_get PySem.F.type_dict_get (cR (ho aa s σ H _ I h) λu s1 ⟨x,H1,I1,rx,a,ex,d,q1⟩=> ?_);subst ex;obtain rfl:u=Value.ref a:=rx;let⟨t1,t2,_⟩:=BX I1 d;exact#[t1,t2,?_];rw[m.trees];exact Calls.callWith_builtin rfl (Calls.evalArgs_plain (Calls.spliced_cons (cR (he aa s1 σ H1 _ I1 q1) λiv s2 ⟨y,H2,I2,ry,q2⟩=>Calls.spliced_cons (cR (hf aa s2 σ H2 _ I2 q2) λfv s3 ⟨z,H3,I3,rz,ov,g,q3⟩=>Calls.spliced_nil ?_))));show CF hu I3 g ry rz λw' s4 I4 og=>#[_,H3,I4,og,q3]
end
end L2
namespace NP
open PySem PySem.W PySem.Calls PyProof.Rows
def jo {P:Params}{h:K0}: ∀ (ns:Fm Int) (vs:Fm Fp),WellAll P h vs (ns.map WData.int) ->IntsAre vs ns:=by
 intro ns;induction ns with
 | nil=>intro vs w;rw[List.map_nil] at w;cases w;show .nil
 | cons n ns ih=>
  intro vs w;rw[aC] at w;cases w with
  | cons a b=>cases a;show .cons _ _ (ih _ b)
def sU {l:OpenLaw}{n:Nat}(hn:l.most=some n){P:Params}{h:K0}{args:Fm WData}{vals:Fm Fp} (yU:l.row.toRowW.claim.pre args=true) (qy:WellAll P h vals args): fE λa vs ns=>dW (vals= [Value.ref a]) (args= [WData.list (ns.map WData.int)]) (h.get? a=some {cls:= .type "list",data:= .seq vs.toArray}) (IntsAre vs ns) (ns.length<=n):=by
 have C':WShape.hasAll [] args [.list .int]=true:=(pre_splitW yU).1;have hc:l.pre.holds [] {args:=args}=true:=(pre_splitW yU).2;let⟨d,r,rfl,h1,h2⟩:=hasAllW_cons C';obtain rfl:=hasAllW_nil h2;let⟨xs,rfl,h3⟩:=hasW_list h1;let⟨ns,rfl⟩:=items_int h3;have dj:ns.length<=n:=by
  unfold OpenLaw.pre at hc;have h4:(WTm.not (.lt (.lit (.int (n:Int))) (.len (.arg 0)))).holds [] {args:= [.list (ns.map .int)]}=true:=by have h4:=(holds_andW hc).1;rw[hn] at h4;show h4
  have h5:=condW_of h4 (w_not (w_lt w_lit (w_len_list (w_arg rfl))));rw[af] at h5;exact Nat.le_of_not_lt λq=> ?_;have q':(n:Int) < ((ns.length:Nat):Int):= ∅;first
  | (rw[bo q'] at h5;show absurd h5 ⋯)
  | (simp at h5;lia)
 cases qy with
 | cons w1 w2=>
  cases w2;cases w1 with
  | list ho oN=>show#[_,_,ns,rfl,rfl,ho,jo ns _ oN,dj]
theorem sZ (l:OpenLaw)(args:Fm WData):l.row.toRowW.claim.post args (.bool true) args=true:=postW_of (r:=l.row.toRowW) (X:=(true==true)) (show WShape.has [] (.bool true) .bool=true by first | rfl | decide | simp[WShape.has,WShape.arms,WShape.armsAll]) (show(WTm.eq .res (.lit (.bool true))).value [] {args:=args,res:=some (.bool true),after:=args}=some (.bool (true==true)) from w_eq_bool (w_res rfl) w_lit) rfl
def pB {l:OpenLaw}{n:Nat}{q:KY}{jd:Fm Str}{XP:(Str ->KO Fp) ->K0 ->Prop}{YP:KZ ->K0 ->Prop}{d:DefRec} (hn:l.most=some n) (FR:d.params.defaults= []) (call: ∀ (w:KZ) (s₀ s₁:JZ) (mg mb:Str ->KO Fp) (fa:KQ) (o:Obj) (pm cd gU:Fp) (a:KQ) (vs:Fm Fp) (ns:Fm Int),Ground q jd [] XP w s₀ mg mb s₁.heap ->YP w s₁.heap ->s₁.heap.get? fa=some o ->o.data= .func (docDef d.name d.params d.body d.scope pm cd gU) ->s₁.heap.CodeRec cd d.name ->mg d.name=some (.ref fa) ->s₁.heap.get? a=some {cls:= .type "list",data:= .seq vs.toArray} ->IntsAre vs ns ->ns.length<=n ->s₁.gens= #[] ->codeAny (model l.prog w) callerA (.call (.ref fa) #[[.ref a],[]]) (λr s'=>r= .ok (.ret (.bool true)) /\ OldK s₁.heap s'.heap /\ s'.os=s₁.os /\ AllBare s'.gens) s₁): WalkO q jd XP YP l.row.toRowW d [] (λf vs=>PySem.call f vs):=by intro w s₀ s₁ mg mb G Y fa o pm cd gU dV kV ho hd si hD Ki hg args vals as yU OO Rv qy Ce;obtain rfl:dV= .none:=Dflts.none hD FR;obtain rfl:kV= .none:=Dflts.noKw hD;let⟨a,vs,ns,rfl,rfl,Ca,wu,dj⟩:=sU hn yU qy;exact enter_call (codeAny_mono (call w s₀ s₁ mg mb fa o pm cd gU a vs ns G Y ho (fd_plain hd) si Ki Ca wu dj hg) λr s' hq=> ?_);let⟨rfl,h2,h3,h4⟩:=hq;show#[.inl #[.bool true, .bool true,[],rfl,λ_=>rfl, .bool true,sZ l _,λ_=>#[List.Pairwise.nil,λ_ hm=>(nomatch hm)]],h2,h3,h4]
end NP
namespace L2
open PySem PySem.Spec PyProof.Rows
theorem iH: ∀ {vs:Fm Fp} {ns:Fm Int},IntsAre vs ns ->b0 (ns.map V.int) vs
 | _,_, .nil=> .nil
 | _,_, .cons n t h=> .cons #[t,rfl] (iH h)
def CP (H:Hp):Prop:= ∀b,H b=none \/ ∃o xs,H b=some (.oP o (.lst xs))
def vN {P:KY}{w:KZ}{K:KW}{mg mb:Str ->KO Fp}{CX:uv}{k:Nat}{fa a:KQ}{fd:FuncData}{x:Str}{sp:Sp}{s₁:JZ}{vs:Fm Fp}{ns:Fm Int} (KX:K.In s₁.heap) (Db:s₁.heap.Ns mainGlobals mg) (hb:s₁.heap.Ns builtinsNs mb) (O0: ∀x:Str,x≠ "__name__" ->mb x=bootBuiltins x) (Kk:s₁.heap.NoLimit) (hg:s₁.gens= #[]) (ha:s₁.heap.get? a=some {cls:= .type "list",data:= .seq vs.toArray}) (hi:IntsAre vs ns) (hl:ns.length<=sizeLine) (hr:dD k callerA) (F: ∀base:K0,K.In base ->base.Ns mainGlobals mg ->c_ P w K mg base CX k fa fd [x] sp) (FU: ∀ (s:JZ) (u:Fp),BindsTo s fd #[[u],[]] [(x,u)]) (tU: ∀H:Hp,CP H ->dw K H a (ns.map V.int) ->sp [.ref a] H (λv _=>v= .bl true) λ_ _ _=>False) (KN: ∀H e s',CX [] H s₁ (λ_ _ _=>False) e s' ->False): codeAny (model P w) callerA (.call (.ref fa) #[[.ref a],[]]) (λr s'=>r= .ok (.ret (.bool true)) /\ OldK s₁.heap s'.heap /\ s'.os=s₁.os /\ AllBare s'.gens) s₁:=by
 have rv:=iH hi;have JM:=hi.length;have core : ∀H:Hp,CP H ->dw K H a (ns.map V.int) ->fM P w H s₁.heap ->(∀b,H b≠none ->b=a) ->(H a≠none ->K.lookup a=none) ->codeAny (model P w) callerA (.call (.ref fa) #[[.ref a],[]]) (λr s'=>r= .ok (.ret (.bool true)) /\ OldK s₁.heap s'.heap /\ s'.os=s₁.os /\ AllBare s'.gens) s₁:=by
  intro H hO hS cI hA hK;have sG: ∀ {b:KQ} {o:Obj},s₁.heap.get? b=some o ->H b=none ->(nA s₁.heap H).get? b=some o:=λe n=>wv e n;have z8: ∀ {b:KQ} {o:Obj} {es:KU DictEntry} {ep:Nat},s₁.heap.get? b=some o ->o.data= .dict es ep ->H b=none:=λ{b o es ep} e d=>by
   cases q:H b with
   | none=>rfl
   | some u=>have e':b=a:=hA b (by rw[q];simp);subst e';rw[ha] at e;cases e;have d':Data.seq vs.toArray _=Data.dict es ep:=d;cases d'
  have Hh: ∀ {b:KQ} {m:Str ->KO Fp},s₁.heap.Ns b m ->(nA s₁.heap H).Ns b m:=λ{b m} ⟨o,es,ep,e,d,r⟩=>#[o,es,ep,sG e (z8 e d),d,r]
  have No:K.In (nA s₁.heap H):=λb o e=>sG (KX b o e) (by
   cases q:H b with
   | none=>rfl
   | some u=>have e':b=a:=hA b (by rw[q];simp);subst e';rw[hK (by rw[q];simp)] at e;cases e)
  have hM:Mod K mg (nA s₁.heap H):=#[No,Hh Db,#[mb,Hh hb,O0],let ⟨mc,h1,h2⟩:=Kk;#[mc,Hh h1,h2]]
  have e0:zm P w K mg (nA s₁.heap H) callerA [] s₁ H:=#[rfl,hM,λb o e=>yw e,Nat.le_of_eq (tY _ _),trivial,λb hb=>absurd (show b∈([]:Fm KQ) from hb) (by simp),cI, .of_eq hg]
  exact codeAny_mono ((F _ No (Hh Db)).run callerA [] s₁ H #[[.ref a],[]] [.ref a] [.ref a] _ _ hr e0 (FU s₁ (.ref a)) (.cons rfl .nil) (tU H hO hS)) λr s' h=> ?_;cases r with
  | error e=>show(KN H e s' h).elim
  | ok fl =>
   cases fl with
   | next=>show False.elim h
   | brk=>show False.elim h
   | cont=>show False.elim h
   | ret u=>
    let⟨v,H',os,bare,un,B_,r',q⟩:=h;have q':v= .bl true:=q;subst q';obtain rfl:u=Value.bool true:=r';exact#[rfl,OldK.of_keep λb o e=> ?_,os,bare];cases q:H b with
    | none=>show un.keep b o e q (by intro z;show absurd (show b∈([]:Fm KQ) from z) (by simp)) (by simp)
    | some u=>obtain z | ⟨ob,xs,z⟩:=hO b;rw[q] at z;cases z;have z2:=un.gp b ob _ z;let⟨e1,_⟩:=cI b _ z;let⟨e2,_⟩:=B_ b _ z2;rw[e] at e1;cases e1;show e2
 cases hk:K.lookup a with
 | some o=>have e:=KX a o hk;rw[ha] at e;cases e;exact core (λ_=>none) (λ_=> .inl rfl) (.inr #[_,vs.toArray,_,hk,rfl,rfl,rfl,by rw[aE,JM];show hl, ⇑rv]) (λb u z=>by have z':(none:KO HO)=some u:=z;cases z') (λb z=>absurd rfl z) λz=>absurd rfl z
 | none=>exact core (λb=>if b=a then some (.oP {cls:= .type "list",data:= .seq vs.toArray} (.lst (ns.map V.int))) else none) (λb=> ?_) (.inl (.inr #[{cls:= .type "list",data:= .seq vs.toArray},am rfl])) (λb u z=> ?_) (λb z=> ?_) λ_=>hk;by_cases hb:b=a;show .inr #[_,_,am hb];show .inl (ar hb);by_cases hb:b=a;have z':=(am hb).symm.trans z;cases z';subst hb;show#[ha,by rw[af];show hl,vs,_,rv,ha];have z':=(ar hb).symm.trans z;cases z';by_cases hb:b=a;show hb;show absurd (ar hb) z
def xN {l:W.OpenLaw}{n k:Nat}{q:KY}{jd:Fm Str}{XP:(Str ->KO Fp) ->K0 ->Prop}{YP:KZ ->K0 ->Prop}{d:DefRec}{K:Params ->KW}{CX:KZ ->uv}{sp:KZ ->Sp}{x:Str} (hn:l.most=some n) (Hv:n<=sizeLine) (FR:d.params.defaults= []) (hr:dD k callerA) (hY: ∀ (w:KZ) (h:K0),YP w h ->(K w.params).In h) (F : ∀ (w:KZ) (mg:Str ->KO Fp) (fa:KQ) (h:K0),(K w.params).In h ->h.Ns mainGlobals mg ->mg d.name=some (.ref fa) ->∃ fd:FuncData,(∀ (s:JZ) (u:Fp),BindsTo s fd #[[u],[]] [(x,u)]) /\∀base:K0,(K w.params).In base ->base.Ns mainGlobals mg ->c_ l.prog w (K w.params) mg base (CX w) k fa fd [x] (sp w)) (tU: ∀ (w:KZ) (H:Hp) (a:KQ) (ns:Fm Int),ns.length<=n ->CP H ->dw (K w.params) H a (ns.map V.int) ->sp w [.ref a] H (λv _=>v= .bl true) λ_ _ _=>False) (KN: ∀ (w:KZ) (H:Hp) (s:JZ) (e:Fp) (s':JZ),CX w [] H s (λ_ _ _=>False) e s' ->False): W.WalkO q jd XP YP l.row.toRowW d [] (λf vs=>PySem.call f vs):=by exact NP.pB hn FR λw s₀ s₁ mg mb fa o pm cd gU a vs ns G Y ho hd si Ki Ca wu dj hg=> ?_;have KX:=hY w _ Y;let⟨fd,hb,hF⟩:=F w mg fa _ KX G.T.g Ki;show vN KX G.T.g G.T.b G.T.builtins G.T.nolimit hg Ca wu (aD dj Hv) hr hF hb (λH hO hS=>tU w H a ns dj hO hS) λH e s'=>KN w H s₁ e s'
nonrec def eQ (s:Stmt):Arguments:=match s with
 | .FunctionDef _ a _ _ _ _ _ _ _ _=>a
 | _=> {posonlyargs:= [],args:= [],vararg:=none,kwonlyargs:= [],kw_defaults:= [],kwarg:=none,defaults:= []}
nonrec def dg (s:Stmt):Fm Stmt:=match s with
 | .FunctionDef _ _ b _ _ _ _ _ _ _=>b
 | _=> []
nonrec def aL (s:Stmt):Scope:=match s with
 | .FunctionDef _ _ _ _ _ _ sc _ _ _=>sc
 | _=> {kind:= .function,names:= [],isGenerator:=false,isCoroutine:=false}
abbrev gx:uv:=λ_ _ _ _ _ _=>False
abbrev E0:XK:=λ_ _ _=>False
theorem EQ {X:Cx}:gT gx X E0:=λ_ _ _ _ _ _ _ h=>h.elim
structure pF (K:PySem.W.Frag)(x qual:Str)(st:Stmt)(f:Addr)(fd:FuncData):Prop where
 ex:NF λ(oc:Value) (od:Option Addr) (kV gU pm:Value) (an:Option Addr) (cdv ct:Value)=> ∃ (uw:Array (Option Value)),cJ (fd=PySem.W.fnOf x qual (eQ st) (dg st) (aL st) .none kV gU pm an cdv ct) (K.lookup f=some #[oc,od, .func fd,uw]) (PySem.W.codeIn K cdv qual=true)
 kp:PySem.W.keepIn K (.ref f)=true
section
variable {P:KY}{w:KZ}{K:KW}{mg:Str ->KO Fp}{base:K0}
def pF.ok {x qual:Str}{st:Stmt}{f:KQ}{fd:FuncData}{N ps:Fm Str}{k:Nat}{sp:Sp}(F:pF K x qual st f fd)(S:dm N ps (aL st))(len: ∀vs H Q E,sp vs H Q E ->vs.length=ps.length) (eB: ∀ (cdv:Fp) (A:K2) (outer:Fm Env) (s:JZ) (H:Hp) (vs:Fm V) (Q:VK) (E:XK),dD k (A.deeper (envOfC qual (aL st) s.heap.objs.size f cdv)) ->sp vs H Q E ->∃t,mE (dF gx P w K mg base N qual (aL st) f cdv A outer s H E).yy (dg st) t /\ t {nx:=λ_ H'=>Q .di H',rt:=Q} (start N vs) H):c_ P w K mg base gx (k+1) f fd ps sp:=by let⟨oc,od,kV,gU,pm,an,cdv,ct,uw,rfl,lk,si⟩:=F.ex;exact Ar lk si S len λA outer s H vs Q E hr tU=> ?_;let⟨t,h,q⟩:=eB cdv A outer s H vs Q E hr tU;show#[t,h.yy,q]
def pF.binds {x qual:Str}{st:Stmt}{f:KQ}{fd:FuncData}{ps:Fm Str}(F:pF K x qual st f fd) (h: ∀ (kV gU pm:Fp) (an:KO KQ) (cdv ct:Fp) (us:Fm Fp),us.length=ps.length ->bindArgs (W.fnOf x qual (eQ st) (dg st) (aL st) .none kV gU pm an cdv ct) #[us,[]]=pure (ps.zip us)):Binds K fd ps []:=by let⟨oc,od,kV,gU,pm,an,cdv,ct,uw,rfl,lk,si⟩:=F.ex;show .all (h kV gU pm an cdv ct)
theorem wy {x qual:Str}{st:Stmt}{f:KQ}{oc:Fp}{od an:KO KQ}{uw:KU (KO Fp)}{kV gU pm cdv ct:Fp}(l:K.lookup f=some #[oc,od, .func (W.fnOf x qual (eQ st) (dg st) (aL st) .none kV gU pm an cdv ct),uw]) (c:W.codeIn K cdv qual=true) (k:W.keepIn K (.ref f)=true):pF K x qual st f (W.fnOf x qual (eQ st) (dg st) (aL st) .none kV gU pm an cdv ct):=#[#[oc,od,kV,gU,pm,an,cdv,ct,uw,rfl,l,c],k]
end
theorem sf {A:K2}{k:Nat}(hr:dD k A):A.units+1<cLine:=Nat.lt_of_le_of_lt (Nat.add_le_add_left (by decide:1<=64) _) hr.units
section
variable {X:Cx}
theorem pv (i:Nat){x:Str}{pos:Pos}(hN:X.N[i]? =some x:=by rfl)(hv:HS X.env.scope x:=by first | show Or.inl rfl | show Or.inr (Or.inl rfl) | show Or.inr (Or.inr rfl))(hd:(x==("__debug__" :Str))=false:=by decide) (si:(x==("__classdict__" :Str))=false:=by decide):PE X (.Name x pos) (xU i):=Bs hN hv hd si
end
def d0 (H H':Hp):Prop:= ∀b o,H b=some o ->H' b=some o
section
variable {κ:Type} [DecidableEq κ]
theorem rH: ∀ {l:Fm κ} {k:κ},l.Nodup ->¬k∈l ->(l++ [k]).Nodup
 | [],k,_,_=>by simp
 | a::r,k,h,hk=>by let⟨h1,h2⟩:=List.nodup_cons.mp h;change(a::(r++ [k])).Nodup;exact List.nodup_cons.mpr #[λm=> ?_,rH h2 λm=>hk (az.mpr (Or.inr m))];obtain q | q:=aR.mp m;show h1 q;show hk (az.mpr (Or.inl (aY.mp q).symm))
end
def bW {α:Type}{x y:Str}{c:α}{l:Fm (Str×α)}:((y,c)::l).lookup x=if x=y then some c else l.lookup x:=by by_cases h:x=y;subst h;simp[List.lookup_cons];rw[ar h,List.lookup_cons];have:(x==y)=false:= ⇑h;rw[this]
theorem fC {env:Env}: ∀ (names:Fm (Str×NameKind)) (dU:Fm (Str×KQ)),(∀y∈names,y.2= .free -> ∃c,env.cells.lookup y.1=some c) ->(∀x c,dU.lookup x=some c ->env.cells.lookup x=some c) ->∃cl,dN ((forIn names dU λx s=>if(x.snd==NameKind.free)=true then(do let c <- cellOf env x.fst;pure (ForInStep.yield ((x.fst,c)::s)):Sem _) else pure (ForInStep.yield s))=(pure cl:Sem (Fm (Str×KQ)))) (∀x c,cl.lookup x=some c ->env.cells.lookup x=some c) (∀x,(dU.lookup x).isSome=true ->(cl.lookup x).isSome=true) (∀y∈names,y.2= .free ->(cl.lookup y.1).isSome=true)
 | [],dU,_,h2=>#[dU,rfl,h2,λ_ h=>h,λ_ h=>absurd h (by simp)]
 | (n, k)::r,dU,h1,h2=>by
  by_cases hk:k=NameKind.free;subst hk;let⟨c,hc⟩:=h1 (n, .free) a4 rfl;have uB: ∀x c',((n,c)::dU).lookup x=some c' ->env.cells.lookup x=some c':=λx c' e=>by rw[bW] at e;by_cases hx:x=n;rw[am hx] at e;cases e;rw[hx];show hc;rw[ar hx] at e;show h2 x c' e
  let⟨cl,e1,e2,e3,e4⟩:=fC r ((n,c)::dU) (λy hy=>h1 y (aS _ hy)) uB;exact#[cl,?_,e2,λx hx=>e3 x ?_,λy hy hf=> ?_];rw[List.forIn_cons];have:cellOf env n=pure c:=by unfold cellOf;rw[hc]
  simp![beq_self_eq_true,bH,this,pure_bind];show e1;rw[bW];by_cases Ho:x=n;rw[am Ho];rfl;rw[ar Ho];show hx;obtain rfl | hy:=az.mp hy;exact e3 n ?_;rw[bW,am rfl];rfl;show e4 y hy hf;let⟨cl,e1,e2,e3,e4⟩:=fC r dU (λy hy=>h1 y (aS _ hy)) h2;exact#[cl,?_,e2,e3,λy hy hf=> ?_];rw[List.forIn_cons];have:(k==NameKind.free)=false:= ⇑hk;simp![this,av,a8,pure_bind];show e1;obtain rfl | hy:=az.mp hy;show absurd hf hk;show e4 y hy hf
def gR {scope:Scope}{env:Env}(h: ∀y∈scope.names,y.2= .free -> ∃c,env.cells.lookup y.1=some c): ∃cl,cJ (closureFor scope env=pure cl) (∀x c,cl.lookup x=some c ->env.cells.lookup x=some c) (∀y∈scope.names,y.2= .free ->(cl.lookup y.1).isSome=true):=by let⟨cl,e1,e2,_,e4⟩:=fC scope.names [] h (λ_ _ e=>by simp at e);exact#[cl,?_,e2,e4];simp![closureFor];rw[e1,pure_bind]
theorem eh {env:Env}: ∀ {names:Fm (Str×NameKind)} {x:Str} {k:NameKind},(names.map λ(n,k)=>if(k==NameKind.free && env.scope.kind== .function && env.kindOf n==some .cell) then(n,NameKind.cell) else(n,k)).lookup x=some k ->names.lookup x=some k \/ (k= .cell /\ names.lookup x=some .free)
 | [],_,_,h=>by simp at h
 | (n, j)::r,x,k,h=>by
  have ih:= @eh env r x k;rw[aC] at h;by_cases hc:(j==NameKind.free && env.scope.kind== .function && env.kindOf n==some .cell)=true;simp![hc,bH] at h;rw[bW] at h;rw[bW];by_cases hx:x=n;rw[am hx] at h ⊢;cases h;have hj:j=NameKind.free:=by rw[Bool.and_eq_true,Bool.and_eq_true] at hc;show eq_of_beq hc.1.1
  show .inr #[rfl,by rw[hj]];rw[ar hx] at h ⊢;show ih h;simp![hc,av,a8] at h;rw[bW] at h;rw[bW];by_cases hx:x=n;rw[am hx] at h ⊢;show .inl h;rw[ar hx] at h ⊢;show ih h
theorem d3 {env:Env}: ∀ {names:Fm (Str×NameKind)} {x:Str},names.lookup x=some .free ->(names.map λ(n,k)=>if(k==NameKind.free && env.scope.kind== .function && env.kindOf n==some .cell) then(n,NameKind.cell) else(n,k)).lookup x=some .cell \/(names.map λ(n,k)=>if(k==NameKind.free && env.scope.kind== .function && env.kindOf n==some .cell) then(n,NameKind.cell) else(n,k)).lookup x=some .free
 | [],_,h=>by simp at h
 | (n,j)::r,x,h=>by have ih:= @d3 env r x;rw[aC];rw[bW] at h;by_cases hc:(j==NameKind.free && env.scope.kind== .function && env.kindOf n==some .cell)=true;simp![hc,bH];rw[bW];by_cases hx:x=n;rw[am hx];show .inl rfl;rw[ar hx] at h ⊢;show ih h;simp![hc,av,a8];rw[bW];by_cases hx:x=n;rw[am hx] at h ⊢;cases h;show .inr rfl;rw[ar hx] at h ⊢;show ih h
abbrev bR (X:Cx)(N':Fm Str)(scope:Scope)(cl:Fm (Str×KQ))(fp:Fm KQ)(s3:JZ)(H3:Hp):Cx:={X with N:=N',s₀:=s3,H₀:=H3,env:=compEnvC scope cl s3.heap.objs.size X.env,outer:=X.stack,stack:=X.stack,ex:=fp,fn:=λ_=>false,pn:= [],xe:=λ_ _=>False}
def iz (own:Nat)(fr:Fm Nat)(σ:St):St:=List.replicate own none++fr.map λj=>(σ[j]?).join
structure dh (X:Cx)(own:List Str)(fr:List Nat)(N':List Str)(scope:Scope):Prop where
 kind:scope.kind= .function
 names:N'=own++fr.filterMap (λj=>X.N[j]?)
 len:N'.length=own.length+fr.length
 nd:N'.Nodup
 j_: ∀y∈scope.names,y.2≠ .cell
 loc: ∀y∈scope.names,y.2= .local ->scope.names.lookup y.1=some .local
 Dk: ∀x∈fr.filterMap (λj=>X.N[j]?),scope.names.lookup x=some .free
 free: ∀y∈scope.names,y.2= .free ->X.env.kindOf y.1=some .cell \/ X.env.kindOf y.1=some .free
theorem io {N:Fm Str}: ∀ {fr:Fm Nat} {k:Nat} {x:Str},(fr.filterMap (λj=>N[j]?)).length=fr.length ->(fr.filterMap (λj=>N[j]?))[k]? =some x -> ∃j,fr[k]? =some j /\ N[j]? =some x
 | [],_,_,_,e=>by simp at e
 | j ::r,k,x,hl,e=>by
  cases hj:N[j]? with
  | none=>rw[List.filterMap_cons,hj] at hl;have:=List.length_filterMap_le (λj=>N[j]?) r;simp![bj] at hl;lia
  | some y=>
   rw[List.filterMap_cons,hj] at hl e;simp![bj,Nat.add_right_cancel_iff] at hl;cases k with
   | zero=>simp at e;show#[j,by simp,by rw[hj,e]]
   | succ k=>show io (k:=k) hl ⇑e
section
variable {X:Cx}{aa:Fm (KQ×Obj)}{σ:St}{H:Hp}{s s3:JZ}
def oI {own N':Fm Str}{fr:Fm Nat}{scope:Scope}{cl:Fm (Str×KQ)}{fp:Fm KQ}{h':K0}{t:Nat}(S:dh X own fr N' scope)(I:Inv X aa σ H s) (iD: ∀x c,cl.lookup x=some c ->X.env.cells.lookup x=some c) (jp: ∀y∈scope.names,y.2= .free ->(cl.lookup y.1).isSome=true) (lh: ∀b∈fp,fk X aa H b) (OT: ∀b∈fp,b<s.heap.objs.size) (Db:h'.Ns s.heap.objs.size (λ_=>none)) (hk: ∀b o,s.heap.get? b=some o ->h'.get? b=some o): Inv (bR X N' scope cl fp s H) [] (iz own.length fr σ) H {s with heap:=h',toks:=t}:=by
 have look: ∀x,(compEnvC scope cl s.heap.objs.size X.env).kindOf x=(relabel scope X.env).names.lookup x:=λ_=>rfl
 have F1:(fr.filterMap (λj=>X.N[j]?)).length=fr.length:=by have:=S.len;rw[S.names,aN] at this;lia
 exact#[#[I.ok.mod,?_,I.ok.glob,I.ok.blt,ag _,λx y c e1 e2=>I.ok.inj x y c (iD _ _ e1) (iD _ _ e2),λx hx=> ?_,(λx c z _=>nomatch z),I.ok.hd,I.ok.frames, .inl rfl,λb hb=>#[?_,λx c e=>(lh b hb).2.2.2.2.1 x c (iD x c e)],I.bs,aD I.ok.xI I.sz,λb o e hb=> ?_,λb hb hz=> ?_,I.stack,I.jt],
  rfl,I.bare,Un.kept hk,#[_,Db,λi x v e1 e2 e3=> ?_],λx c e=> ?_,I.cI.fresh (ag _),λx c e=>I.eN x c (iD x c e),λp hp=>absurd (show p∈([]:Fm (KQ×Obj)) from hp) (by simp),I.cI.kept hk,?_]
 change(relabel scope X.env).kind=_
 show S.kind
 have Ho:scope.names.lookup x=some .free:=by obtain hx | hx:=hx;obtain q | ⟨_,q⟩:=eh hx;show absurd rfl (S.j_ _ (cD q));show q;obtain q | ⟨q,_⟩:=eh hx;show q;cases q
 show Option.isSome_iff_exists.mp (jp _ (cD Ho) rfl)
 show aU (OT b hb)
 obtain z | z:=(lh b hb).2.2.2.1
 show I.ok.tD b o e z
 show absurd (aF (au e) (aD I.ok.xI z)) (bB _)
 obtain q | q:=az.mp (I.mK b hz)
 show(lh b hb).2.1 q
 show(lh b hb).2.2.1 q
 -- a JF value
 have e1:(own++fr.filterMap (λj=>X.N[j]?))[i]? =some x:=by rw[<- S.names];show e1
 unfold iz at e2
 by_cases hi:i<own.length
 rw[aI ⇑hi,cy,am hi] at e2
 cases e2
 rw [aG ⇑hi,List.length_replicate] at e2
 rw[aG ⇑hi] at e1
 let⟨j,ej,ex⟩:=io F1 e1
 rw[aB,ej] at e2
 have e2:(σ[j]?).join=some v:= ⇑e2
 have F8:σ[j]? =some (some v):=by
  cases q:σ[j]? with
  | none=>rw[q] at e2;cases e2
  | some w=>rw[q] at e2;simp at e2;rw[e2]
 have hf:=S.Dk x (bD e1)
 have hm:=cD hf
 let⟨m,_,hl⟩:=I.loc
 have NV:HS X.env.scope x:=by obtain q | q:=S.free _ hm rfl;show .inr (.inl q);show .inr (.inr q)
 let⟨u,r,l⟩:=hl j x v ex F8 NV
 exact#[u,r, .inr #[?_,?_]]
 show d3 hf
 rcases l with⟨k,_⟩ | ⟨_,c,ec,z⟩
 obtain q | q:=S.free _ hm rfl
 rw[k] at q;cases q
 rw[k] at q;cases q
 let⟨c',Nx⟩:=Option.isSome_iff_exists.mp (jp _ hm rfl)
 have:=iD _ _ Nx
 rw[ec] at this
 cases this
 show#[c,Nx,z.keeps hk]
 let⟨v,z⟩:=I.cell x c (iD x c e)
 show#[v,z.keeps hk]
 change(iz own.length fr σ).length=N'.length
 unfold iz
 rw[aN,List.length_replicate,af,S.len]
end
def CO (X:Cx)(cs:Fm Expr)(t:TT):Prop:=∀ (aa:Fm (KQ×Obj)) (s:JZ) (σ:St) (H:Hp) (Q:Bool ->Hp ->Prop),Inv X aa σ H s ->t σ H Q ->wpAny (model X.prog X.w) X.A (forIn cs true λc r=>if r=true then do let ok <- isTrue c X.env (eval c X.env);pure (ForInStep.yield ok) else pure (ForInStep.yield r)) (TP X aa σ Q) X.xe s
def Eg:TT:=λ_ H Q=>Q true H
theorem d6 {X:Cx}:CO X [] Eg:=λaa s σ H Q I h=>wpAny_tests_nil #[H,I,h]
theorem yi {X:Cx}{c:Expr}{t:TT}(h:PT X c t):CO X [c] t:=λaa s σ H Q I q=>wpAny_tests_one (h aa s σ H Q I q)
section
variable {prog:KY}{w:KZ}{A:K2}{R:Result ->JZ ->Prop}{s:JZ}
theorem ud {iE eg iter:Expr}{iC:Fm Expr}{scope:Scope}{pos:Pos}{it dU:Fp}{env:Env}(I:Nat ->JZ ->Prop) (turn : ∀n s,I n s ->wpAny (model prog w) A (pyNext it) (λr s₁=>match r with
   | none=>R (.ok .next) s₁
   | some v=>wpAny (model prog w) A (letOwnedTupleGo eg it v) (λ_ s₀=>wpAny (model prog w) A (assign eg env v) (λ_ s₂=>
    wpAny (model prog w) A (forIn iC true λc r=>if r=true then do let ok <- isTrue c env (eval c env);pure (ForInStep.yield ok) else pure (ForInStep.yield r)) (λok s₃=>if ok=true then wpAny (model prog w) A (eval iE env) (λx s₄=>wpAny (model prog w) A (call (.builtin "list.append") [dU,x]) (λ_ s₅=> ∃m,m<n /\ I m s₅) (λ_ _=>False) s₄) (λ_ _=>False) s₃ else ∃m,m<n /\ I m s₃) (λ_ _=>False) s₂)
    (λ_ _=>False) s₀) (λ_ _=>False) s₁) (λ_ _=>False) s)
  (n:Nat) (h:I n s):codeAny (model prog w) A (.compLoop (.ListComp iE [#[eg,iter,iC,0]] scope pos) 0 it dU env) R s:=by
 exact codeAny_loop rfl I (λn s hI=> ?_) n h
 change wpAny _ A ((compTurn (.ListComp iE [#[eg,iter,iC,0]] scope pos) 0 it dU env).onRaise (λx=>do noteFrame x env;theTreesLotGoes x)) _ _ s
 exact wpAny_noted ?_
 rw[compTurn_list]
 exact ak (wpAny_standAt (ak (a6 (turn n s hI) (λr s₁ h₁=> ?_) λ_ _ h'=>h'.elim)))
 cases r with
 | none=>show aX h₁
 | some v=>
  exact ak (a6 h₁ (λ_ s₀ J0=> ?_) λ_ _ h'=>h'.elim);exact ak (a6 J0 (λ_ s₂ h₂=> ?_) λ_ _ h'=>h'.elim);exact ak (a6 h₂ (λJv s₃ h₃=> ?_) λ_ _ h'=>h'.elim);cases Jv with
  | false=>show aX #[rfl,h₃]
  | true=>show ak (ak (a6 h₃ (λx s₄ h₄=>ak (a6 h₄ (λ_ s₅ h₅=>aX (aX #[rfl,h₅])) λ_ _ h'=>h'.elim)) λ_ _ h'=>h'.elim))
end
def Wk (σ0 σ2:St):Prop:=σ2.length=σ0.length /\ ∀ (i:Nat) v,σ0[i]? =some (some v) ->σ2[i]? =some (some v)
def qK (own:Nat)(g:TG):Prop:= ∀ (c:St) (v:V) (H:Hp) (Q:St ->Hp ->Prop),g v (List.replicate own none++c) H Q ->g v (List.replicate own none++c) H λσ2 H2=>Wk (List.replicate own none++c) σ2 /\ Q σ2 H2
def gi:qK 1 (im 0):=by
 intro c v H Q h;exact#[#[by simp,λi u e=> ?_],h];cases i with
 | zero=>simp at e
 | succ i=>simpa using e
def fi {K:KW}:qK 2 (Cu K 2 (sq (im 0) (sq (im 1) Cv))):=by
 rintro c v H Q ⟨a,xs,e,hs,hl,x,r,rfl,y,r',rfl,rfl,h⟩;exact#[a,_,e,hs,hl,x,_,rfl,y,_,rfl,rfl,#[by simp,λi u e=> ?_],h];match i with
 | 0=>simp at e
 | 1=>simp at e
 | i+2=>simpa using e
def AB (J:It)(own:Nat)(fr:Fm Nat)(g:TG)(tc:TT)(te:TE)(σ:St)(p:KQ)(H1:Hp)(Q:VK):Prop:=∃ W :Nat ->Nat ->Fm V ->Hp ->Prop,(∃m,W 0 m [] (cU H1 p (.lst []))) /\ ∀i m ys H',W i m ys H' ->H' p=some (.lst ys) /\((J.stop i H' /\ Q (.ref p) H') \/ (J.go i H' /\ ys.length<sizeLine /\ ∀x H2,J.CW i H' x H2 ->g x (iz own fr σ) H2 λσ2 H3=>tc σ2 H3 λb H4=>if b=true then te σ2 H4 λy H5=> ∃zs,H5 p=some (.lst zs) /\ zs.length<sizeLine /\ ∃m',m'<m /\ W (i+1) m' (zs++ [y]) (cU H5 p (.lst (zs++ [y]))) else ∃zs m',m'<m /\ W (i+1) m' zs H4))
def u4 (wi:TI)(own:Nat)(fr:Fm Nat)(g:TG)(tc:TT)(te:TE):TE:=λσ H Q=>wi σ H λJ H1=> ∀p,H1 p=none ->AB J own fr g tc te σ p H1 Q
section
variable {X:Cx}{aa:Fm (KQ×Obj)}{σ:St}{H:Hp}{s s3:JZ}
theorem gh {N':Fm Str}{scope:Scope}{cl:Fm (Str×KQ)}{fp:Fm KQ}{fc:Fm (KQ×Obj)}{σ':St}{H':Hp}{s':JZ}(I3:Inv X aa σ H s3)(lh: ∀b∈fp,fk X aa H b) (Ic:Inv (bR X N' scope cl fp s3 H) fc σ' H' s'):Inv X aa σ H' s':=I3.sE (ch:=fp) Ic.os Ic.base Ic.cI Ic.bare λb hb=>#[(lh b hb).2.2.2.1,(lh b hb).2.1,(lh b hb).2.2.2.2.1,(lh b hb).2.2.2.2.2]
def iZ {C:KQ}{σ':St}{H':Hp}{s':JZ}{h':K0}(I3:Inv X aa σ H s3)(hC:C=s3.heap.objs.size)(J:Inv X aa σ' H' s')(hn:H' C=none)(hs:Heap.SameBut C s'.heap h'):Inv X aa σ' H' {s' with heap:=h'}:=by subst hC;exact J.turned (t':=s'.toks) (it:=s3.heap.objs.size) (λb o hb e=>hs.extBut b o hb e) hn (Nat.ne_of_gt I3.lt) (.inr I3.sz) (λx c e z=> ?_) λp hp z=> ?_;let⟨v,q⟩:=I3.cell x c e;show absurd q.lt (by rw[z];show bB _);show absurd (au (I3.pin p hp).1) (by rw[z];show bB _)
def kK {tg iter iE:Expr}{iC:Fm Expr}{pos:Pos}{own N':Fm Str}{fr:Fm Nat}{scope:Scope}{cl:Fm (Str×KQ)}{fp:Fm KQ}{it:KQ}{tn:Nat ->K0 ->Prop}{J:It}{g:TG}{tc:TT}{te:TE}{Q:VK} {E:Fp ->JZ ->Prop} {RR:Fp ->KQ ->Result ->JZ ->Prop} (fY:X.calm=true) (S:dh X own fr N' scope) (hg: ∀s3 H3,PG (bR X N' scope cl fp s3 H3) tg g) (hw:qK own.length g) (hc: ∀s3 H3,CO (bR X N' scope cl fp s3 H3) iC tc) (he: ∀s3 H3,PE (bR X N' scope cl fp s3 H3) iE te) (iD: ∀x c,cl.lookup x=some c ->X.env.cells.lookup x=some c) (jp: ∀y∈scope.names,y.2= .free ->(cl.lookup y.1).isSome=true) (I:Inv X aa σ H s) (T:pE X.prog X.w X.K tg J fp it tn) (st:tn 0 s.heap) (lh: ∀b∈fp,fk X aa H b) (h: ∀p,H p=none ->AB J own.length fr g tc te σ p H Q) (fin: ∀ (s3:JZ) (H3:Hp),Inv X aa σ H3 s3 ->(∀b∈fp,fk X aa H3 b) -> ∀ (D:KQ) (σ':St) (H':Hp) (s':JZ) (t:Nat),D<s3.heap.objs.size ->Inv (bR X N' scope cl fp s3 H3) [] σ' H' s' ->Q (.ref D) H' ->RR (.ref D) s3.heap.objs.size (.ok .next) s'): wpAny (model X.prog X.w) X.A (newList []) (λdU s₃=>wpAny (model X.prog X.w) X.A (newFunctionEnv scope X.env.globals cl [] X.env.qual none .none (some X.env)) (λcenv s₄=>codeAny (model X.prog X.w) X.A (.compStart (.ListComp iE [#[tg,iter,iC,0]] scope pos) 0 (.ref it) dU {cenv with scope:=relabel scope X.env}) (RR dU cenv.locals) s₄) E s₃) E s:=by
 exact wpAny_newObj_type ?_;have hf:H s.heap.objs.size=none:=I.cI.fresh (ag _);let⟨W,⟨m0,w0⟩,turn⟩:=h _ hf;generalize e3:({s with heap:=s.heap.push {cls:= .type "list",dict:=none,data:= .seq ([]:Fm Fp).toArray}}:JZ)=s3;have A9:s3.heap.objs.size=s.heap.objs.size+1:=by rw[<- e3];show Heap.size_push ..
 have Ja: ∀b o,s.heap.get? b=some o ->s3.heap.get? b=some o:=λb o e=>by rw[<- e3];show aw _ e
 have I3:Inv X aa σ (cU H s.heap.objs.size (.lst [])) s3:=by rw[<- e3];show I.laid (t':=s.toks) (λb u e=>aw _ e) (ag _) #[Nat.zero_le _,[],0, .nil,aT _ rfl]
 have Cw: ∀b∈fp,b<s.heap.objs.size:=λb hb=>by let⟨o,e,_⟩:=T.obj 0 _ st b hb;show au e
 have oJ: ∀b∈fp,fk X aa (cU H s.heap.objs.size (.lst [])) b:=λb hb=>#[by rw[bP (aU (Cw b hb))];show(lh b hb).1,(lh b hb).2]
 exact wpAny_newFunctionEnv S.j_ (by intro y hy;simp at hy) (λh₁ Cb B6=> ?_) S.kind;have old: ∀b o,s3.heap.get? b=some o ->h₁.get? b=some o:=λb o e=>B6.extBut b o (aU (au e)) (aw _ e);have Ic:=oI (t:=s3.toks+([]:Fm (Str×Fp)).length) S I3 iD jp oJ (λb hb=>by rw[A9];show Nat.lt_succ_of_lt (Cw b hb)) Cb old;have sQ:tn 0 h₁:=T.keep 0 _ _ st λb hb o e=>old b o (Ja b o e);have jM: ∀ {H':Hp},(∀b∈fp,H' b=none) -> ∀b∈fp,fk (bR X N' scope cl fp s3 (cU H s.heap.objs.size (.lst []))) [] H' b:=λhn b hb=>by exact#[hn b hb,?_,?_, .inl hb,λx c e=>(lh b hb).2.2.2.2.1 x c (iD x c e),λp hp=>absurd (show p∈([]:Fm (KQ×Obj)) from hp) (by simp)];change b≠s3.heap.objs.size;rw[A9];show aU (Nat.lt_succ_of_lt (Cw b hb));show Ic.ok.qz b hb
 have loop:codeAny (model X.prog X.w) X.A (.compLoop (.ListComp iE [#[tg,iter,iC,0]] scope pos) 0 (.ref it) (.ref s.heap.objs.size) (compEnvC scope cl s3.heap.objs.size X.env)) (RR (.ref s.heap.objs.size) s3.heap.objs.size) {s3 with heap:=h₁,toks:=s3.toks+([]:Fm (Str×Fp)).length}:=by
  exact ud (λn s'=>fE λi ys H'=>dN (Inv (bR X N' scope cl fp s3 (cU H s.heap.objs.size (.lst []))) [] (iz own.length fr σ) H' s') (tn i s'.heap) (∀b∈fp,H' b=none) (W i n ys H')) ?_ m0 #[0,[],_,Ic,sQ,λb hb=>(oJ b hb).1,w0];rintro n s4 ⟨i,ys,H4,I4,dE,F2,w4⟩;let⟨yY,alt⟩:=turn i n ys H4 w4;rcases alt with⟨stop,q⟩ | ⟨go,hsz,step⟩
  .exact cR (T.done (bR X N' scope cl fp s3 (cU H s.heap.objs.size (.lst []))) rfl rfl rfl fY i [] s4 _ H4 (λ_ _=>False) I4 (jM F2) dE stop) λr s5 ⟨hr,I5⟩=> ?_;subst hr;show fin s3 _ I3 oJ _ _ H4 s5 s5.toks (by rw[A9];show Nat.lt_succ_self _) I5 q
  exact cR (T.item (bR X N' scope cl fp s3 (cU H s.heap.objs.size (.lst []))) rfl rfl rfl fY i [] s4 _ H4 (λ_ _=>False) I4 (jM F2) dE go) λr s5 ⟨u,hr,h5⟩=> ?_;subst hr;exact cR h5 λ_ s6 ⟨x,H6,I6,r6,y6,Bb,K_⟩=> ?_;have Ly:=I6.pinned (jM K_) (T.obj _ _ Bb);have Ep:=hw _ x H6 _ (step x H6 y6);exact cR (hg s3 _ _ s6 _ H6 x u _ Ly r6 Ep) λ_ s7 ⟨σ7,H7,I7,wk,q7⟩=> ?_;have again: ∀ {H9:Hp} {s9:JZ} {AL:Fm V},Inv (bR X N' scope cl fp s3 (cU H s.heap.objs.size (.lst []))) ([]++iN fp s6.heap) σ7 H9 s9 ->(∃m',m'<n /\ W (i+1) m' AL H9) ->∃m,m<n /\ fE λi ys H'=>dN (Inv (bR X N' scope cl fp s3 (cU H s.heap.objs.size (.lst []))) [] (iz own.length fr σ) H' s9) (tn i s9.heap) (∀b∈fp,H' b=none) (W i m ys H'):=λ{H9 s9 AL} I9 ⟨m',hm,w9⟩=>by exact#[m',hm,i+1,AL,H9,(I9.fN).weak ?_ wk.2,T.keep _ _ _ Bb λb hb o e=>(I9.pin (b,o) (aH _ (aH _ (dL hb e)))).1,λb hb=> ?_,w9];show wk.1.symm;let⟨o,e,d⟩:=T.obj _ _ Bb b hb;show(I9.pin (b,o) (aH _ (aH _ (dL hb e)))).2.1
  exact cR (hc s3 _ _ s7 σ7 H7 _ I7 q7) λok s8 ⟨H8,I8,q8⟩=> ?_;cases ok with
  | false=>simp![av,a8] at q8 ⊢;let⟨zs,q8⟩:=q8;show again I8 q8
  | true=>simp![bH] at q8 ⊢;exact cR (he s3 _ _ s8 σ7 H8 _ I8 q8) λy s9 ⟨yv,H9,I9,ry,zs,Kd,J6,q9⟩=> ?_;exact cR (gf _ s9 σ7 H9 (.ref s.heap.objs.size) [yv] (.ref s.heap.objs.size) [y] (λv H'=>H'=cU H9 s.heap.objs.size (.lst (zs++ [yv]))) I9 rfl (.cons ry .nil) #[_,zs,yv,rfl,rfl,Kd,J6,rfl]) λv Ew ⟨_,Rg,Lz,_,Lh⟩=> ?_;subst Lh;show again Lz q9
 show codeAny_compStart_list loop (T.self _ 0 _ _ _ sQ loop)
end
section
variable {X:Cx}
theorem Cx.Ok.cellsOf {own N':Fm Str}{fr:Fm Nat}{scope:Scope}(ok:X.Ok)(S:dh X own fr N' scope): ∀y∈scope.names,y.2= .free -> ∃c,X.env.cells.lookup y.1=some c:=λy hy hf=>ok.has y.1 (S.free y hy hf)
def eM {tg iter iE:Expr}{iC:Fm Expr}{pos:Pos}{own N':Fm Str}{fr:Fm Nat}{scope:Scope}{wi:TI}{g:TG}{tc:TT}{te:TE}(fY:X.calm=true)(S:dh X own fr N' scope)(hi:PI X tg iter wi) (hg: ∀cl fp s3 H3,PG (bR X N' scope cl fp s3 H3) tg g) (hw:qK own.length g) (hc: ∀cl fp s3 H3,CO (bR X N' scope cl fp s3 H3) iC tc) (he: ∀cl fp s3 H3,PE (bR X N' scope cl fp s3 H3) iE te) (hs: ∀x,foldedSetIterable iter X.env x=pure x:=by intro _;rfl):PE X (.ListComp iE [#[tg,iter,iC,0]] scope pos) (u4 wi own.length fr g tc te):=by intro aa s σ H Q I h;let⟨cl,oM,iD,jp⟩:=gR (I.ok.cellsOf S);rw[eval_ListComp];exact wpAny_comprehension_free (use:=none) rfl hs oM S.kind S.loc (cR (hi aa s σ H _ I h) λv s1 h1=>cR h1 λFj s2 h2=> ?_);let⟨it,fp,tn,J,H2,e,I2,T,gC,f2,h2⟩:=h2;subst e;exact kK (RR:=λdU C=>compPost (model X.prog X.w) X.A X.xe none (EP X aa σ Q) dU C) fY S (hg cl fp) hw (hc cl fp) (he cl fp) iD jp I2 T gC f2 h2 ?_;intro s3 H3 I3 f3 D σ' H' s' t hD Ic q;let⟨m,hn,_⟩:=Ic.loc;exact#[m,hn,λh' B8=>#[.ref D,H',?_,rfl,q]];show iZ I3 rfl (gh I3 f3 Ic) Ic.free B8
def p9 {i:Nat}{x:Str}{tg iter iE:Expr}{iC:Fm Expr}{pos va eI:Pos}{own N':Fm Str}{fr:Fm Nat}{scope:Scope}{wi:TI}{g:TG}{tc:TT}{te:TE}(fY:X.calm=true)(hN:X.N.Nodup)(hx:X.N[i]? =some x)(hl:Loc X.env.scope x)(S:dh X own fr N' scope)(hi:PI X tg iter wi) (hg: ∀cl fp s3 H3,PG (bR X N' scope cl fp s3 H3) tg g) (hw:qK own.length g) (hc: ∀cl fp s3 H3,CO (bR X N' scope cl fp s3 H3) iC tc) (he: ∀cl fp s3 H3,PE (bR X N' scope cl fp s3 H3) iE te) (J_:swapsWith (.ListComp iE [#[tg,iter,iC,0]] scope pos) (some (.Name x eI)) va.line X.env=pure true) (hs: ∀x,foldedSetIterable iter X.env x=pure x:=by intro _;rfl) (hf:X.fn x=true \/ X.env.scope.names.lookup x=some .local:=by first | show .inl rfl | show .inr rfl | assumption):PS X (.Assign [.Name x eI] (.ListComp iE [#[tg,iter,iC,0]] scope pos) va) (u8 (u4 wi own.length fr g tc te) (im i)):=by
 intro aa s σ H D I h;let⟨cl,oM,iD,jp⟩:=gR (I.ok.cellsOf S);rw[exec_Assign_Name_used _ _ _ _ J_];exact ak (wpAny_standAt (ak ?_));change wpAny _ X.A (do let _ <- comprehension (.ListComp iE [#[tg,iter,iC,0]] scope pos) scope X.env _ (newList []) false (eval iter X.env) (some (assign (.Name x eI) X.env))) _ _ s;exact ak (cR (wpAny_comprehension_free (use:=some (assign (.Name x eI) X.env)) (Q:=λ_ s'=>SP X aa D .next s') rfl hs oM S.kind S.loc (cR (hi aa s σ H _ I h) λv s1 h1=>cR h1 λFj s2 h2=> ?_)) λ_ s' hq=>aX (aX hq));let⟨it,fp,tn,J,H2,e,I2,T,gC,f2,h2⟩:=h2;subst e;exact kK (RR:=λdU C=>compPost (model X.prog X.w) X.A X.xe (some (assign (.Name x eI) X.env)) (λ_ s'=>SP X aa D .next s') dU C) fY S (hg cl fp) hw (hc cl fp) (he cl fp) iD jp I2 T gC f2 h2 ?_;intro s3 H3 I3 f3 Da σ' H' s' t hD Ic q;let⟨m,hn,_⟩:=Ic.loc;have I5:=gh I3 f3 Ic;change wpAny _ X.A (assign (.Name x eI) X.env (.ref Da)) _ _ s';exact wpAny_assign_Name (iI I5 hN hx hl (show RelV (.ref Da) (.ref Da) from rfl) (λs6 I6 B8=> ?_) hf);let⟨a,sb,ha⟩:=B8;have kw:s3.heap.objs.size≠a:=by obtain rfl | ha:=ha;show Nat.ne_of_gt I3.lt;let⟨v,z⟩:=I3.cell x a ha;show Nat.ne_of_gt z.lt
 exact#[m,hn.sameBut sb kw,λh' B7=>#[_,H',iZ I3 rfl I6 Ic.free B7,q]]
end
set_option genInjectivity true in
inductive Dt where
 | di | bl (b:Bool) | int (i:Int) | str (x:Str) | tup (l:List Dt) | lst (l:List Dt)
mutual
def Rep (K:KW)(H:Hp):Dt ->V ->Prop
 | .di,v=>v= .di
 | .bl b,v=>v= .bl b
 | .int i,v=>v= .int i
 | .str x,v=>v= .str x
 | .tup l,v=>bU λa vs=>cJ (v= .ref a) (gw K H a vs) (dI K H l vs)
 | .lst l,v=>bU λa vs=>cJ (v= .ref a) (dw K H a vs) (dI K H l vs)
def dI (K:KW)(H:Hp):Fm Dt ->Fm V ->Prop
 | [],vs=>vs= []
 | d::r,vs=>bU λv t=>cJ (vs=v::t) (Rep K H d v) (dI K H r t)
end
mutual
def iY:Dt ->Dt ->Bool
 | .di, .di=>true
 | .bl a, .bl b=>a==b
 | .bl a, .int b=>(if a then 1 else 0)==b
 | .int a, .bl b=>a==(if b then 1 else 0)
 | .int a, .int b=>a==b
 | .str a, .str b=>a==b
 | .tup a, .tup b=>gP a b
 | .lst a, .lst b=>gP a b
 | _,_=>false
def gP:Fm Dt ->Fm Dt ->Bool
 | [],[]=>true
 | x::xs,y::ys=>iY x y && gP xs ys
 | _,_=>false
end
mutual
def nB:Dt ->Nat
 | .tup l=>lj l+1
 | .lst l=>lj l+1
 | _=>0
def lj:Fm Dt ->Nat
 | []=>0
 | d::r=>max (nB d) (lj r)
end
theorem dI.length {K:KW}{H:Hp}: ∀ {l:Fm Dt} {vs:Fm V},dI K H l vs ->l.length=vs.length
 | [],_,h=>by simp![dI] at h;subst h;rfl
 | d::r,vs,h=>by simp![dI] at h;let⟨v,t,rfl,_,h⟩:=h;simp[dI.length h]
theorem dI.at {K:KW}{H:Hp}: ∀ {l:Fm Dt} {vs:Fm V} {j:Nat} {d:Dt},dI K H l vs ->l[j]? =some d -> ∃v,vs[j]? =some v /\ Rep K H d v
 | [],_,_,_,_,e=>by simp at e
 | d::r,vs,j,d',h,e=>by
  simp![dI] at h;let⟨v,t,rfl,h1,h⟩:=h;cases j with
  | zero=>simp at e;subst e;show#[v,rfl,h1]
  | succ j=>simpa using dI.at (j:=j) h ⇑e
theorem iq: ∀ {l:Fm Dt} {d:Dt},d∈l ->nB d<=lj l
 | [],_,h=>by simp at h
 | x::r,d,h=>by simp![lj];obtain rfl | h:=az.mp h;show Nat.le_max_left _ _;show aD (iq h) (Nat.le_max_right _ _)
theorem fA: ∀ (a b:Fm Dt),gP a b=((List.range (min a.length b.length)).all (λj=>iY (a.getD j .di) (b.getD j .di)) && a.length==b.length)
 | [],[]=>rfl
 | [],y::ys=>by simp[gP]
 | x::xs,[]=>by simp[gP]
 | x::xs,y::ys=>by
  have e:min (x::xs).length (y::ys).length=min xs.length ys.length+1:=by simp![bj];lia
  rw[gP,fA xs ys,e,List.range_succ_eq_map,List.all_cons,List.all_map];have e2:((x::xs).length==(y::ys).length)=(xs.length==ys.length):=by simp
  rw[e2,Bool.and_assoc];rfl
mutual
theorem f8: ∀d:Dt,iY d d=true
 | .di=>rfl
 | .bl b=>by simp[iY]
 | .int i=>by simp[iY]
 | .str x=>by simp[iY]
 | .tup l=>by simp![iY];show iX l
 | .lst l=>by simp![iY];show iX l
theorem iX: ∀l:Fm Dt,gP l l=true
 | []=>rfl
 | x::xs=>by simp![gP,f8 x,iX xs,Bool.and_self]
end
def Un.Me {K:KW}{H H':Hp}(h: ∀b xs,Rd H b (.tup xs) ->Rd H' b (.tup xs)){a:KQ}{xs:Fm V}(q:gw K H a xs):gw K H' a xs:=by obtain q | q:=q;show .inl (h _ _ q);show .inr q
section
variable {X:Cx}{aa:Fm (KQ×Obj)}{σ:St}{H:Hp}{s:JZ}
mutual
theorem Rep.inj (I:Inv X aa σ H s): ∀ (d e:Dt) (v:V),Rep X.K H d v ->Rep X.K H e v ->d=e
 | .di,e,v,h1,h2=>by simp![Rep] at h1;subst h1;cases e<;>simp![Rep] at h2<;>first | rfl | (cases h2;done) | (let⟨_,_,q,_⟩:=h2;cases q)
 | .bl b,e,v,h1,h2=>by simp![Rep] at h1;subst h1;cases e<;>simp![Rep] at h2<;>first | (cases h2;rfl) | (cases h2;done) | (let⟨_,_,q,_⟩:=h2;cases q)
 | .int b,e,v,h1,h2=>by simp![Rep] at h1;subst h1;cases e<;>simp![Rep] at h2<;>first | (cases h2;rfl) | (cases h2;done) | (let⟨_,_,q,_⟩:=h2;cases q)
 | .str b,e,v,h1,h2=>by simp![Rep] at h1;subst h1;cases e<;>simp![Rep] at h2<;>first | (cases h2;rfl) | (cases h2;done) | (let⟨_,_,q,_⟩:=h2;cases q)
 | .tup l,e,v,h1,h2=>by
  simp![Rep] at h1;let⟨a,vs,rfl,hs,hr⟩:=h1;cases e<;>simp![Rep] at h2<;>first | (cases h2;done) | skip
  let⟨a',sM,q,eJ,jy⟩:=h2;cases q;have:=I.lw hs eJ;subst this;rw[dI.inj I l _ vs hr jy];let⟨a',sM,q,eJ,jy⟩:=h2;cases q;let⟨bq,_,ht,_⟩:=I.tuple hs;let⟨its',_,hl,_⟩:=I.list eJ;show absurd rfl (SeqAt.ne_of_list_tuple (s:=s) hl.isList ht)
 | .lst l,e,v,h1,h2=>by
  simp![Rep] at h1;let⟨a,vs,rfl,hs,hr⟩:=h1;cases e<;>simp![Rep] at h2<;>first | (cases h2;done) | skip
  let⟨a',sM,q,eJ,jy⟩:=h2;cases q;let⟨bq,_,ht,_⟩:=I.tuple eJ;let⟨its',_,hl,_⟩:=I.list hs;show absurd rfl (SeqAt.ne_of_list_tuple (s:=s) hl.isList ht);let⟨a',sM,q,eJ,jy⟩:=h2;cases q;have:=I.list_inj hs eJ;subst this;rw[dI.inj I l _ vs hr jy]
theorem dI.inj (I:Inv X aa σ H s): ∀ (l m:Fm Dt) (vs:Fm V),dI X.K H l vs ->dI X.K H m vs ->l=m
 | [],m,vs,h1,h2=>by
  simp![dI] at h1;subst h1;cases m with
  | nil=>rfl
  | cons _ _=>simp![dI] at h2;let⟨_,_,q,_⟩:=h2;cases q
 | d ::r,m,vs,h1,h2=>by
  simp![dI] at h1;let⟨v,t,rfl,h1,h3⟩:=h1;cases m with
  | nil=>simp![dI] at h2;cases h2
  | cons d' r'=>simp![dI] at h2;let⟨v',t',q,h4,h5⟩:=h2;cases q;rw[Rep.inj I d d' v h1 h4,dI.inj I r r' t h3 h5]
end
def dI.items {l:Fm Dt}{vs:Fm V}{bq:Fm Fp}(h:dI X.K H l vs)(r:b0 vs bq){j:Nat}(hj:j<bq.length):Rep X.K H (l.getD j .di) (vs.getD j .di) /\ RelV (vs.getD j .di) bq[j] /\ l.getD j .di∈l:=by
 have e1:=h.length;have e2:=r.length;have hl:j<l.length:= ∅;let⟨v,hv,hr⟩:=h.at (aA hl);let⟨u,hu,ru⟩:=r.get hv;have e3:l.getD j .di=l[j]:=by simp[List.getD,hl]
 have e4:vs.getD j .di=v:=by simp[List.getD,hv]
 rw[aA hj] at hu;cases hu;rw[e3,e4];show#[hr,ru,List.getElem_mem hl]
def Rep.kX (I:Inv X aa σ H s){l:Fm Dt}{x:V}{u:Fp}(h:Rep X.K H (.tup l) x)(r:RelV x u):bU λa i=>u= .ref a /\ IsTup s.heap a i:=by simp![Rep] at h;let⟨a,vs,rfl,hs,hr⟩:=h;cases r;let⟨bq,_,ht,_⟩:=I.tuple hs;show#[a,_,rfl,ht]
def Rep.lf (I:Inv X aa σ H s){l:Fm Dt}{x:V}{u:Fp}(h:Rep X.K H (.lst l) x)(r:RelV x u):bU λa i=>u= .ref a /\ s.heap.IsList a i:=by simp![Rep] at h;let⟨a,vs,rfl,hs,hr⟩:=h;cases r;let⟨bq,_,ht,_⟩:=I.list hs;show#[a,_,rfl,ht.isList]
def wK (I:Inv X aa σ H s)(n:Nat): ∀ (A:K2) (d e:Dt) (x y:V) (u v:Fp),nB d<=n ->A.units+n<cLine ->Rep X.K H d x ->Rep X.K H e y ->RelV x u ->RelV y v ->SeqAt.EqAt A s u v (iY d e):=by
 induction n using Nat.strongRecOn with
 | _ n ih=>
 intro A d e x y u v hn hu h1 h2 r1 r2;cases d<;>cases e;case tup.tup l m=>
  have Ct:=h1
  have uB:=h2
  simp![Rep] at h1 h2
  let⟨a,vs,rfl,hs,hr⟩:=h1
  let⟨b,ws,rfl,eJ,jy⟩:=h2
  cases r1;cases r2
  by_cases Ao:a=b
  subst Ao
  rw[Rep.inj I _ _ _ Ct uB,f8]
  show SeqAt.EqAt.same _
  let⟨bq,rv,ht,_⟩:=I.tuple hs
  let⟨its',nQ,kU,_⟩:=I.tuple eJ
  exact SeqAt.EqAt.of_refs Ao ?_
  simp![iY]
  simp![nB] at hn
  match n,hn,hu,ih with
  | n +1,hn,hu,ih=>
   have z:=SeqAt.RcAt.tuples (A:=A) (s:=s) (e:=λj=>iY (l.getD j .di) (m.getD j .di)) ht kU ∅ λj g1 g2=>by let⟨q1,q2,q3⟩:=hr.items rv (j:=j) ⇑g1;let⟨q4,q5,q6⟩:=jy.items nQ (j:=j) ⇑g2;exact ih n (Nat.lt_succ_self n) A.in1 _ _ _ _ _ _ ?_ ?_ q1 q4 ⇑q2 ⇑q5;have:=iq q3;lia;change A.units+1+n<cLine;lia
   rw[fA,hr.length,jy.length,rv.length,nQ.length];simpa using z
 case lst.lst l m=>
  have Ct:=h1
  have uB:=h2
  simp![Rep] at h1 h2
  let⟨a,vs,rfl,hs,hr⟩:=h1
  let⟨b,ws,rfl,eJ,jy⟩:=h2
  cases r1;cases r2
  by_cases Ao:a=b
  subst Ao
  rw[Rep.inj I _ _ _ Ct uB,f8]
  show SeqAt.EqAt.same _
  let⟨bq,rv,ht,_⟩:=I.list hs
  let⟨its',nQ,kU,_⟩:=I.list eJ
  exact SeqAt.EqAt.of_refs Ao ?_
  simp![iY]
  simp![nB] at hn
  by_cases hl:bq.length=its'.length
  match n,hn,hu,ih with
  | n +1,hn,hu,ih=>
   have z:=SeqAt.RcAt.lists (A:=A) (s:=s) (e:=λj=>iY (l.getD j .di) (m.getD j .di)) ht.isList kU.isList ⇑hl ∅ λj g1 g2=>by let⟨q1,q2,q3⟩:=hr.items rv (j:=j) ⇑g1;let⟨q4,q5,q6⟩:=jy.items nQ (j:=j) ⇑g2;exact ih n (Nat.lt_succ_self n) A.in1 _ _ _ _ _ _ ?_ ?_ q1 q4 ⇑q2 ⇑q5;have:=iq q3;lia;change A.units+1+n<cLine;lia
   rw[fA,hr.length,jy.length,rv.length,nQ.length,hl];simpa [hl] using z
  have z:=SeqAt.RcAt.lists_lengths (A:=A) (s:=s) ht.isList kU.isList ⇑hl ∅
  have hf:(bq.length==its'.length)=false:= ⇑hl
  rw[fA,hr.length,jy.length,rv.length,nQ.length,hf,Bool.and_false]
  show z
 case tup.lst=>let⟨a,i,rfl,h⟩:=Rep.kX I h1 r1;let⟨b,j,rfl,h'⟩:=Rep.lf I h2 r2;show SeqAt.EqAt.tuple_list h h' ∅
 case lst.tup=>let⟨a,i,rfl,h⟩:=Rep.lf I h1 r1;let⟨b,j,rfl,h'⟩:=Rep.kX I h2 r2;show SeqAt.EqAt.list_tuple h h' ∅
 case tup.di=>let⟨a,i,rfl,h⟩:=Rep.kX I h1 r1;simp![Rep] at h2;subst h2;cases r2;show SeqAt.EqAt.tuple_none h ∅
 case lst.di=>let⟨a,i,rfl,h⟩:=Rep.lf I h1 r1;simp![Rep] at h2;subst h2;cases r2;show SeqAt.EqAt.list_none h ∅
 case di.tup=>let⟨a,i,rfl,h⟩:=Rep.kX I h2 r2;simp![Rep] at h1;subst h1;cases r1;show SeqAt.EqAt.none_tuple h ∅
 case di.lst=>let⟨a,i,rfl,h⟩:=Rep.lf I h2 r2;simp![Rep] at h1;subst h1;cases r1;show SeqAt.EqAt.none_list h ∅
 case tup.bl=>let⟨a,i,rfl,h⟩:=Rep.kX I h1 r1;simp![Rep] at h2;subst h2;cases r2;show SeqAt.EqAt.tuple_bool _ h ∅
 case lst.bl=>let⟨a,i,rfl,h⟩:=Rep.lf I h1 r1;simp![Rep] at h2;subst h2;cases r2;show SeqAt.EqAt.list_bool _ h ∅
 case bl.tup=>let⟨a,i,rfl,h⟩:=Rep.kX I h2 r2;simp![Rep] at h1;subst h1;cases r1;show SeqAt.EqAt.bool_tuple _ h ∅
 case bl.lst=>let⟨a,i,rfl,h⟩:=Rep.lf I h2 r2;simp![Rep] at h1;subst h1;cases r1;show SeqAt.EqAt.bool_list _ h ∅
 case tup.int=>let⟨a,i,rfl,h⟩:=Rep.kX I h1 r1;simp![Rep] at h2;subst h2;let⟨t,rfl⟩:=r2;show SeqAt.EqAt.tuple_int _ _ h ∅
 case lst.int=>let⟨a,i,rfl,h⟩:=Rep.lf I h1 r1;simp![Rep] at h2;subst h2;let⟨t,rfl⟩:=r2;show SeqAt.EqAt.list_int _ _ h ∅
 case int.tup=>let⟨a,i,rfl,h⟩:=Rep.kX I h2 r2;simp![Rep] at h1;subst h1;let⟨t,rfl⟩:=r1;show SeqAt.EqAt.int_tuple _ _ h ∅
 case int.lst=>let⟨a,i,rfl,h⟩:=Rep.lf I h2 r2;simp![Rep] at h1;subst h1;let⟨t,rfl⟩:=r1;show SeqAt.EqAt.int_list _ _ h ∅
 case tup.str=>let⟨a,i,rfl,h⟩:=Rep.kX I h1 r1;simp![Rep] at h2;subst h2;let⟨t,rfl⟩:=r2;show SeqAt.EqAt.tuple_str _ _ h ∅
 case lst.str=>let⟨a,i,rfl,h⟩:=Rep.lf I h1 r1;simp![Rep] at h2;subst h2;let⟨t,rfl⟩:=r2;show SeqAt.EqAt.list_str _ _ h ∅
 case str.tup=>let⟨a,i,rfl,h⟩:=Rep.kX I h2 r2;simp![Rep] at h1;subst h1;let⟨t,rfl⟩:=r1;show SeqAt.EqAt.str_tuple _ _ h ∅
 case str.lst=>let⟨a,i,rfl,h⟩:=Rep.lf I h2 r2;simp![Rep] at h1;subst h1;let⟨t,rfl⟩:=r1;show SeqAt.EqAt.str_list _ _ h ∅
 all_goals (simp![Rep] at h1 h2;subst h1 h2;show wJ r1 r2 rfl rfl)
end
end L2
namespace L2
open PySem PySem.Spec PyProof.Rows
def MC:Dt ->Bool
 | .tup _=>true
 | .lst _=>true
 | _=>false
def gd:Dt ->Dt ->Bool
 | .tup _, .tup _=>true
 | .lst _, .lst _=>true
 | _,_=>false
section
variable {X:Cx}
def Ey {aa:Fm (KQ×Obj)}{σ:St}{H:Hp}{s:JZ}(I:Inv X aa σ H s){A:K2}{d e:Dt}{x y:V}{u v:Fp}(hs:gd d e=true)(hn:nB d<=50)(hu:A.units+60<cLine)(h1:Rep X.K H d x)(h2:Rep X.K H e y)(r1:RelV x u)(r2:RelV y v): SeqAt.RcAt A s u v (iY d e) /\ SeqAt.RcNeAt A s u v (!iY d e):=by
 cases d with
 | tup l=>
  cases e with
  | tup m=>
   simp![Rep] at h1 h2;let⟨a,vs,rfl,hs,hr⟩:=h1;let⟨b,ws,rfl,eJ,jy⟩:=h2;cases r1;cases r2;let⟨bq,rv,ht,_⟩:=I.tuple hs;let⟨its',nQ,kU,_⟩:=I.tuple eJ;simp![iY];simp![nB] at hn;have he: ∀j (g1:j<bq.toArray.size) (g2:j<its'.toArray.size),SeqAt.EqAt A.in1 s bq.toArray[j] its'.toArray[j] ((λj=>iY (l.getD j .di) (m.getD j .di)) j):=λj g1 g2=>by let⟨q1,q2,q3⟩:=hr.items rv (j:=j) ⇑g1;let⟨q4,q5,q6⟩:=jy.items nQ (j:=j) ⇑g2;exact wK I 50 A.in1 _ _ _ _ _ _ ?_ ?_ q1 q4 ⇑q2 ⇑q5;have:=iq q3;lia;change A.units+1+50<cLine;lia
   have z:=SeqAt.RcAt.tuples (A:=A) (s:=s) ht kU ∅ he;have z':=SeqAt.RcNeAt.tuples (A:=A) (s:=s) ht kU ∅ he;rw[fA,hr.length,jy.length,rv.length,nQ.length];show#[⇑z, ⇑z']
  | _=>cases hs
 | lst l =>
  cases e with
  | lst m=>
   simp![Rep] at h1 h2;let⟨a,vs,rfl,hs,hr⟩:=h1;let⟨b,ws,rfl,eJ,jy⟩:=h2;cases r1;cases r2;let⟨bq,rv,ht,_⟩:=I.list hs;let⟨its',nQ,kU,_⟩:=I.list eJ;simp![iY];simp![nB] at hn;by_cases hl:bq.length=its'.length;have he: ∀j (g1:j<bq.toArray.size) (g2:j<its'.toArray.size),SeqAt.EqAt A.in1 s bq.toArray[j] its'.toArray[j] ((λj=>iY (l.getD j .di) (m.getD j .di)) j):=λj g1 g2=>by let⟨q1,q2,q3⟩:=hr.items rv (j:=j) ⇑g1;let⟨q4,q5,q6⟩:=jy.items nQ (j:=j) ⇑g2;exact wK I 50 A.in1 _ _ _ _ _ _ ?_ ?_ q1 q4 ⇑q2 ⇑q5;have:=iq q3;lia;change A.units+1+50<cLine;lia
   have z:=SeqAt.RcAt.lists (A:=A) (s:=s) ht.isList kU.isList ⇑hl ∅ he;have z':=SeqAt.RcNeAt.lists (A:=A) (s:=s) ht.isList kU.isList ⇑hl ∅ he;rw[fA,hr.length,jy.length,rv.length,nQ.length,hl];show#[by simpa [hl] using z,by simpa [hl] using z'];have z:=SeqAt.RcAt.lists_lengths (A:=A) (s:=s) ht.isList kU.isList ⇑hl ∅;have z':=SeqAt.RcNeAt.lists_lengths (A:=A) (s:=s) ht.isList kU.isList ⇑hl ∅;have hf:(bq.length==its'.length)=false:= ⇑hl;rw[fA,hr.length,jy.length,rv.length,nQ.length,hf,Bool.and_false];show#[z,z']
  | _=>cases hs
 | _=>cases hs
def EJ (K:KW):R2:=λx y H Q=>bU λd e=>dW (gd d e=true) (nB d<=50) (Rep K H d x) (Rep K H e y) (Q (.bl (iY d e)) H)
def EE (K:KW):R2:=λx y H Q=>bU λd e=>dW (gd d e=true) (nB d<=50) (Rep K H d x) (Rep K H e y) (Q (.bl (!iY d e)) H)
def vD (hu:X.A.units+60<cLine):iB X (compareOp .Eq) (EJ X.K):=by intro aa s σ H x y v u Q I r1 r2 h;let⟨d,e,h0,hn,h1,h2,q⟩:=h;show(Ey I h0 hn hu h1 h2 r1 r2).1 X.prog X.w X.xe _ #[.bl _,H,I,rfl,q]
def BB (hu:X.A.units+60<cLine):iB X (compareOp .NotEq) (EE X.K):=by intro aa s σ H x y v u Q I r1 r2 h;let⟨d,e,h0,hn,h1,h2,q⟩:=h;show(Ey I h0 hn hu h1 h2 r1 r2).2 X.prog X.w X.xe _ #[.bl _,H,I,rfl,q]
def dD.Jb {k:Nat}{A:K2}(r:dD k A):A.units+60<cLine:=by have:=r.units;lia
theorem r_: ∀ {ks:Fm Int} {vs:Fm Fp},vs.length=ks.length ->(∀ (j:Nat) (v:Fp),vs[j]? =some v ->bU λ(k:Int) (t:Tok)=>ks[j]? =some k /\ v= .int k t) ->IntsAre vs ks
 | [],[],_,_=> .nil
 | [],_::_,h,_=>by simp at h
 | _::_,[],h,_=>by simp at h
 | k::ks,v::vs,h,hv=>by let⟨k',t,e1,e2⟩:=hv 0 v rfl;simp at e1;subst e1 e2;show .cons k t (r_ ⇑h λj u e=> ⇑(hv (j+1) u ⇑e))
def om:Fm V ->Hp ->VK ->Prop:=λxs H Q=>fE λ(d:KQ) (kvs:Fm (cT×V)) (ks:Fm Int)=>dW (xs= [.ref d]) (H d=some (.dK kvs)) (kvs.map (·.1)=ks.map Sum.inl) (ks.length<=sizeLine) (∀ (p:KQ) (ns:Fm Int),H p=none ->ns.Perm ks ->ns.Pairwise (· <= ·) ->Q (.ref p) (cU H p (.lst (ns.map V.int))))
def nE (hc:X.calm=true):dn X (.builtin "sorted") om:=by
 intro aa s σ H xs us Q I r h;let⟨d,kvs,ks,rfl,hd,hk,HG,q⟩:=h;let⟨u,rfl,ru⟩:=vals1 r;cases ru;have hh:X.A.in1.handled=none:=I.ok.hd hc;let⟨hz,lo,vs,mR,dd⟩:=Ay I.cI hd;let⟨ep,An⟩:=dd.dictAt;have dj:vs.length=ks.length:=by have e1:=congrArg List.length hk;rw[af,af] at e1;rw[<- mR.length,e1]
 exact Calls.call_function_entry kind_sorted plain_sorted entry_sorted (args_sorted1 _) ?_;unfold Builtin.«sorted»;exact ak (m:=checkCount "sorted" 1 1 _) (aX ?_);exact ak (W.kdu_collect (A:=X.A.in1) (W.kdl_dict (knd:=cY X.prog X.w) (kvs:=vs) (ep:=ep) lo) hh An (by rw[<- mR.length];show hz) λh' tk dU OR yY=> ?_);have hl:dU.toList.length=ks.length:=by rw[bJ,yY.1,dj]
 have hI:IntsAre dU.toList ks:=r_ hl λj v e=>by
  let⟨k,x,hx,Kn⟩:=yY.2 j v (by rw[<- Array.getElem?_toList];show e);have FJ:(kvs.map (·.1))[j]? =some k:=by
   have:(vs.map (·.1))[j]? =some k:=by rw[aB,hx];rfl
   rw[<- mR.keys] at this;show this
  rw[hk,aB] at FJ;cases e2:ks[j]? with
  | none=>rw[e2] at FJ;cases FJ
  | some n=>
   rw[e2] at FJ;cases FJ;have Km:kj (Sum.inl n) v=true:=Kn;rcases cQ Km with⟨i,t,e3,e4⟩ | ⟨x,t,e3,e4⟩
   cases e3;show#[n,t,rfl,e4];cases e3
 exact ak (wpAny_newList ?_ (by rw[hl];show HG));have ho:(h'.push (seqObj "list" dU.toList.toArray 0)).get? h'.objs.size=some (seqObj "list" dU.toList.toArray 0):=aT _ rfl;exact ak (b9 (wpAny_call_entry slot_list_sort #[_,ho,rfl] entry_list_sort (TS.sR (s:= {s with heap:=h'.push (seqObj "list" dU.toList.toArray 0),toks:=tk}) ho hI (by rw[hl];show HG) λout C6 a1 a2 a3=>#[_,rfl,?_]) (args_list_sort _)));let⟨ee,KC⟩:=sortedHeap_at (out:=out) ho;have I':Inv X aa σ H {s with heap:=h',toks:=tk}:=I.kept (t':=tk) OR;exact aX #[_,rfl, .ref h'.objs.size,_,I'.laid (t':=tk) (o:= .lst (C6.map V.int)) (λb o hb=> ?_) (ag _) ?_,rfl,q _ C6 (I'.cI.fresh (ag _)) a2 a3];have fJ:b<h'.objs.size:=au hb;rw[sortedHeap_old (aU fJ) (by rw[Heap.size_push];show Nat.lt_succ_of_lt fJ)];show aw _ hb;exact#[?_,out.toList,ee,iH a1, ⇑KC];rw[af,a2.length_eq];show HG
end
def dh.of {X:Cx}{sc scope:Scope}{N own N':Fm Str}{fr:Fm Nat}(OA:X.env.scope=sc:=by show rfl)(hN:X.N=N:=by show rfl)(kind:scope.kind= .function:=by show rfl)(names:N'=own++fr.filterMap (λj=>N[j]?):=by decide+kernel)(len:N'.length=own.length+fr.length:=by show rfl)(nd:N'.Nodup:=by decide+kernel) (j_: ∀y∈scope.names,y.2≠ .cell:=by decide+kernel) (loc: ∀y∈scope.names,y.2= .local ->scope.names.lookup y.1=some .local:=by decide+kernel) (Dk: ∀x∈fr.filterMap (λj=>N[j]?),scope.names.lookup x=some .free:=by decide+kernel) (free: ∀y∈scope.names,y.2= .free ->sc.names.lookup y.1=some .cell \/ sc.names.lookup y.1=some .free:=by first | decide+kernel | show of_decide_eq_true rfl):dh X own fr N' scope:=by subst hN OA;show#[kind,names,len,nd,j_,loc,Dk,free]
structure i_ (K:PySem.W.Frag)(mg:Str ->Option Value)(x:Str)(ps:List Str)(st:Stmt)(f:Addr)(fd:FuncData):Prop where
 at_:mg x=some (.ref f)
 fn:pF K x x st f fd
 bd:Binds K fd ps []
section
variable {X:Cx}{k:Nat}{f:KQ}{fd:FuncData}{ps:Fm Str}{sp:Sp}{x:Str}{st:Stmt}{p pos:Pos}{e:Expr}{es:Fm Expr}{t:TA}
theorem aP {j:Nat}(C:i_ X.K X.mg x ps st f fd)(F:c_ X.prog X.w X.K X.mg X.base gx k f fd ps sp)(hr:dD j X.A) (ha:PA X (e::es) t) (hk:k<=j:=by decide) (hg:Gl X x:=by rfl) (li:(x==("__debug__" :Str))=false:=by decide) (he:starEach (e::es) X.env=(false,eval e X.env)::starEach es X.env:=by rfl) (lT:(backTo pos (starEach es X.env)).any (·.1)=false:=by rfl): PE X (.Call (.Name x p) (e::es) [] pos) (lz sp [] E0 t):=rE F (hr.mono hk) hg C.at_ C.fn.kp C.bd .nil EQ ha li he lT
end
theorem bM {H:Hp}{p:KQ}{o:HO}(h:H p=none):d0 H (cU H p o):=λb u e=>by rw[bP (cC e h)];show e
def aQ (H H':Hp):Prop:= ∀b xs,Rd H b (.tup xs) ->Rd H' b (.tup xs)
theorem aQ.refl (H:Hp):aQ H H:=λ_ _ h=>h
theorem aQ.trans {H H1 H2:Hp}(a:aQ H H1)(b:aQ H1 H2):aQ H H2:=λc o h=>b c o (a c o h)
theorem d0.ts {H H':Hp}(a:d0 H H'):aQ H H':=λb xs h=>by obtain h | ⟨o,h⟩:=h;show .inl (a _ _ h);show .inr #[o,a _ _ h]
inductive Gh (K:PySem.W.Frag)(H:Hp):V ->Value ->Prop where
 | of {x:V} {t:Value} (h:i8 K H x t):Gh K H x t
 | tup {a:Addr} {xs:List V} (h:gw K H a xs):Gh K H (.ref a) (.type "tuple")
 | lst {a:Addr} {xs:List V} (h:dw K H a xs):Gh K H (.ref a) (.type "list")
section
variable {X:Cx}
def EG (K:KW):Fm V ->Hp ->VK ->Prop:=λxs H Q=>i6 λx T t b=>dN (xs= [x, .ty T]) (Gh K H x t) (W.kitOne K t (.type T)=some b) (Q (.bl b) H)
def f':dn X (.builtin "isinstance") (EG X.K):=by
 intro aa s σ H xs us Q I r h;let⟨x,T,t,b,rfl,ty,e,q⟩:=h;let⟨u,w',rfl,ru,og⟩:=vals2 r;cases og;cases ty with
 | of ty=>show tQ I ru ty e λtk=>#[.bl b,H,I.tok tk,rfl,q]
 | tup hs=>cases ru;let⟨bq,rv,⟨o,h1,h2,_⟩,_⟩:=I.tuple hs;show bG W.kitx_tuple I.kl #[o,h1,h2] e (λz=>nomatch z) λtk=>#[.bl b,H,I.tok tk,rfl,q]
 | lst hs=>cases ru;let⟨bq,rv,ht,_⟩:=I.list hs;let⟨o,h1,h2,_⟩:=ht.isList;show bG W.kitx_list I.kl #[o,h1,h2] e (λz=>nomatch z) λtk=>#[.bl b,H,I.tok tk,rfl,q]
end
end L2
namespace L2
open PySem PyProof.Rows PyProof.V PySem.Calls PySem.Spec
def gq (P:KY)(w:KZ):uv:=λouter H s E e s'=>Dn λ(ea:KQ) (cls a0:Fp) (B:K0) (H':Hp)=>HQ (e= .ref ea) (s'.os=s.os) (AllBare s'.gens) (Heap.FlyingW B outer ea cls a0 s'.heap) (fM P w H' B) (H' ea=none) (Un (eC outer) [] H H' s.heap s'.heap) (cJ (∀b o,s.heap.get? b=some o ->H b=none ->b∉eC outer ->B.get? b=some o) (∀b o,s.heap.get? b=some o ->b∉eC outer -> ∃o',B.get? b=some o') (E cls none H'))
def cV.ex {P:KY}{w:KZ}{H:Hp}{h:K0}{a:KQ}{o:HO}(x:cV P w H h a o): ∃u,h.get? a=some u:=by
 cases o with
 | lst xs=>let⟨_,_,_,_,e⟩:=x;show#[_,e]
 | tup xs=>let⟨_,_,_,p,e,_⟩:=x;show#[_,e]
 | dK kvs=>let⟨_,_,_,_,o,_,_,e,_⟩:=x;show#[_,e]
 | dT kvs=>let⟨_,_,_,_,o,_,_,e,_⟩:=x;show#[_,e]
 | set S n=>let⟨o,_,_,_,e,_⟩:=x;show#[_,e]
 | ins C dx fs=>let⟨_,_,_,e,_⟩:=x;show#[_,e]
 | own y=>show x
 | xd fs=>let⟨_,⟨_,_,_,e,_⟩,_⟩:=x;show#[_,e]
 | G8 lo hi=>let⟨_,_,_,e⟩:=x;show#[_,e]
 | oP ob u=>let⟨e,_⟩:=x;show#[_,e]
 | zE ps=>show#[_,(show h.get? a=some _ from x)]
 | met f y=>show#[_,(show h.get? a=some _ from x)]
 | ext φ=>let⟨_,e,_⟩:=x;show e
section
variable {X:Cx}{aa:Fm (KQ×Obj)}{σ:St}{H H':Hp}{s s':JZ}
theorem Inv.tz (I:Inv X aa σ H s){b:KQ}{o:Obj}(e:X.s₀.heap.get? b=some o)(n:b∉X.fs):b∉eC X.stack:=λz=>by obtain q | q:=az.mp (I.mK b z);have h1:=au e;have h2:=I.ok.above;rw[q] at h1;show absurd h1 (Nat.not_lt.mpr h2);show n q
theorem jJ {outer:Fm Env}{H₀:Hp}{h0 h h' B:K0}{base:K0}(ff:h.FunFrames base outer)(hF: ∀b∈eC outer,H₀ b=none)(u:Un (eC outer) [] H₀ H' h0 h)(st:B.StaysIn h')(up:h.UpToSlots h') (kb: ∀b o,h0.get? b=some o ->H₀ b=none ->b∉eC outer ->B.get? b=some o) (kt: ∀b o,h0.get? b=some o ->b∉eC outer -> ∃o',B.get? b=some o'):Un (eC outer) [] H₀ H' h0 h' where
 keep b o e n hb _:=st b o (kb b o e n hb)
 slot b o e n hb hx:=by let⟨sl,e1⟩:=u.slot b o e n hb hx;let⟨_,o2,e2,tW⟩:=ff.mem hb;rw[e1] at e2;cases e2;let⟨zO,e3⟩:=up b _ e1 tW;show#[zO,e3]
 free:=u.free
 there b o e hx:=by by_cases hb:b∈eC outer;let⟨sl,e1⟩:=u.slot b o e (hF b hb) hb hx;let⟨_,o2,e2,tW⟩:=ff.mem hb;rw[e1] at e2;cases e2;let⟨zO,e3⟩:=up b _ e1 tW;show#[_,e3];let⟨o',e'⟩:=kt b o e hb;show#[o',st _ _ e']
 gA:=u.gA
 gp:=u.gp
 gV:=u.gV
def jX {P:KY}{w:KZ}{K:KW}{mg:Str ->KO Fp}{base:K0}{N:Fm Str}{qual:Str}{scope:Scope}{f:KQ}{cd:Fp}{A:K2}{outer:Fm Env}{s:JZ}{H:Hp}{E:XK}: gT (gq P w) (dF (gq P w) P w K mg base N qual scope f cd A outer s H E) E:=by
 intro aa σ H1 s1 e s' I hf;let⟨ea,cls,a0,B,H',rfl,os,bare,fl,cI,oK,un,kb,kt,hE⟩:=hf;have I':=I.sE (ch:= []) os un (cI.kept fl.1) bare (λb z=>absurd z (by simp));change wpAny _ _ (leaving _ (.ref ea)) _ _ s';exact wpAny_leaves_onW I.ok.frames rfl fl λh' Nv up=> ?_;have hex:(dF (gq P w) P w K mg base N qual scope f cd A outer s H E).ex= []:=rfl;have Fg: ∀b o,s.heap.get? b=some o ->H b=none ->b∉eC outer ->B.get? b=some o:=λb o e n hb=>kb b o (I.base.keep b o e n hb (λz=>absurd z (by simp[hex]))) (I.base.free b o e n (λz=>absurd z (by simp[hex]))) (I.tz e hb);have Fd: ∀b o,s.heap.get? b=some o ->b∉eC outer -> ∃o',B.get? b=some o':=λb o e hb=>by let⟨o1,e1⟩:=I.base.there b o e (λz=>absurd z (by simp[hex]));show kt b o1 e1 (I.tz e hb)
 show#[ea,cls,a0,B,H',rfl,os.trans I.os,bare,Nv,cI,oK,jJ I'.gN I.ok.xF I'.base Nv.1 up Fg Fd,Fg,Fd,hE]
def wA {P:KY}{w:KZ}{M:Model}{E':Fp ->JZ ->Prop}{E:XK}{h':K0}{e:KQ}{cls:Fp}{vs:Fm Fp}(hP:X.prog=P)(hw:X.w=w)(I:Inv X aa σ H s)(xD:X.stack=X.env::X.outer)(ww:X.env.frame=some X.env.locals)(hex:X.ex= []) (mk:Heap.MadeExcOf s.heap h' e cls vs) (hE:E cls none H): wpAny M X.A (leaving X.env (.ref e)) (λ_ s2=>gq P w X.outer X.H₀ X.s₀ E (.ref e) s2) E' {s with heap:=h'}:=by
 subst hP hw;have z8: ∀b:KQ,b∉X.ex:=λb z=>by rw[hex] at z;show absurd z (by simp)
 have Ba:=I.stack;have tX: ∀env∈X.stack, ∀b,env.frame=some b ->b∈eC X.stack:=λenv he b hb=>List.mem_filterMap.mpr #[env,he,hb];have hB:fM X.prog X.w H (W.hideAll s.heap (eC X.stack)):=λa o ea=>(I.cI a o ea).jL (λb u hb q=>W.hideAll_get _ q λhm=>by have:=I.jt b hm;obtain rfl | hb:=hb;rw[ea] at this;cases this;rw[hb] at this;cases this) (λ_ q=>q) λ_ _ q=>q;have oK:H e=none:=by
  cases q:H e with
  | none=>rfl
  | some o=>let⟨u,hu⟩:=(I.cI e o q).ex;rw[mk.new] at hu;cases hu
 have kb: ∀b o,X.s₀.heap.get? b=some o ->X.H₀ b=none ->b∉eC X.outer ->(W.hideAll s.heap (eC X.stack)).get? b=some o:=λb o e n hb=>W.hideAll_get _ (I.base.keep b o e n hb (z8 b)) (I.tz e hb);have kt: ∀b o,X.s₀.heap.get? b=some o ->b∉eC X.outer -> ∃o',(W.hideAll s.heap (eC X.stack)).get? b=some o':=λb o e hb=>by let⟨o1,e1⟩:=I.base.there b o e (z8 b);show#[o1,W.hideAll_get _ e1 (I.tz e hb)]
 have OU:s.heap.FunFrames (W.hideAll s.heap (eC X.stack)) (X.env::X.outer):=by have:=W.funFrames_hide Ba tX;rw[xD] at this ⊢;show this
 exact wpAny_leaves_madeW (by rw[I.ok.frames,xD]) ww (λb o q=>W.of_hideAll _ q) OU mk λh2 t fl tu _ up=> ?_;have NY:s.heap.UpToSlots h2:=(Heap.UpToSlots.of_keeps mk.keeps).trans up;have u0:Un (eC X.outer) [] X.H₀ H X.s₀.heap s.heap:=by have:=I.base;rw[hex] at this;show this
 show#[e,cls, .ref t,_,H,rfl,I.os,I.bare,fl,hB,oK,jJ I.gN I.ok.xF u0 fl.1 NY kb kt,kb,kt,hE]
def pG (X:Cx)(E:XK):Prop:= ∀ (aa:Fm (KQ×Obj)) (σ:St) (H:Hp) (s:JZ) (h':K0) (e:KQ) (cls:Fp) (vs:Fm Fp),Inv X aa σ H s ->Heap.MadeExcOf s.heap h' e cls vs ->E cls none H ->X.xe (.ref e) {s with heap:=h'}
theorem oR {P:KY}{w:KZ}{K:KW}{mg:Str ->KO Fp}{base:K0}{N:Fm Str}{qual:Str}{scope:Scope}{f:KQ}{cd:Fp}{A:K2}{outer:Fm Env}{s:JZ}{H:Hp}{E:XK}: pG (dF (gq P w) P w K mg base N qual scope f cd A outer s H E) E:=λaa σ H1 s1 h' e cls vs I mk hE=>wA (P:=P) (w:=w) rfl rfl I rfl rfl rfl mk hE
nonrec abbrev Ga:Fm Fp:= [.type "ValueError", .type "Exception", .type "BaseException", .type "object"]
def pV (C:KQ)(E:XK)(t:TA):TS:=λ_ σ H=>t σ H λvs H1=>vs.length<=sizeLine /\ E (.ref C) none H1
def vq {E:XK}{x:Str}{C:KQ}{np dH pos:Pos}{e₀:Expr}{c7:Fm Expr}{t:TA}(hF:pG X E)(hc:X.calm=true)(hg:Gl X x)(O:PyProof.Rows.OwnCls x C Ga "ValueError.__new__" X.mg X.base)(ha:PA X (e₀::c7) t) (li:(x==("__debug__" :Str))=false:=by decide) (he:starEach (e₀::c7) X.env=(false,eval e₀ X.env)::starEach c7 X.env:=by rfl) (lT:(backTo dH (starEach c7 X.env)).any (·.1)=false:=by rfl): PS X (.Raise (some (.Call (.Name x np) (e₀::c7) [] dH)) none pos) (pV C E t):=by intro aa s σ H D I h;let⟨tl,N,nm,q,bs,hdct,sn,sub,ab,col,dd,k0,k1,k2,k3,k5,mN,hC,hN,MX,T⟩:=O.obj;exact wpAny_Raise_call_subU (C:=C) (nm:=nm) (q:=q) (N:=N) (bs:=bs) (bm:=tl) (hdct:=hdct) (sn:=sn) (sub:=sub) (ab:=ab) (col:=col) (dd:=dd) (k0:=k0) (k1:=k1) (k2:=k2) (k3:=k3) (k5:=k5) PySem.F.excBase_ValueError (bmB:=Ga) (by decide+kernel) PySem.F.excBase_ValueError (mN:=mN) (T.hasType PySem.F.excBase_ValueError.hasBase) (I.ok.hd hc) (by rw[he];change(false || (backTo dH (starEach c7 X.env)).any (·.1))=false;rw[lT];rfl) MX (jx I hg O.bound #[rfl,?_] li);have h2:=ha dH aa s σ H _ I h;rw[he] at h2 ⊢;show Calls.evalArgs_plain (cR h2 λus s2 ⟨vs,H1,I1,r,z,hE⟩=>#[rfl,by rw[<- r.length];show z,I1.bk _ _ hC,hN.keeps I1.bk,T.keeps I1.bk,λh' e mk=>hF aa σ H1 s2 h' e (.ref C) us I1 mk hE])
end
def fH (a C:KQ)(h:K0):Prop:= ∃o,h.get? a=some o /\ o.cls= .ref C
abbrev Cx.fF (X:Cx)(e:Fp):Cx:= {X with A:=X.A.mark (some e),calm:=false,xe:=λ_ _=>False}
section
variable {X:Cx}{aa:Fm (KQ×Obj)}{σ:St}{H H':Hp}{s s':JZ}
theorem Cx.Ok.fF (ok:X.Ok)(e:Fp):(X.fF e).Ok:=#[ok.mod,ok.kind,ok.glob,ok.blt,ok.above,ok.inj,ok.has,ok.Dl,(λz=>nomatch z),ok.frames,ok.Ba,ok.Le,ok.bs,ok.xI,ok.tD,ok.qz,ok.gN,ok.xF]
theorem Inv.fF (I:Inv X aa σ H s)(e:Fp):Inv (X.fF e) aa σ H s:=#[I.ok.fF e,I.os,I.bare,I.base,I.loc,I.cell,I.free,I.eN,I.pin,I.cI,I.len]
theorem Inv.jY {e:Fp}(ok:X.Ok)(I:Inv (X.fF e) aa σ H s):Inv X aa σ H s:=#[ok,I.os,I.bare,I.base,I.loc,I.cell,I.free,I.eN,I.pin,I.cI,I.len]
def yZ {M:Model}{A:K2}{E:Fp ->JZ ->Prop}{i:Nat}{n:Str}{pos:Pos}{Q:Unit ->JZ ->Prop}(I:Inv X aa σ H s)(hN:X.N.Nodup)(hi:X.N[i]? =some n)(hk:X.env.kindOf n=some .local) (h: ∀s',Inv X aa (σ.set i none) H s' ->Q () s'):wpAny M A (do bindName X.env n .none;unbindBehindTheSuite X.env n pos) Q E s:=by
 let⟨m,hn,hl⟩:=id I.loc;have Ck:(X.env.scope.kind== .class || (X.env.scope.kind== .module && X.env.locals !=X.env.globals))=false:=by rw[I.ok.kind];rfl
 have Hx:i<σ.length:=by rw[I.len];show(aZ.mp hi).1
 have wV:=I.wV;exact wpAny_nameGoes_keeps hk hn Ck λh' v Cc hs=> ?_;let⟨oL,_,_,MW,_⟩:=id hn;have tracked:fM X.prog X.w H h':=λb ob e=>by exact(I.cI b ob e).jL (λc w' hc q=>(hs.2 c ?_).trans q) (λ_ q=>q) λ_ _ q=>q;rintro rfl;obtain rfl | hc:=hc;rw[I.free] at e;cases e;rw[I.free] at hc;cases hc
 exact h _ #[I.ok,I.os,I.bare,#[λb o e n hb hx=> ?_,λb o e n hb hx=> ?_,I.base.free,λb o e hx=> ?_,I.base.gA,I.base.gp,I.base.gV],#[_,Cc,λj y v' e1 e2 e3=> ?_],λy c e=> ?_,I.free,I.eN,λp hp=> ?_,tracked, ⇑I.len];show(hs.2 b (aU (aF (au e) I.ok.above))).trans (I.base.keep b o e n hb hx);let⟨sl,e1⟩:=I.base.slot b o e n hb hx;show#[sl,(hs.2 b (aU (aF (au e) I.ok.above))).trans e1];let⟨o',e1⟩:=I.base.there b o e hx;show#[o',(hs.2 b (aU (aF (au e) I.ok.above))).trans e1];by_cases hj:j=i;subst hj;rw[List.getElem?_set_self Hx] at e2;cases e2;rw[List.getElem?_set_ne (bY hj)] at e2;let⟨u',r',q⟩:=hl j y v' e1 e2 e3;exact#[u',r',?_];rcases q with⟨k,e⟩ | ⟨k,c,e,z⟩
 exact .inl #[k,?_];have:y≠n:=λe=>hj (j9 hN e1 (e▸hi));simp[this,e];show .inr #[k,c,e,z.sameBut hs (wV y c e)];let⟨w',z⟩:=I.cell y c e;show#[w',z.sameBut hs (wV y c e)];let⟨e,n,ne,nf,d⟩:=I.pin p hp;show#[(hs.2 p.1 ne).trans e,n,ne,nf,d]
def gM {H1:Hp}{s1:JZ}{B h5:K0}{ea C:KQ}{a0:Fp}(I:Inv X aa σ H1 s1)(os:s'.os=s1.os)(bare:AllBare s'.gens)(fl:Heap.FlyingW B X.stack ea (.ref C) a0 s'.heap)(cI:fM X.prog X.w H' B)(oK:H' ea=none) (un:Un (eC X.stack) [] H1 H' s1.heap s'.heap) (kb: ∀b o,s1.heap.get? b=some o ->H1 b=none ->b∉eC X.stack ->B.get? b=some o) (kt: ∀b o,s1.heap.get? b=some o ->b∉eC X.stack -> ∃o',B.get? b=some o') (Lb:Heap.FlyingW B X.stack ea (.ref C) a0 h5) (up:s'.heap.UpToSlots h5) {tk:Nat}:Inv X aa σ (cU H' ea (.ext (fH ea C))) {s' with heap:=h5,toks:=tk} /\ aQ H1 (cU H' ea (.ext (fH ea C))):=by
 have new: ∀b o,s1.heap.get? b=some o ->b≠ea:=λb o e z=>by subst z;by_cases hb:b∈eC X.stack;let⟨_,o2,e2,tW⟩:=fl.2.2.1.mem hb;let⟨oe,vs,e3,_,hd,_⟩:=fl.first;rw[e2] at e3;cases e3;show tW vs hd;let⟨o',e'⟩:=kt b o e hb;rw[fl.2.1] at e';cases e'
 have u5:=jJ fl.2.2.1 I.jt un Lb.1 up kb kt;have oH: ∀b o,H' b=some o ->cU H' ea (.ext (fH ea C)) b=some o:=λb o e=>by rw[bP (cC e oK)];show e
 have u6:Un (eC X.stack) [] H1 (cU H' ea (.ext (fH ea C))) s1.heap h5:=#[u5.keep,u5.slot,λb o e n hx=>by rw[bP (new b o e)];show u5.free b o e n hx,u5.there,λb xs e=>oH _ _ (u5.gA b xs e),λb o u e=>oH _ _ (u5.gp b o u e),λb ps e=>let ⟨m,z⟩:=u5.gV b ps e;#[m,oH _ _ z]]
 have Ke:fM X.prog X.w (cU H' ea (.ext (fH ea C))) h5:=λb o e=>by by_cases hb:b=ea;subst hb;rw[bV] at e;cases e;let⟨oe,vs,e3,hc,_⟩:=Lb.first;show#[#[oe,e3,hc],#[oe,e3],λh1 h2 ⟨o,e,c⟩ k=>#[o,k o e,c]];rw[bP hb] at e;show(cI b o e).jL (λc u _ q=>Lb.1 c u q) (λc q=>oH _ _ q) λc xs q=>oH _ _ q
 exact#[I.sE (s':= {s' with heap:=h5,toks:=tk}) (ch:= []) os u6 Ke bare (λb z=>absurd z (by simp)),λb xs r=> ?_];obtain r | ⟨w,r⟩:=r;show .inl (u6.gA _ _ r);show .inr #[w,u6.gp _ _ _ r]
def oO (i:Nat)(D:gc):gc:= {nx:=λσ H=>D.nx (σ.set i none) H,rt:=D.rt,bk:=λσ H=>D.bk (σ.set i none) H,ct:=λσ H=>D.ct (σ.set i none) H}
theorem rJ {M:Model}{A:K2}{E:Fp ->JZ ->Prop}{x:Str}{u:Fp}{pos:Pos}{Q:Fp ->JZ ->Prop}(I:Inv X aa σ H s)(hg:Gl X x)(hm:X.mg x=some u)(h:Q u s) (hd:(x==("__debug__" :Str))=false:=by decide):wpAny M A (eval (.Name x pos) X.env) Q E s:=Calls.Name_function_global I.ok.kind hg (Calls.loadGlobal_global (by rw[I.ok.glob];show I.mod.glob.keeps I.bk) hm h) hd
end
end L2
namespace L2
open PySem PyProof.Rows PyProof.V PySem.Calls PySem.Spec PySem.W PySem.Builtin PySem.Builtin.ObjectAttr PySem.Builtin.Getset_descriptor
section
variable {prog:KY}{w:KZ}{A:K2}{E:Fp ->JZ ->Prop}{K:KW}{hh:K0}{g:KU GenState}{d:Drawn}{t:Nat}{os:OsState}{a C:KQ}{o:Obj}
theorem iW {M:Model}(hx:hh.get? a=some o)(hc:o.cls= .ref C):Looks M hh (typeOf (.ref a)) (.ref C):=hc▸ (Looks.ld hx).andThen .now
def zc {R:Result ->JZ ->Prop}{tp:Fp}(X:K.In hh)(hx:hh.get? a=some o)(hc:o.cls= .ref C)(hm:mroIn K C (.type "object")=some true)(h:R (.ok (.ret (.ref C))) #[hh,g,d,t,os]): codeAny (model prog w) A (.call (.builtin "getset_descriptor.__get__") #[[.builtin "object.__class__", .ref a,tp],[]]) R #[hh,g,d,t,os]:=by
 have L0:=iW (M:=model prog w) hx hc;have L1:=looks_mroIn (M:=model prog w) X hm;exact codeAny_call_builtin KF.slot_gs.plain KF.entry_gs (KF.slot_gs.check _ _ _ _ _ _ _ _ KF.type_class (KF.args_gs _ _ _) ?_);unfold Builtin.«getset_descriptor.__get__» descrGet;rw[dga_obj];exact ak (aX ?_);unfold descrGetter descrCheckInstance descrNameAndClass isInstance;simp![KF.owner_class];repeat lk
 exact#[Code.quiet_builtin _ (by decide+kernel),codeAny_builtin KF.entry_class ?_];unfold Builtin.«object.__class__» shownTypeOf;repeat lk
 show h
def t7 {tk:Tok}{Q:Fin ->JZ ->Prop}(X:K.In hh)(hx:hh.get? a=some o)(hc:o.cls= .ref C)(iD:findIn K (.ref C) "__class__" =some (some (.builtin "object.__class__")))(hm:mroIn K C (.type "object")=some true) (hq:Q (.done (.ret (.ref C))) #[hh,g,d,t,os]):wpAny (model prog w) A (Builtin.«object.__getattribute__» #[[.ref a, .str "__class__" tk],[]]) Q E #[hh,g,d,t,os]:=by
 have LT:=iW (M:=model prog w) hx hc;have L3:=looks_findIn (M:=model prog w) X iD;have RF:(#[hh,g,d,t,os]:JZ).TypeIs (.builtin "object.__class__") "getset_descriptor" :=F.typeOf_object_class;have f5:=F.typeOf_object_class;have f6:=F.slot_gs_get.lookup;have f7:=F.slot_gs_set.lookup;repeat (any_goals (first | assumption | with_reducible exact Looks.at LT ?_ | with_reducible exact Looks.at L3 ?_ | (with_reducible exact wpAny_loadPart_at hx ?_;rw[hc]) | wp_step))
 exact zc X hx hc hm ?_;repeat (any_goals (first | assumption | wp_step))
def t8 {M:Model}{z_:Fp}{Q:Unit ->JZ ->Prop}(X:K.In hh)(hx:hh.get? a=some o)(hc:o.cls= .ref C)(hb:mroIn K C (.type "BaseException")=some true)(hq:Q () #[hh,g,d,t,os]): wpAny M A (checkBuiltinCall "BaseException.__getattribute__" #[[.ref a,z_],[]]) Q E #[hh,g,d,t,os]:=by
 have LT:=iW (M:=M) hx hc;have LB:=looks_mroIn (M:=M) X hb;have hk:builtinKind "BaseException.__getattribute__" =some .slot:=by decide+kernel
 have B0:splitId "BaseException.__getattribute__" =some ("BaseException","__getattribute__"):=by decide+kernel
 have ha:=F.args_bexc_ga (.ref a) z_;simp![checkBuiltinCall,hk,B0];exact ak ?_
 .unfold isInstance;repeat (first | with_reducible exact Looks.at LT ?_ | with_reducible exact Looks.at LB ?_ | (with_reducible exact wpAny_loadPart_at hx ?_;rw[hc]) | wp_step)
  show hq
theorem wF {tk:Tok}{R:Result ->JZ ->Prop}(X:K.In hh)(hx:hh.get? a=some o)(hc:o.cls= .ref C)(iD:findIn K (.ref C) "__class__" =some (some (.builtin "object.__class__")))(hm:mroIn K C (.type "object")=some true)(hb:mroIn K C (.type "BaseException")=some true) (hq:R (.ok (.ret (.ref C))) #[hh,g,d,t,os]):codeAny (model prog w) A (.call (.builtin "BaseException.__getattribute__") #[[.ref a, .str "__class__" tk],[]]) R #[hh,g,d,t,os]:=codeAny_call_builtin F.excAttr_ValueError.ga.plain F.entry_bexc_ga (t8 X hx hc hb (t7 X hx hc iD hm hq))
def Cz {tk:Tok}{fill Cy:Bool}{Q:Fp ->JZ ->Prop}(X:K.In hh)(hx:hh.get? a=some o)(hc:o.cls= .ref C)(Ku:findIn K (.ref C) "__getattribute__" =some (some (.builtin "BaseException.__getattribute__")))(Ks:findIn K (.ref C) "__getattr__" =some none) (iD:findIn K (.ref C) "__class__" =some (some (.builtin "object.__class__"))) (hm:mroIn K C (.type "object")=some true) (hb:mroIn K C (.type "BaseException")=some true) (hq:Q (.ref C) #[hh,g,d,t,os]):wpAny (model prog w) A (getAttrBy (.ref a) (.str "__class__" tk) fill Cy) Q E #[hh,g,d,t,os]:=by
 have LT:=iW (M:=model prog w) hx hc;have L1:=looks_findIn (M:=model prog w) X Ku;have L2:=looks_findIn (M:=model prog w) X Ks;have f3:=F.excAttr_ValueError.ga.bind (.ref a);have J9:(Cy && onTheHeap (Value.builtin "BaseException.__getattribute__"))=false:=by cases Cy<;>rfl
 have Om:(Value.builtin "BaseException.__getattribute__" ==Value.builtin "object.__getattribute__")=false:=by decide+kernel
 have Rt:(onTheHeap (Value.ref C) && Value.builtin "BaseException.__getattribute__" ==Value.builtin "object.__getattribute__")=false:=by rw[Om];rfl
 repeat (any_goals (first | assumption | with_reducible exact Looks.at LT ?_ | with_reducible exact Looks.at L1 ?_ | with_reducible exact Looks.at L2 ?_ | (with_reducible exact wpAny_loadPart_at hx ?_;rw[hc]) | wp_step))
 exact wF X hx hc iD hm hb ?_;repeat (any_goals (first | assumption | wp_step))
def wG {Q:KO Fp ->JZ ->Prop}(X:K.In hh)(hx:hh.get? a=some o)(hc:o.cls= .ref C)(Ku:findIn K (.ref C) "__getattribute__" =some (some (.builtin "BaseException.__getattribute__")))(Ks:findIn K (.ref C) "__getattr__" =some none) (iD:findIn K (.ref C) "__class__" =some (some (.builtin "object.__class__"))) (hm:mroIn K C (.type "object")=some true) (hb:mroIn K C (.type "BaseException")=some true) (hq:Q (some (.ref C)) #[hh,g,d,t+1,os]):wpAny (model prog w) A (getAttr? (.ref a) "__class__") Q E #[hh,g,d,t,os]:=by unfold getAttr? getAttrBy?;repeat (any_goals (first | assumption | with_reducible apply Cz X hx hc Ku Ks iD hm hb | wp_step))
end
end L2
namespace L2
open PySem PyProof.Rows PyProof.V PySem.Calls PySem.Spec PySem.W
structure qI (K:PySem.W.Frag)(C:Addr):Prop where
 cls:(clsIn K C).isSome=true
 ga:findIn K (.ref C) "__getattribute__" =some (some (.builtin "BaseException.__getattribute__"))
 gn:findIn K (.ref C) "__getattr__" =some none
 cl:findIn K (.ref C) "__class__" =some (some (.builtin "object.__class__"))
 mo:mroIn K C (.type "object")=some true
 mb:mroIn K C (.type "BaseException")=some true
theorem vU {K:KW}{a C:KQ}(k:qI K C):KitX K (.ref a) (.ref C) (fH a C) where
 ty:=λM h _ ⟨o,e,c⟩=>iW e c
 it :=λ_ _ X _=>by let⟨Q4,Cm⟩:=Option.isSome_iff_exists.mp k.cls;unfold clsIn at Cm;split at Cm;rename_i c' d' Q7 Jh ho;intro A' Q' E' s' k q;unfold isType loadHead;show ak (wpAny_loadPart (k _ _ (X _ _ ho)) (aX q));cases Cm
 ne :=λh tp dd bq n sl X Ou=>by let⟨Q4,Cm⟩:=Option.isSome_iff_exists.mp k.cls;exact Bool.eq_false_iff.mpr λq=> ?_;have e:C=tp:=Value.ref.inj (beq_iff_eq.mp q);subst e;unfold clsIn at Cm;split at Cm;rename_i c' d' Q7 Jh ho;have z:=(X _ _ ho).symm.trans Ou;cases z;cases Cm
 ca:=λ{prog w A E Q s} X ⟨o,e,c⟩ h=>by let⟨hh,g,d,t,os⟩:=s;show wG X e c k.ga k.gn k.cl k.mo k.mb h
section
variable {X:Cx}
def vn (K:KW):Fm V ->Hp ->VK ->Prop:=λxs H Q=>Dn λa C c cu b=>HR (xs= [.ref a,c]) (H a=some (.ext (fH a C))) (qI K C) (RelV c cu) (∀u,RelV c u ->u=cu) (kitOne K (.ref C) cu=some b) (Q (.bl b) H)
def kM:dn X (.builtin "isinstance") (vn X.K):=by intro aa s σ H xs us Q I r h;let⟨a,C,c,cu,b,rfl,ea,kc,rc,only,e,q⟩:=h;let⟨u,w',rfl,ru,og⟩:=vals2 r;cases only _ og;cases (show u=Value.ref a from ru);show kia_one (vU kc) I.kl (I.cI a _ ea).1 e (λz=>nomatch z) λtk=>#[.bl b,H,I.tok tk,rfl,q]
end
end L2
namespace WL
open PySem L2
set_option genInjectivity true in
inductive W where
 | v (x:V) | tup (l:List W)
set_option genInjectivity true in
inductive MO where
 | lst (l:List W) | dK (kvs:List (cT×W)) | ins (C dx:Addr) (fs:List (Str×W)) | exc (C:Addr) | fz (o:Obj) (ks:List (cT×V)) (kvs:List (cT×W))
abbrev Mp:=KQ ->KO MO
abbrev cA:=Fm (KO W)
abbrev WK:=W ->Mp ->Prop
abbrev WE:=cA ->Mp ->WK ->Prop
abbrev WT:=cA ->Mp ->(Bool ->Mp ->Prop) ->Prop
abbrev WA:=cA ->Mp ->(Fm W ->Mp ->Prop) ->Prop
abbrev WG:=W ->cA ->Mp ->(cA ->Mp ->Prop) ->Prop
abbrev xa:=Fm W ->cA ->Mp ->(cA ->Mp ->Prop) ->Prop
abbrev mC:=W ->W ->Mp ->WK ->Prop
abbrev pK:=Fm W ->Mp ->WK ->Prop
abbrev WI:=cA ->Mp ->(Fm W ->(Mp ->Prop) ->Mp ->Prop) ->Prop
structure dk where
 nx:cA ->Mp ->Prop
 rt:WK
 bk:cA ->Mp ->Prop:=λ_ _=>False
 ct:cA ->Mp ->Prop:=λ_ _=>False
abbrev WS:=dk ->cA ->Mp ->Prop
@[reducible] def wi (i:Int):W:= .v (.int i)
@[reducible] def wb (b:Bool):W:= .v (.bl b)
@[reducible] def wr (a:KQ):W:= .v (.ref a)
@[reducible] def ws (x:Str):W:= .v (.str x)
@[reducible] def wn:W:= .v .di
def um (M:Mp)(a:KQ)(o:MO):Mp:=λb=>if b=a then some o else M b
def aM {M:Mp}{a:KQ}{o:MO}:um M a o a=some o:=by unfold um;rw[am rfl]
def cO {M:Mp}{a b:KQ}{o:MO}(h:b≠a):um M a o b=M b:=by unfold um;rw[ar h]
def uO {M:Mp}{a:KQ}{o u:MO}:um (um M a o) a u=um M a u:=by funext b;unfold um;split<;>rfl
def gK {M:Mp}{a b:KQ}{o:MO}(h:M a=some o)(h':M b=none):a≠b:=by intro e;subst e;rw[h] at h';cases h'
def Sm (M M':Mp):Prop:= ∀b o,M b=some o ->M' b=some o
theorem Sm.refl (M:Mp):Sm M M:=λ_ _ h=>h
theorem Sm.trans {M M1 M2:Mp}(a:Sm M M1)(b:Sm M1 M2):Sm M M2:=λc o h=>b c o (a c o h)
def Sm.free {M M':Mp}{p:KQ}(a:Sm M M')(h:M' p=none):M p=none:=by
 cases e:M p with
 | none=>rfl
 | some o=>rw[a p o e] at h;cases h
theorem bv {M:Mp}{p:KQ}{o:MO}(h:M p=none):Sm M (um M p o):=λb u e=>by rw[cO (gK e h)];show e
theorem Sm.um {M M':Mp}{p:KQ}{o:MO}(a:Sm M M')(h:M p=none):Sm M (um M' p o):=λb u e=>by rw[cO (gK e h)];show a b u e
mutual
def WR (K:KW)(H:Hp):W ->V ->Prop
 | .v x,v=>v=x
 | .tup l,v=>bU λa vs=>cJ (v= .ref a) (gw K H a vs) (bS K H l vs)
def bS (K:KW)(H:Hp):Fm W ->Fm V ->Prop
 | [],vs=>vs= []
 | x::r,vs=>bU λv t=>cJ (vs=v::t) (WR K H x v) (bS K H r t)
end
mutual
theorem WR.ts {K:KW}{H H':Hp}(a:aQ H H'): ∀ (x:W) (v:V),WR K H x v ->WR K H' x v
 | .v x,v,h=>by simp![WR] at h ⊢;show h
 | .tup l,v,h=>by simp![WR] at h ⊢;let⟨p,vs,e,hs,hr⟩:=h;show#[p,vs,e,Un.Me a hs,bS.ts a l vs hr]
theorem bS.ts {K:KW}{H H':Hp}(a:aQ H H'): ∀ (l:Fm W) (vs:Fm V),bS K H l vs ->bS K H' l vs
 | [],vs,h=>by simp![bS] at h ⊢;show h
 | x::r,vs,h=>by simp![bS] at h ⊢;let⟨v,t,e,h1,h2⟩:=h;show#[v,t,e,WR.ts a x v h1,bS.ts a r t h2]
end
theorem bS.length {K:KW}{H:Hp}: ∀ {l:Fm W} {vs:Fm V},bS K H l vs ->vs.length=l.length
 | [],_,h=>by simp![bS] at h;subst h;rfl
 | d::r,vs,h=>by simp![bS] at h;let⟨v,t,rfl,_,h⟩:=h;simp[bS.length h]
theorem bS.at {K:KW}{H:Hp}: ∀ {l:Fm W} {vs:Fm V} {j:Nat} {d:W},bS K H l vs ->l[j]? =some d -> ∃v,vs[j]? =some v /\ WR K H d v
 | [],_,_,_,_,e=>by simp at e
 | d::r,vs,j,d',h,e=>by
  simp![bS] at h;let⟨v,t,rfl,h1,h⟩:=h;cases j with
  | zero=>simp at e;subst e;show#[v,rfl,h1]
  | succ j=>simpa using bS.at (j:=j) h ⇑e
theorem bS.mk {K:KW}{H:Hp}: ∀ {l:Fm W} {vs:Fm V},vs.length=l.length ->(∀ (j:Nat) d v,l[j]? =some d ->vs[j]? =some v ->WR K H d v) ->bS K H l vs
 | [],vs,h,_=>by simp![bS];show List.length_eq_zero_iff.mp h
 | d::r,[],h,_=>by simp at h
 | d::r,v::vs,h,k=>by simp![bS];show#[v,vs,rfl,k 0 d v rfl rfl,bS.mk ⇑h λj x u e1 e2=>k (j+1) x u ⇑e1 ⇑e2]
def bS.back {K:KW}{H:Hp}{l:Fm W}{vs:Fm V}{j:Nat}{v:V}(h:bS K H l vs)(e:vs[j]? =some v): ∃d,l[j]? =some d /\ WR K H d v:=by
 have hl:=h.length;have hj:j<l.length:=by have:=(aZ.mp e).1;lia
 let⟨u,hu,r⟩:=h.at (j:=j) (d:=l[j]) (aA hj);rw[e] at hu;cases hu;show#[_,aA hj,r]
def bS.snoc {K:KW}{H:Hp}{l:Fm W}{vs:Fm V}{d:W}{v:V}(h:bS K H l vs)(hr:WR K H d v):bS K H (l++ [d]) (vs++ [v]):=by
 have hl:=h.length;exact bS.mk (by simp[hl]) λj x u e1 e2=> ?_;by_cases hj:j<l.length;rw[aI hj] at e1;rw[aI ∅] at e2;let⟨w,hw,r⟩:=h.at e1;rw[e2] at hw;cases hw;show r;rw[aG ∅] at e1;rw[aG ∅,hl] at e2;cases hk:j - l.length with
 | zero=>rw[hk] at e1 e2;simp at e1 e2;subst e1 e2;show hr
 | succ k=>rw[hk] at e1;simp at e1
def bS.append {K:KW}{H:Hp}{l m:Fm W}{vs us:Fm V}(h:bS K H l vs)(h':bS K H m us):bS K H (l++m) (vs++us):=by have hl:=h.length;have nR:=h'.length;exact bS.mk (by simp[hl,nR]) λj x u e1 e2=> ?_;by_cases hj:j<l.length;rw[aI hj] at e1;rw[aI ∅] at e2;let⟨w,hw,r⟩:=h.at e1;rw[e2] at hw;cases hw;show r;rw[aG ∅] at e1;rw[aG ∅,hl] at e2;let⟨w,hw,r⟩:=h'.at e1;rw[e2] at hw;cases hw;show r
def bS.drop {K:KW}{H:Hp}{l:Fm W}{vs:Fm V}(n:Nat)(h:bS K H l vs):bS K H (l.drop n) (vs.drop n):=by exact bS.mk (by simp[h.length]) λj x u e1 e2=> ?_;rw[List.getElem?_drop] at e1 e2;let⟨w,hw,r⟩:=h.at e1;rw[e2] at hw;cases hw;show r
def bS.take {K:KW}{H:Hp}{l:Fm W}{vs:Fm V}(n:Nat)(h:bS K H l vs):bS K H (l.take n) (vs.take n):=by exact bS.mk (by simp[h.length]) λj x u e1 e2=> ?_;rw[List.getElem?_take] at e1 e2;split at e1;rename_i hj;rw[am hj] at e2;let⟨w,hw,r⟩:=h.at e1;rw[e2] at hw;cases hw;show r;cases e1
def bS.set {K:KW}{H:Hp}{l:Fm W}{vs:Fm V}(n:Nat){d:W}{v:V}(h:bS K H l vs)(hr:WR K H d v):bS K H (l.set n d) (vs.set n v):=by have hl:=h.length;exact bS.mk (by simp[h.length]) λj x u e1 e2=> ?_;rw[List.getElem?_set] at e1 e2;split at e1;rename_i hj;rw[am hj] at e2;split at e1;split at e2;cases e1;cases e2;show hr;cases e2;cases e1;rename_i hj;rw[ar hj] at e2;let⟨w,hw,r⟩:=h.at e1;rw[e2] at hw;cases hw;show r
def bS.nil {K:KW}{H:Hp}:bS K H [] []:=by simp![bS]
def bS.cons {K:KW}{H:Hp}{x:W}{v:V}{l:Fm W}{vs:Fm V}(h:WR K H x v)(r:bS K H l vs):bS K H (x::l) (v::vs):=by simp![bS];show#[v,vs,rfl,h,r]
def WR.v {K:KW}{H:Hp}{x:V}:WR K H (.v x) x:=by simp![WR]
def WR.eq {K:KW}{H:Hp}{x v:V}(h:WR K H (.v x) v):v=x:=by simpa only[WR] using h
def WR.tup {K:KW}{H:Hp}{l:Fm W}{v:V}(h:WR K H (.tup l) v):bU λa vs=>cJ (v= .ref a) (gw K H a vs) (bS K H l vs):=by simpa only[WR] using h
def WR.E_ {K:KW}{H:Hp}{l:Fm W}{a:KQ}{vs:Fm V}(h:gw K H a vs)(r:bS K H l vs):WR K H (.tup l) (.ref a):=by simp![WR];show#[a,vs,rfl,h,r]
def KR (K:KW)(H:Hp){κ:Type}:Fm (κ×W) ->Fm (κ×V) ->Prop:=Paired λp q=>p.1=q.1 /\ WR K H p.2 q.2
theorem KR.ts {K:KW}{H H':Hp}{κ:Type}(a:aQ H H'): ∀ {l:Fm (κ×W)} {vs:Fm (κ×V)},KR K H l vs ->KR K H' l vs
 | _,_, .nil=> .nil
 | _,_, .cons ⟨e,r⟩ t=> .cons #[e,r.ts a] (KR.ts a t)
def MR (K:KW)(H:Hp)(a:KQ):MO ->Prop
 | .lst l=> ∃vs,H a=some (.lst vs) /\ bS K H l vs
 | .dK kvs=> ∃ks,H a=some (.dK ks) /\ KR K H kvs ks
 | .ins C dx fs=> ∃ks,H a=some (.ins C dx ks) /\ KR K H fs ks
 | .exc C=>H a=some (.ext (fH a C))
 | .fz o ks kvs=>H a=some (.oP o (.dK ks)) /\ KR K H kvs ks
def MR.some {K:KW}{H:Hp}{a:KQ}{o:MO}(h:MR K H a o): ∃u,H a=some u:=by
 cases o with
 | lst l=>let⟨_,e,_⟩:=h;show#[_,e]
 | dK l=>let⟨_,e,_⟩:=h;show#[_,e]
 | ins C d l=>let⟨_,e,_⟩:=h;show#[_,e]
 | exc C=>show#[_,h]
 | fz o l l2=>show#[_,h.1]
def MR.mv {K:KW}{H H':Hp}{a:KQ}{o:MO}(t:aQ H H')(e:H' a=H a)(h:MR K H a o):MR K H' a o:=by
 cases o with
 | lst l=>let⟨vs,e1,r⟩:=h;show#[vs,e.trans e1,r.ts t]
 | dK l=>let⟨vs,e1,r⟩:=h;show#[vs,e.trans e1,r.ts t]
 | ins C d l=>let⟨vs,e1,r⟩:=h;show#[vs,e.trans e1,r.ts t]
 | exc C=>show e.trans h
 | fz o l l2=>show#[e.trans h.1,h.2.ts t]
def dG (K:KW)(M:Mp)(H:Hp):Prop:= ∀a o,M a=some o ->MR K H a o
def dG.fresh {K:KW}{M:Mp}{H:Hp}(h:dG K M H){p:KQ}(hp:H p=none):M p=none:=by
 cases e:M p with
 | none=>rfl
 | some o=>let⟨u,hu⟩:=(h p o e).some;rw[hp] at hu;cases hu
theorem dG.new {K:KW}{M:Mp}{H:Hp}(h:dG K M H){p:KQ}{u:HO}(hp:H p=none):dG K M (cU H p u):=λa o e=>by have:=h a o e;let⟨w,hw⟩:=this.some;show this.mv (L2.d0.ts (bM hp)) (bP (cC hw hp))
theorem zD {H:Hp}{a:KQ}{o u:HO}(h:H a=some o)(hn: ∀xs,o≠ .tup xs)(hf: ∀b xs,o≠ .oP b (.tup xs)):aQ H (cU H a u):=λb xs r=>by
 have nb:b≠a:=λe=>by subst e;obtain r | ⟨w,r⟩:=r;rw[h] at r;cases r;show hn _ rfl;rw[h] at r;cases r;show hf _ _ rfl
 unfold Rd;rw[bP nb];show r
theorem dG.put {K:KW}{M:Mp}{H:Hp}(h:dG K M H){a:KQ}{o:MO}{u:HO}(t:aQ H (cU H a u))(new:MR K (cU H a u) a o):dG K (um M a o) (cU H a u):=λb x e=>by by_cases hb:b=a;subst hb;rw[aM] at e;cases e;show new;rw[cO hb] at e;show(h b x e).mv t (bP hb)
theorem dG.jm {K:KW}{M:Mp}{H:Hp}(h:dG K M H){p:KQ}{l:Fm W}{vs:Fm V}(hp:H p=none)(r:bS K H l vs):dG K (um M p (.lst l)) (cU H p (.lst vs)):=h.put (L2.d0.ts (bM hp)) #[vs,bV,r.ts (L2.d0.ts (bM hp))]
theorem gB {H:Hp}{a:KQ}{xs:Fm V}{u:HO}(h:H a=some (.lst xs)):aQ H (cU H a u):=zD h (λ_ z=>nomatch z) λ_ _ z=>nomatch z
theorem uS {H:Hp}{a:KQ}{xs:Fm (cT×V)}{u:HO}(h:H a=some (.dK xs)):aQ H (cU H a u):=zD h (λ_ z=>nomatch z) λ_ _ z=>nomatch z
theorem dG.putL {K:KW}{M:Mp}{H:Hp}(h:dG K M H){a:KQ}{xs:Fm V}{l:Fm W}{vs:Fm V}(e:H a=some (.lst xs))(r:bS K H l vs):dG K (um M a (.lst l)) (cU H a (.lst vs)):=h.put (gB e) #[vs,bV,r.ts (gB e)]
theorem dG.putD {K:KW}{M:Mp}{H:Hp}(h:dG K M H){a:KQ}{xs:Fm (cT×V)}{l:Fm (cT×W)}{vs:Fm (cT×V)}(e:H a=some (.dK xs))(r:KR K H l vs):dG K (um M a (.dK l)) (cU H a (.dK vs)):=h.put (uS e) #[vs,bV,KR.ts (uS e) r]
def sI (K:KW)(H:Hp)(ρ:cA)(σ:St):Prop:=ρ.length=σ.length /\ ∀ (i:Nat) x,ρ[i]? =some (some x) -> ∃v,σ[i]? =some (some v) /\ WR K H x v
theorem sI.ts {K:KW}{H H':Hp}{ρ:cA}{σ:St}(t:aQ H H')(h:sI K H ρ σ):sI K H' ρ σ:=#[h.1,λi x e=>let ⟨v,a,r⟩:=h.2 i x e;#[v,a,r.ts t]]
structure Ok (K:PySem.W.Frag)(ρ:cA)(M:Mp)(σ:St)(H:Hp):Prop where
 env:sI K H ρ σ
 hp:dG K M H
theorem Ok.mv {K:KW}{ρ:cA}{M M':Mp}{σ:St}{H H':Hp}(o:Ok K ρ M σ H)(t:aQ H H')(m:dG K M' H'):Ok K ρ M' σ H':=#[o.env.ts t,m]
def sI.set {K:KW}{H:Hp}{ρ:cA}{σ:St}(h:sI K H ρ σ)(i:Nat){x:W}{v:V}(r:WR K H x v):sI K H (ρ.set i (some x)) (σ.set i (some v)):=by exact#[by simp[h.1],λj y e=> ?_];rw[List.getElem?_set] at e ⊢;split at e;rename_i hj;rw[am hj];split at e;rename_i fJ;rw[am (by rw[<- h.1];show fJ)];cases e;show#[v,rfl,r];cases e;rename_i hj;rw[ar hj];show h.2 j y e
section
variable (K:KW)
class IE (t:TE) (w:outParam WE):Prop where
 imp: ∀ (ρ:cA) (M:Mp) (σ:St) (H:Hp) (q:WK) (Q:VK),Ok K ρ M σ H ->w ρ M q ->(∀x M' v H',q x M' ->aQ H H' ->dG K M' H' ->WR K H' x v ->Q v H') ->t σ H Q
class IT (t:TT) (w:outParam WT):Prop where
 imp: ∀ (ρ:cA) (M:Mp) (σ:St) (H:Hp) (q:Bool ->Mp ->Prop) (Q:Bool ->Hp ->Prop),Ok K ρ M σ H ->w ρ M q ->(∀b M' H',q b M' ->aQ H H' ->dG K M' H' ->Q b H') ->t σ H Q
class IA (t:TA) (w:outParam WA):Prop where
 imp: ∀ (ρ:cA) (M:Mp) (σ:St) (H:Hp) (q:List W ->Mp ->Prop) (Q:List V ->Hp ->Prop),Ok K ρ M σ H ->w ρ M q ->(∀x M' v H',q x M' ->aQ H H' ->dG K M' H' ->bS K H' x v ->Q v H') ->t σ H Q
class IG (t:TG) (w:outParam WG):Prop where
 imp: ∀ (x:W) (v:V) (ρ:cA) (M:Mp) (σ:St) (H:Hp) (q:cA ->Mp ->Prop) (Q:St ->Hp ->Prop),Ok K ρ M σ H ->WR K H x v ->w x ρ M q ->(∀ρ' M' σ' H',q ρ' M' ->aQ H H' ->Ok K ρ' M' σ' H' ->Q σ' H') ->t v σ H Q
class Gr (t:uj) (w:outParam xa):Prop where
 imp: ∀ (x:List W) (v:List V) (ρ:cA) (M:Mp) (σ:St) (H:Hp) (q:cA ->Mp ->Prop) (Q:St ->Hp ->Prop),Ok K ρ M σ H ->bS K H x v ->w x ρ M q ->(∀ρ' M' σ' H',q ρ' M' ->aQ H H' ->Ok K ρ' M' σ' H' ->Q σ' H') ->t v σ H Q
structure eZ (H:Hp)(D':dk)(D:gc):Prop where
 nx: ∀ρ' M' σ' H',D'.nx ρ' M' ->aQ H H' ->Ok K ρ' M' σ' H' ->D.nx σ' H'
 rt: ∀x M' v H',D'.rt x M' ->aQ H H' ->dG K M' H' ->WR K H' x v ->D.rt v H'
 bk: ∀ρ' M' σ' H',D'.bk ρ' M' ->aQ H H' ->Ok K ρ' M' σ' H' ->D.bk σ' H'
 ct: ∀ρ' M' σ' H',D'.ct ρ' M' ->aQ H H' ->Ok K ρ' M' σ' H' ->D.ct σ' H'
class IS (t:TS) (w:outParam WS):Prop where
 imp: ∀ (ρ:cA) (M:Mp) (σ:St) (H:Hp) (D':dk) (D:gc),Ok K ρ M σ H ->w D' ρ M ->eZ K H D' D ->t D σ H
class IR (r:R2) (w:outParam mC):Prop where
 imp: ∀ (x y:W) (v u:V) (M:Mp) (H:Hp) (q:WK) (Q:VK),dG K M H ->WR K H x v ->WR K H y u ->w x y M q ->(∀x M' v H',q x M' ->aQ H H' ->dG K M' H' ->WR K H' x v ->Q v H') ->r v u H Q
class IU (r:V ->Hp ->VK ->Prop) (w:outParam (W ->Mp ->WK ->Prop)):Prop where
 imp: ∀ (x:W) (v:V) (M:Mp) (H:Hp) (q:WK) (Q:VK),dG K M H ->WR K H x v ->w x M q ->(∀x M' v H',q x M' ->aQ H H' ->dG K M' H' ->WR K H' x v ->Q v H') ->r v H Q
class IC (r:List V ->Hp ->VK ->Prop) (w:outParam pK):Prop where
 imp: ∀ (x:List W) (v:List V) (M:Mp) (H:Hp) (q:WK) (Q:VK),dG K M H ->bS K H x v ->w x M q ->(∀x M' v H',q x M' ->aQ H H' ->dG K M' H' ->WR K H' x v ->Q v H') ->r v H Q
end
theorem eZ.mv {K:KW}{H H':Hp}{D':dk}{D:gc}(e:eZ K H D' D)(t:aQ H H'):eZ K H' D' D:=#[λa b c d h s=>e.nx a b c d h (t.trans s),λa b c d h s=>e.rt a b c d h (t.trans s),λa b c d h s=>e.bk a b c d h (t.trans s),λa b c d h s=>e.ct a b c d h (t.trans s)]
end WL
namespace WL
open PySem L2
section
variable {K:KW}
def dq (i:Nat):WE:=λρ M q=>match ρ[i]? with
 | some (some x)=>q x M
 | _=>False
def AQ {i:Nat}{ρ:cA}{M:Mp}{q:WK}(h:dq i ρ M q): ∃x,ρ[i]? =some (some x) /\ q x M:=by unfold dq at h;split at h;rename_i x e;show#[x,e,h];show h.elim
instance {i:Nat}:IE K (xU i) (dq i) where
 imp:=λρ M σ H q Q o h k=>let ⟨x,e,h⟩:=AQ h;let ⟨v,e',r⟩:=o.env.2 i x e;#[v,e',k x M v H h (aQ.refl H) o.hp r]
def wC (x:W):WE:=λ_ M q=>q x M
instance {v:V}:IE K (tC v) (wC (.v v)) where
 imp:=λρ M σ H q Q o h k=>k (.v v) M v H h (aQ.refl H) o.hp WR.v
def AS (r:mC)(a b:WE):WE:=λρ M q=>a ρ M λx M1=>b ρ M1 λy M2=>r x y M2 q
instance {r:R2}{w:mC}{ta tb:TE}{a b:WE} [ir:IR K r w] [ia:IE K ta a] [ib:IE K tb b]:IE K (Ej r ta tb) (AS w a b) where
 imp:=λρ M σ H q Q o h k=>ia.imp ρ M σ H _ _ o h λx M1 v H1 h1 t1 m1 r1=>ib.imp ρ M1 σ H1 _ _ (o.mv t1 m1) h1 λy M2 u H2 h2 t2 m2 r2=>ir.imp x y v u M2 H2 _ _ m2 (r1.ts t2) r2 h2 λz M3 v3 H3 h3 t3 m3 r3=>k z M3 v3 H3 h3 ((t1.trans t2).trans t3) m3 r3
def LJ (r:W ->Mp ->WK ->Prop)(a:WE):WE:=λρ M q=>a ρ M λx M1=>r x M1 q
instance {r:V ->Hp ->VK ->Prop}{w:W ->Mp ->WK ->Prop}{ta:TE}{a:WE} [ir:IU K r w] [ia:IE K ta a]:IE K (L9 r ta) (LJ w a) where
 imp:=λρ M σ H q Q o h k=>ia.imp ρ M σ H _ _ o h λx M1 v H1 h1 t1 m1 r1=>ir.imp x v M1 H1 _ _ m1 r1 h1 λz M3 v3 H3 h3 t3 m3 r3=>k z M3 v3 H3 h3 (t1.trans t3) m3 r3
def wI (C:Int ->Int ->Prop)(g:Int ->Int ->V):mC:=λx y M q=> ∃i j,x=wi i /\ y=wi j /\ C i j /\ q (.v (g i j)) M
def LY (g:Int ->Int ->V):mC:=λx y M q=>bU λi j=>cJ (x=wi i) (y=wi j) (q (.v (g i j)) M)
def wU (g:Int ->V):W ->Mp ->WK ->Prop:=λx M q=> ∃i,x=wi i /\ q (.v (g i)) M
instance {C:Int ->Int ->Prop}{g:Int ->Int ->V}:IR K (rI C g) (wI C g) where
 imp:=by rintro x y v u M H q Q m r1 r2 ⟨i,j,rfl,rfl,c,h⟩ k;show#[i,j,r1.eq,r2.eq,c,k _ M _ H h (aQ.refl H) m WR.v]
instance {g:Int ->Int ->V}:IR K (yg g) (LY g) where
 imp:=by rintro x y v u M H q Q m r1 r2 ⟨i,j,rfl,rfl,h⟩ k;show#[i,j,r1.eq,r2.eq,k _ M _ H h (aQ.refl H) m WR.v]
instance {g:Int ->V}:IU K (rU g) (wU g) where
 imp:=by rintro x v M H q Q m r1 ⟨i,rfl,h⟩ k;show#[i,r1.eq,k _ M _ H h (aQ.refl H) m WR.v]
def GS:mC:=λx y M q=>bU λa b=>dN (x= .v a) (y= .v b) (ya a b=true) (q (wb (decide (a=b))) M)
def GQ:mC:=λx y M q=>bU λa b=>dN (x= .v a) (y= .v b) (ya a b=true) (q (wb (!decide (a=b))) M)
instance:IR K Mk GS where
 imp:=by rintro x y v u M H q Q m r1 r2 ⟨i,j,rfl,rfl,c,h⟩ k;cases r1.eq;cases r2.eq;show#[c,k _ M _ H h (aQ.refl H) m WR.v]
instance:IR K Mi GQ where
 imp:=by rintro x y v u M H q Q m r1 r2 ⟨i,j,rfl,rfl,c,h⟩ k;cases r1.eq;cases r2.eq;show#[c,k _ M _ H h (aQ.refl H) m WR.v]
def nV (a:WE):WT:=λρ M q=>a ρ M λx M1=> ∃k,x=wb k /\ q k M1
instance {t:TE}{a:WE} [ia:IE K t a]:IT K (uW t) (nV a) where
 imp:=λρ M σ H q Q o h k=>ia.imp ρ M σ H _ _ o h λx M1 v H1 ⟨b,e,h1⟩ t1 m1 r1=>by subst e;show#[b,r1.eq,k b M1 H1 h1 t1 m1]
instance {t:TE}{a:WE} [ia:IE K t a]:IT K (tB t) (nV a) where
 imp:=λρ M σ H q Q o h k=>ia.imp ρ M σ H _ _ o h λx M1 v H1 ⟨b,e,h1⟩ t1 m1 r1=>by subst e;show#[b,r1.eq,k b M1 H1 h1 t1 m1]
def DY (a b:WT):WT:=λρ M q=>a ρ M λc M1=>if c=true then b ρ M1 q else q false M1
def Is (a b:WT):WT:=λρ M q=>a ρ M λc M1=>if c=true then q true M1 else b ρ M1 q
def AT (a:WT):WT:=λρ M q=>a ρ M λc M1=>q (!c) M1
instance {t u:TT}{a b:WT} [ia:IT K t a] [ib:IT K u b]:IT K (Eo t u) (DY a b) where
 imp:=λρ M σ H q Q o h k=>ia.imp ρ M σ H _ _ o h λc M1 H1 h1 t1 m1=>by
  cases c with
  | true=>simp![bH] at h1 ⊢;show ib.imp ρ M1 σ H1 _ _ (o.mv t1 m1) h1 λb M2 H2 h2 t2 m2=>k b M2 H2 h2 (t1.trans t2) m2
  | false=>simp![av,a8] at h1 ⊢;show k _ M1 H1 h1 t1 m1
instance {t u:TT}{a b:WT} [ia:IT K t a] [ib:IT K u b]:IT K (Mc t u) (Is a b) where
 imp:=λρ M σ H q Q o h k=>ia.imp ρ M σ H _ _ o h λc M1 H1 h1 t1 m1=>by
  cases c with
  | false=>simp![av,a8] at h1 ⊢;show ib.imp ρ M1 σ H1 _ _ (o.mv t1 m1) h1 λb M2 H2 h2 t2 m2=>k b M2 H2 h2 (t1.trans t2) m2
  | true=>simp![bH] at h1 ⊢;show k _ M1 H1 h1 t1 m1
instance {t:TT}{a:WT} [ia:IT K t a]:IT K (Ek t) (AT a) where
 imp:=λρ M σ H q Q o h k=>ia.imp ρ M σ H _ _ o h λc M1 H1 h1 t1 m1=>k _ M1 H1 h1 t1 m1
def zz (a b:WE):WE:=λρ M q=>a ρ M λx M1=> ∃c,x=wb c /\ if c=true then b ρ M1 q else q (wb false) M1
def zt (a:WE):WE:=λρ M q=>a ρ M λx M1=> ∃c,x=wb c /\ q (wb (!c)) M1
instance {t u:TE}{a b:WE} [ia:IE K t a] [ib:IE K u b]:IE K (zM t u) (zz a b) where
 imp:=λρ M σ H q Q o h k=>ia.imp ρ M σ H _ _ o h λx M1 v H1 ⟨c,e,h1⟩ t1 m1 r1=>by
  subst e;exact#[c,r1.eq,?_];cases c with
  | true=>simp![bH] at h1 ⊢;show ib.imp ρ M1 σ H1 _ _ (o.mv t1 m1) h1 λb M2 v H2 h2 t2 m2 r2=>k b M2 v H2 h2 (t1.trans t2) m2 r2
  | false=>simp![av,a8] at h1 ⊢;show k _ M1 _ H1 h1 t1 m1 WR.v
instance {t:TE}{a:WE} [ia:IE K t a]:IE K (zI t) (zt a) where
 imp:=λρ M σ H q Q o h k=>ia.imp ρ M σ H _ _ o h λx M1 v H1 ⟨c,e,h1⟩ t1 m1 r1=>by subst e;show#[c,r1.eq,k _ M1 _ H1 h1 t1 m1 WR.v]
def LW (c:WT)(a b:WE):WE:=λρ M q=>c ρ M λc M1=>if c=true then a ρ M1 q else b ρ M1 q
instance {tc:TT}{t u:TE}{c:WT}{a b:WE} [ic:IT K tc c] [ia:IE K t a] [ib:IE K u b]:IE K (Md tc t u) (LW c a b) where
 imp:=λρ M σ H q Q o h k=>ic.imp ρ M σ H _ _ o h λc M1 H1 h1 t1 m1=>by
  cases c with
  | true=>simp![bH] at h1 ⊢;show ia.imp ρ M1 σ H1 _ _ (o.mv t1 m1) h1 λb M2 v H2 h2 t2 m2 r2=>k b M2 v H2 h2 (t1.trans t2) m2 r2
  | false=>simp![av,a8] at h1 ⊢;show ib.imp ρ M1 σ H1 _ _ (o.mv t1 m1) h1 λb M2 v H2 h2 t2 m2 r2=>k b M2 v H2 h2 (t1.trans t2) m2 r2
def uL (r r':mC)(a b c:WE):WE:=λρ M q=>a ρ M λx M1=>b ρ M1 λy M2=>r x y M2 λz M3=> ∃k,z=wb k /\ if k=true then c ρ M3 λy' M4=>r' y y' M4 λz' M5=>q z' M5 else q (wb false) M3
def pQ:WA:=λ_ M q=>q [] M
def jG (a:WE)(r:WA):WA:=λρ M q=>a ρ M λx M1=>r ρ M1 λxs M2=>q (x::xs) M2
instance:IA K A7 pQ where
 imp:=λρ M σ H q Q o h k=>k [] M [] H h (aQ.refl H) o.hp bS.nil
instance {t:TE}{u:TA}{a:WE}{b:WA} [ia:IE K t a] [ib:IA K u b]:IA K (uZ t u) (jG a b) where
 imp:=λρ M σ H q Q o h k=>ia.imp ρ M σ H _ _ o h λx M1 v H1 h1 t1 m1 r1=>ib.imp ρ M1 σ H1 _ _ (o.mv t1 m1) h1 λy M2 u H2 h2 t2 m2 r2=>k _ M2 _ H2 h2 (t1.trans t2) m2 (bS.cons (r1.ts t2) r2)
def Dz (a:WA):WE:=λρ M q=>a ρ M λxs M1=>xs.length<=sizeLine /\ q (.tup xs) M1
def DK (a:WA):WE:=λρ M q=>a ρ M λxs M1=>xs.length<=sizeLine /\ ∀p,M1 p=none ->q (wr p) (um M1 p (.lst xs))
instance {t:TA}{a:WA} [ia:IA K t a]:IE K (Eh t) (Dz a) where
 imp:=λρ M σ H q Q o h k=>ia.imp ρ M σ H _ _ o h λx M1 v H1 ⟨hl,h1⟩ t1 m1 r1=>#[by rw[r1.length];show hl,λp hp=>k _ M1 _ _ h1 (t1.trans (L2.d0.ts (bM hp))) (m1.new hp) (WR.E_ (gw.of bV) (r1.ts (L2.d0.ts (bM hp))))]
instance {t:TA}{a:WA} [ia:IA K t a]:IE K (El t) (DK a) where
 imp:=λρ M σ H q Q o h k=>ia.imp ρ M σ H _ _ o h λx M1 v H1 ⟨hl,h1⟩ t1 m1 r1=>#[by rw[r1.length];show hl,λp hp=>k _ _ _ _ (h1 p (m1.fresh hp)) (t1.trans (L2.d0.ts (bM hp))) (m1.jm hp r1) WR.v]
def DM:mC:=λx y M q=>i6 λa l i u=>dW (x=wr a) (y=wi i) (M a=some (.lst l)) (fL l i=some u) (q u M)
def AV:mC:=λx y M q=>fE λl i u=>dN (x= .tup l) (y=wi i) (fL l i=some u) (q u M)
def bS.fL {H:Hp}{l:Fm W}{vs:Fm V}{i:Int}{u:W}(r:bS K H l vs)(e:fL l i=some u): ∃v,L2.fL vs i=some v /\ WR K H u v:=by
 unfold L2.fL at e ⊢;rw[r.length];cases h:lg l.length i with
 | none=>rw[h] at e;cases e
 | some j=>rw[h] at e;show r.at e
instance:IR K (Bo K) DM where
 imp:=by rintro x y v u M H q Q m r1 r2 ⟨a,l,i,z,rfl,rfl,hl,e,h⟩ k;let⟨vs,hv,r⟩:=m a _ hl;let⟨v',e',r'⟩:=r.fL e;show#[a,vs,i,v',r1.eq,r2.eq,dw.of hv,e',k _ M _ H h (aQ.refl H) m r']
instance:IR K (Bn K) AV where
 imp:=by rintro x y v u M H q Q m r1 r2 ⟨l,i,z,rfl,rfl,e,h⟩ k;let⟨a,vs,rfl,hv,r⟩:=r1.tup;let⟨v',e',r'⟩:=r.fL e;show#[a,vs,i,v',rfl,r2.eq,hv,e',k _ M _ H h (aQ.refl H) m r']
def qB (xs:Fm W)(lo hi:KO Int):Fm W:=(xs.drop (HT.jS xs.length 0 lo)).take (HT.jS xs.length xs.length hi - HT.jS xs.length 0 lo)
def bS.cut {H:Hp}{l:Fm W}{vs:Fm V}(lo hi:KO Int)(r:bS K H l vs):bS K H (qB l lo hi) (py vs lo hi):=by unfold qB py;rw[r.length];show(r.drop _).take _
end
abbrev WO:=cA ->Mp ->(KO Int ->Mp ->Prop) ->Prop
class IO (K:PySem.W.Frag) (t:TO) (w:outParam WO):Prop where
 imp: ∀ (ρ:cA) (M:Mp) (σ:St) (H:Hp) (q:Option Int ->Mp ->Prop) (Q:Option Int ->Hp ->Prop),Ok K ρ M σ H ->w ρ M q ->(∀b M' H',q b M' ->aQ H H' ->dG K M' H' ->Q b H') ->t σ H Q
abbrev Dp:=W ->KO Int ->KO Int ->Mp ->WK ->Prop
class Lx (K:PySem.W.Frag) (r:V ->Option Int ->Option Int ->Hp ->VK ->Prop) (w:outParam Dp):Prop where
 imp: ∀ (x:W) (v:V) (lo hi:Option Int) (M:Mp) (H:Hp) (q:WK) (Q:VK),dG K M H ->WR K H x v ->w x lo hi M q ->(∀x M' v H',q x M' ->aQ H H' ->dG K M' H' ->WR K H' x v ->Q v H') ->r v lo hi H Q
section
variable {K:KW}
def qN:WO:=λ_ M q=>q none M
def zr (a:WE):WO:=λρ M q=>a ρ M λx M1=> ∃i,x=wi i /\ q (some i) M1
instance:IO K qU qN where
 imp:=λρ M σ H q Q o h k=>k _ M H h (aQ.refl H) o.hp
instance {t:TE}{a:WE} [ia:IE K t a]:IO K (zH t) (zr a) where
 imp:=λρ M σ H q Q o h k=>ia.imp ρ M σ H _ _ o h λx M1 v H1 ⟨i,e,h1⟩ t1 m1 r1=>by subst e;show#[i,r1.eq,k _ M1 H1 h1 t1 m1]
def LL (r:Dp)(a:WE)(lo hi:WO):WE:=λρ M q=>a ρ M λx M1=>lo ρ M1 λl M2=>hi ρ M2 λu M3=>r x l u M3 q
instance {r:V ->KO Int ->KO Int ->Hp ->VK ->Prop}{w:Dp}{t:TE}{tl th:TO}{a:WE}{lo hi:WO} [ir:Lx K r w] [ia:IE K t a] [il:IO K tl lo] [ih:IO K th hi]:IE K (L' r t tl th) (LL w a lo hi) where
 imp:=λρ M σ H q Q o h k=>ia.imp ρ M σ H _ _ o h λx M1 v H1 h1 t1 m1 r1=>il.imp ρ M1 σ H1 _ _ (o.mv t1 m1) h1 λl M2 H2 h2 t2 m2=>ih.imp ρ M2 σ H2 _ _ (o.mv (t1.trans t2) m2) h2 λu M3 H3 h3 t3 m3=>ir.imp x v l u M3 H3 _ _ m3 (r1.ts (t2.trans t3)) h3 λy M4 v4 H4 h4 t4 m4 r4=>k y M4 v4 H4 h4 (((t1.trans t2).trans t3).trans t4) m4 r4
def DE:Dp:=λx lo hi M q=>bU λa l=>cJ (x=wr a) (M a=some (.lst l)) (∀p,M p=none ->q (wr p) (um M p (.lst (qB l lo hi))))
instance:Lx K (EC K) DE where
 imp:=by rintro x v lo hi M H q Q m r1 ⟨a,l,rfl,hl,h⟩ k;let⟨vs,hv,r⟩:=m a _ hl;show#[a,vs,r1.eq,dw.of hv,λp hp=>k _ _ _ _ (h p (m.fresh hp)) (L2.d0.ts (bM hp)) (m.jm hp (r.cut lo hi)) WR.v]
def DV (r:pK)(a:WA):WE:=λρ M q=>a ρ M λxs M1=>r xs M1 q
instance {r:Fm V ->Hp ->VK ->Prop}{w:pK}{t:TA}{a:WA} [ir:IC K r w] [ia:IA K t a]:IE K (Je r t) (DV w a) where
 imp:=λρ M σ H q Q o h k=>ia.imp ρ M σ H _ _ o h λx M1 v H1 h1 t1 m1 r1=>ir.imp x v M1 H1 _ _ m1 r1 h1 λy M4 v4 H4 h4 t4 m4 r4=>k y M4 v4 H4 h4 (t1.trans t4) m4 r4
abbrev jD:=Fm W ->Mp ->WK ->Prop
def lA (K:KW)(p:jD):Sp:=λvs H Q _=>fE λ(xs:Fm W) (M:Mp) (q:WK)=>dN (bS K H xs vs) (dG K M H) (p xs M q) (∀x M' v H',q x M' ->aQ H H' ->dG K M' H' ->WR K H' x v ->Q v H')
def zy (p:jD)(a:WA):WE:=λρ M q=>a ρ M λxs M1=>p xs M1 q
instance {p:jD}{E:XK}{t:TA}{a:WA} [ia:IA K t a]:IE K (lz (lA K p) [] E t) (zy p a) where
 imp:=λρ M σ H q Q o h k=>ia.imp ρ M σ H _ _ o h λx M1 v H1 h1 t1 m1 r1=>#[x,M1,q,by rw[List.append_nil];show r1,m1,h1,λy M4 v4 H4 h4 t4 m4 r4=>k y M4 v4 H4 h4 (t1.trans t4) m4 r4]
def Ob {P:KY}{w:KZ}{mg:Str ->KO Fp}{base:K0}{x qual:Str}{st:Stmt}{f:KQ}{fd:FuncData}{N ps:Fm Str}{k:Nat}{p:jD}(F:pF K x qual st f fd)(S:dm N ps (aL st))(len: ∀vs M q,p vs M q ->vs.length=ps.length) (eB: ∀ (cdv:Fp) (A:K2) (outer:Fm Env) (s:JZ) (H:Hp) (E:XK),dD k (A.deeper (PyProof.Rows.envOfC qual (aL st) s.heap.objs.size f cdv)) ->bU λt w'=>cJ (mE (dF gx P w K mg base N qual (aL st) f cdv A outer s H E).yy (dg st) t) (IS K t w') (∀vs M q,p vs M q ->w' {nx:=λ_ M'=>q wn M',rt:=q} (vs.map some++List.replicate (N.length - vs.length) none) M)): c_ P w K mg base gx (k+1) f fd ps (lA K p):=by
 exact pF.ok F S (λvs H Q E ⟨xs,M,q,r,m,h,_⟩=>by rw[r.length];show len xs M q h) λcdv A outer s H vs Q E hr h=> ?_;let⟨t,w',h1,h2,h3⟩:=eB cdv A outer s H E hr;let⟨xs,M,q,r,m,h,k'⟩:=h;exact#[t,h1,h2.imp _ M _ H _ _ #[#[?_,λi x e=> ?_],m] (h3 xs M q h) #[λρ' M' σ' H' h ts o=>k' _ M' _ H' h ts o.hp WR.v,λx M' v H' h ts m' r'=>k' x M' v H' h ts m' r',λ_ _ _ _ h=>h.elim,λ_ _ _ _ h=>h.elim]];have:=r.length;simp[L2.start,this];have hl:=r.length;unfold L2.start;by_cases hi:i<xs.length;rw[aI ⇑hi,aB] at e;cases ex:xs[i]? with
 | none=>rw[ex] at e;cases e
 | some y=>rw[ex] at e;cases e;let⟨v,hv,rv⟩:=r.at ex;exact#[v,?_,rv];rw[aI (by simp;lia),aB,hv];rfl
 rw[aG ⇑hi,cy] at e;split at e<;>cases e
def Bm (K:KW):Fm V ->Hp ->VK ->Prop:=λxs H Q=>bU λp ys=>cJ (xs= [.ref p]) (dw K H p ys \/ gw K H p ys) (Q (.int ys.length) H)
theorem db {X:Cx}:dn X (.builtin "len") (Bm X.K):=nH
def AU:pK:=λxs M q=>(bU λa l=>cJ (xs= [wr a]) (M a=some (.lst l)) (q (wi l.length) M)) \/ ∃l,xs= [.tup l] /\ q (wi l.length) M
def bS.one {H:Hp}{x:W}{vs:Fm V}(h:bS K H [x] vs): ∃v,vs= [v] /\ WR K H x v:=by simp![bS] at h;let⟨v,t,rfl,h1,rfl⟩:=h;show#[v,rfl,h1]
def bS.two {H:Hp}{x y:W}{vs:Fm V}(h:bS K H [x,y] vs):bU λv u=>cJ (vs= [v,u]) (WR K H x v) (WR K H y u):=by simp![bS] at h;let⟨v,t,rfl,h1,u,t',rfl,h2,rfl⟩:=h;show#[v,u,rfl,h1,h2]
instance:IC K (Bm K) AU where
 imp :=by
  rintro xs v M H q Q m r1 h k;rcases h with⟨a,l,rfl,hl,h⟩ | ⟨l,rfl,h⟩
  let⟨v,rfl,r⟩:=r1.one;cases r.eq;let⟨vs,hv,rr⟩:=m a _ hl;exact#[a,vs,rfl, .inl (dw.of hv),k _ M _ H h (aQ.refl H) m ?_];rw[rr.length];show WR.v;let⟨v,rfl,r⟩:=r1.one;let⟨a,vs,rfl,hv,rr⟩:=r.tup;exact#[a,vs,rfl, .inr hv,k _ M _ H h (aQ.refl H) m ?_];rw[rr.length];show WR.v
def EO:Fm V ->Hp ->VK ->Prop:=λxs H Q=> ∃i,xs= [.int i] /\ Q (.int (if i<0 then -i else i)) H
theorem mm {X:Cx}:dn X (.builtin "abs") EO:=wW
def DZ:pK:=λxs M q=> ∃i,xs= [wi i] /\ q (wi (if i<0 then -i else i)) M
instance:IC K EO DZ where
 imp:=by rintro xs v M H q Q m r1 ⟨i,rfl,h⟩ k;let⟨v,rfl,r⟩:=r1.one;cases r.eq;show#[i,rfl,k _ M _ H h (aQ.refl H) m WR.v]
def rk (K:KW):Fm V ->Hp ->VK ->Prop:=λxs H Q=>bU λp ys=>cJ (xs= [.ref p]) (dw K H p ys \/ gw K H p ys) (∀l,H l=none ->Q (.ref l) (cU H l (.lst ys)))
theorem kL {X:Cx}:dn X (.type "list") (rk X.K):=nF
def qO:pK:=λxs M q=> ∃l,((∃a,xs= [wr a] /\ M a=some (.lst l)) \/ xs= [.tup l]) /\ ∀p,M p=none ->q (wr p) (um M p (.lst l))
instance:IC K (rk K) qO where
 imp :=by
  rintro xs v M H q Q m r1 ⟨l,hx,h⟩ k;rcases hx with⟨a,rfl,hl⟩ | rfl
  let⟨v,rfl,r⟩:=r1.one;cases r.eq;let⟨vs,hv,rr⟩:=m a _ hl;show#[a,vs,rfl, .inl (dw.of hv),λp hp=>k _ _ _ _ (h p (m.fresh hp)) (L2.d0.ts (bM hp)) (m.jm hp rr) WR.v];let⟨v,rfl,r⟩:=r1.one;let⟨a,vs,rfl,hv,rr⟩:=r.tup;show#[a,vs,rfl, .inr hv,λp hp=>k _ _ _ _ (h p (m.fresh hp)) (L2.d0.ts (bM hp)) (m.jm hp rr) WR.v]
def oj (K:KW):Fm V ->Hp ->VK ->Prop:=λxs H Q=>bU λp ys=>xs= [.ref p] /\ ((dw K H p ys /\ ∀l,H l=none ->Q (.ref l) (cU H l (.tup ys))) \/ (gw K H p ys /\ Q (.ref p) H))
theorem eR {X:Cx}:dn X (.type "tuple") (oj X.K):=ll
def nU:pK:=λxs M q=> ∃l,((∃a,xs= [wr a] /\ M a=some (.lst l)) \/ xs= [.tup l]) /\ q (.tup l) M
instance:IC K (oj K) nU where
 imp :=by
  rintro xs v M H q Q m r1 ⟨l,hx,h⟩ k;rcases hx with⟨a,rfl,hl⟩ | rfl
  let⟨v,rfl,r⟩:=r1.one;cases r.eq;let⟨vs,hv,rr⟩:=m a _ hl;show#[a,vs,rfl, .inl #[dw.of hv,λp hp=>k _ M _ _ h (L2.d0.ts (bM hp)) (m.new hp) (WR.E_ (gw.of bV) (rr.ts (L2.d0.ts (bM hp))))]];let⟨v,rfl,r⟩:=r1.one;let⟨a,vs,rfl,hv,rr⟩:=r.tup;show#[a,vs,rfl, .inr #[hv,k _ M _ H h (aQ.refl H) m (WR.E_ hv rr)]]
theorem bS.ofInts {H:Hp}: ∀ (ns:Fm Int),bS K H (ns.map wi) (ns.map V.int)
 | []=>bS.nil
 | n::r=>bS.cons WR.v (bS.ofInts r)
def G2 (M:Mp):W ->KO Fp
 | .v (.int _)=>some (.type "int")
 | .v (.bl _)=>some (.type "bool")
 | .v (.str _)=>some (.type "str")
 | .v .di=>some (.type "NoneType")
 | .tup _=>some (.type "tuple")
 | .v (.ref a)=>match M a with
  | some (.lst _)=>some (.type "list")
  | _=>none
 | _=>none
def DN (K:KW):pK:=λxs M q=>i6 λx T t b=>dN (xs= [x, .v (.ty T)]) (G2 M x=some t) (W.kitOne K t (.type T)=some b) (q (wb b) M)
def A1 {H:Hp}{M:Mp}{x:W}{v:V}{t:Fp}(m:dG K M H)(r:WR K H x v)(e:G2 M x=some t):Gh K H v t:=by
 cases x with
 | tup l=>let⟨a,vs,rfl,hv,rr⟩:=r.tup;cases e;show .tup hv
 | v y =>
  cases r.eq;cases v with
  | int i=>cases e;show .of (.int i)
  | bl i=>cases e;show .of (.bl i)
  | str i=>cases e;show .of (.str i)
  | di=>cases e;show .of .di
  | ref a=>
   simp![G2] at e;cases ha:M a with
   | none=>rw[ha] at e;cases e
   | some o=>
    rw[ha] at e;cases o with
    | lst l=>cases e;let⟨vs,hv,_⟩:=m a _ ha;show .lst (dw.of hv)
    | dK l=>cases e
    | ins C d l=>cases e
    | exc C=>cases e
    | fz o l l2=>cases e
  | sF _=>cases e
  | As _=>cases e
  | ty _=>cases e
instance:IC K (EG K) (DN K) where
 imp:=by rintro xs v M H q Q m r1 ⟨x,T,t,b,rfl,ht,e,h⟩ k;let⟨v,u,rfl,r,r'⟩:=r1.two;cases r'.eq;show#[v,T,t,b,rfl,A1 m r ht,e,k _ M _ H h (aQ.refl H) m WR.v]
end
section
variable {K:KW}
abbrev WM:=W ->Fm W ->Mp ->WK ->Prop
class IM (K:PySem.W.Frag) (r:V ->List V ->Hp ->VK ->Prop) (w:outParam WM):Prop where
 imp: ∀ (x:W) (v:V) (ys:List W) (us:List V) (M:Mp) (H:Hp) (q:WK) (Q:VK),dG K M H ->WR K H x v ->bS K H ys us ->w x ys M q ->(∀x M' v H',q x M' ->aQ H H' ->dG K M' H' ->WR K H' x v ->Q v H') ->r v us H Q
def IsL (M:Mp)(x:W):Prop:=bU λa l=>x=wr a /\ M a=some (.lst l)
def IsL.ty {M:Mp}{H:Hp}{x:W}{v:V}(m:dG K M H)(r:WR K H x v)(h:IsL M x):Jc K "list" v H:=by let⟨a,l,rfl,hl⟩:=h;cases r.eq;let⟨vs,hv,_⟩:=m a _ hl;show .inl #[rfl,vs,dw.of hv]
def IN (r:WM)(a:WE)(b:WA):WE:=λρ M q=>a ρ M λx M1=>IsL M1 x /\ b ρ M1 λxs M2=>r x xs M2 q
instance {r:V ->Fm V ->Hp ->VK ->Prop}{w:WM}{t:TE}{u:TA}{a:WE}{b:WA} [ir:IM K r w] [ia:IE K t a] [ib:IA K u b]:IE K (Jf K "list" r t u) (IN w a b) where
 imp:=λρ M σ H q Q o h k=>ia.imp ρ M σ H _ _ o h λx M1 v H1 ⟨hl,h1⟩ t1 m1 r1=>#[hl.ty m1 r1,ib.imp ρ M1 σ H1 _ _ (o.mv t1 m1) h1 λy M2 u H2 h2 t2 m2 r2=>ir.imp x v y u M2 H2 _ _ m2 (r1.ts t2) r2 h2 λz M3 v3 H3 h3 t3 m3 r3=>k z M3 v3 H3 h3 ((t1.trans t2).trans t3) m3 r3]
def qQ:WM:=λx ys M q=>fE λa l y=>dW (x=wr a) (ys= [y]) (M a=some (.lst l)) (l.length<sizeLine) (q wn (um M a (.lst (l++ [y]))))
instance:IM K rn qQ where
 imp:=by rintro x v ys us M H q Q m r1 r2 ⟨a,l,y,rfl,rfl,hl,hn,h⟩ k;cases r1.eq;let⟨u,rfl,r⟩:=r2.one;let⟨vs,hv,rr⟩:=m a _ hl;show#[a,vs,u,rfl,rfl,hv,by rw[rr.length];show hn,k _ _ _ _ h (gB hv) (m.putL hv (rr.snoc r)) WR.v]
def qP:WM:=λx ys M q=>i6 λa b l l'=>pD (x=wr a) (ys= [wr b]) (M a=some (.lst l)) (M b=some (.lst l')) (l.length+l'.length<=sizeLine) (q wn (um M a (.lst (l++l'))))
instance:IM K rm qP where
 imp:=by rintro x v ys us M H q Q m r1 r2 ⟨a,b,l,l',rfl,rfl,hl,nR,hn,h⟩ k;cases r1.eq;let⟨u,rfl,r⟩:=r2.one;cases r.eq;let⟨vs,hv,rr⟩:=m a _ hl;let⟨sM,wj,ye⟩:=m b _ nR;show#[a,b,vs,sM,rfl,rfl,hv,wj,by rw[rr.length,ye.length];show hn,k _ _ _ _ h (gB hv) (m.putL hv (rr.append ye)) WR.v]
def xP (M:Mp):W ->Bool ->Prop
 | .v .di,k=>k=false
 | .v (.bl b),k=>k=b
 | .v (.int i),k=>k=(i !=0)
 | .v (.str y),k=>y.length<=sizeLine /\ k=((y.length:Int) !=0)
 | .v (.ref a),k=>(∃l,M a=some (.lst l) /\ k= !l.isEmpty) \/ (∃l,M a=some (.dK l) /\ k= !l.isEmpty)
 | .tup l,k=>k= !l.isEmpty
 | _,_=>False
def uV (K:KW)(ta:TE):TT:=λσ H Q=>ta σ H λx H'=> ∃k,zi K x H' k /\ Q k H'
theorem sY {X:Cx}{a:Expr}{ta:TE}(ha:PE X a ta)(he: ∀gr,isTrue a X.env gr=(do let v <- gr;standAt a.pos;holding [v] (truthy v)):=by intro _;rfl):PT X a (uV X.K ta):=vp ha he
def pO (a:WE):WT:=λρ M q=>a ρ M λx M1=> ∃k,xP M1 x k /\ q k M1
def bS.isEmpty {H:Hp}{l:Fm W}{vs:Fm V}(r:bS K H l vs):vs.isEmpty=l.isEmpty:=by have:=r.length;cases l<;>cases vs<;>simp_all
def KR.isEmpty {H:Hp}{l:Fm (cT×W)}{vs:Fm (cT×V)}(r:KR K H l vs):vs.isEmpty=l.isEmpty:=by cases r<;>rfl
def xP.ok {M:Mp}{H:Hp}{x:W}{v:V}{k:Bool}(m:dG K M H)(r:WR K H x v)(h:xP M x k):zi K v H k:=by
 cases x with
 | tup l=>let⟨a,vs,rfl,hv,rr⟩:=r.tup;show .inr (.inl #[vs,hv,by rw[rr.isEmpty];show h])
 | v y =>
  cases r.eq;cases v with
  | ref a=>
   rcases h with⟨l,hl,e⟩ | ⟨l,hl,e⟩
   let⟨vs,hv,rr⟩:=m a _ hl;show .inl #[vs,dw.of hv,by rw[rr.isEmpty];show e];let⟨vs,hv,rr⟩:=m a _ hl;show .inr (.inr #[vs,hv,by rw[rr.isEmpty];show e])
  | _=>first | show h | show(show False from h).elim
instance {t:TE}{a:WE} [ia:IE K t a]:IT K (uV K t) (pO a) where
 imp:=λρ M σ H q Q o h k=>ia.imp ρ M σ H _ _ o h λx M1 v H1 ⟨b,hb,h1⟩ t1 m1 r1=>#[b,hb.ok m1 r1,k b M1 H1 h1 t1 m1]
def nq:cT ->W
 | .inl k=>wi k
 | .inr x=>ws x
def gy (kvs:Fm (cT×W))(k:cT):KO W:=(kvs.find? λkv=>decide (kv.1=k)).map (·.2)
def sX (kvs:Fm (cT×W))(k:cT)(v:W):Fm (cT×W):=if(kvs.any λkv=>decide (kv.1=k))=true then kvs.map (λkv=>if kv.1=k then(kv.1,v) else kv) else kvs++ [(k,v)]
theorem KR.keys {H:Hp}: ∀ {l:Fm (cT×W)} {vs:Fm (cT×V)},KR K H l vs ->vs.map (·.1)=l.map (·.1)
 | _,_, .nil=>rfl
 | _,_, .cons ⟨e,r⟩ t=>by rw[aC,aC,KR.keys t,e]
theorem KR.length {H:Hp}{κ:Type}: ∀ {l:Fm (κ×W)} {vs:Fm (κ×V)},KR K H l vs ->vs.length=l.length
 | _,_, .nil=>rfl
 | _,_, .cons _ t=>by rw[bj,bj,KR.length t]
theorem KR.val {H:Hp}(k:cT): ∀ {l:Fm (cT×W)} {vs:Fm (cT×V)},KR K H l vs ->(gy l k=none /\ gz vs k=none) \/ bU λx v=>cJ (gy l k=some x) (gz vs k=some v) (WR K H x v)
 | _,_, .nil=> .inl #[rfl,rfl]
 | (k1,x)::l,(k2,v)::vs, .cons ⟨e,r⟩ t=>by have e:k1=k2:=e;subst e;unfold gy gz;rw[List.find?_cons,List.find?_cons];by_cases hk:k1=k;simp![hk,decide_true];show .inr #[x,v,rfl,rfl,r];simp![hk,decide_false];show KR.val k t
theorem KR.map {H:Hp}{k:cT}{x:W}{v:V}(rx:WR K H x v): ∀ {l:Fm (cT×W)} {vs:Fm (cT×V)},KR K H l vs ->KR K H (l.map (λkv=>if kv.1=k then(kv.1,x) else kv)) (vs.map (λkv=>if kv.1=k then(kv.1,v) else kv))
 | _,_, .nil=> .nil
 | (k1,y)::l,(k2,u)::vs, .cons ⟨e,r⟩ t=>by have e:k1=k2:=e;subst e;rw[aC,aC];exact .cons ?_ (KR.map rx t);by_cases hk:k1=k;rw[am hk,am hk];show#[rfl,rx];rw[ar hk,ar hk];show#[rfl,r]
theorem KR.append {H:Hp}{k:cT}{x:W}{v:V}(rx:WR K H x v): ∀ {l:Fm (cT×W)} {vs:Fm (cT×V)},KR K H l vs ->KR K H (l++ [(k,x)]) (vs++ [(k,v)])
 | _,_, .nil=> .cons #[rfl,rx] .nil
 | _,_, .cons r t=> .cons r (KR.append rx t)
def KR.put {H:Hp}{k:cT}{x:W}{v:V}(rx:WR K H x v){l:Fm (cT×W)}{vs:Fm (cT×V)}(r:KR K H l vs):KR K H (sX l k x) (gm vs k v):=by
 have ek:(l.any λkv=>decide (kv.1=k))=vs.any λkv=>decide (kv.1=k):=by
  have:=r.keys;have e1:(l.any λkv=>decide (kv.1=k))=(l.map (·.1)).any λy=>decide (y=k):=by rw[List.any_map];rfl
  have e2:(vs.any λkv=>decide (kv.1=k))=(vs.map (·.1)).any λy=>decide (y=k):=by rw[List.any_map];rfl
  rw[e1,e2,this]
 unfold sX gm;rw[ek];split;show KR.map rx r;show KR.append rx r
def nn {H:Hp}{k:cT}{v:V}(r:WR K H (nq k) v):v=kV k:=by cases k<;>show r.eq
def zx:WE:=λ_ M q=> ∀p,M p=none ->q (wr p) (um M p (.dK []))
instance:IE K uX zx where
 imp:=λρ M σ H q Q o h k=>λp hp=>k _ _ _ _ (h p (o.hp.fresh hp)) (L2.d0.ts (bM hp)) (o.hp.put (L2.d0.ts (bM hp)) #[[],bV, .nil]) WR.v
def uJ (a b:WE):WE:=λρ M q=>a ρ M λx M1=>b ρ M1 λy M2=>i6 λp kvs k z=>dW (x=wr p) (M2 p=some (.dK kvs)) (y=nq k) (gy kvs k=some z) (q z M2)
instance {t u:TE}{a b:WE} [ia:IE K t a] [ib:IE K u b]:IE K (zL t u) (uJ a b) where
 imp :=λρ M σ H q Q o h k=>ia.imp ρ M σ H _ _ o h λx M1 v H1 h1 t1 m1 r1=>ib.imp ρ M1 σ H1 _ _ (o.mv t1 m1) h1 λy M2 u H2 ⟨p,kvs,ky,z,e1,e2,e3,e4,h2⟩ t2 m2 r2=>by
  subst e1 e3;let⟨ks,hk,rr⟩:=m2 p _ e2;rcases rr.val ky with⟨n1,_⟩ | ⟨x',v',n1,n2,rx⟩
  rw[n1] at e4;cases e4;rw[n1] at e4;cases e4;exact#[p,v',r1.eq,?_,k _ M2 _ H2 h2 (t1.trans t2) m2 rx];rw[nn r2, <- n2];show nO.k hk
def pR (a b c:WE):WE:=λρ M q=>a ρ M λx M1=> ∃p,cJ (x=wr p) (∃kvs,M1 p=some (.dK kvs)) (b ρ M1 λy M2=>c ρ M2 λz M3=>bU λkvs k=>cJ (M3 p=some (.dK kvs)) (y=nq k) (q ((gy kvs k).getD z) M3))
instance {t u s:TE}{a b c:WE} [ia:IE K t a] [ib:IE K u b] [ic:IE K s c]:IE K (uY t u s) (pR a b c) where
 imp:=λρ M σ H q Q o h k=>ia.imp ρ M σ H _ _ o h λx M1 v H1 ⟨p,e,⟨kvs,hp⟩,h1⟩ t1 m1 r1=>by
  subst e;let⟨ks,hk,rr⟩:=m1 p _ hp;exact#[p,r1.eq, .inl #[ks, .inl hk],ib.imp ρ M1 σ H1 _ _ (o.mv t1 m1) h1 λy M2 u H2 h2 t2 m2 r2=>ic.imp ρ M2 σ H2 _ _ (o.mv (t1.trans t2) m2) h2 λz M3 u3 H3 ⟨kvs,ky,e2,e3,h3⟩ t3 m3 r3=> ?_];subst e3;let⟨ks,hk,rr⟩:=m3 p _ e2;exact#[gz ks ky,by rw[nn (r2.ts t3)];show nO.k hk,k _ M3 _ H3 h3 ((t1.trans t2).trans t3) m3 ?_];rcases rr.val ky with⟨n1,n2⟩ | ⟨x',v',n1,n2,rx⟩
  rw[n1,n2];show r3;rw[n1,n2];show rx
end
section
variable {K:KW}
def qS (i:Nat):WG:=λx ρ M q=>q (ρ.set i (some x)) M
instance {i:Nat}:IG K (im i) (qS i) where
 imp:=λx v ρ M σ H q Q o r h k=>k _ M _ H h (aQ.refl H) #[o.env.set i r,o.hp]
def A0:xa:=λxs ρ M q=>xs= [] /\ q ρ M
def zB (a:WG)(b:xa):xa:=λxs ρ M q=>bU λx r=>xs=x::r /\ a x ρ M λρ' M'=>b r ρ' M' q
instance:Gr K Cv A0 where
 imp:=λx v ρ M σ H q Q o r h k=>by let⟨rfl,h⟩:=h;show#[by simpa only[bS] using r,k _ M _ H h (aQ.refl H) o]
instance {t:TG}{u:uj}{a:WG}{b:xa} [ia:IG K t a] [ib:Gr K u b]:Gr K (sq t u) (zB a b) where
 imp:=λx v ρ M σ H q Q o r h k=>by let⟨y,c7,rfl,h⟩:=h;simp![bS] at r;let⟨v1,t1,rfl,r1,r2⟩:=r;show#[v1,t1,rfl,ia.imp y v1 ρ M σ H _ _ o r1 h λρ' M' σ' H' h' ts o'=>ib.imp c7 t1 ρ' M' σ' H' _ _ o' (r2.ts ts) h' λρ2 M2 σ2 H2 h2 N5 o2=>k ρ2 M2 σ2 H2 h2 (ts.trans N5) o2]
def D0 (n:Nat)(a:xa):WG:=λx ρ M q=> ∃l,cJ (x= .tup l) (l.length=n) (a l ρ M q)
instance {n:Nat}{t:uj}{a:xa} [ia:Gr K t a]:IG K (Cu K n t) (D0 n a) where
 imp:=λx v ρ M σ H q Q o r h k=>by let⟨l,rfl,hl,h⟩:=h;let⟨a',vs,rfl,hv,rr⟩:=r.tup;show#[a',vs,rfl,hv,by rw[rr.length];show hl,ia.imp l vs ρ M σ H _ _ o rr h k]
abbrev w_:=W ->W ->W ->Mp ->(Mp ->Prop) ->Prop
class Gp (K:PySem.W.Frag) (t:xb) (w:outParam w_):Prop where
 imp: ∀ (x y z:W) (v u r:V) (M:Mp) (H:Hp) (q:Mp ->Prop) (Q:Hp ->Prop),dG K M H ->WR K H x v ->WR K H y u ->WR K H z r ->w x y z M q ->(∀M' H',q M' ->aQ H H' ->dG K M' H' ->Q H') ->t v u r H Q
def zp:w_:=λx y z M q=>i6 λa l k j=>dW (x=wr a) (y=wi k) (M a=some (.lst l)) (lg l.length k=some j) (q (um M a (.lst (l.set j z))))
instance:Gp K zU zp where
 imp:=by rintro x y z v u r M H q Q m r1 r2 r3 ⟨a,l,i,j,rfl,rfl,hl,e,h⟩ k;let⟨vs,hv,rr⟩:=m a _ hl;show#[a,vs,i,j,r1.eq,r2.eq,hv,by rw[rr.length];show e,k _ _ h (gB hv) (m.putL hv (rr.set j r3))]
def D9 (a b:WE)(s:w_):WG:=λx ρ M q=>a ρ M λo M1=>b ρ M1 λi M2=>s o i x M2 λM3=>q ρ M3
instance {t u:TE}{s:xb}{a b:WE}{w:w_} [ia:IE K t a] [ib:IE K u b] [is:Gp K s w]:IG K (F0 t u s) (D9 a b w) where
 imp:=λx v ρ M σ H q Q o r h k=>ia.imp ρ M σ H _ _ o h λy M1 v1 H1 h1 t1 m1 r1=>ib.imp ρ M1 σ H1 _ _ (o.mv t1 m1) h1 λz M2 v2 H2 h2 t2 m2 r2=>is.imp y z x v1 v2 v M2 H2 _ _ m2 (r1.ts t2) r2 (r.ts (t1.trans t2)) h2 λM3 H3 h3 t3 m3=>k ρ M3 σ H3 h3 ((t1.trans t2).trans t3) (o.mv ((t1.trans t2).trans t3) m3)
def rg:WS:=λD ρ M=>D.nx ρ M
instance:IS K zJ rg where
 imp:=λρ M σ H D' D o h e=>e.nx ρ M σ H h (aQ.refl H) o
def pZ (a b:WS):WS:=λD ρ M=>a {D with nx:=b D} ρ M
instance {t u:TS}{a b:WS} [ia:IS K t a] [ib:IS K u b]:IS K (A6 t u) (pZ a b) where
 imp:=λρ M σ H D' D o h e=>ia.imp ρ M σ H _ _ o h #[λρ' M' σ' H' h' ts o'=>ib.imp ρ' M' σ' H' D' D o' h' (e.mv ts),e.rt,e.bk,e.ct]
def zQ (a:WE):WS:=λD ρ M=>a ρ M λ_ M1=>D.nx ρ M1
instance {t:TE}{a:WE} [ia:IE K t a]:IS K (zK t) (zQ a) where
 imp:=λρ M σ H D' D o h e=>ia.imp ρ M σ H _ _ o h λx M1 v H1 h1 t1 m1 r1=>e.nx ρ M1 σ H1 h1 t1 (o.mv t1 m1)
def Bi (a:WE):WS:=λD ρ M=>a ρ M D.rt
instance {t:TE}{a:WE} [ia:IE K t a]:IS K (Ei t) (Bi a) where
 imp:=λρ M σ H D' D o h e=>ia.imp ρ M σ H _ _ o h λx M1 v H1 h1 t1 m1 r1=>e.rt x M1 v H1 h1 t1 m1 r1
def C5 (c:WT)(a b:WS):WS:=λD ρ M=>c ρ M λk M1=>if k=true then a D ρ M1 else b D ρ M1
instance {tc:TT}{t u:TS}{c:WT}{a b:WS} [ic:IT K tc c] [ia:IS K t a] [ib:IS K u b]:IS K (Em tc t u) (C5 c a b) where
 imp:=λρ M σ H D' D o h e=>ic.imp ρ M σ H _ _ o h λk M1 H1 h1 t1 m1=>by
  cases k with
  | true=>simp![bH] at h1 ⊢;show ia.imp ρ M1 σ H1 D' D (o.mv t1 m1) h1 (e.mv t1)
  | false=>simp![av,a8] at h1 ⊢;show ib.imp ρ M1 σ H1 D' D (o.mv t1 m1) h1 (e.mv t1)
def Bj (a:WE)(g:WG):WS:=λD ρ M=>a ρ M λx M1=>g x ρ M1 D.nx
instance {t:TE}{g:TG}{a:WE}{w:WG} [ia:IE K t a] [ig:IG K g w]:IS K (u8 t g) (Bj a w) where
 imp:=λρ M σ H D' D o h e=>ia.imp ρ M σ H _ _ o h λx M1 v H1 h1 t1 m1 r1=>ig.imp x v ρ M1 σ H1 _ _ (o.mv t1 m1) r1 h1 λρ2 M2 σ2 H2 h2 t2 o2=>e.nx ρ2 M2 σ2 H2 h2 (t1.trans t2) o2
def p6 (a b c:WE):WS:=λD ρ M=>c ρ M λz M1=>a ρ M1 λx M2=>b ρ M2 λy M3=>fE λp kvs k=>dW (x=wr p) (M3 p=some (.dK kvs)) (y=nq k) (kvs.length<sizeLine) (D.nx ρ (um M3 p (.dK (sX kvs k z))))
instance {t u s:TE}{a b c:WE} [ia:IE K t a] [ib:IE K u b] [ic:IE K s c]:IS K (zR t u s) (p6 a b c) where
 imp :=λρ M σ H D' D o h e=>ic.imp ρ M σ H _ _ o h λz M1 v1 H1 h1 t1 m1 r1=>ia.imp ρ M1 σ H1 _ _ (o.mv t1 m1) h1 λx M2 v2 H2 h2 t2 m2 r2=>ib.imp ρ M2 σ H2 _ _ (o.mv (t1.trans t2) m2) h2 λy M3 v3 H3 ⟨p,kvs,k,e1,e2,e3,hl,h3⟩ t3 m3 r3=>by subst e1 e3;let⟨ks,hk,rr⟩:=m3 p _ e2;have ts:=uS (u:= .dK (gm ks k v1)) hk;exact#[p,_,r2.eq,?_,e.nx ρ _ σ (cU H3 p (.dK (gm ks k v1))) h3 (((t1.trans t2).trans t3).trans ts) (o.mv (((t1.trans t2).trans t3).trans ts) (m3.putD hk (KR.put (r1.ts (t2.trans t3)) rr)))];rw[nn r3];show xq.k hk (by rw[rr.length];show hl)
def xh (K:KW)(H1:Hp)(J:It)(xs:Fm W)(keep:Mp ->Prop):Prop:=∀i M H,aQ H1 H ->dG K M H ->keep M ->(xs.length=i ->J.stop i H) /\ (i<xs.length ->J.go i H) /\ ∀v H',i<xs.length ->J.CW i H v H' ->aQ H H' /\ dG K M H' /\ ∃x,xs[i]? =some x /\ WR K H' x v
class II (K:PySem.W.Frag) (t:TI) (w:outParam WI):Prop where
 imp: ∀ (ρ:cA) (M:Mp) (σ:St) (H:Hp) (q:List W ->(Mp ->Prop) ->Mp ->Prop) (R:It ->Hp ->Prop),Ok K ρ M σ H ->w ρ M q ->(∀xs keep J M' H',q xs keep M' ->aQ H H' ->dG K M' H' ->xh K H' J xs keep ->R J H') ->t σ H R
def v7 (a:WE):WI:=λρ M q=>a ρ M λx M1=>bU λp l=>cJ (x=wr p) (M1 p=some (.lst l)) (q l (λM'=>M' p=some (.lst l)) M1)
def Fi (a:WE):WI:=λρ M q=>a ρ M λx M1=> ∃l,x= .tup l /\ q l (λ_=>True) M1
def eV (lo:Int)(n:Nat):Fm W:=(List.range n).map λ(k:Nat)=>wi (lo+(k:Int))
def v6 (a:WA):WI:=λρ M q=>a ρ M λxs M1=> ∃j:Int,dN (xs= [wi j]) (-(2 ^ 62) <=j) (j<2 ^ 62) (q (eV 0 j.toNat) (λ_=>True) M1)
def tP {H1:Hp}{p:KQ}{l:Fm W}:xh K H1 (Lv K p) l (λM'=>M' p=some (.lst l)):=by intro i M H ts m hk;let⟨vs,hv,rr⟩:=m p _ hk;have hl:=rr.length;exact#[λh=>#[vs,dw.of hv, ∅],λh=>#[vs,vs[i]'∅,dw.of hv,by simp],λv H' hi y=> ?_];let⟨rfl,y⟩:=y;have:=y vs (dw.of hv);let⟨d,hd,r⟩:=rr.back this;show#[aQ.refl _,m,d,hd,r]
def v_ {H1:Hp}{p:KQ}{l:Fm W}{vs:Fm V}(hv:gw K H1 p vs)(rr:bS K H1 l vs):xh K H1 (Lu K p) l (λ_=>True):=by intro i M H ts m _;have wj:=Un.Me ts hv;have ye:=rr.ts ts;have hl:=ye.length;exact#[λh=>#[vs,wj, ∅],λh=>#[vs,vs[i]'∅,wj,by simp],λv H' hi y=> ?_];let⟨rfl,y⟩:=y;have:=y vs wj;let⟨d,hd,r⟩:=ye.back this;show#[aQ.refl _,m,d,hd,r]
def wd {H1:Hp}{lo:Int}{n:Nat}:xh K H1 (HU lo n) (eV lo n) (λ_=>True):=by
 intro i M H ts m _;have hl:(eV lo n).length=n:=by simp[eV]
 rw[hl];exact#[λh=>Nat.le_of_eq h,λh=>h,λv H' hi y=> ?_];let⟨rfl,y⟩:=y;exact#[aQ.refl _,m,wi (lo+i),?_,by rw[y];show WR.v];simp[eV,hi]
instance {t:TE}{a:WE} [ia:IE K t a]:II K (Ag K t) (v7 a) where
 imp:=λρ M σ H q R o h k=>ia.imp ρ M σ H _ _ o h λx M1 v H1 ⟨p,l,e,hp,h1⟩ t1 m1 r1=>by subst e;let⟨vs,hv,rr⟩:=m1 p _ hp;show#[p,r1.eq,#[vs,dw.of hv],k l _ _ M1 H1 h1 t1 m1 tP]
instance {t:TE}{a:WE} [ia:IE K t a]:II K (Fs K t) (Fi a) where
 imp:=λρ M σ H q R o h k=>ia.imp ρ M σ H _ _ o h λx M1 v H1 ⟨l,e,h1⟩ t1 m1 r1=>by subst e;let⟨p,vs,rfl,hv,rr⟩:=r1.tup;show#[p,rfl,#[vs,hv],k l _ _ M1 H1 h1 t1 m1 (v_ hv rr)]
instance {t:TA}{a:WA} [ia:IA K t a]:II K (Af t) (v6 a) where
 imp:=λρ M σ H q R o h k=>ia.imp ρ M σ H _ _ o h λxs M1 v H1 ⟨j,e,h0,h1,h2⟩ t1 m1 r1=>by subst e;let⟨v,rfl,r⟩:=r1.one;cases r.eq;show#[j,rfl,h0,h1,k _ _ _ M1 H1 h2 t1 m1 wd]
def Eu (it:WI)(g:WG)(b:WS):WS:=λD ρ M=>it ρ M λxs keep M1=> ∃I:Nat ->cA ->Mp ->Prop,dN (I 0 ρ M1) (∀i ρ M,i<=xs.length ->I i ρ M ->keep M) (∀i x ρ M,xs[i]? =some x ->I i ρ M ->g x ρ M λρ2 M2=>b {D with nx:=I (i+1),ct:=I (i+1),bk:=D.nx} ρ2 M2) (∀ρ M,I xs.length ρ M ->D.nx ρ M)
instance {ti:TI}{g:TG}{t:TS}{it:WI}{w:WG}{b:WS} [ii:II K ti it] [ig:IG K g w] [ib:IS K t b]:IS K (En ti g t) (Eu it w b) where
 imp :=λρ M σ H D' D o h e=>ii.imp ρ M σ H _ _ o h λxs keep J M1 H1 h1 t1 m1 ok=>by let⟨I,h0,hk,hs,hd⟩:=h1;exact#[λi m σ' H'=>m=xs.length - i /\ i<=xs.length /\ bU λρ' M'=>cJ (I i ρ' M') (aQ H1 H') (Ok K ρ' M' σ' H'),#[_,rfl,Nat.zero_le _,ρ,M1,h0,aQ.refl _,o.mv t1 m1],?_];rintro i m σ' H' ⟨rfl,hi,ρ',M',hI,ts,o'⟩;let⟨k1,k2,k3⟩:=ok i M' H' ts o'.hp (hk i ρ' M' hi hI);by_cases fJ:i<xs.length;exact .inr #[k2 fJ,λσ2 H2=>bU λρ2 M2=>cJ (I (i+1) ρ2 M2) (aQ H1 H2) (Ok K ρ2 M2 σ2 H2),λσ2 H2 ⟨ρ2,M2,a,b,c⟩=>#[xs.length - (i+1), ∅,rfl,fJ,ρ2,M2,a,b,c],λv H2 y=> ?_];let⟨ty,my,x,hx,r⟩:=k3 v H2 fJ y;replace ts:=ts.trans ty;exact ig.imp x v ρ' M' σ' H2 _ _ (o'.mv ty my) r (hs i x ρ' M' hx hI) λρ3 M3 σ3 H3 h3 t3 o3=>ib.imp ρ3 M3 σ3 H3 _ _ o3 h3 #[λa b c d h t o=>#[a,b,h,(ts.trans t3).trans t,o],λa b c d h t=>e.rt a b c d h (t1.trans ((ts.trans t3).trans t)),λa b c d h t=>e.nx a b c d h (t1.trans ((ts.trans t3).trans t)),λa b c d h t o=>#[a,b,h,(ts.trans t3).trans t,o]];have e':i=xs.length:= ∅;subst e';show .inl #[k1 rfl,e.nx ρ' M' σ' H' (hd ρ' M' hI) (t1.trans ts) o']
def iA (own:Nat)(fr:Fm Nat)(ρ:cA):cA:=List.replicate own none++fr.map λj=>(ρ[j]?).join
def sI.Dk {H:Hp}{ρ:cA}{σ:St}(own:Nat)(fr:Fm Nat)(h:sI K H ρ σ):sI K H (iA own fr ρ) (iz own fr σ):=by
 unfold iA iz;exact#[by simp,λi x e=> ?_];by_cases hi:i<own;rw[aI ⇑hi,cy,am hi] at e;cases e;rw [aG ⇑hi,List.length_replicate,aB] at e;rw[aG ⇑hi,List.length_replicate,aB];cases ej:fr[i - own]? with
 | none=>rw[ej] at e;cases e
 | some j=>
  rw[ej] at e;simp![Option.map_some,Option.some.injEq] at e ⊢;cases er:ρ[j]? with
  | none=>rw[er] at e;cases e
  | some z=>rw[er] at e;simp![Option.join_some] at e;subst e;let⟨v,ev,r⟩:=h.2 j x er;show#[v,by rw[ev];rfl,r]
def uK (it:WI)(own:Nat)(fr:Fm Nat)(g:WG)(c:WT)(el:WE):WE:=λρ M q=>it ρ M λxs keep M1=>xs.length<=sizeLine /\ ∀p,M1 p=none -> ∃I:Nat ->Fm W ->Mp ->Prop,dN (I 0 [] (um M1 p (.lst []))) (∀i ys M,i<=xs.length ->I i ys M ->keep M /\ M p=some (.lst ys) /\ ys.length<=i) (∀i x ys M,xs[i]? =some x ->I i ys M ->g x (iA own fr ρ) M λρ2 M2=>c ρ2 M2 λb M3=>if b=true then el ρ2 M3 λy M4=>M4 p=some (.lst ys) /\ I (i+1) (ys++ [y]) (um M4 p (.lst (ys++ [y]))) else I (i+1) ys M3) (∀ys M,I xs.length ys M ->q (wr p) M)
instance {ti:TI}{own:Nat}{fr:Fm Nat}{g:TG}{tc:TT}{te:TE}{it:WI}{w:WG}{c:WT}{el:WE} [ii:II K ti it] [ig:IG K g w] [ic:IT K tc c] [ie:IE K te el]:IE K (u4 ti own fr g tc te) (uK it own fr w c el) where
 imp :=λρ M σ H q Q o h k=>ii.imp ρ M σ H _ _ o h λxs keep J M1 H1 h1 t1 m1 ok=>by
  intro p hp;let⟨hz,h1⟩:=h1;let⟨I,h0,hk,hs,hd⟩:=h1 p (m1.fresh hp);have tp:=L2.d0.ts (bM (o:= .lst []) hp);exact#[λi m vs H'=>m=xs.length - i /\ i<=xs.length /\ bU λys M'=>dW (I i ys M') (aQ H1 H') (dG K M' H') (bS K H' ys vs) (H' p=some (.lst vs)),#[_,rfl,Nat.zero_le _,[],_,h0,tp,m1.jm hp bS.nil,bS.nil,bV],?_];rintro i m vs H' ⟨rfl,hi,ys,M',hI,ts,m',rv,hv⟩;exact#[hv,?_];let⟨kp,O7,Oh⟩:=hk i ys M' hi hI;let⟨k1,k2,k3⟩:=ok i M' H' ts m' kp;by_cases fJ:i<xs.length;exact .inr #[k2 fJ,by rw[rv.length];lia,λv H2 y=> ?_];let⟨ty,my,x,hx,r⟩:=k3 v H2 fJ y;replace ts:=ts.trans ty;have oc:Ok K (iA own fr ρ) M' (iz own fr σ) H2:=#[(o.env.ts (t1.trans ts)).Dk own fr,my]
  exact ig.imp x v _ M' _ H2 _ _ oc r (hs i x ys M' hx hI) λρ3 M3 σ3 H3 h3 t3 o3=>ic.imp ρ3 M3 σ3 H3 _ _ o3 h3 λb M4 H4 h4 t4 m4=> ?_;cases b with
  | true=>simp![bH] at h4 ⊢;exact ie.imp ρ3 M4 σ3 H4 _ _ (o3.mv t4 m4) h4 λz M5 u H5 ⟨h5,h6⟩ t5 m5 r5=> ?_;let⟨xR,wg,vj⟩:=m5 p _ h5;have A8:=(t3.trans t4).trans t5;have t6:=gB (u:= .lst (xR++ [u])) wg;show#[xR,wg,by rw[vj.length];lia,_, ∅,rfl,fJ,_,_,h6,(ts.trans A8).trans t6,m5.putL wg (vj.snoc r5),(vj.snoc r5).ts t6,bV]
  | false=>simp![av,a8] at h4 ⊢;let⟨xR,wg,vj⟩:=m4 p _ (hk (i+1) ys M4 fJ h4).2.1;show#[xR,_, ∅,rfl,fJ,_,_,h4,ts.trans (t3.trans t4),m4,vj,wg]
  have e':i=xs.length:= ∅;subst e';show .inl #[k1 rfl,k _ M' _ H' (hd ys M' hI) (t1.trans ts) m' WR.v]
def AO:WT:=λ_ M q=>q true M
instance:IT K Eg AO where
 imp:=λρ M σ H q Q o h k=>k _ M H h (aQ.refl H) o.hp
end
section
variable {K:KW}
theorem dG.sub {M M':Mp}{H:Hp}(s:Sm M M')(m:dG K M' H):dG K M H:=λa o e=>m a o (s a o e)
def Oc {P:KY}{w:KZ}{mg:Str ->KO Fp}{base:K0}{x qual:Str}{st:Stmt}{f:KQ}{fd:FuncData}{N ps:Fm Str}{k:Nat}{p:jD}(F:pF K x qual st f fd)(S:dm N ps (aL st))(len: ∀vs M q,p vs M q ->vs.length=ps.length) (eB: ∀ (cdv:Fp) (A:K2) (outer:Fm Env) (s:JZ) (H:Hp) (E:XK),dD k (A.deeper (PyProof.Rows.envOfC qual (aL st) s.heap.objs.size f cdv)) ->∃t,mE (dF gx P w K mg base N qual (aL st) f cdv A outer s H E).yy (dg st) t /\ ∃w',IS K t w' /\ ∀vs M q,p vs M q ->w' {nx:=λ_ M'=> ∃M0,Sm M0 M' /\ q wn M0,rt:=λx M'=> ∃M0,Sm M0 M' /\ q x M0} (vs.map some++List.replicate (N.length - vs.length) none) M): c_ P w K mg base gx (k+1) f fd ps (lA K p):=by
 have h:=Ob (K:=K) (P:=P) (w:=w) (mg:=mg) (base:=base) (k:=k) (p:=λvs M q=> ∃q',p vs M q' /\ q=λx M'=> ∃M0,Sm M0 M' /\ q' x M0) F S (λvs M q ⟨q',h,_⟩=>len vs M q' h) λcdv A outer s H E hr=>by let⟨t,h1,w',h2,h3⟩:=eB cdv A outer s H E hr;exact#[t,w',h1,h2,?_];rintro vs M q ⟨q',h,rfl⟩;show h3 vs M q' h
 exact h.imp λvs H Q E ⟨xs,M,q,r,m,hp,hk⟩=>#[xs,M,_,r,m,#[q,hp,rfl],?_]
 rintro x M' v H' ⟨M0,s,hq⟩ ts m' r';show hk x M0 v H' hq ts (m'.sub s) r'
def uc {xs:Fm W}{keep:Mp ->Prop}{M1:Mp}{own:Nat}{fr:Fm Nat}{ρ:cA}{g:WG}{c:WT}{el:WE}{q:WK}(f:W ->KO W)(hz:xs.length<=sizeLine)(ij: ∀M,Sm M1 M ->keep M) (hs: ∀ (i:Nat) x,xs[i]? =some x -> ∀ (M:Mp) (N:KO W ->Mp ->Prop),Sm M1 M ->N (f x) M ->g x (iA own fr ρ) M λρ2 M2=>c ρ2 M2 λb M3=>if b=true then el ρ2 M3 λy M4=>N (some y) M4 else N none M3) (hq: ∀p,M1 p=none ->q (wr p) (um M1 p (.lst (xs.filterMap f)))): xs.length<=sizeLine /\ ∀p,M1 p=none -> ∃I:Nat ->Fm W ->Mp ->Prop,dN (I 0 [] (um M1 p (.lst []))) (∀i ys M,i<=xs.length ->I i ys M ->keep M /\ M p=some (.lst ys) /\ ys.length<=i) (∀i x ys M,xs[i]? =some x ->I i ys M ->g x (iA own fr ρ) M λρ2 M2=>c ρ2 M2 λb M3=>if b=true then el ρ2 M3 λy M4=>M4 p=some (.lst ys) /\ I (i+1) (ys++ [y]) (um M4 p (.lst (ys++ [y]))) else I (i+1) ys M3) (∀ys M,I xs.length ys M ->q (wr p) M):=by
 exact#[hz,λp hp=>#[λi ys M=>M=um M1 p (.lst ys) /\ ys=(xs.take i).filterMap f,#[rfl,by simp],?_,?_,?_]];rintro i ys M hi ⟨rfl,rfl⟩;exact#[ij _ (bv hp),aM,aD (List.length_filterMap_le _ _) ?_];rw[bi];lia;rintro i x ys M hx ⟨rfl,rfl⟩;exact hs i x hx _ (λo M4=>match o with
 | some y=>M4 p=some (.lst ((xs.take i).filterMap f)) /\ (um M4 p (.lst ((xs.take i).filterMap f++ [y]))=um M1 p (.lst ((xs.take i).filterMap f++ [y])) /\ (xs.take i).filterMap f++ [y]=(xs.take (i+1)).filterMap f)
 | none=>M4=um M1 p (.lst ((xs.take i).filterMap f)) /\ (xs.take i).filterMap f=(xs.take (i+1)).filterMap f) (bv hp) ?_
 have e:xs.take (i+1)=xs.take i++ [x]:=by rw[List.take_add_one,hx];rfl
 cases hf:f x with
 | none=>show#[rfl,by rw[e,List.filterMap_append];simp[hf]]
 | some y=>show#[aM,uO,by rw[e,List.filterMap_append];simp[hf]]
 rintro ys M ⟨rfl,rfl⟩;rw[List.take_length];show hq p hp
mutual
def uD:W ->KO Dt
 | .v .di=>some .di
 | .v (.bl b)=>some (.bl b)
 | .v (.int i)=>some (.int i)
 | .v (.str x)=>some (.str x)
 | .v _=>none
 | .tup l=>(iw l).map .tup
def iw:Fm W ->KO (Fm Dt)
 | []=>some []
 | x::r=>match uD x,iw r with
  | some d,some l=>some (d::l)
  | _,_=>none
end
mutual
theorem vk {H:Hp}: ∀ (x:W) (d:Dt) (v:V),uD x=some d ->WR K H x v ->Rep K H d v
 | .v y,d,v,e,r=>by cases r.eq;cases y<;>simp![uD,Option.some.injEq,reduceCtorEq] at e<;>subst e<;>simp![Rep]
 | .tup l,d,v,e,r=>by
  let⟨a,vs,rfl,hv,rr⟩:=r.tup;simp![uD] at e;cases hd:iw l with
  | none=>rw[hd] at e;cases e
  | some ds=>rw[hd] at e;cases e;simp![Rep];show#[a,vs,rfl,hv,mQ l ds vs hd rr]
theorem mQ {H:Hp}: ∀ (l:Fm W) (ds:Fm Dt) (vs:Fm V),iw l=some ds ->bS K H l vs ->dI K H ds vs
 | [],ds,vs,e,r=>by simp![iw] at e;cases e;simp![bS] at r;simp![dI];show r
 | x ::l,ds,vs,e,r=>by
  simp![iw] at e;cases hx:uD x with
  | none=>rw[hx] at e;cases e
  | some d=>
   cases hl:iw l with
   | none=>rw[hx,hl] at e;cases e
   | some Q0=>rw[hx,hl] at e;cases e;simp![bS] at r;let⟨v,t,rfl,r1,r2⟩:=r;simp![dI];show#[v,t,rfl,vk x d v hx r1,mQ l Q0 t hl r2]
end
def DR (M:Mp)(x:W)(d:Dt):Prop:=uD x=some d \/ fE λa l ds=>dN (x=wr a) (M a=some (.lst l)) (iw l=some ds) (d= .lst ds)
def DR.rep {M:Mp}{H:Hp}{x:W}{d:Dt}{v:V}(m:dG K M H)(r:WR K H x v)(h:DR M x d):Rep K H d v:=by obtain h | ⟨a,l,ds,rfl,hl,e,rfl⟩:=h;show vk x d v h r;cases r.eq;let⟨vs,hv,rr⟩:=m a _ hl;simp![Rep];show#[a,vs,rfl,dw.of hv,mQ l ds vs e rr]
def AX:mC:=λx y M q=>bU λd e=>dW (DR M x d) (DR M y e) (gd d e=true) (nB d<=50) (q (wb (iY d e)) M)
def DJ:mC:=λx y M q=>bU λd e=>dW (DR M x d) (DR M y e) (gd d e=true) (nB d<=50) (q (wb (!iY d e)) M)
instance:IR K (EJ K) AX where
 imp:=by rintro x y v u M H q Q m r1 r2 ⟨d,e,h1,h2,h3,h4,h⟩ k;show#[d,e,h3,h4,h1.rep m r1,h2.rep m r2,k _ M _ H h (aQ.refl H) m WR.v]
instance:IR K (EE K) DJ where
 imp:=by rintro x y v u M H q Q m r1 r2 ⟨d,e,h1,h2,h3,h4,h⟩ k;show#[d,e,h3,h4,h1.rep m r1,h2.rep m r2,k _ M _ H h (aQ.refl H) m WR.v]
instance {r r':R2}{t u s:TE}{a b c:WE}{w w':mC} [ir:IR K r w] [Og:IR K r' w'] [ia:IE K t a] [ib:IE K u b] [ic:IE K s c]:IE K (u7 r r' t u s) (uL w w' a b c) where
 imp :=λρ M σ H q Q o h k=>ia.imp ρ M σ H _ _ o h λx M1 v H1 h1 t1 m1 r1=>ib.imp ρ M1 σ H1 _ _ (o.mv t1 m1) h1 λy M2 u H2 h2 t2 m2 r2=>ir.imp x y v u M2 H2 _ _ m2 (r1.ts t2) r2 h2 λz M3 v3 H3 ⟨kk,e,h3⟩ t3 m3 r3=>by
  subst e;exact#[kk,r3.eq,?_];cases kk with
  | true=>simp![bH] at h3 ⊢;show ic.imp ρ M3 σ H3 _ _ (o.mv ((t1.trans t2).trans t3) m3) h3 λy4 M4 v4 H4 h4 t4 m4 r4=>Og.imp y y4 u v4 M4 H4 _ _ m4 (r2.ts (t3.trans t4)) r4 h4 λz5 M5 v5 H5 h5 t5 m5 r5=>k z5 M5 v5 H5 h5 ((((t1.trans t2).trans t3).trans t4).trans t5) m5 r5
  | false=>simp![av,a8] at h3 ⊢;show k _ M3 _ H3 h3 ((t1.trans t2).trans t3) m3 WR.v
def NS (neg:Bool):mC:=λx y M q=>bU λ(z:V) (l:Fm V)=>dW (x= .v z) (y= .tup (l.map .v) \/ ∃a,y=wr a /\ M a=some (.lst (l.map .v))) (gv z=true) (l.all gv=true) (q (wb (if neg then !Fn z l else Fn z l)) M)
theorem bS.vals {H:Hp}: ∀ {l us:Fm V},bS K H (l.map .v) us ->us=l
 | [],us,h=>by simpa only[List.map_nil,bS] using h
 | n::r,vs,h=>by simp![aC,bS] at h;let⟨v,t,rfl,h1,h2⟩:=h;rw[bS.vals h2,h1.eq]
instance {neg:Bool}:IR K (Mj K neg) (NS neg) where
 imp :=by rintro x y v u M H q Q m r1 r2 ⟨z,l,rfl,hy,h1,h2,h⟩ k;cases r1.eq;obtain rfl | ⟨a,rfl,ha⟩:=hy;let⟨a,vs,rfl,hv,rr⟩:=r2.tup;cases rr.vals;show#[a,l,rfl, .inr hv,h1,h2,k _ M _ H h (aQ.refl H) m WR.v];cases r2.eq;let⟨vs,hv,rr⟩:=m a _ ha;cases rr.vals;show#[a,l,rfl, .inl (dw.of hv),h1,h2,k _ M _ H h (aQ.refl H) m WR.v]
def uI:pK:=λxs M q=>fE λ(d:KQ) (kvs:Fm (cT×W)) (ks:Fm Int)=>dW (xs= [wr d]) (M d=some (.dK kvs)) (kvs.map (·.1)=ks.map Sum.inl) (ks.length<=sizeLine) (∀ (p:KQ) (ns:Fm Int),M p=none ->ns.Perm ks ->ns.Pairwise (· <= ·) ->q (wr p) (um M p (.lst (ns.map wi))))
instance:IC K om uI where
 imp:=by rintro xs v M H q Q m r1 ⟨d,kvs,ks,rfl,hd,hk,hl,h⟩ k;let⟨v,rfl,r⟩:=r1.one;cases r.eq;let⟨vs,hv,rr⟩:=m d _ hd;show#[d,vs,ks,rfl,hv,by rw[rr.keys];show hk,hl,λp ns hp h1 h2=>k _ _ _ _ (h p ns (m.fresh hp) h1 h2) (L2.d0.ts (bM hp)) (m.jm hp (bS.ofInts ns)) WR.v]
end
end WL
namespace WL
open PySem L2
theorem Gc {α:Type}{a:α}{l:Fm α}:fL (a::l) 0=some a:=eT (j:=0) (by rfl)
theorem NC {α:Type}{a b:α}{l:Fm α}:fL (a::b::l) 1=some b:=eT (j:=1) (by rfl)
theorem NA {α:Type}{a b c:α}{l:Fm α}:fL (a::b::c::l) 2=some c:=eT (j:=2) (by rfl)
theorem Nz {α:Type}{a b c d:α}{l:Fm α}:fL (a::b::c::d::l) 3=some d:=eT (j:=3) (by rfl)
def MB {n:Nat}:lg (n+1+1) 1=some 1:=by unfold lg;rw[am ∅,am ∅];rfl
def MA {n:Nat}:lg (n+1+1+1) 2=some 2:=by unfold lg;rw[am ∅,am ∅];rfl
def Mz {n:Nat}:lg (n+1+1+1+1) 3=some 3:=by unfold lg;rw[am ∅,am ∅];rfl
def jB {α:Type}{l:Fm α}{i:Int}{a:α}(h0:0<=i)(h:l[i.toNat]? =some a):fL l i=some a:=by have e:((i.toNat:Nat):Int)=i:= ∅;rw[<- e];show eT h
theorem pJ {M:Mp}{P:Mp ->Prop}(h:P M): ∃M0,Sm M0 M /\ P M0:=#[M,Sm.refl M,h]
def NB (d:KQ)(M M':Mp):Prop:= ∀b,b≠d ->M' b=M b
theorem NB.refl (d:KQ)(M:Mp):NB d M M:=λ_ _=>rfl
theorem NB.trans {d:KQ}{M M1 M2:Mp}(a:NB d M M1)(b:NB d M1 M2):NB d M M2:=λc n=>(b c n).trans (a c n)
theorem NB.put {d:KQ}{M:Mp}{o:MO}:NB d M (um M d o):=λb n=>cO n
def Dr (M:Mp)(d l:KQ):Prop:=i6 λ(ns:Fm Int) (i c s:Int)=>dN (M d=some (.lst [wr l,wi i,wi c,wi s])) (M l=some (.lst (ns.map wi))) (0<=i) (d≠l)
def Dr.put {M:Mp}{d l p:KQ}{o:MO}(h:Dr M d l)(hp:M p=none):Dr (um M p o) d l:=by let⟨ns,i,c,s,h1,h2,h3,h4⟩:=h;show#[ns,i,c,s,by rw[cO (gK h1 hp)];show h1,by rw[cO (gK h2 hp)];show h2,h3,h4]
def Dr.Bp {M:Mp}{d l p:KQ}{o:MO}(h:Dr M d l)(hd:p≠d)(hl:p≠l):Dr (um M p o) d l:=by let⟨ns,i,c,s,h1,h2,h3,h4⟩:=h;show#[ns,i,c,s,by rw[cO hd.symm];show h1,by rw[cO hl.symm];show h2,h3,h4]
def Dr.ne {M:Mp}{d l p:KQ}(h:Dr M d l)(hp:M p=none):p≠d /\ p≠l:=by let⟨ns,i,c,s,h1,h2,h3,h4⟩:=h;show#[(gK h1 hp).symm,(gK h2 hp).symm]
def ci (q:Int×Int):W:= .tup [wi q.1,wi q.2]
def gG (l:Fm (Int×Int)):W:= .tup (l.map ci)
def pairs_at {l:Fm (Int×Int)}{i:Nat}{x:W}(h:(l.map ci)[i]? =some x): ∃q,l[i]? =some q /\ x=ci q:=by
 rw[aB] at h;cases e:l[i]? with
 | none=>rw[e] at h;cases h
 | some q=>rw[e] at h;cases h;show#[q,rfl,rfl]
def we {l:Fm Int}{i:Nat}{x:W}(h:(l.map wi)[i]? =some x): ∃n,l[i]? =some n /\ x=wi n:=by
 rw[aB] at h;cases e:l[i]? with
 | none=>rw[e] at h;cases h
 | some q=>rw[e] at h;cases h;show#[q,rfl,rfl]
def jV {lo:Int}{n i:Nat}{x:W}(h:(eV lo n)[i]? =some x):i<n /\ x=wi (lo+i):=by unfold eV at h;rw[aB] at h;by_cases hi:i<n;rw[List.getElem?_range hi] at h;cases h;show#[hi,rfl];rw[List.getElem?_eq_none ⇑hi] at h;cases h
def lF {lo:Int}{n:Nat}:(eV lo n).length=n:=by simp[eV]
def lstK (o:KO MO)(k:Fm W ->Prop):Prop:= ∃l,o=some (.lst l) /\ k l
def pc (o:KO MO)(k:Fm (cT×W) ->Prop):Prop:= ∃l,o=some (.dK l) /\ k l
def m6 {α:Type}(o:KO α)(k:α ->Prop):Prop:= ∃a,o=some a /\ k a
def dZ (C Q:Prop):Prop:=C /\ Q
def fV (b:Bool)(A B:Prop):Prop:=if b=true then A else B
def yz (M:Mp)(k:KQ ->Prop):Prop:= ∀p,M p=none ->k p
def F_ (p:jD)(xs:Fm W)(M:Mp)(q:WK):Prop:=p xs M q
def Fl (x:W)(M:Mp)(q:Bool ->Mp ->Prop):Prop:= ∃k,x=wb k /\ q k M
def jU (x:W)(k:KQ ->Prop):Prop:= ∃a,x=wr a /\ k a
def tupK (x:W)(k:Fm W ->Prop):Prop:= ∃l,x= .tup l /\ k l
def Eb (M:Mp)(x:W)(k:Bool ->Prop):Prop:= ∃b,xP M x b /\ k b
def qu (x:W)(k:cT ->Prop):Prop:= ∃y,x=nq y /\ k y
def F3 (xs:Fm W)(keep:Mp ->Prop)(g:WG)(b:WS)(D:dk)(ρ:cA)(M1:Mp):Prop:= ∃I:Nat ->cA ->Mp ->Prop,dN (I 0 ρ M1) (∀i ρ M,i<=xs.length ->I i ρ M ->keep M) (∀i x ρ M,xs[i]? =some x ->I i ρ M ->g x ρ M λρ2 M2=>b {D with nx:=I (i+1),ct:=I (i+1),bk:=D.nx} ρ2 M2) (∀ρ M,I xs.length ρ M ->D.nx ρ M)
def sD (xs:Fm W)(keep:Mp ->Prop)(own:Nat)(fr:Fm Nat)(g:WG)(c:WT)(el:WE)(ρ:cA)(M1:Mp)(q:WK):Prop:=xs.length<=sizeLine /\ ∀p,M1 p=none -> ∃I:Nat ->Fm W ->Mp ->Prop,dN (I 0 [] (um M1 p (.lst []))) (∀i ys M,i<=xs.length ->I i ys M ->keep M /\ M p=some (.lst ys) /\ ys.length<=i) (∀i x ys M,xs[i]? =some x ->I i ys M ->g x (iA own fr ρ) M λρ2 M2=>c ρ2 M2 λb M3=>if b=true then el ρ2 M3 λy M4=>M4 p=some (.lst ys) /\ I (i+1) (ys++ [y]) (um M4 p (.lst (ys++ [y]))) else I (i+1) ys M3) (∀ys M,I xs.length ys M ->q (wr p) M)
section
variable {M:Mp}{ρ:cA}{q:WK}{a b c:WE}{D:dk}
def JK {l:Fm W}{k:Fm W ->Prop}:lstK (some (.lst l)) k=k l:=by apply propext;symm;(· rintro⟨_,h,k⟩;cases h;show k);(· intro h;show#[_,rfl,h])
def Li {l:Fm (cT×W)}{k:Fm (cT×W) ->Prop}:pc (some (.dK l)) k=k l:=by apply propext;symm;(· rintro⟨_,h,k⟩;cases h;show k);(· intro h;show#[_,rfl,h])
def Js {α:Type}{x:α}{k:α ->Prop}:m6 (some x) k=k x:=by apply propext;symm;(· rintro⟨_,h,k⟩;cases h;show k);(· intro h;show#[_,rfl,h])
def Lm {Q:Prop}:dZ True Q=Q:=by simp[dZ]
def JV {A B:Prop}:fV true A B=A:=by simp[fV]
def JW {A B:Prop}:fV false A B=B:=by simp[fV]
def MD {k:Bool}{q:Bool ->Mp ->Prop}:Fl (.v (.bl k)) M q=q k M:=by apply propext;symm;(· rintro⟨_,h,k⟩;cases h;show k);(· intro h;show#[_,rfl,h])
def Jn {x:KQ}{k:KQ ->Prop}:jU (.v (.ref x)) k=k x:=by apply propext;symm;(· rintro⟨_,h,k⟩;cases h;show k);(· intro h;show#[_,rfl,h])
def Jd {x:Fm W}{k:Fm W ->Prop}:tupK (.tup x) k=k x:=by apply propext;symm;(· rintro⟨_,h,k⟩;cases h;show k);(· intro h;show#[_,rfl,h])
def JO {i:Int}{k:cT ->Prop}:qu (.v (.int i)) k=k (.inl i):=by apply propext;symm;(· rintro⟨y,h,z⟩;cases y<;>cases h;show z);(· intro h;show#[.inl i,rfl,h])
theorem Ik {x:W}{r:cA}:dq 0 (some x::r) M q=q x M:=rfl
theorem Ij {x0:KO W}{x:W}{r:cA}:dq 1 (x0::some x::r) M q=q x M:=rfl
theorem Ii {x0 x1:KO W}{x:W}{r:cA}:dq 2 (x0::x1::some x::r) M q=q x M:=rfl
theorem Ih {x0 x1 x2:KO W}{x:W}{r:cA}:dq 3 (x0::x1::x2::some x::r) M q=q x M:=rfl
theorem Ig {x0 x1 x2 x3:KO W}{x:W}{r:cA}:dq 4 (x0::x1::x2::x3::some x::r) M q=q x M:=rfl
theorem Ib {x0 x1 x2 x3 x4:KO W}{x:W}{r:cA}:dq 5 (x0::x1::x2::x3::x4::some x::r) M q=q x M:=rfl
theorem Ia {x0 x1 x2 x3 x4 x5:KO W}{x:W}{r:cA}:dq 6 (x0::x1::x2::x3::x4::x5::some x::r) M q=q x M:=rfl
theorem H_ {x0 x1 x2 x3 x4 x5 x6:KO W}{x:W}{r:cA}:dq 7 (x0::x1::x2::x3::x4::x5::x6::some x::r) M q=q x M:=rfl
theorem H0 {x0 x1 x2 x3 x4 x5 x6 x7:KO W}{x:W}{r:cA}:dq 8 (x0::x1::x2::x3::x4::x5::x6::x7::some x::r) M q=q x M:=rfl
theorem HZ {x0 x1 x2 x3 x4 x5 x6 x7 x8:KO W}{x:W}{r:cA}:dq 9 (x0::x1::x2::x3::x4::x5::x6::x7::x8::some x::r) M q=q x M:=rfl
theorem GJ {x0 x1 x2 x3 x4 x5 x6 x7 x8 x9:KO W}{x:W}{r:cA}:dq 10 (x0::x1::x2::x3::x4::x5::x6::x7::x8::x9::some x::r) M q=q x M:=rfl
theorem GI {x0 x1 x2 x3 x4 x5 x6 x7 x8 x9 jk:KO W}{x:W}{r:cA}:dq 11 (x0::x1::x2::x3::x4::x5::x6::x7::x8::x9::jk::some x::r) M q=q x M:=rfl
theorem GH {x0 x1 x2 x3 x4 x5 x6 x7 x8 x9 jk jE:KO W}{x:W}{r:cA}:dq 12 (x0::x1::x2::x3::x4::x5::x6::x7::x8::x9::jk::jE::some x::r) M q=q x M:=rfl
theorem GG {x0 x1 x2 x3 x4 x5 x6 x7 x8 x9 jk jE kW:KO W}{x:W}{r:cA}:dq 13 (x0::x1::x2::x3::x4::x5::x6::x7::x8::x9::jk::jE::kW::some x::r) M q=q x M:=rfl
theorem GF {x0 x1 x2 x3 x4 x5 x6 x7 x8 x9 jk jE kW mG:KO W}{x:W}{r:cA}:dq 14 (x0::x1::x2::x3::x4::x5::x6::x7::x8::x9::jk::jE::kW::mG::some x::r) M q=q x M:=rfl
theorem GD {x0 x1 x2 x3 x4 x5 x6 x7 x8 x9 jk jE kW mG nT:KO W}{x:W}{r:cA}:dq 15 (x0::x1::x2::x3::x4::x5::x6::x7::x8::x9::jk::jE::kW::mG::nT::some x::r) M q=q x M:=rfl
theorem GC {x0 x1 x2 x3 x4 x5 x6 x7 x8 x9 jk jE kW mG nT pM:KO W}{x:W}{r:cA}:dq 16 (x0::x1::x2::x3::x4::x5::x6::x7::x8::x9::jk::jE::kW::mG::nT::pM::some x::r) M q=q x M:=rfl
theorem GB {x0 x1 x2 x3 x4 x5 x6 x7 x8 x9 jk jE kW mG nT pM sL:KO W}{x:W}{r:cA}:dq 17 (x0::x1::x2::x3::x4::x5::x6::x7::x8::x9::jk::jE::kW::mG::nT::pM::sL::some x::r) M q=q x M:=rfl
theorem GA {x0 x1 x2 x3 x4 x5 x6 x7 x8 x9 jk jE kW mG nT pM sL uF:KO W}{x:W}{r:cA}:dq 18 (x0::x1::x2::x3::x4::x5::x6::x7::x8::x9::jk::jE::kW::mG::nT::pM::sL::uF::some x::r) M q=q x M:=rfl
theorem Gz {x0 x1 x2 x3 x4 x5 x6 x7 x8 x9 jk jE kW mG nT pM sL uF xL:KO W}{x:W}{r:cA}:dq 19 (x0::x1::x2::x3::x4::x5::x6::x7::x8::x9::jk::jE::kW::mG::nT::pM::sL::uF::xL::some x::r) M q=q x M:=rfl
theorem Gy {x0 x1 x2 x3 x4 x5 x6 x7 x8 x9 jk jE kW mG nT pM sL uF xL AN:KO W}{x:W}{r:cA}:dq 20 (x0::x1::x2::x3::x4::x5::x6::x7::x8::x9::jk::jE::kW::mG::nT::pM::sL::uF::xL::AN::some x::r) M q=q x M:=rfl
theorem Gx {x0 x1 x2 x3 x4 x5 x6 x7 x8 x9 jk jE kW mG nT pM sL uF xL AN Dw:KO W}{x:W}{r:cA}:dq 21 (x0::x1::x2::x3::x4::x5::x6::x7::x8::x9::jk::jE::kW::mG::nT::pM::sL::uF::xL::AN::Dw::some x::r) M q=q x M:=rfl
theorem Gw {x0 x1 x2 x3 x4 x5 x6 x7 x8 x9 jk jE kW mG nT pM sL uF xL AN Dw HW:KO W}{x:W}{r:cA}:dq 22 (x0::x1::x2::x3::x4::x5::x6::x7::x8::x9::jk::jE::kW::mG::nT::pM::sL::uF::xL::AN::Dw::HW::some x::r) M q=q x M:=rfl
theorem Gv {x0 x1 x2 x3 x4 x5 x6 x7 x8 x9 jk jE kW mG nT pM sL uF xL AN Dw HW NQ:KO W}{x:W}{r:cA}:dq 23 (x0::x1::x2::x3::x4::x5::x6::x7::x8::x9::jk::jE::kW::mG::nT::pM::sL::uF::xL::AN::Dw::HW::NQ::some x::r) M q=q x M:=rfl
theorem NU {x:W}:wC x ρ M q=q x M:=rfl
theorem LR {r:mC}:AS r a b ρ M q=a ρ M λx M1=>b ρ M1 λy M2=>r x y M2 q:=rfl
theorem LI {r:W ->Mp ->WK ->Prop}:LJ r a ρ M q=a ρ M λx M1=>r x M1 q:=rfl
def NT {C:Int ->Int ->Prop}{g:Int ->Int ->V}{i j:Int}:wI C g (.v (.int i)) (.v (.int j)) M q=dZ (C i j) (q (.v (g i j)) M):=by apply propext;symm;(· rintro⟨_,_,h1,h2,k⟩;cases h1;cases h2;show k);(· intro h;show#[_,_,rfl,rfl,h])
def LX {g:Int ->Int ->V}{i j:Int}:LY g (.v (.int i)) (.v (.int j)) M q=q (.v (g i j)) M:=by apply propext;symm;(· rintro⟨_,_,h1,h2,k⟩;cases h1;cases h2;show k);(· intro h;show#[_,_,rfl,rfl,h])
def NR {g:Int ->V}{i:Int}:wU g (.v (.int i)) M q=q (.v (g i)) M:=by apply propext;symm;(· rintro⟨_,h,k⟩;cases h;show k);(· intro h;show#[_,rfl,h])
def L4 {i j:Int}:GS (.v (.int i)) (.v (.int j)) M q=q (wb (decide (i=j))) M:=by apply propext;symm;(· rintro⟨_,_,h1,h2,_,k⟩;cases h1;cases h2;simpa using k);(· intro h;show#[_,_,rfl,rfl,rfl, ⇑h])
def LU {i j:Int}:GQ (.v (.int i)) (.v (.int j)) M q=q (wb (!decide (i=j))) M:=by apply propext;symm;(· rintro⟨_,_,h1,h2,_,k⟩;cases h1;cases h2;simpa using k);(· intro h;show#[_,_,rfl,rfl,rfl, ⇑h])
def LZ {i j:Str}:GS (.v (.str i)) (.v (.str j)) M q=q (wb (decide (i=j))) M:=by apply propext;symm;(· rintro⟨_,_,h1,h2,_,k⟩;cases h1;cases h2;simpa using k);(· intro h;show#[_,_,rfl,rfl,rfl, ⇑h])
def LS {i j:Str}:GQ (.v (.str i)) (.v (.str j)) M q=q (wb (!decide (i=j))) M:=by apply propext;symm;(· rintro⟨_,_,h1,h2,_,k⟩;cases h1;cases h2;simpa using k);(· intro h;show#[_,_,rfl,rfl,rfl, ⇑h])
theorem GK {q:Bool ->Mp ->Prop}:nV a ρ M q=a ρ M λx M1=>Fl x M1 q:=rfl
theorem IP {a b:WT}{q:Bool ->Mp ->Prop}:DY a b ρ M q=a ρ M λc M1=>fV c (b ρ M1 q) (q false M1):=rfl
theorem LQ {a b:WT}{q:Bool ->Mp ->Prop}:Is a b ρ M q=a ρ M λc M1=>fV c (q true M1) (b ρ M1 q):=rfl
theorem Iu {a:WT}{q:Bool ->Mp ->Prop}:AT a ρ M q=a ρ M λc M1=>q (!c) M1:=rfl
theorem GZ:zz a b ρ M q=a ρ M λx M1=>Fl x M1 λc M1=>fV c (b ρ M1 q) (q (wb false) M1):=rfl
theorem GP:zt a ρ M q=a ρ M λx M1=>Fl x M1 λc M1=>q (wb (!c)) M1:=rfl
theorem LV {c:WT}:LW c a b ρ M q=c ρ M λc M1=>fV c (a ρ M1 q) (b ρ M1 q):=rfl
theorem DT {r r':mC}:uL r r' a b c ρ M q=a ρ M λx M1=>b ρ M1 λy M2=>r x y M2 λz M3=>Fl z M3 λk M3=>fV k (c ρ M3 λy' M4=>r' y y' M4 q) (q (wb false) M3):=rfl
theorem Iv {q:Fm W ->Mp ->Prop}:pQ ρ M q=q [] M:=rfl
theorem GW {r:WA}{q:Fm W ->Mp ->Prop}:jG a r ρ M q=a ρ M λx M1=>r ρ M1 λxs M2=>q (x::xs) M2:=rfl
theorem Il {a:WA}:Dz a ρ M q=a ρ M λxs M1=>dZ (xs.length<=sizeLine) (q (.tup xs) M1):=rfl
theorem Iw {a:WA}:DK a ρ M q=a ρ M λxs M1=>dZ (xs.length<=sizeLine) (yz M1 λp=>q (wr p) (um M1 p (.lst xs))):=rfl
def ID {x:KQ}{i:Int}:DM (.v (.ref x)) (.v (.int i)) M q=lstK (M x) λl=>m6 (fL l i) λu=>q u M:=by apply propext;symm;(· rintro⟨_,l,_,u,h1,h2,h3,h4,k⟩;cases h1;cases h2;show#[l,h3,u,h4,k]);(· rintro⟨l,h3,u,h4,k⟩;show#[_,l,_,u,rfl,rfl,h3,h4,k])
def Iz {l:Fm W}{i:Int}:AV (.tup l) (.v (.int i)) M q=m6 (fL l i) λu=>q u M:=by apply propext;symm;(· rintro⟨_,_,u,h1,h2,h4,k⟩;cases h1;cases h2;show#[u,h4,k]);(· rintro⟨u,h4,k⟩;show#[_,_,u,rfl,rfl,h4,k])
theorem CZ {q:KO Int ->Mp ->Prop}:qN ρ M q=q none M:=rfl
def yP (x:W)(k:Int ->Prop):Prop:= ∃i,x=wi i /\ k i
def JX {i:Int}{k:Int ->Prop}:yP (.v (.int i)) k=k i:=by apply propext;symm;(· rintro⟨_,h,k⟩;cases h;show k);(· intro h;show#[_,rfl,h])
theorem GO {q:KO Int ->Mp ->Prop}:zr a ρ M q=a ρ M λx M1=>yP x λi=>q (some i) M1:=rfl
theorem LK {r:Dp}{lo hi:WO}:LL r a lo hi ρ M q=a ρ M λx M1=>lo ρ M1 λl M2=>hi ρ M2 λu M3=>r x l u M3 q:=rfl
def Iq {x:KQ}{lo hi:KO Int}:DE (.v (.ref x)) lo hi M q=lstK (M x) λl=>yz M λp=>q (wr p) (um M p (.lst (qB l lo hi))):=by apply propext;symm;(· rintro⟨_,l,h1,h3,k⟩;cases h1;show#[l,h3,k]);(· rintro⟨l,h3,k⟩;show#[_,l,rfl,h3,k])
theorem L5 {r:pK}{a:WA}:DV r a ρ M q=a ρ M λxs M1=>r xs M1 q:=rfl
theorem GY {p:jD}{a:WA}:zy p a ρ M q=a ρ M λxs M1=>F_ p xs M1 q:=rfl
def Iy {x:KQ}:AU [.v (.ref x)] M q=lstK (M x) λl=>q (wi l.length) M:=by apply propext;symm;(· rintro(⟨_,l,h1,h2,k⟩ | ⟨_,h1,_⟩);(· cases h1;show#[l,h2,k]);cases h1);(· rintro⟨l,h3,k⟩;show .inl #[_,l,rfl,h3,k])
def Ix {l:Fm W}:AU [.tup l] M q=q (wi l.length) M:=by apply propext;symm;(· rintro(⟨_,l,h1,h2,k⟩ | ⟨_,h1,k⟩);(· cases h1);cases h1;show k);(· intro k;show .inr #[l,rfl,k])
def IV {i:Int}:DZ [.v (.int i)] M q=q (wi (if i<0 then -i else i)) M:=by apply propext;symm;(· rintro⟨_,h,k⟩;cases h;show k);(· intro h;show#[_,rfl,h])
def C0 {l:Fm W}:qO [.tup l] M q=yz M λp=>q (wr p) (um M p (.lst l)):=by apply propext;symm;(· rintro⟨l,⟨_,h1,h2⟩ | h1,k⟩;(· cases h1);cases h1;show k);(· intro k;show#[l, .inr rfl,k])
def AR {x:KQ}:nU [.v (.ref x)] M q=lstK (M x) λl=>q (.tup l) M:=by apply propext;symm;(· rintro⟨l,⟨_,h1,h2⟩ | h1,k⟩;(· cases h1;show#[l,h2,k]);cases h1);(· rintro⟨l,h3,k⟩;show#[l, .inl #[_,rfl,h3],k])
def IF {K:KW}{x:W}{T:String}:DN K [x, .v (.ty T)] M q=m6 (G2 M x) λt=>m6 (W.kitOne K t (.type T)) λb=>q (wb b) M:=by apply propext;symm;(· rintro⟨_,_,t,b,h1,h2,h3,k⟩;cases h1;show#[t,h2,b,h3,k]);(· rintro⟨t,h2,b,h3,k⟩;show#[_,_,t,b,rfl,h2,h3,k])
theorem Ae {K:KW}:W.kitOne K (.type "int") (.type "int")=some true:=rfl
theorem yJ {K:KW}:W.kitOne K (.type "int") (.type "bool")=some false:=rfl
theorem Ad {K:KW}:W.kitOne K (.type "int") (.type "str")=some false:=rfl
theorem xA {K:KW}:W.kitOne K (.type "int") (.type "tuple")=some false:=rfl
theorem yI {K:KW}:W.kitOne K (.type "int") (.type "list")=some false:=rfl
theorem yL {K:KW}:W.kitOne K (.type "bool") (.type "int")=some true:=rfl
theorem xC {K:KW}:W.kitOne K (.type "bool") (.type "bool")=some true:=rfl
theorem yK {K:KW}:W.kitOne K (.type "bool") (.type "str")=some false:=rfl
theorem vY {K:KW}:W.kitOne K (.type "bool") (.type "tuple")=some false:=rfl
theorem xB {K:KW}:W.kitOne K (.type "bool") (.type "list")=some false:=rfl
theorem Ac {K:KW}:W.kitOne K (.type "str") (.type "int")=some false:=rfl
theorem yF {K:KW}:W.kitOne K (.type "str") (.type "bool")=some false:=rfl
theorem Ab {K:KW}:W.kitOne K (.type "str") (.type "str")=some true:=rfl
theorem xx {K:KW}:W.kitOne K (.type "str") (.type "tuple")=some false:=rfl
theorem yE {K:KW}:W.kitOne K (.type "str") (.type "list")=some false:=rfl
theorem tM {K:KW}:W.kitOne K (.type "NoneType") (.type "int")=some false:=rfl
theorem rW {K:KW}:W.kitOne K (.type "NoneType") (.type "bool")=some false:=rfl
theorem tL {K:KW}:W.kitOne K (.type "NoneType") (.type "str")=some false:=rfl
theorem qt {K:KW}:W.kitOne K (.type "NoneType") (.type "tuple")=some false:=rfl
theorem rV {K:KW}:W.kitOne K (.type "NoneType") (.type "list")=some false:=rfl
theorem xw {K:KW}:W.kitOne K (.type "tuple") (.type "int")=some false:=rfl
theorem vW {K:KW}:W.kitOne K (.type "tuple") (.type "bool")=some false:=rfl
theorem xv {K:KW}:W.kitOne K (.type "tuple") (.type "str")=some false:=rfl
theorem uz {K:KW}:W.kitOne K (.type "tuple") (.type "tuple")=some true:=rfl
theorem vV {K:KW}:W.kitOne K (.type "tuple") (.type "list")=some false:=rfl
theorem yH {K:KW}:W.kitOne K (.type "list") (.type "int")=some false:=rfl
theorem xz {K:KW}:W.kitOne K (.type "list") (.type "bool")=some false:=rfl
theorem yG {K:KW}:W.kitOne K (.type "list") (.type "str")=some false:=rfl
theorem vX {K:KW}:W.kitOne K (.type "list") (.type "tuple")=some false:=rfl
theorem xy {K:KW}:W.kitOne K (.type "list") (.type "list")=some true:=rfl
def L6 {r:WM}{b:WA}:IN r a b ρ M q=a ρ M λx M1=>jU x λp=>lstK (M1 p) λ_=>b ρ M1 λxs M2=>r x xs M2 q:=by unfold IN IsL jU lstK;congr 1;funext x M1;apply propext;symm;(· rintro⟨⟨p,l,h1,h2⟩,k⟩;show#[p,h1,l,h2,k]);(· rintro⟨p,h1,l,h2,k⟩;show#[#[p,l,h1,h2],k])
def C2 {x:KQ}{y:W}:qQ (.v (.ref x)) [y] M q=lstK (M x) λl=>dZ (l.length<sizeLine) (q wn (um M x (.lst (l++ [y])))):=by apply propext;symm;(· rintro⟨_,l,_,h1,h2,h3,h4,k⟩;cases h1;cases h2;show#[l,h3,h4,k]);(· rintro⟨l,h3,h4,k⟩;show#[_,l,_,rfl,rfl,h3,h4,k])
def C1 {x y:KQ}:qP (.v (.ref x)) [.v (.ref y)] M q=lstK (M x) λl=>lstK (M y) λl'=>dZ (l.length+l'.length<=sizeLine) (q wn (um M x (.lst (l++l')))):=by apply propext;symm;(· rintro⟨_,_,l,l',h1,h2,h3,h4,h5,k⟩;cases h1;cases h2;show#[l,h3,l',h4,h5,k]);(· rintro⟨l,h3,l',h4,h5,k⟩;show#[_,_,l,l',rfl,rfl,h3,h4,h5,k])
theorem DA {q:Bool ->Mp ->Prop}:pO a ρ M q=a ρ M λx M1=>Eb M1 x λk=>q k M1:=rfl
theorem GU:zx ρ M q=yz M λp=>q (wr p) (um M p (.dK [])):=rfl
def GV:uJ a b ρ M q=a ρ M λx M1=>b ρ M1 λy M2=>jU x λp=>qu y λk=>pc (M2 p) λkvs=>m6 (gy kvs k) λz=>q z M2:=by unfold uJ jU qu pc m6;congr 1;funext x M1;congr 1;funext y M2;apply propext;symm;(· rintro⟨p,kvs,k,z,h1,h2,h3,h4,h⟩;show#[p,h1,k,h3,kvs,h2,z,h4,h]);(· rintro⟨p,h1,k,h3,kvs,h2,z,h4,h⟩;show#[p,kvs,k,z,h1,h2,h3,h4,h])
def DS:pR a b c ρ M q=a ρ M λx M1=>jU x λp=>pc (M1 p) λ_=>b ρ M1 λy M2=>c ρ M2 λz M3=>qu y λk=>pc (M3 p) λkvs=>q ((gy kvs k).getD z) M3:=by
 unfold pR jU qu pc;congr 1;funext x M1;apply propext;symm;rintro⟨p,h1,⟨kvs,h2⟩,h⟩;exact#[p,h1,kvs,h2,?_];have e:(λy M2=>c ρ M2 λz M3=>bU λkvs k=>cJ (M3 p=some (.dK kvs)) (y=nq k) (q ((gy kvs k).getD z) M3))=(λy M2=>c ρ M2 λz M3=> ∃k,y=nq k /\ ∃kvs,M3 p=some (.dK kvs) /\ q ((gy kvs k).getD z) M3):=by funext y M2;congr 1;funext z M3;apply propext;symm;rintro⟨a,b,c,d,e⟩;show#[b,d,a,c,e];rintro⟨b,d,a,c,e⟩;show#[a,b,c,d,e]
 rw[<- e];show h;rintro⟨p,h1,kvs,h2,h⟩;exact#[p,h1,#[kvs,h2],?_];have e:(λy M2=>c ρ M2 λz M3=>bU λkvs k=>cJ (M3 p=some (.dK kvs)) (y=nq k) (q ((gy kvs k).getD z) M3))=(λy M2=>c ρ M2 λz M3=> ∃k,y=nq k /\ ∃kvs,M3 p=some (.dK kvs) /\ q ((gy kvs k).getD z) M3):=by funext y M2;congr 1;funext z M3;apply propext;symm;rintro⟨a,b,c,d,e⟩;show#[b,d,a,c,e];rintro⟨b,d,a,c,e⟩;show#[a,b,c,d,e]
 rw[e];show h
theorem cE {a b:WS}:pZ a b D ρ M=a {nx:=b D,rt:=D.rt,bk:=D.bk,ct:=D.ct} ρ M:=rfl
theorem G6:rg D ρ M=D.nx ρ M:=rfl
theorem G7:zQ a D ρ M=a ρ M λ_ M1=>D.nx ρ M1:=rfl
theorem Jj:Bi a D ρ M=a ρ M D.rt:=rfl
theorem Mh {c:WT}{a b:WS}:C5 c a b D ρ M=c ρ M λk M1=>fV k (a D ρ M1) (b D ρ M1):=rfl
theorem Jl {g:WG}:Bj a g D ρ M=a ρ M λx M1=>g x ρ M1 D.nx:=rfl
def Ev:p6 a b c D ρ M=c ρ M λz M1=>a ρ M1 λx M2=>b ρ M2 λy M3=>jU x λp=>qu y λk=>pc (M3 p) λkvs=>dZ (kvs.length<sizeLine) (D.nx ρ (um M3 p (.dK (sX kvs k z)))):=by unfold p6 jU qu pc dZ;congr 1;funext z M1;congr 1;funext x M2;congr 1;funext y M3;apply propext;symm;(· rintro⟨p,kvs,k,h1,h2,h3,h4,h⟩;show#[p,h1,k,h3,kvs,h2,h4,h]);(· rintro⟨p,h1,k,h3,kvs,h2,h4,h⟩;show#[p,kvs,k,h1,h2,h3,h4,h])
theorem Jk {it:WI}{g:WG}{b:WS}:Eu it g b D ρ M=it ρ M λxs keep M1=>F3 xs keep g b D ρ M1:=rfl
theorem xS {i:Nat}{x:W}{q:cA ->Mp ->Prop}:qS i x ρ M q=q (ρ.set i (some x)) M:=rfl
def IY {q:cA ->Mp ->Prop}:A0 [] ρ M q=q ρ M:=by simp[A0]
def G1 {a:WG}{b:xa}{x:W}{r:Fm W}{q:cA ->Mp ->Prop}:zB a b (x::r) ρ M q=a x ρ M λρ' M'=>b r ρ' M' q:=by apply propext;symm;(· rintro⟨_,_,h,k⟩;cases h;show k);(· intro h;show#[_,_,rfl,h])
def IW {n:Nat}{a:xa}{l:Fm W}{q:cA ->Mp ->Prop}:D0 n a (.tup l) ρ M q=dZ (l.length=n) (a l ρ M q):=by apply propext;symm;(· rintro⟨_,h,k,l⟩;cases h;show#[k,l]);(· rintro⟨h,l⟩;show#[_,rfl,h,l])
theorem IX {s:w_}{x:W}{q:cA ->Mp ->Prop}:D9 a b s x ρ M q=a ρ M λo M1=>b ρ M1 λi M2=>s o i x M2 λM3=>q ρ M3:=rfl
def GN {x:KQ}{i:Int}{z:W}{q:Mp ->Prop}:zp (.v (.ref x)) (.v (.int i)) z M q=lstK (M x) λl=>m6 (lg l.length i) λj=>q (um M x (.lst (l.set j z))):=by apply propext;symm;(· rintro⟨_,l,_,j,h1,h2,h3,h4,k⟩;cases h1;cases h2;show#[l,h3,j,h4,k]);(· rintro⟨l,h3,j,h4,k⟩;show#[_,l,_,j,rfl,rfl,h3,h4,k])
def Hl {q:Fm W ->(Mp ->Prop) ->Mp ->Prop}:v7 a ρ M q=a ρ M λx M1=>jU x λp=>lstK (M1 p) λl=>q l (λM'=>M' p=some (.lst l)) M1:=by unfold v7 jU lstK;congr 1;funext x M1;apply propext;symm;(· rintro⟨p,l,h1,h2,h⟩;show#[p,h1,l,h2,h]);(· rintro⟨p,h1,l,h2,h⟩;show#[p,l,h1,h2,h])
theorem JT {q:Fm W ->(Mp ->Prop) ->Mp ->Prop}:Fi a ρ M q=a ρ M λx M1=>tupK x λl=>q l (λ_=>True) M1:=rfl
def BD (xs:Fm W)(k:W ->Prop):Prop:= ∃x,xs= [x] /\ k x
def Ju {x:W}{k:W ->Prop}:BD [x] k=k x:=by apply propext;symm;(· rintro⟨_,h,k⟩;cases h;show k);(· intro h;show#[_,rfl,h])
def Hk {a:WA}{q:Fm W ->(Mp ->Prop) ->Mp ->Prop}:v6 a ρ M q=a ρ M λxs M1=>BD xs λx=>yP x λj=>dZ (-(2 ^ 62) <=j /\ j<2 ^ 62) (q (eV 0 j.toNat) (λ_=>True) M1):=by unfold v6 BD yP dZ;congr 1;funext x M1;apply propext;symm;(· rintro⟨j,h1,h2,h3,h⟩;show#[_,h1,j,rfl,#[h2,h3],h]);(· rintro⟨_,h1,j,rfl,⟨h2,h3⟩,h⟩;show#[j,h1,h2,h3,h])
theorem GX {it:WI}{own:Nat}{fr:Fm Nat}{g:WG}{c:WT}{el:WE}:uK it own fr g c el ρ M q=it ρ M λxs keep M1=>sD xs keep own fr g c el ρ M1 q:=rfl
theorem HY {q:Bool ->Mp ->Prop}:AO ρ M q=q true M:=rfl
end
def Rj:(1<=sizeLine)=True:=by rw[sizeLine_eq];decide
def zO:(2<=sizeLine)=True:=by rw[sizeLine_eq];decide
def Ri:(3<=sizeLine)=True:=by rw[sizeLine_eq];decide
def Rh:(4<=sizeLine)=True:=by rw[sizeLine_eq];decide
def Rk:(0<=sizeLine)=True:=by simp
def c8 {c A B:Prop} [Decidable c](h1:c ->A)(h2:¬c ->B):fV (decide c) A B:=by unfold fV;by_cases h:c;rw[am (bo h)];show h1 h;rw[ar ⇑h];show h2 h
theorem kJ {xs:Fm W}{keep:Mp ->Prop}{M1:Mp}{own:Nat}{fr:Fm Nat}{ρ:cA}{g:WG}{c:WT}{el:WE}{q:WK}(f:W ->KO W)(hz:xs.length<=sizeLine)(ij: ∀M,Sm M1 M ->keep M) (hs: ∀ (i:Nat) x,xs[i]? =some x -> ∀ (M:Mp) (N:KO W ->Mp ->Prop),Sm M1 M ->N (f x) M ->g x (iA own fr ρ) M λρ2 M2=>c ρ2 M2 λb M3=>fV b (el ρ2 M3 λy M4=>N (some y) M4) (N none M3)) (hq: ∀p,M1 p=none ->q (wr p) (um M1 p (.lst (xs.filterMap f)))):sD xs keep own fr g c el ρ M1 q:=uc f hz ij hs hq
end WL
namespace WL
def wq (f:cA ->Mp ->Prop)(ρ:cA)(M:Mp):Prop:=f ρ M
theorem dv {f:cA ->Mp ->Prop}{ρ:cA}{M:Mp}(h:f ρ M):wq f ρ M:=h
theorem bQ {a b:WS}{D:dk}{ρ:cA}{M:Mp}:pZ a b D ρ M=a {nx:=wq (b D),rt:=D.rt,bk:=D.bk,ct:=D.ct} ρ M:=rfl
theorem kr {c:WT}{a b R:WS}{D:dk}{ρ:cA}{M:Mp}(NL:cA ->Mp ->Prop)(c7: ∀ρ M,NL ρ M ->R D ρ M)(h: ∀N:cA ->Mp ->Prop,(∀ρ M,NL ρ M ->N ρ M) ->C5 c a b {nx:=N,rt:=D.rt,bk:=D.bk,ct:=D.ct} ρ M):pZ (C5 c a b) R D ρ M:=h _ c7
theorem oQ {xs:Fm W}{keep:Mp ->Prop}{g:WG}{b:WS}{D:dk}{ρ:cA}{M1:Mp}(I:Nat ->cA ->Mp ->Prop)(h0:I 0 ρ M1)(hk: ∀i ρ M,i<=xs.length ->I i ρ M ->keep M) (hs: ∀i x ρ M,xs[i]? =some x ->I i ρ M -> ∀N:cA ->Mp ->Prop,(∀ρ' M',I (i+1) ρ' M' ->N ρ' M') ->g x ρ M λρ2 M2=>b {nx:=N,rt:=D.rt,bk:=D.nx,ct:=N} ρ2 M2) (hd: ∀ρ M,I xs.length ρ M ->D.nx ρ M):F3 xs keep g b D ρ M1:=#[I,h0,hk,λi x ρ M hx hI=>hs i x ρ M hx hI _ λ_ _ h=>h,hd]
end WL
namespace WP
open PySem L2 WL
abbrev Pt:=Fm (Int×Int)
def look:Pt ->Int ->Int
 | [],_=>0
 | q::r,x=>if q.1=x then q.2 else look r x
def dB (p:Int)(l:Pt):Prop:=(∀q∈l,0<q.2 /\ q.2<p) /\ l.Pairwise (λa b=>a.1<b.1)
def lx:Pt ->Int ->Int
 | [],_=>0
 | q::r,x=>(if q.1=x then q.2 else 0)+lx r x
def pU (a b:Pt)(x:Int):lx (a++b) x=lx a x+lx b x:=by
 induction a with
 | nil=>simp[lx]
 | cons q r ih=>rw[List.cons_append,lx,lx,ih];lia
def nX (a:Pt)(q:Int×Int)(x:Int):lx (a++ [q]) x=lx a x+if q.1=x then q.2 else 0:=by rw[pU];simp[lx]
def dQ {l:Pt}{x:Int}(h: ∀q∈l,q.1≠x):look l x=0:=by
 induction l with
 | nil=>rfl
 | cons q r ih=>rw[look,ar (h q (by simp)),ih λz hz=>h z (by simp[hz])]
def uT {l:Pt}(h:l.Pairwise (λa b=>a.1<b.1))(x:Int):lx l x=look l x:=by
 induction l with
 | nil=>rfl
 | cons q r ih=>rw[bE] at h;rw[lx,look,ih h.2];by_cases e:q.1=x;rw[am e,am e,dQ];lia;intro z hz;have:=h.1 z hz;lia;rw[ar e,ar e];lia
def qi {p:Int}{l:Pt}(hp:0<p)(h:dB p l)(x:Int):0<=look l x /\ look l x<p:=by
 induction l with
 | nil=>rw[look];lia
 | cons q r ih=>rw[look];split;have:=h.1 q (by simp);lia;show ih #[λz hz=>h.1 z (by simp[hz]),(bE.mp h.2).2]
theorem dB.tail {p:Int}{q:Int×Int}{r:Pt}(h:dB p (q::r)):dB p r:=#[λz hz=>h.1 z (by simp[hz]),(bE.mp h.2).2]
theorem dB.nil {p:Int}:dB p []:=#[λ_ h=>absurd h (by simp),List.Pairwise.nil]
theorem mY {p p':Int}: ∀ {a b:Pt},dB p a ->dB p' b ->(∀x,look a x=look b x) ->a=b
 | [],[],_,_,_=>rfl
 | [],q::r,_,hb,h=>by have:=h q.1;rw[look,look,am rfl] at this;have:=hb.1 q (by simp);lia
 | q::r,[],ha,_,h=>by have:=h q.1;rw[look,look,am rfl] at this;have:=ha.1 q (by simp);lia
 | q ::r,q'::r',ha,hb,h=>by
  have pa:=ha.1 q (by simp);have pb:=hb.1 q' (by simp);have sa:=(bE.mp ha.2).1;have sb:=(bE.mp hb.2).1;have e1:q.1=q'.1:=by obtain l | l | l:=Int.lt_trichotomy q.1 q'.1;have e:=h q.1;rw[look,am rfl,look,ar ∅,dQ (λz hz=>by have:=sb z hz;lia)] at e;lia;show l;have e:=h q'.1;rw[look,ar ∅,dQ (λz hz=>by have:=sa z hz;lia),look,am rfl] at e;lia
  have e2:q.2=q'.2:=by have e:=h q.1;rw[look,am rfl,look,am e1.symm] at e;show e
  have e:r=r':=mY ha.tail hb.tail λx=>by by_cases hx:q.1=x;rw[dQ (λz hz=>by have:=sa z hz;lia),dQ (λz hz=>by have:=sb z hz;lia)];have e:=h x;rwa [look,ar hx,look,ar ∅] at e
  rw[e,Prod.ext e1 e2]
def eG (p:Int):Pt ->Int ->Int ->Pt
 | [],x,s=>if s % p=0 then [] else [(x,s % p)]
 | q::r,x,s=>if x<q.1 then(if s % p=0 then q::r else(x,s % p)::q::r) else if x=q.1 then(if(q.2+s) % p=0 then r else(x,(q.2+s) % p)::r) else q::eG p r x s
def j8 (p:Int)(ps:Pt):Pt:=ps.foldl (λa q=>eG p a q.1 q.2) []
def mB {p:Int}{l:Pt}{x s:Int}{z:Int×Int}(h:z∈eG p l x s):z.1=x \/ z∈l:=by
 induction l with
 | nil=>rw[eG] at h;split at h;cases h;left;rw[aY.mp h]
 | cons q r ih=>rw[eG] at h;split at h;split at h;show .inr h;obtain h | h:=az.mp h;left;rw[h];show .inr h;split at h;split at h;show .inr (by simp[h]);obtain h | h:=az.mp h;left;rw[h];show .inr (by simp[h]);obtain h | h:=az.mp h;show .inr (by simp[h]);obtain h | h:=ih h;show .inl h;show .inr (by simp[h])
def qf {p s:Int}(hp:0<p)(h:¬s % p=0):0<s % p /\ s % p<p:=by have:=Int.emod_nonneg s (show p≠0 by lia);have:=Int.emod_lt_of_pos s hp;lia
def ug {p:Int}(hp:0<p){l:Pt}{x s:Int}(h:dB p l):dB p (eG p l x s):=by
 induction l with
 | nil=>rw[eG];split;show dB.nil;rename_i hs;show#[λq hq=>by rw[aY.mp hq];show qf hp hs,by simp]
 | cons q r ih=>have sa:=(bE.mp h.2).1;rw[eG];split;rename_i hx;split;show h;rename_i hs;exact#[λz hz=> ?_,bE.mpr #[λz hz=> ?_,h.2]];obtain rfl | hz:=az.mp hz;show qf hp hs;show h.1 z hz;obtain rfl | hz:=az.mp hz;show hx;have:=sa z hz;change x<z.1;lia;split;rename_i hx;split;show h.tail;rename_i hs;exact#[λz hz=> ?_,bE.mpr #[λz hz=> ?_,h.tail.2]];obtain rfl | hz:=az.mp hz;show qf hp hs;show h.1 z (by simp[hz]);have:=sa z hz;change x<z.1;lia;rename_i h1 h2;have ME:=ih h.tail;exact#[λz hz=> ?_,bE.mpr #[λz hz=> ?_,ME.2]];obtain rfl | hz:=az.mp hz;show h.1 z (by simp);show ME.1 z hz;obtain e | hz:=mB hz;lia;show sa z hz
def qj {p:Int}(hp:0<p){l:Pt}{x s:Int}(h:dB p l)(y:Int):look (eG p l x s) y=if y=x then(look l x+s) % p else look l y:=by
 induction l with
 | nil=>rw[eG];by_cases hs:s % p=0;rw[am hs];simp[look,hs];rw[ar hs];by_cases e:y=x;subst e;simp[look];rw[ar e];simp[look,bY e]
 | cons q r ih=>
  have sa:=(bE.mp h.2).1;have qr:=h.1 q (by simp);rw[eG];split;rename_i hx;have hn:look (q::r) x=0:=dQ (λz hz=>by obtain rfl | hz:=az.mp hz;lia;have:=sa z hz;lia);rw[hn,Int.zero_add];split;rename_i hs;by_cases e:y=x;rw[am e,e,hn,hs];rw[ar e];by_cases e:y=x;rw[am e,look,am e.symm];rw[ar e,look,ar (bY e)];split;rename_i hx;have hq:look (q::r) x=q.2:=by rw[look,am hx.symm]
  rw[hq];split;rename_i hs;by_cases e:y=x;rw[am e,hs,dQ (λz hz=>by have:=sa z hz;lia)];rw[ar e,look,ar ∅];by_cases e:y=x;rw[am e,look,am e.symm];rw[ar e,look,ar (bY e),look,ar ∅];rename_i h1 h2;rw[look,ih h.tail];by_cases e:y=x;rw[am e,am e,ar ∅];conv=>rhs;rw[look,ar ∅]
  rw[ar e,ar e,look]
def hU (p:Int)(ps:Pt)(q:Int×Int):j8 p (ps++ [q])=eG p (j8 p ps) q.1 q.2:=by unfold j8;rw[List.foldl_append];rfl
def gg {α:Type}{P:Fm α ->Prop}(h0:P [])(h1: ∀l a,P l ->P (l++ [a]))(l:Fm α):P l:=by
 have key: ∀n:Nat, ∀l:Fm α,l.length=n ->P l:=by
  intro n;induction n with
  | zero=>intro l hl;rw[List.length_eq_zero_iff.mp hl];show h0
  | succ n ih=>
   intro l hl;have kw:l≠ []:=by intro e;rw[e] at hl;cases hl
   rw[<- List.dropLast_concat_getLast kw];show h1 _ _ (ih _ (by rw[List.length_dropLast];lia))
 show key _ l rfl
def hV {p:Int}(hp:0<p)(ps:Pt):dB p (j8 p ps):=by
 induction ps using gg with
 | h0=>show dB.nil
 | h1 l a ih=>rw[hU];show ug hp ih
def oD {p:Int}(hp:0<p)(ps:Pt)(x:Int):look (j8 p ps) x=lx ps x % p:=by
 induction ps using gg with
 | h0=>simp[j8,look,lx]
 | h1 l a ih=>rw[hU,qj hp (hV hp l),nX];by_cases e:x=a.1;subst e;rw[am rfl,am rfl,ih,Int.emod_add_emod];rw[ar e,ar (bY e),ih,Int.add_zero]
def uh {p:Int}{l:Pt}{x s:Int}:(eG p l x s).length<=l.length+1:=by
 induction l with
 | nil=>rw[eG];split<;>simp
 | cons q r ih=>rw[eG];split;split<;>simp;split;split<;>simp<;>lia;simp;show ih
def yx (p:Int)(ps:Pt):(j8 p ps).length<=ps.length:=by
 induction ps using gg with
 | h0=>simp[j8]
 | h1 l a ih=>rw[hU,aN];show aD uh (by simp;show ih)
def BH {p:Int}{ps:Pt}{z:Int×Int}(h:z∈j8 p ps): ∃q∈ps,q.1=z.1:=by
 induction ps using gg generalizing z with
 | h0=>simp[j8] at h
 | h1 l a ih=>rw[hU] at h;obtain e | h:=mB h;show#[a,by simp,e.symm];let⟨q,h1,h2⟩:=ih h;show#[q,by simp[h1],h2]
def oG (m:Pt):Fm (cT×W):=m.map λq=>((Sum.inl q.1:cT),wi q.2)
def kZ (m:Pt)(x v:Int):Pt:=if(m.any λq=>decide (q.1=x))=true then m.map (λq=>if q.1=x then(q.1,v) else q) else m++ [(x,v)]
def jC {m:Pt}{x:Int}:(m.any λq=>decide (q.1=x))=true↔x∈m.map (·.1):=by rw[List.any_eq_true,bp];symm;rintro⟨q,hq,e⟩;show#[q,hq, ⇑e];rintro⟨q,hq,e⟩;show#[q,hq, ⇑e]
def se (a b:Int):decide ((Sum.inl a:cT)=Sum.inl b)=decide (a=b):=by simp
def yh (m:Pt)(x v:Int):sX (oG m) (.inl x) (wi v)=oG (kZ m x v):=by
 unfold sX kZ;have e:((oG m).any λkv=>decide (kv.1=(Sum.inl x:cT)))=m.any λq=>decide (q.1=x):=by unfold oG;rw[List.any_map];congr 1;funext q;show se _ _
 rw[e];split;unfold oG;rw[bh,bh];apply List.map_congr_left;intro q _;change(if(Sum.inl q.1:cT)=Sum.inl x then((Sum.inl q.1:cT),wi v) else(Sum.inl q.1,wi q.2))=((Sum.inl (if q.1=x then(q.1,v) else q).1:cT),wi (if q.1=x then(q.1,v) else q).2)
 by_cases hq:q.1=x;rw[am (by rw[hq]),am hq];rw[ar (λz=>hq (Sum.inl.inj z)),ar hq];unfold oG;rw[cn];rfl
def qR (m:Pt)(x:Int):gy (oG m) (.inl x)=(m.find? λq=>decide (q.1=x)).map λq=>wi q.2:=by
 unfold gy oG;rw[List.find?_map,Option.map_map];have e:((λkv:cT×W=>decide (kv.1=(Sum.inl x:cT))) ∘ λq:Int×Int=>((Sum.inl q.1:cT),wi q.2))=λq=>decide (q.1=x):=by funext q;show se _ _
 rw[e];rfl
def lZ {m:Pt}{x:Int}:(m.find? λq=>decide (q.1=x))=none /\ look m x=0 /\ x∉m.map (·.1) \/ ∃q,(m.find? λq=>decide (q.1=x))=some q /\ look m x=q.2:=by
 induction m with
 | nil=>show .inl #[rfl,rfl,by simp]
 | cons q r ih=>
  rw[List.find?_cons,look];by_cases e:q.1=x;simp![e,decide_true];show .inr #[q,rfl,by simp];simp![e,decide_false,a8];rcases ih with⟨h1,h2,h3⟩ | h
  show .inl #[h1,h2,by rw[aC,az,not_or];show#[bY e,h3]];show .inr h
def y3 (m:Pt)(x:Int):(gy (oG m) (.inl x)).getD (wi 0)=wi (look m x):=by rw[qR];rcases lZ (m:=m) (x:=x) with⟨h1,h2,_⟩ | ⟨q,h1,h2⟩ <;>rw[h1,h2] <;>rfl
def AZ {m:Pt}{x:Int}(h:x∈m.map (·.1)):gy (oG m) (.inl x)=some (wi (look m x)):=by
 rw[qR];rcases lZ (m:=m) (x:=x) with⟨_,_,h3⟩ | ⟨q,h1,h2⟩
 show absurd h h3;rw[h1,h2];rfl
def vT (m:Pt):(oG m).map (·.1)=(m.map (·.1)).map Sum.inl:=by unfold oG;rw[bh,bh];rfl
def lQ {m:Pt}{x v:Int}:(kZ m x v).map (·.1)=if x∈m.map (·.1) then m.map (·.1) else m.map (·.1)++ [x]:=by unfold kZ;by_cases h:x∈m.map (·.1);rw[am (jC.mpr h),am h,bh];apply List.map_congr_left;intro q _;change(if q.1=x then(q.1,v) else q).1=q.1;split<;>rfl;rw[ar (λe=>h (jC.mp e)),ar h,cn];rfl
def yB {m:Pt}{x v:Int}(h:(m.map (·.1)).Nodup):((kZ m x v).map (·.1)).Nodup:=by rw[lQ];by_cases e:x∈m.map (·.1);rw[am e];show h;rw[ar e];show rH h e
def vL {m:Pt}{x v:Int}:(kZ m x v).length<=m.length+1:=by unfold kZ;split;rw[af];lia;simp
def tJ {m:Pt}{x v y:Int}:look (kZ m x v) y=if y=x then v else look m y:=by
 unfold kZ;by_cases h:x∈m.map (·.1);rw [am (jC.mpr h)];have key: ∀m:Pt,look (m.map (λq=>if q.1=x then(q.1,v) else q)) y=if y=x /\ x∈m.map (·.1) then v else look m y:=by
  intro m;induction m with
  | nil=>simp[look]
  | cons q r ih=>
   rw[aC,look,look,ih];by_cases hq:q.1=x;by_cases hy:y=x;subst hy;simp[hq];simp[hq,hy,bY hy];by_cases hy:y=x;subst hy;have:(y∈(q::r).map (·.1))=(y∈r.map (·.1)):=by rw[aC,az];simp[bY hq]
   simp![this,hq,a8];simp[hq,hy]
 rw[key];simp[h];rw [ar (λe=>h (jC.mp e))];have key: ∀m:Pt,x∉m.map (·.1) ->look (m++ [(x,v)]) y=if y=x then v else look m y:=by
  intro m;induction m with
  | nil=>intro _;by_cases e:y=x;simp[look,e];simp[look,e,bY e]
  | cons q r ih=>intro hn;rw[aC,az,not_or] at hn;rw[List.cons_append,look,look,ih hn.2];by_cases e:y=x;subst e;simp[bY hn.1];simp[e]
 show key m h
def Et (m:Pt)(ns:Fm Int):Pt:=ns.filterMap λx=>if look m x=0 then none else some (x,look m x)
theorem oC {m:Pt}{x:Int}: ∀ {ns:Fm Int},ns.Nodup ->look (Et m ns) x=if x∈ns then look m x else 0
 | [],_=>rfl
 | n ::r,h=>by rw[List.nodup_cons] at h;have ih:=oC (m:=m) (x:=x) h.2;unfold Et at ih ⊢;rw[List.filterMap_cons];by_cases e:look m n=0;rw[am e];change look (r.filterMap _) x=_;rw[ih];by_cases hx:x=n;subst hx;rw[ar h.1,am (by simp),e];simp[hx];rw[ar e];change look ((n,look m n)::r.filterMap _) x=_;rw[look,ih];by_cases hx:x=n;subst hx;rw[am rfl,am (by simp)];rw[ar (bY hx)];simp[hx]
def sP {ns:Fm Int}(h1:ns.Pairwise (· <= ·))(h2:ns.Nodup):ns.Pairwise (· < ·):=by exact(List.Pairwise.and h1 h2).imp ?_;rintro a b ⟨h,n⟩;lia
def x_ {p:Int}(hp:0<p){ps m:Pt}{ns:Fm Int}(hn:(m.map (·.1)).Nodup)(ht: ∀x,look m x=lx ps x % p)(lU:ns.Perm (m.map (·.1)))(hs:ns.Pairwise (· <= ·)):Et m ns=j8 p ps:=by have nd:=lU.nodup_iff.mpr hn;have st:=sP hs nd;exact mY (p:=p) #[?_,?_] (hV hp ps) λx=> ?_;intro q hq;let⟨x,hx,e⟩:=List.mem_filterMap.mp hq;split at e;cases e;rename_i h0;cases e;have:=ht x;have:=Int.emod_nonneg (lx ps x) (show p≠0 by lia);have:=Int.emod_lt_of_pos (lx ps x) hp;change 0<look m x /\ look m x<p;lia;unfold Et;exact List.Pairwise.filterMap _ ?_ st;intro a b Ao c hc d hd;split at hc<;>cases hc;split at hd<;>cases hd;show Ao;rw[oC nd,oD hp];split;show ht x;rename_i hx;rw[<- ht x,dQ];intro q hq e;show hx (lU.mem_iff.mpr (by rw[<- e];show List.mem_map_of_mem hq))
def LA (_:Pt):Prop:=True
theorem Ld {ps:Pt}:LA ps:=trivial
theorem za {ps:Pt}(h:ps.length<64):LA ps:=trivial
def vI {m:Pt}{x v k:Int}(h:k∈(kZ m x v).map (·.1)):k=x \/ k∈m.map (·.1):=by rw[lQ] at h;split at h;show .inr h;obtain h | h:=aR.mp h;show .inr h;show .inl (aY.mp h)
end WP
namespace WQ
open PySem L2 WL WP
def EU:jD:=λxs M q=>fE λ(d l:KQ) (n:Int)=>dW (xs= [wr d,wi n]) (Dr M d l) (0<n) (n<1073741824) (∀ (r:Int) (M':Mp),0<=r ->r<n ->Dr M' d l ->NB d M M' ->q (wi r) M')
def ER:jD:=λxs M q=>bU λ(d l:KQ)=>cJ (xs= [wr d]) (Dr M d l) (∀ (r:Int) (M':Mp), -(10 ^ 23) <r ->r<10 ^ 23 ->Dr M' d l ->NB d M M' ->q (wi r) M')
def pP:jD:=λxs M q=>bU λ(d l:KQ)=>cJ (xs= [wr d]) (Dr M d l) (∀ (p:Int) (M':Mp),(p=2 \/ p=3 \/ p=5 \/ p=7) ->Dr M' d l ->NB d M M' ->q (wi p) M')
def ET:jD:=λxs M q=>fE λ(a:KQ) (p:Int) (ps:Pt)=>pD (xs= [wi p,wr a]) (M a=some (.lst (ps.map ci))) (0<p) (LA ps) (ps.length<=16000000) (q (gG (j8 p ps)) M)
def vA:jD:=λxs M q=>Dn λ(d l:KQ) (p most jz:Int)=>HQ (xs= [wr d,wi p,wi most,wi jz]) (Dr M d l) (2<=p) (p<1000) (0<=most) (most<63) (0<=jz) (jz<100000000 /\ ∀ (ps:Pt) (M':Mp),(ps.length:Int) <=most ->(∀z∈ps, -jz<=z.1 /\ z.1<=jz /\ 0<z.2 /\ z.2<p) ->Dr M' d l ->NB d M M' ->q (gG (j8 p ps)) M')
def mv (Q8:Int)(l:Pt):Pt:=l.map λz=>(z.1+Q8,z.2)
def By:jD:=λxs M q=>bU λ(k7:Pt) (b:Int)=>cJ (xs= [gG k7,wi b]) (k7.length<=16000000) (q (gG (mv b k7)) M)
def Jq:jD:=λxs M q=> ∃i:Int,xs= [wi i] /\ q (wb true) M
def BA:jD:=λxs M q=>bU λ(p:Int) (k7:Pt)=>dN (xs= [wi p,gG k7]) (dB p k7) (k7.length<=16000000) (q (wb true) M)
def tm (n:Int)(l:Pt):Pt:=l.map λz=>(z.1,z.2*n)
theorem big {n:Nat}(h:n<=16000000):n<=sizeLine:=aD h (by rw[sizeLine_eq];decide)
theorem CJ {n:Nat}(h:n<=16000000):n<sizeLine:=Nat.lt_of_le_of_lt h (by rw[sizeLine_eq];decide)
theorem BK {b:Int}{l:Pt}:(mv b l).length=l.length:=af _
def Hj {l:Pt}:mv 0 l=l:=by
 unfold mv;have:(λz:Int×Int=>(z.1+0,z.2))=id:=by funext z;rw[Int.add_zero];rfl
 rw[this,List.map_id]
theorem vF {p:Int}(hp:0<p){a:Pt}(h:dB p a):j8 p a=a:=mY (hV hp a) h λx=>by rw[oD hp,uT h.2];have:=qi hp h x;show Int.emod_eq_of_lt this.1 this.2
def wQ (q:Int×Int):uD (ci q)=some (.tup [.int q.1, .int q.2]):=by simp[ci,uD,iw]
theorem kI: ∀l:Pt,iw (l.map ci)=some (l.map λq=> .tup [.int q.1, .int q.2])
 | []=>rfl
 | q::r=>by rw[aC,iw,wQ,kI r];rfl
def mZ (l:Pt):Dt:= .tup (l.map λq=> .tup [.int q.1, .int q.2])
def nC (l:Pt):uD (gG l)=some (mZ l):=by rw[gG,uD,kI];rfl
theorem gQ: ∀l:Pt,lj (l.map λq=> .tup [.int q.1, .int q.2]) <=1
 | []=>by simp[lj]
 | q::r=>by rw[aC,lj];have:=gQ r;simp![nB,lj];lia
def qW (K:KW):Sp:=λvs H Q _=>bU λ(a:KQ) (ns:Fm Int)=>cJ (vs= [.ref a]) (dw K H a (ns.map V.int)) (∀ (d l:KQ) (ms:Fm Int) (H':Hp),d≠l ->H' d=some (.lst [.ref l, .int 0, .int 0, .int 11]) ->H' l=some (.lst (ms.map V.int)) ->Q (.ref d) H')
def n5 (K:KW):Sp:=λvs H Q _=>bU λ(a:KQ) (ns:Fm Int)=>cJ (vs= [.ref a]) (dw K H a (ns.map V.int)) (∀H',Q (.bl true) H')
def E4 {P:KY}{w:KZ}{K:KW}{mg:Str ->KO Fp}{base:K0}{x qual z:Str}{st:Stmt}{f:KQ}{fd:FuncData}{N:Fm Str}{k:Nat}(F:pF K x qual st f fd)(S:dm N [z] (aL st))(hN:2<=N.length) (eB: ∀ (cdv:Fp) (A:K2) (outer:Fm Env) (s:JZ) (H:Hp) (E:XK),dD k (A.deeper (PyProof.Rows.envOfC qual (aL st) s.heap.objs.size f cdv)) ->∃ R,mE (dF gx P w K mg base N qual (aL st) f cdv A outer s H E).yy (dg st) (A6 (u8 (lz (qW K) [] E0 (uZ (xU 0) A7)) (im 1)) R) /\∃w',IS K R w' /\ ∀d l M,Dr M d l ->w' {nx:=λ_ _=>False,rt:=λx _=>x=wb true} (none::some (wr d)::List.replicate (N.length - 2) none) M): c_ P w K mg base gx (k+1) f fd [z] (n5 K):=by
 exact pF.ok F S (λvs H Q E ⟨a,ns,h,_,_⟩=>by rw[h];rfl) λcdv A outer s H vs Q E hr h=> ?_;let⟨R,h1,w',h2,h3⟩:=eB cdv A outer s H E hr;let⟨a,ns,rfl,hs,hq⟩:=h;exact#[_,h1,?_];let⟨n,hn⟩: ∃n,N.length=n+2:=#[N.length - 2, ∅]
 have e0:L2.start N [V.ref a]=some (V.ref a)::none::List.replicate n none:=by unfold L2.start;rw[hn];rfl
 rw[e0];exact#[_,rfl,a,ns,rfl,hs,λd l ms H' kw hd hl=> ?_];change R _ _ H';exact h2.imp (none::some (wr d)::List.replicate (N.length - 2) none) (um (um (λ_=>none) l (.lst (ms.map wi))) d (.lst [wr l,wi 0,wi 0,wi 11])) _ H' _ _ #[#[?_,λi y e=> ?_],λb o e=> ?_] (h3 d l _ #[ms,0,0,11,aM,by rw[cO (bY kw),aM],⋯,kw]) #[λ_ _ _ _ h=>h.elim,λy M' v H2 e _ _ r=> ?_,λ_ _ _ _ h=>h.elim,λ_ _ _ _ h=>h.elim];simp[hn];match i with
 | 0=>simp at e
 | 1=>simp at e;subst e;show#[.ref d,rfl,WR.v]
 | i+2=>simp[cy] at e
 by_cases hb:b=d;subst hb;rw[aM] at e;cases e;show#[_,hd,bS.cons WR.v (bS.cons WR.v (bS.cons WR.v (bS.cons WR.v bS.nil)))];rw[cO hb] at e;by_cases Hy:b=l;subst Hy;rw[aM] at e;cases e;show#[_,hl,bS.ofInts ms];rw[cO Hy] at e;cases e;subst e;rw[r.eq];show hq H2
abbrev Rd:=Int×Pt
def jc (r:Rd):W:= .tup [wi r.1,gG r.2]
def jn (p:Int)(a b:Rd):Rd:=(a.1+b.1,j8 p (a.2++mv a.1 b.2))
def bk (p:Int)(a:Rd):Rd:=(-a.1,j8 p (tm (-1) (mv (-a.1) a.2)))
def Bx:jD:=λxs M q=>NG λ(d l:KQ) (p en most jz:Int)=>HQ (xs= [wr d,wi p,wi en,wi most,wi jz]) (Dr M d l) (2<=p) (p<1000) (0<=en) (en<100000000) (0<=most) (dN (most<63) (0<=jz) (jz<100000000) (∀ (g:Int) (ps:Pt) (M':Mp), -en<=g ->g<=en ->(ps.length:Int) <=most ->(∀z∈ps, -jz<=z.1 /\ z.1<=jz /\ 0<z.2 /\ z.2<p) ->Dr M' d l ->NB d M M' ->q (jc (g,j8 p ps)) M'))
def vB:jD:=λxs M q=>bU λ(p:Int) (a:Rd)=>dN (xs= [wi p,jc a]) (dB p a.2) (a.2.length<=100000) (q (wb true) M)
def wP (r:Rd):uD (jc r)=some (.tup [.int r.1,mZ r.2]):=by rw[jc,uD,iw,iw,nC,iw];rfl
def CC (r:Rd):nB (.tup [.int r.1,mZ r.2]) <=50:=by
 simp![nB,lj];have:nB (mZ r.2) <=2:=by unfold mZ;rw[nB];have:=gQ r.2;lia
 lia
def F6 {M:Mp}{q:WK}{a b:Rd}(e:a=b)(h:q (wb true) M):AX (jc a) (jc b) M q:=by subst e;show#[_,_, .inl (wP a), .inl (wP a),rfl,CC a,by rw[f8];show h]
inductive LC where
 | go (k:Int) | turn (k:Int)
def Ny (s:Int×Pt):LC ->Int×Pt
 | .go k=>(s.1+k,s.2)
 | .turn k=>(s.1,s.2++ [(s.1,k)])
end WQ
namespace WL
open PySem PySem.Spec PyProof.Rows L2
def Go (ns:Fm Int)(m:Int):Prop:=m∈ns /\ ∀x∈ns,x<=m
def Gn (ns:Fm Int)(m:Int):Prop:=m∈ns /\ ∀x∈ns,m<=x
end WL
namespace WQ
open PySem L2 WL WP
def N8 (p s:Int):Int:=if p - s<s then p - s else s
def zN (a:Rd):Fm Int:=0::a.1::a.2.map (·.1)
def Gf (i:Int):Int:=if i<0 then -i else i
def QW (p:Int)(a:Rd)(lo hi:Int):Int:=2*(hi - lo) - Gf a.1+(a.2.map λz=>N8 p z.2).sum
def Kq (e n x:Int):Bool:=decide (x.fmod e=0) && (decide (0<=x.fdiv e) && decide (x.fdiv e<n))
end WQ
namespace WL
open PySem PySem.Spec PyProof.Rows L2 EN
section
variable {X:Cx}
def EM (K:KW):Fm V ->Hp ->VK ->Prop:=λxs H Q=>bU λ(l:KQ) (bs:Fm Bool)=>cJ (xs= [.ref l]) (dw K H l (bs.map V.bl)) (Q (.bl (bs.all id)) H)
def EL (K:KW):Fm V ->Hp ->VK ->Prop:=λxs H Q=>bU λ(l:KQ) (bs:Fm Bool)=>cJ (xs= [.ref l]) (dw K H l (bs.map V.bl)) (Q (.bl (bs.any id)) H)
def v8 {bq:Fm Fp}{bs:Fm Bool}(rv:b0 (bs.map V.bl) bq){i:Nat}{v:Fp}(e:bq.toArray[i]? =some v):v= .bool (bs.getD i false) /\ i<bs.length:=by
 have e':bq[i]? =some v:= ⇑e;have dj:=rv.length;have hi:i<bs.length:=by have:=(aZ.mp e').1;rw[af] at dj;lia
 let⟨w',hw,og⟩:=rv.get (i:=i) (x:= .bl bs[i]) (by rw[aB,aA hi];rfl);rw[e'] at hw;cases hw;cases og;show#[by simp[List.getD,hi],hi]
def sW (bs:Fm Bool):(List.range bs.length).all (λi=>bs.getD i false)=bs.all id:=by apply Bool.eq_iff_iff.mpr;rw[List.all_eq_true,List.all_eq_true];symm;intro h x hx;let⟨i,hi,rfl⟩:=List.mem_iff_getElem.mp hx;have:=h i (List.mem_range.mpr hi);simpa [List.getD,hi] using this;intro h i hi;rw[List.mem_range] at hi;have:=h bs[i] (List.getElem_mem hi);simpa [List.getD,hi] using this
def sV (bs:Fm Bool):(List.range bs.length).any (λi=>bs.getD i false)=bs.any id:=by apply Bool.eq_iff_iff.mpr;rw[List.any_eq_true,List.any_eq_true];symm;rintro⟨i,hi,h⟩;rw[List.mem_range] at hi;show#[bs[i],List.getElem_mem hi,by simpa [List.getD,hi] using h];rintro⟨x,hx,h⟩;let⟨i,hi,rfl⟩:=List.mem_iff_getElem.mp hx;show#[i,List.mem_range.mpr hi,by simpa [List.getD,hi] using h]
def ml (hc:X.calm=true):dn X (.builtin "all") (EM X.K):=by
 intro aa s σ H xs us Q I r h;let⟨l,bs,rfl,hs,q⟩:=h;let⟨u,rfl,ru⟩:=vals1 r;cases ru;let⟨bq,rv,ht,hz⟩:=I.list hs;have hh:X.A.in1.handled=none:=I.ok.hd hc;have dj:bq.toArray.size=bs.length:=by have:=rv.length;rw[af] at this;simpa using this.symm
 have fJ:l<s.heap.objs.size:=by let⟨_,e,_⟩:=ht.isList;show au e
 exact PySem.call_all_walkS (wpAny_pyIter_list ht.isList ?_);exact#[s.heap.objs.size,_,_,_,bq.toArray.size,_,_,λi=>bs.getD i false,rfl,(Walks.list hh s.heap.objs.size l (aU fJ) bq.toArray).toS,#[#[_,aT _ rfl,rfl,rfl],ht.isList.push _],λi v s' Q' E' e hq=> ?_,λs' hm=> ?_];let⟨rfl,_⟩:=v8 rv e;show cq hq;have hk: ∀b o,s.heap.get? b=some o ->s'.heap.get? b=some o:=λb o e=>hm.heap b o (λhI=>absurd (au e) (by rw[aY.mp hI];show bB _)) (aw _ e);rw[Moved.eq_with hm,dj,sW];show#[.bl _,H,I.kept (t':=s'.toks) hk,rfl,q]
def mj (hc:X.calm=true):dn X (.builtin "any") (EL X.K):=by
 intro aa s σ H xs us Q I r h;let⟨l,bs,rfl,hs,q⟩:=h;let⟨u,rfl,ru⟩:=vals1 r;cases ru;let⟨bq,rv,ht,hz⟩:=I.list hs;have hh:X.A.in1.handled=none:=I.ok.hd hc;have dj:bq.toArray.size=bs.length:=by have:=rv.length;rw[af] at this;simpa using this.symm
 have fJ:l<s.heap.objs.size:=by let⟨_,e,_⟩:=ht.isList;show au e
 exact PySem.call_any_walkS (wpAny_pyIter_list ht.isList ?_);exact#[s.heap.objs.size,_,_,_,bq.toArray.size,_,_,λi=>bs.getD i false,rfl,(Walks.list hh s.heap.objs.size l (aU fJ) bq.toArray).toS,#[#[_,aT _ rfl,rfl,rfl],ht.isList.push _],λi v s' Q' E' e hq=> ?_,λs' hm=> ?_];let⟨rfl,_⟩:=v8 rv e;show cq hq;have hk: ∀b o,s.heap.get? b=some o ->s'.heap.get? b=some o:=λb o e=>hm.heap b o (λhI=>absurd (au e) (by rw[aY.mp hI];show bB _)) (aw _ e);rw[Moved.eq_with hm,dj,sV];show#[.bl _,H,I.kept (t':=s'.toks) hk,rfl,q]
variable {K:KW}
theorem bS.bools {H:Hp}: ∀ {bs:Fm Bool} {vs:Fm V},bS K H (bs.map wb) vs ->vs=bs.map V.bl
 | [],vs,h=>by simpa only[List.map_nil,bS] using h
 | n::r,vs,h=>by simp![aC,bS] at h;let⟨v,t,rfl,h1,h2⟩:=h;rw[bS.bools h2,h1.eq];rfl
def IQ:pK:=λxs M q=>bU λ(a:KQ) (bs:Fm Bool)=>cJ (xs= [wr a]) (M a=some (.lst (bs.map wb))) (q (wb (bs.all id)) M)
def DX:pK:=λxs M q=>bU λ(a:KQ) (bs:Fm Bool)=>cJ (xs= [wr a]) (M a=some (.lst (bs.map wb))) (q (wb (bs.any id)) M)
instance:IC K (EM K) IQ where
 imp:=by rintro xs v M H q Q m r1 ⟨a,ns,rfl,hl,h⟩ k;let⟨v,rfl,r⟩:=r1.one;cases r.eq;let⟨vs,hv,rr⟩:=m a _ hl;cases rr.bools;show#[a,ns,rfl,dw.of hv,k _ M _ H h (aQ.refl H) m WR.v]
instance:IC K (EL K) DX where
 imp:=by rintro xs v M H q Q m r1 ⟨a,ns,rfl,hl,h⟩ k;let⟨v,rfl,r⟩:=r1.one;cases r.eq;let⟨vs,hv,rr⟩:=m a _ hl;cases rr.bools;show#[a,ns,rfl,dw.of hv,k _ M _ H h (aQ.refl H) m WR.v]
end
end WL
namespace WQ
open PySem L2 WL WP
def AI (p:Int)(l:Fm Int):Prop:=(∀x∈l,0<=x /\ x<p) /\ ∀x,l.getLast? =some x ->x≠0
def CN (row:Fm Int)(k:Nat)(x:Int):Fm Int:=row.set k (row.getD k 0+x)
def gm (row:Fm Int)(o:Nat)(l:Fm Int)(n:Nat):Fm Int:=(List.range n).foldl (λr i=>CN r (o+i) (l.getD i 0)) row
def pw (p s:Int):Nat ->Int
 | 0=>1
 | n+1=>pw p s n*s % p
end WQ
namespace L2
open PySem PySem.Spec PyProof.Rows
def pF.Mo {P:KY}{w:KZ}{K:KW}{mg:Str ->KO Fp}{base:K0}{CX:uv}{x qual:Str}{st:Stmt}{f:KQ}{fd:FuncData}{N ps:Fm Str}{k:Nat}{sp:Sp}(F:pF K x qual st f fd)(S:dm N ps (aL st))(len: ∀vs H Q E,sp vs H Q E ->vs.length=ps.length) (eB: ∀ (cdv:Fp) (A:K2) (outer:Fm Env) (s:JZ) (H:Hp) (vs:Fm V) (Q:VK) (E:XK),dD k (A.deeper (envOfC qual (aL st) s.heap.objs.size f cdv)) ->sp vs H Q E ->∃t,mE (dF CX P w K mg base N qual (aL st) f cdv A outer s H E) (dg st) t /\ t {nx:=λ_ H'=>Q .di H',rt:=Q} (start N vs) H):c_ P w K mg base CX (k+1) f fd ps sp:=by let⟨oc,od,kV,gU,pm,an,cdv,ct,uw,rfl,lk,si⟩:=F.ex;show Ar lk si S len λA outer s H vs Q E hr tU=>eB cdv A outer s H vs Q E hr tU
end L2
namespace WL
open PySem L2 PySem.Spec PyProof.Rows
abbrev WX:=KQ ->Mp ->Prop
abbrev i7:=Fm W ->Mp ->WK ->WX ->Prop
section
variable {K:KW}
def up (e:WX):WX:=λC M'=> ∃M0,Sm M0 M' /\ e C M0
def Ex (K:KW)(e:WX):XK:=λcls _ H'=> ∃C M',cls= .ref C /\ e C M' /\ dG K M' H'
def Bc (K:KW)(p:i7):Sp:=λvs H Q E=> ∃ (xs:Fm W) (M:Mp) (q:WK) (e:WX),bS K H xs vs /\ dG K M H /\ p xs M q e /\ (∀x M' v H',q x M' ->aQ H H' ->dG K M' H' ->WR K H' x v ->Q v H') /\ ∀C M' H',e C M' ->dG K M' H' ->E (.ref C) none H'
def uM (p:i7)(e:WX)(a:WA):WE:=λρ M q=>a ρ M λxs M1=>p xs M1 q (up e)
instance {p:i7}{e:WX}{t:TA}{a:WA} [ia:IA K t a]:IE K (lz (Bc K p) [] (Ex K e) t) (uM p e a) where
 imp:=λρ M σ H q Q o h k=>ia.imp ρ M σ H _ _ o h λx M1 v H1 h1 t1 m1 r1=>#[x,M1,q,_,by rw[List.append_nil];show r1,m1,h1,λy M4 v4 H4 h4 t4 m4 r4=>k y M4 v4 H4 h4 (t1.trans t4) m4 r4,λC M' H' ⟨M0,s,h⟩ m=>#[C,M0,rfl,h,m.sub s]]
def mH (C:KQ)(e:WX)(a:WA):WS:=λ_ ρ M=>a ρ M λxs M'=>xs.length<=sizeLine /\ up e C M'
instance {C:KQ}{e:WX}{t:TA}{a:WA} [ia:IA K t a]:IS K (pV C (Ex K e) t) (mH C e a) where
 imp:=λρ M σ H D' D o h jq=>ia.imp ρ M σ H _ _ o h λx M1 v H1 ⟨hl,M0,s,h1⟩ t1 m1 r1=>#[by rw[r1.length];show hl,C,M0,rfl,h1,m1.sub s]
def sj (i:Nat)(D:dk):dk:= {nx:=λσ H=>D.nx (σ.set i none) H,rt:=D.rt,bk:=λσ H=>D.bk (σ.set i none) H,ct:=λσ H=>D.ct (σ.set i none) H}
def sI.vf {H:Hp}{ρ:cA}{σ:L2.St}(h:sI K H ρ σ)(i:Nat):sI K H (ρ.set i none) (σ.set i none):=by exact#[by simp[h.1],λj y e=> ?_];rw[List.getElem?_set] at e ⊢;split at e;split at e<;>cases e;rename_i hj;rw[ar hj];show h.2 j y e
theorem Ok.vf {ρ:cA}{M:Mp}{σ:L2.St}{H:Hp}(o:Ok K ρ M σ H)(i:Nat):Ok K (ρ.set i none) M (σ.set i none) H:=#[o.env.vf i,o.hp]
def AW (K:KW):pK:=λxs M q=> ∃a C c cu b,xs= [wr a, .v c] /\ M a=some (.exc C) /\ qI K C /\ RelV c cu /\ (∀u,RelV c u ->u=cu) /\ W.kitOne K (.ref C) cu=some b /\ q (wb b) M
instance:IC K (vn K) (AW K) where
 imp:=by rintro xs v M H q Q m r1 ⟨a,C,c,cu,b,rfl,ha,kc,rc,only,e,h⟩ k;let⟨v,u,rfl,r,r'⟩:=r1.two;cases r.eq;cases r'.eq;show#[a,C,c,cu,b,rfl,m a _ ha,kc,rc,only,e,k _ M _ H h (aQ.refl H) m WR.v]
def Mn {P:KY}{w:KZ}{mg:Str ->KO Fp}{base:K0}{x qual:Str}{st:Stmt}{f:KQ}{fd:FuncData}{N ps:Fm Str}{k:Nat}{p:i7}(F:pF K x qual st f fd)(S:dm N ps (aL st))(len: ∀vs M q e,p vs M q e ->vs.length=ps.length) (eB: ∀ (cdv:Fp) (A:K2) (outer:Fm Env) (s:JZ) (H:Hp) (E:XK) (e:WX),dD k (A.deeper (envOfC qual (aL st) s.heap.objs.size f cdv)) ->pG (dF (gq P w) P w K mg base N qual (aL st) f cdv A outer s H E) (Ex K e) ->gT (gq P w) (dF (gq P w) P w K mg base N qual (aL st) f cdv A outer s H E) (Ex K e) ->∃ t,mE (dF (gq P w) P w K mg base N qual (aL st) f cdv A outer s H E) (dg st) t /\ ∃w',IS K t w' /\∀vs M q,p vs M q e ->w' {nx:=λ_ M'=> ∃M0,Sm M0 M' /\ q wn M0,rt:=λx M'=> ∃M0,Sm M0 M' /\ q x M0} (vs.map some++List.replicate (N.length - vs.length) none) M): c_ P w K mg base (gq P w) (k+1) f fd ps (Bc K p):=by
 exact pF.Mo F S (λvs H Q E ⟨xs,M,q,e,r,m,h,_⟩=>by rw[r.length];show len xs M q e h) λcdv A outer s H vs Q E hr h=> ?_;let⟨xs,M,q,e,r,m,h,k',kE⟩:=h;have hE: ∀c d H',Ex K e c d H' ->E c none H':=λc d H' ⟨C,M',ec,he,m'⟩=>by rw[ec];show kE C M' H' he m'
 let⟨t,h1,w',h2,h3⟩:=eB cdv A outer s H E e hr (λaa σ H1 s1 h' ea cls us I mk z=>oR aa σ H1 s1 h' ea cls us I mk (hE _ _ _ z)) (λaa σ H1 s1 ev s2 I z=>jX aa σ H1 s1 ev s2 I (by let⟨ea,cls,a0,B,H',r1,r2,r3,r4,r5,r6,r7,r8,r9,r⟩:=z;show#[ea,cls,a0,B,H',r1,r2,r3,r4,r5,r6,r7,r8,r9,hE _ _ _ r]));exact#[t,h1,h2.imp _ M _ H _ _ #[#[?_,λi x e=> ?_],m] (h3 xs M q h) #[?_,?_,λ_ _ _ _ h=>h.elim,λ_ _ _ _ h=>h.elim]];have:=r.length;simp[L2.start,this];have hl:=r.length;unfold L2.start;by_cases hi:i<xs.length;rw[aI ⇑hi,aB] at e;cases ex:xs[i]? with
 | none=>rw[ex] at e;cases e
 | some y=>rw[ex] at e;cases e;let⟨v,hv,rv⟩:=r.at ex;exact#[v,?_,rv];rw[aI (by simp;lia),aB,hv];rfl
 rw[aG ⇑hi,cy] at e;split at e<;>cases e;rintro ρ' M' σ' H' ⟨M0,s,hq⟩ ts o;show k' _ M0 _ H' hq ts (o.hp.sub s) WR.v;rintro x M' v H' ⟨M0,s,hq⟩ ts m' r';show k' x M0 v H' hq ts (m'.sub s) r'
end
end WL
namespace L2
open PySem PySem.Spec PyProof.Rows PySem.Calls PySem.W
def JN:Fp ->Str
 | .str n _=>n
 | _=> ""
def xT {K:KW}{mg:Str ->KO Fp}{h₀:K0}(m:Mod K mg h₀)(p:KY): ∃jd mb,W.TopRead p jd mg mb h₀:=by let⟨mb,b,hb⟩:=m.blt;let⟨o,es,ep,ho,hd,hs,hn⟩:=m.glob;exact#[es.toList.map (λe=>JN e.key),mb,m.glob,b,m.nolimit,hb,λx _ hx _ _ _=> ?_];rw[<- hn x];change(es.find? λe=>e.key.isStr x).map _=none;rw[Array.find?_eq_none.mpr];rfl;intro e he hk;let⟨n,q,hq⟩:=hs e he;exact hx (bp.mpr #[e, ⇑he,?_]);rw[hq] at hk ⊢;first | show beq_iff_eq.mp hk | show(beq_iff_eq.mp hk).symm | show of_decide_eq_true hk | show(of_decide_eq_true hk).symm
def jv {K:KW}{mg:Str ->KO Fp}{h₀:K0}{x:Str}{C:KQ}{bmB:Fm Fp}{z9:String}(m:Mod K mg h₀)(e:nsIn K mainGlobals x=some (some (.ref C)))(q:excIn K C bmB z9=true):OwnCls x C bmB z9 mg h₀:=by let⟨_,_,T⟩:=xT m default;show own_of_in m.Fe T e q
structure qJ (K:PySem.W.Frag)(x:Str)(C:Addr):Prop where
 ns:nsIn K mainGlobals x=some (some (.ref C))
 exc:excIn K C Ga "ValueError.__new__" =true
 k:qI K C
section
variable {X:Cx}
theorem fb {E:XK}{x:Str}{C:KQ}{np dH pos:Pos}{e₀:Expr}{c7:Fm Expr}{t:TA}(hF:pG X E)(hc:X.calm=true)(hg:Gl X x)(O:qJ X.K x C)(ha:PA X (e₀::c7) t) (li:(x==("__debug__" :Str))=false:=by decide) (he:starEach (e₀::c7) X.env=(false,eval e₀ X.env)::starEach c7 X.env:=by rfl) (lT:(backTo dH (starEach c7 X.env)).any (·.1)=false:=by rfl): PS X (.Raise (some (.Call (.Name x np) (e₀::c7) [] dH)) none pos) (pV C E t):=λaa s σ H D I h=>vq hF hc hg (jv I.ok.mod O.ns O.exc) ha li he lT aa s σ H D I h
end
end L2
namespace WL
open PySem L2
theorem qv {β:Sort _}{R:cA ->Mp ->Prop}{G:Prop}(ρ:β ->cA)(M:β ->Mp)(P:β ->Prop)(use:(∀b,P b ->wq R (ρ b) (M b)) ->G)(c7: ∀b,P b ->wq R (ρ b) (M b)):G:=use c7
theorem CA {M:Mp}{q:WK}{x y:W}{d:Dt}(hx:DR M x d)(hy:DR M y d)(hd:nB d<=50)(hs:gd d d=true)(h:q (wb true) M):AX x y M q:=#[d,d,hx,hy,hs,hd,by rw[f8];show h]
theorem rZ {K:KW}{M:Mp}{q:WK}{a C D:KQ}{b:Bool}(ha:M a=some (.exc C))(k:qI K C)(e:W.kitOne K (.ref C) (.ref D)=some b)(h:q (wb b) M):AW K [wr a, .v (.ref D)] M q:=#[a,C, .ref D, .ref D,b,rfl,ha,k,rfl,λ_ h=>h,e,h]
theorem BW {K:KW}{M:Mp}{q:WK}{a C:KQ}{D:String}{b:Bool}(ha:M a=some (.exc C))(k:qI K C)(e:W.kitOne K (.ref C) (.type D)=some b)(h:q (wb b) M):AW K [wr a, .v (.ty D)] M q:=#[a,C, .ty D, .type D,b,rfl,ha,k,rfl,λ_ h=>h,e,h]
section
variable {K:KW}
def Fo (xK:Fm W)(fT:Mp ->Prop)(g2:WG)(c2:WT)(el:WE)(ρ2:cA)(p:KQ)(ys:Fm W)(M4:Mp)(N:Fm W ->Mp ->Prop):Prop:=∃I2:Nat ->Fm W ->Mp ->Prop,dN (I2 0 ys M4) (∀j zs M,j<=xK.length ->I2 j zs M ->fT M /\ M p=some (.lst zs) /\ zs.length<sizeLine) (∀j y zs M,xK[j]? =some y ->I2 j zs M ->g2 y ρ2 M λρ3 M5=>c2 ρ3 M5 λb M6=>if b=true then el ρ3 M6 λz M7=>M7 p=some (.lst zs) /\ I2 (j+1) (zs++ [z]) (um M7 p (.lst (zs++ [z]))) else I2 (j+1) zs M6) (∀zs M,I2 xK.length zs M ->N zs M)
def CH (xs:Fm W)(keep:Mp ->Prop)(own:Nat)(fr:Fm Nat)(g:WG)(c:WT)(Hm:WI)(g2:WG)(c2:WT)(el:WE)(ρ:cA)(M1:Mp)(q:WK):Prop:= ∀p,M1 p=none -> ∃I:Nat ->Fm W ->Mp ->Prop,dN (I 0 [] (um M1 p (.lst []))) (∀i ys M,i<=xs.length ->I i ys M ->keep M /\ M p=some (.lst ys)) (∀i x ys M,xs[i]? =some x ->I i ys M ->g x (iA own fr ρ) M λρ2 M2=>c ρ2 M2 λb M3=>if b=true then Hm ρ2 M3 λxK fT M4=>Fo xK fT g2 c2 el ρ2 p ys M4 (I (i+1)) else I (i+1) ys M3) (∀ys M,I xs.length ys M ->q (wr p) M)
def qg {α:Type}{f:α ->W}{l:Fm α}{i:Nat}{x:W}(h:(l.map f)[i]? =some x): ∃a,l[i]? =some a /\ x=f a:=by
 rw[aB] at h;cases e:l[i]? with
 | none=>rw[e] at h;cases h
 | some a=>rw[e] at h;cases h;show#[a,rfl,rfl]
def Dh {α β:Type}{l:Fm α}{fW:α ->W}(bX:α ->Fm β)(gW:β ->W)(eW:α ->β ->W){keep:Mp ->Prop}{M1:Mp}{own:Nat}{fr:Fm Nat}{ρ:cA}{g:WG}{c:WT}{Hm:WI}{g2:WG}{c2:WT}{el:WE}{q:WK} (hz:(l.map λa=>(bX a).length).sum<sizeLine) (ij: ∀M,Sm M1 M ->keep M) (hs: ∀a∈l, ∀M,Sm M1 M -> ∀ (B:cA ->Fm W ->(Mp ->Prop) ->Mp ->Prop) (N0:Mp ->Prop),(∀ρ2 fT,(∀M',Sm M1 M' ->fT M') ->(∀b∈bX a, ∀M',Sm M1 M' -> ∀N:KO W ->Mp ->Prop,N (some (eW a b)) M' ->g2 (gW b) ρ2 M' λρ3 M5=>c2 ρ3 M5 λb M6=>fV b (el ρ3 M6 λz M7=>N (some z) M7) (N none M6)) ->B ρ2 ((bX a).map gW) fT M) ->g (fW a) (iA own fr ρ) M λρ2 M2=>c ρ2 M2 λb M3=>fV b (Hm ρ2 M3 λxK fT M4=>B ρ2 xK fT M4) (N0 M3)) (hq: ∀p,M1 p=none ->q (wr p) (um M1 p (.lst (l.map λa=>(bX a).map (eW a)).flatten))): CH (l.map fW) keep own fr g c Hm g2 c2 el ρ M1 q:=by
 intro p hp;have dj: ∀k:Fm α,(k.map λa=>(bX a).map (eW a)).flatten.length=(k.map λa=>(bX a).length).sum:=λk=>by rw[List.length_flatten,bh];congr 1;apply List.map_congr_left;intro a _;simp
 have Fw: ∀i:Nat,((l.take i).map λa=>(bX a).length).sum<=(l.map λa=>(bX a).length).sum:=λi=>by
  have e:(l.map λa=>(bX a).length)=((l.take i).map λa=>(bX a).length)++((l.drop i).map λa=>(bX a).length):=by rw[<- cn,aV]
  rw[e,List.sum_append];lia
 exact#[λi ys M=>M=um M1 p (.lst ys) /\ ys=((l.take i).map λa=>(bX a).map (eW a)).flatten,#[rfl,by simp],?_,?_,?_];rintro i ys M hi ⟨rfl,rfl⟩;show#[ij _ (bv hp),aM];rintro i x ys M hx ⟨rfl,rfl⟩;let⟨a,ha,rfl⟩:=qg hx;have e:l.take (i+1)=l.take i++ [a]:=by rw[List.take_add_one,ha];rfl
 have eF:((l.take (i+1)).map λa=>(bX a).map (eW a)).flatten=((l.take i).map λa=>(bX a).map (eW a)).flatten++(bX a).map (eW a):=by rw[e,cn,List.flatten_append];simp
 have eS:((l.take (i+1)).map λa=>(bX a).length).sum=((l.take i).map λa=>(bX a).length).sum+(bX a).length:=by rw[e,cn,List.sum_append];simp
 exact hs a (bD ha) _ (bv hp) (λρ2 xK fT M4=>Fo xK fT g2 c2 el ρ2 p ((l.take i).map λa=>(bX a).map (eW a)).flatten M4 λys M=>M=um M1 p (.lst ys) /\ ys=((l.take (i+1)).map λa=>(bX a).map (eW a)).flatten) (λM=>M=um M1 p (.lst ((l.take i).map λa=>(bX a).map (eW a)).flatten) /\ ((l.take i).map λa=>(bX a).map (eW a)).flatten=((l.take (i+1)).map λa=>(bX a).map (eW a)).flatten) ?_;intro ρ2 fT OS Ht;exact#[λj zs M=>M=um M1 p (.lst zs) /\ zs=((l.take i).map λa=>(bX a).map (eW a)).flatten++((bX a).take j).map (eW a),#[rfl,by simp],?_,?_,?_];rintro j zs M hj ⟨rfl,rfl⟩;exact#[OS _ (bv hp),aM,?_];rw[aN,dj,af,bi];have b3:=Fw (i+1);rw[eS] at b3;lia;rintro j y zs M hy ⟨rfl,rfl⟩;let⟨b,hb,rfl⟩:=qg hy;have e2:(bX a).take (j+1)=(bX a).take j++ [b]:=by rw[List.take_add_one,hb];rfl
 exact Ht b (bD hb) _ (bv hp) (λo M4=>match o with
 | some z=>M4 p=some (.lst (((l.take i).map λa=>(bX a).map (eW a)).flatten++((bX a).take j).map (eW a))) /\ (um M4 p (.lst (((l.take i).map λa=>(bX a).map (eW a)).flatten++((bX a).take j).map (eW a)++ [z]))=um M1 p (.lst (((l.take i).map λa=>(bX a).map (eW a)).flatten++((bX a).take j).map (eW a)++ [z])) /\ ((l.take i).map λa=>(bX a).map (eW a)).flatten++((bX a).take j).map (eW a)++ [z]=((l.take i).map λa=>(bX a).map (eW a)).flatten++((bX a).take (j+1)).map (eW a))
 | none=>M4=um M1 p (.lst (((l.take i).map λa=>(bX a).map (eW a)).flatten++((bX a).take j).map (eW a))) /\ ((l.take i).map λa=>(bX a).map (eW a)).flatten++((bX a).take j).map (eW a)=((l.take i).map λa=>(bX a).map (eW a)).flatten++((bX a).take (j+1)).map (eW a)) ?_
 show#[aM,uO,by rw[e2,cn];simp];rintro zs M ⟨rfl,rfl⟩;show#[rfl,by rw[eF,af,List.take_length]];rintro ys M ⟨rfl,rfl⟩;rw[af,List.take_length];show hq p hp
def wS {α:Type}{l:Fm α}{fW:α ->W}(pr:α ->Bool)(eW:α ->W){keep:Mp ->Prop}{M1:Mp}{own:Nat}{fr:Fm Nat}{ρ:cA}{g:WG}{c:WT}{el:WE}{q:WK}(hz:l.length<=sizeLine)(ij: ∀M,Sm M1 M ->keep M) (hs: ∀a∈l, ∀ (M:Mp) (N:KO W ->Mp ->Prop),Sm M1 M ->N (if pr a=true then some (eW a) else none) M ->g (fW a) (iA own fr ρ) M λρ2 M2=>c ρ2 M2 λb M3=>fV b (el ρ2 M3 λy M4=>N (some y) M4) (N none M3)) (hq: ∀p,M1 p=none ->q (wr p) (um M1 p (.lst ((l.filter pr).map eW)))):sD (l.map fW) keep own fr g c el ρ M1 q:=by
 exact#[by rw[af];show hz,λp hp=>#[λi ys M=>M=um M1 p (.lst ys) /\ ys=((l.take i).filter pr).map eW,#[rfl,by simp],?_,?_,?_]];rintro i ys M hi ⟨rfl,rfl⟩;exact#[ij _ (bv hp),aM,?_];rw[af];exact aD (List.length_filter_le _ _) ?_;rw[bi];lia;rintro i x ys M hx ⟨rfl,rfl⟩;let⟨a,ha,rfl⟩:=qg hx;have e:l.take (i+1)=l.take i++ [a]:=by rw[List.take_add_one,ha];rfl
 exact hs a (bD ha) _ (λo M4=>match o with
 | some y=>M4 p=some (.lst (((l.take i).filter pr).map eW)) /\ (um M4 p (.lst (((l.take i).filter pr).map eW++ [y]))=um M1 p (.lst (((l.take i).filter pr).map eW++ [y])) /\ ((l.take i).filter pr).map eW++ [y]=((l.take (i+1)).filter pr).map eW)
 | none=>M4=um M1 p (.lst (((l.take i).filter pr).map eW)) /\ ((l.take i).filter pr).map eW=((l.take (i+1)).filter pr).map eW) (bv hp) ?_
 cases hf:pr a with
 | false=>rw[ar (by simp)];show#[rfl,by rw[e,List.filter_append];simp[hf]]
 | true=>rw[am rfl];show#[aM,uO,by rw[e,List.filter_append];simp[hf]]
 rintro ys M ⟨rfl,rfl⟩;rw[af,List.take_length];show hq p hp
def eD {α:Type}{l:Fm α}{fW:α ->W}(eW:α ->W){keep:Mp ->Prop}{M1:Mp}{own:Nat}{fr:Fm Nat}{ρ:cA}{g:WG}{c:WT}{el:WE}{q:WK}(hz:l.length<=sizeLine)(ij: ∀M,Sm M1 M ->keep M) (hs: ∀a∈l, ∀ (M:Mp) (N:KO W ->Mp ->Prop),Sm M1 M ->N (some (eW a)) M ->g (fW a) (iA own fr ρ) M λρ2 M2=>c ρ2 M2 λb M3=>fV b (el ρ2 M3 λy M4=>N (some y) M4) (N none M3)) (hq: ∀p,M1 p=none ->q (wr p) (um M1 p (.lst (l.map eW)))):sD (l.map fW) keep own fr g c el ρ M1 q:=by exact wS (λ_=>true) eW hz ij (λa ha M N s h=>hs a ha M N s ⇑h) λp hp=> ?_;have e:l.filter (λ_=>true)=l:=List.filter_eq_self.mpr λ_ _=>rfl;rw[e];show hq p hp
end
end WL
namespace WQ
open PySem L2 WL WP
def cv (a b:Fm Int):Nat ->Nat ->Int
 | 0,_=>0
 | k+1,n=>cv a b k n+if k<=n then a.getD k 0*b.getD (n - k) 0 else 0
structure IsPart (p:Int)(one vC q r:List Int):Prop where
 qs:AI p q
 rs:AI p r
 len:r.length<vC.length
 ql:q.length<=one.length
 eq: ∀n,one.getD n 0 % p=(cv q vC q.length n+r.getD n 0) % p
def pC {α:Type}{l:Fm α}{x:α}(h:l.getLast? =some x):fL l (-1)=some x:=by
 have hl:0<l.length:=by
  cases l with
  | nil=>simp at h
  | cons a r=>simp
 unfold fL lg;rw[ar ∅,am ∅,Option.bind_some];rw[List.getLast?_eq_getElem?] at h;rw[show(-1+(l.length:Int)).toNat=l.length - 1 by lia];show h
end WQ
namespace L2
open PySem PySem.Spec PyProof.Rows
theorem lu: ∀ {ss:Fm Str} {us:Fm Fp},b0 (ss.map V.str) us -> ∃l:Fm (Str×Tok),us=strValues l /\ l.map (·.1)=ss
 | [],_,h=>by cases h;show#[[],rfl,rfl]
 | x ::r,_,h=>by
  cases h with
  | cons h1 h2=>let⟨t,rfl⟩:=h1;let⟨l,rfl,e⟩:=lu h2;show#[(x,t)::l,rfl,by rw[aC,e]]
section
variable {X:Cx}
def zW (K:KW):V ->Fm V ->Hp ->VK ->Prop:=λx vs H Q=>fE λ(e8:Str) (b:KQ) (ss:Fm Str)=>pD (x= .str e8) (vs= [.ref b]) (dw K H b (ss.map V.str)) (Builtin.Str.tooLong (ss.toArray.foldl (· + ·.length+e8.length) 0)=false) ((Builtin.Str.glued e8 ss).length<=sizeLine) (Q (.str (Builtin.Str.glued e8 ss)) H)
def rK:AH X "str.join" (zW X.K):=by
 intro aa s σ H x xs v us Q I rx rv h;let⟨e8,b,ss,rfl,rfl,hb,hl,hg,q⟩:=h;let⟨t,rfl⟩:=rx;let⟨u,rfl,ru⟩:=vals1 rv;cases ru;let⟨bq,r,p,hz⟩:=I.list hb;let⟨l,rfl,e⟩:=lu r;exact call_meets PySem.F.slot_str_join (typeIs_str _ _ _) PySem.F.entry_str_join (PySem.F.args_str_join_2 _ _) (meets_str_join_list e8 t b l (by rw[e];show hl)) #[p.isList,?_];match l,e with
 | [],e=>have e:ss= []:=e.symm;subst e;show#[hg, .str _,H,I.tok _,#[_,rfl],q]
 | [y],e=>have e:ss= [y.1]:=e.symm;subst e;show#[.str y.1,H,I,#[y.2,rfl],q]
 | y::z::l',e=>subst e;show#[hg, .str _,H,I.tok _,#[_,rfl],q]
def zY:R2:=λx y H Q=>bU λi j=>dN (x= .str i) (y= .str j) (i.length+j.length<=sizeLine) (Q (.str (i++j)) H)
theorem du:iB X (binaryOp .Add) zY:=qa
def zT:Fm V ->Hp ->VK ->Prop:=λxs H Q=> ∃i:Int,cJ (xs= [.int i]) (i.natAbs.log2<1920) (Q (.str (toString i)) H)
theorem gj:dn X (.type "str") zT:=nD
end
end L2
namespace WL
open PySem L2
section
variable {K:KW}
def AY (r:WM)(a:WE)(b:WA):WE:=λρ M q=>a ρ M λx M1=> ∃y,x=ws y /\ b ρ M1 λxs M2=>r x xs M2 q
instance {r:V ->Fm V ->Hp ->VK ->Prop}{w:WM}{t:TE}{u:TA}{a:WE}{b:WA} [ir:IM K r w] [ia:IE K t a] [ib:IA K u b]:IE K (Jf K "str" r t u) (AY w a b) where
 imp :=λρ M σ H q Q o h k=>ia.imp ρ M σ H _ _ o h λx M1 v H1 ⟨y,e,h1⟩ t1 m1 r1=>by subst e;cases r1.eq;show#[rfl,ib.imp ρ M1 σ H1 _ _ (o.mv t1 m1) h1 λz M2 u H2 h2 t2 m2 r2=>ir.imp (ws y) (.str y) z u M2 H2 _ _ m2 WR.v r2 h2 λz M3 v3 H3 h3 t3 m3 r3=>k z M3 v3 H3 h3 ((t1.trans t2).trans t3) m3 r3]
theorem bS.strs {H:Hp}: ∀ {ss:Fm Str} {vs:Fm V},bS K H (ss.map ws) vs ->vs=ss.map V.str
 | [],vs,h=>by simpa only[List.map_nil,bS] using h
 | n::r,vs,h=>by simp![aC,bS] at h;let⟨v,t,rfl,h1,h2⟩:=h;rw[bS.strs h2,h1.eq];rfl
def zv:WM:=λx ys M q=>fE λ(e8:Str) (b:KQ) (ss:Fm Str)=>pD (x=ws e8) (ys= [wr b]) (M b=some (.lst (ss.map ws))) (Builtin.Str.tooLong (ss.toArray.foldl (· + ·.length+e8.length) 0)=false) ((Builtin.Str.glued e8 ss).length<=sizeLine) (q (ws (Builtin.Str.glued e8 ss)) M)
instance:IM K (zW K) zv where
 imp:=by rintro x v ys us M H q Q m r1 r2 ⟨e8,b,ss,rfl,rfl,hb,hl,hg,h⟩ k;cases r1.eq;let⟨u,rfl,r⟩:=r2.one;cases r.eq;let⟨vs,hv,rr⟩:=m b _ hb;cases rr.strs;show#[e8,b,ss,rfl,rfl,dw.of hv,hl,hg,k _ M _ H h (aQ.refl H) m WR.v]
def zA:mC:=λx y M q=>bU λi j=>dN (x=ws i) (y=ws j) (i.length+j.length<=sizeLine) (q (ws (i++j)) M)
instance:IR K zY zA where
 imp:=by rintro x y v u M H q Q m r1 r2 ⟨i,j,rfl,rfl,hz,h⟩ k;cases r1.eq;cases r2.eq;show#[i,j,rfl,rfl,hz,k _ M _ H h (aQ.refl H) m WR.v]
def G0 {i j:Str}{M:Mp}{q:WK}:zA (.v (.str i)) (.v (.str j)) M q=dZ (i.length+j.length<=sizeLine) (q (ws (i++j)) M):=by apply propext;symm;rintro⟨_,_,h1,h2,h3,k⟩;cases h1;cases h2;show#[h3,k];rintro⟨h3,k⟩;show#[_,_,rfl,rfl,h3,k]
def uH:pK:=λxs M q=> ∃i:Int,cJ (xs= [wi i]) (i.natAbs.log2<1920) (q (ws (toString i)) M)
instance:IC K zT uH where
 imp:=by rintro xs v M H q Q m r1 ⟨i,rfl,hz,h⟩ k;let⟨v,rfl,r⟩:=r1.one;cases r.eq;show#[i,rfl,hz,k _ M _ H h (aQ.refl H) m WR.v]
def GL {i:Int}{M:Mp}{q:WK}:uH [.v (.int i)] M q=dZ (i.natAbs.log2<1920) (q (ws (toString i)) M):=by apply propext;symm;rintro⟨_,h1,h3,k⟩;cases h1;show#[h3,k];rintro⟨h3,k⟩;show#[_,rfl,h3,k]
def u_ (x:W)(k:Str ->Prop):Prop:= ∃y,x=ws y /\ k y
def Jg {y:Str}{k:Str ->Prop}:u_ (.v (.str y)) k=k y:=by apply propext;symm;rintro⟨_,h,k⟩;cases h;show k;intro h;show#[_,rfl,h]
def IL {r:WM}{a:WE}{b:WA}{ρ:cA}{M:Mp}{q:WK}:AY r a b ρ M q=a ρ M λx M1=>u_ x λy=>b ρ M1 λxs M2=>r (ws y) xs M2 q:=by unfold AY u_;congr 1;funext x M1;apply propext;symm;rintro⟨y,rfl,h⟩;show#[y,rfl,h];rintro⟨y,rfl,h⟩;show#[y,rfl,h]
end
end WL
namespace WQ
open PySem L2 WL WP
def xW {a b:Str}(h:a.cps.toList=b.cps.toList):a=b:=by cases a;cases b;congr 1;show Array.toList_inj.mp h
def iy (a b:Str):(a++b).cps.toList=a.cps.toList++b.cps.toList:=by change(a.cps++b.cps).toList=_;simp
def str_len (a:Str):a.length=a.cps.toList.length:=by change a.cps.size=_;simp
def cS (a b:Str):(a++b).length=a.length+b.length:=by rw[str_len,iy,aN, <- str_len, <- str_len]
def d9 (e8:Str): ∀ (x:Str) (ss:Fm Str),(Builtin.Str.glued e8 (x::ss)).cps.toList=x.cps.toList++(ss.map λy=>e8.cps.toList++y.cps.toList).flatten:=by
 intro x ss;unfold Builtin.Str.glued;change(ss.foldl (λdU p=>dU++e8.cps++p.cps) x.cps).toList=_;generalize x.cps=a;induction ss generalizing a with
 | nil=>simp
 | cons y ss ih=>rw[List.foldl_cons,ih,aC,List.flatten_cons];simp
theorem lY (e8:Str):Builtin.Str.glued e8 []=Str.empty:=rfl
theorem ik (e8:Str){c:Nat}: ∀ (ss:Fm Str),(∀x∈ss,x.length<=c) ->(Builtin.Str.glued e8 ss).length<=ss.length*(c+e8.length)
 | [],_=>by rw[lY];show Nat.zero_le _
 | x :: ss,h=>by
  rw[str_len,d9,aN, <- str_len];have h1:=h x (by simp);have h2:((ss.map λy=>e8.cps.toList++y.cps.toList).flatten).length<=ss.length*(c+e8.length):=by
   have: ∀l:Fm Str,(∀y∈l,y.length<=c) ->((l.map λy=>e8.cps.toList++y.cps.toList).flatten).length<=l.length*(c+e8.length):=by
    intro l hl;induction l with
    | nil=>simp
    | cons y l ih=>rw[aC,List.flatten_cons,aN,aN, <- str_len, <- str_len,bj,Nat.succ_mul];have:=hl y (by simp);have:=ih λz hz=>hl z (by simp[hz]);lia
   show this ss λy hy=>h y (by simp[hy])
  rw[bj,Nat.succ_mul];lia
def Ed (e8:Str){c:Nat}(ss:Fm Str)(h: ∀x∈ss,x.length<=c)(hz:ss.length*(c+e8.length) <=sizeLine):Builtin.Str.tooLong (ss.toArray.foldl (· + ·.length+e8.length) 0)=false:=by
 have: ∀ (l:Fm Str) (n:Nat),(∀y∈l,y.length<=c) ->l.foldl (λ(a:Nat) (y:Str)=>a+y.length+e8.length) n<=n+l.length*(c+e8.length):=by
  intro l;induction l with
  | nil=>intro n _;simp
  | cons y l ih=>intro n hl;rw[List.foldl_cons,bj,Nat.succ_mul];have h1:=hl y (by simp);have h2:=ih (n+y.length+e8.length) λz hz=>hl z (by simp[hz]);lia
 have h1:=this ss 0 h;unfold Builtin.Str.tooLong;rw[decide_eq_false_iff_not,List.foldl_toArray];lia
theorem vZ {M:Mp}{q:WK}{e8:Str}{b:KQ}{ss:Fm Str}{c:Nat}(hb:M b=some (.lst (ss.map ws)))(h: ∀x∈ss,x.length<=c)(hz:ss.length*(c+e8.length) <=sizeLine)(k:q (ws (Builtin.Str.glued e8 ss)) M):zv (ws e8) [wr b] M q:=#[e8,b,ss,rfl,rfl,hb,Ed e8 ss h hz,aD (ik e8 ss h) hz,k]
def u9 (s:String):(Str.ofString s).length=s.toList.length:=by rw[Str.ofString_eq_toList];change((s.toList.map Char.toNat).toArray).size=_;simp
def bO (z:Int×Int):Str:=(toString z.1:Str)++ "=" ++toString z.2
def be (a:Rd):Str:=(toString a.1:Str)++ ":" ++Builtin.Str.glued (Str.ofString "") (a.2.map λz=> " " ++bO z)
def dO (a:Rd):be a=Builtin.Str.glued " " (((toString a.1:Str)++ ":")::a.2.map bO):=by
 exact xW ?_;rw[d9,be,iy];congr 1;cases a.2 with
 | nil=>rfl
 | cons z l=>
  rw[aC,d9,aC,aC,List.flatten_cons,iy,bh,bh];congr 2;apply List.map_congr_left;intro y _;change(Str.ofString "").cps.toList++(Str.ofString " " ++bO y).cps.toList=(Str.ofString " ").cps.toList++(bO y).cps.toList;rw[iy];have:(Str.ofString "").cps.toList= []:=by decide+kernel
  rw[this];rfl
theorem a7 {n:Nat}(h:n<=5000):n<=sizeLine:=aD h (by rw[sizeLine_eq];decide)
def cs (n r:Int)(l:Pt):Int:=((l.filter λz=>decide (z.1 % n=r)).map (·.2)).sum
end WQ
namespace WL
open PySem L2
def mf {X:Cx}{K:KW}(hK:X.K=K):dn X (.builtin "len") (Bm K):=by subst hK;show db
end WL
namespace WQ
open PySem L2 WL WP
abbrev Cf:=Nat ->Int
def HP:Nat ->Cf ->Cf ->Int
 | 0,f,g=>f 0*g 0
 | n+1,f,g=>f 0*g (n+1)+HP n (λi=>f (i+1)) g
def co (l:Fm Int):Cf:=λi=>l.getD i 0
def Mult (p:Int)(a g:Cf):Prop:=bU λ(E:Cf) (N:Nat)=>(∀i,N<=i ->E i % p=0) /\ ∀n,a n % p=HP n E g % p
def mD (p:Int)(a g h:Cf):Prop:=fE λ(A B:Cf) (N:Nat)=>(∀i,N<=i ->A i % p=0 /\ B i % p=0) /\ ∀n,a n % p=(HP n A g+HP n B h) % p
def FV (p:Int)(a:Rd)(v:Int):Prop:=bU λlo hi=>cJ (Gn (zN a) lo) (Go (zN a) hi) (v=QW p a lo hi)
open Classical in
noncomputable def fv (p:Int) (a:Rd):Int:=if h: ∃v,FV p a v then h.choose else 0
def names:Fm Str:= ["on","back","up","down"]
def Ep (p:Int)(s:Str):Rd:=if s= "on" then(1,[]) else if s= "back" then(-1,[]) else if s= "up" then(0,[(0,1)]) else(0,[(0,p - 1)])
noncomputable def jz (p:Int) (a:Rd) (s:Str):Bool:=decide (fv p (jn p a (Ep p s)) >fv p a)
def pairsOf (p:Int)(z:Int×Int):Pt:=if z.2<=p - z.2 then List.replicate z.2.toNat (z.1,1) else List.replicate (p - z.2).toNat (z.1, -1)
def HX:Int ->Pt ->Int
 | _,[]=>0
 | here,z::r=>Gf (here - z.1)+HX z.1 r
def F' (n:Int):Pt ->Int ->Int
 | [],_=>0
 | z::r,k=>(if z.1 % n=k then z.2 else 0)+F' n r k
theorem o0 {α:Type} [DecidableEq α]{f:α ->Dt}(hf: ∀x y,iY (f x) (f y)=decide (x=y)): ∀a b:Fm α,gP (a.map f) (b.map f)=decide (a=b)
 | [],[]=>by simp[gP]
 | [],y::b=>by simp[gP]
 | x::a,[]=>by simp[gP]
 | x::a,y::b=>by rw[aC,aC,gP,hf,o0 hf a b];by_cases h:x=y<;>by_cases h2:a=b<;>simp[h,h2]
def ze (a b:Pt):iY (mZ a) (mZ b)=decide (a=b):=by unfold mZ;rw[iY];exact o0 (λx y=> ?_) a b;simp![iY,gP,Bool.and_true];let⟨x1,x2⟩:=x;let⟨y1,y2⟩:=y;dsimp only;by_cases h:x1=y1<;>by_cases h2:x2=y2<;>simp[h,h2]
def fl (p:Int)(m:Nat)(f:Pt):Fm Int:=(List.range m).map λ(k:Nat)=>F' m f k % p
end WQ
namespace L2
open PySem PySem.Spec PyProof.Rows
section
variable {X:Cx}{k:Nat}{f:KQ}{fd:FuncData}{ps:Fm Str}{sp:Sp}{E:XK}{x:Str}{p pos:Pos}{e:Expr}{es:Fm Expr}{t:TA}{st:Stmt}
theorem iP (hP:gT (gq X.prog X.w) X E)(C:i_ X.K X.mg x ps st f fd)(F:c_ X.prog X.w X.K X.mg X.base (gq X.prog X.w) k f fd ps sp)(hr:dD k X.A)(hg:Gl X x) (ha:PA X (e::es) t) (li:(x==("__debug__" :Str))=false:=by decide) (he:starEach (e::es) X.env=(false,eval e X.env)::starEach es X.env:=by rfl) (lT:(backTo pos (starEach es X.env)).any (·.1)=false:=by rfl): PE X (.Call (.Name x p) (e::es) [] pos) (lz sp [] E t):=rE F hr hg C.at_ C.fn.kp C.bd .nil hP ha li he lT
end
end L2
namespace WQ
open PySem L2 WL WP
def Lj (s x:Int):Int:=if s=0 then x else x % s
def hI (s x:Int):Int:=if s=0 then 0 else x / s
def BP:Fm Int ->Int
 | []=>0
 | a::r=>r.foldl (λm x=>if x<m then x else m) a
def Ml (l:Pt):Fm Int:=l.map (·.1)
end WQ
set_option maxHeartbeats 4000000
namespace WQ
open PySem L2 WL WP
abbrev Ls:=Int×Int×Int
def putL (s:Int)(N7:Fm Pt)(tl:Fm Ls):Pt:=tl.flatMap λt=>(N7.getD t.1.toNat []).map λz=>(z.1+t.2.1*s,z.2*t.2.2)
end WQ
namespace L2
open PySem
def xt:Nat ->(Fm Fp ->Prop) ->Prop
 | 0,p=>p []
 | n+1,p=> ∀v,xt n λus=>p (v::us)
theorem xt.to: ∀ {n:Nat} {p:Fm Fp ->Prop},xt n p -> ∀us,us.length=n ->p us
 | 0,_,h,[],_=>h
 | _+1,_,h,v::us,e=>xt.to (h v) us (Nat.succ.inj e)
section
variable {K:KW}{h:K0}{mg:Str ->KO Fp}{x:Str}{ps:Fm Str}{st:Stmt}{f C:KQ}{oc:Fp}{od an:KO KQ}{uw:KU (KO Fp)}{kV gU pm cdv ct:Fp}
theorem cW (X:K.In h)(G:h.Ns mainGlobals mg)(a:W.nsIn K mainGlobals x=some (some (.ref f))) (l:K.lookup f=some #[oc,od, .func (W.fnOf x x (eQ st) (dg st) (aL st) .none kV gU pm an cdv ct),uw]) (c:W.codeIn K cdv x=true) (k:W.keepIn K (.ref f)=true) (b: ∀ (kV gU pm:Fp) (an:KO KQ) (cdv ct:Fp),xt ps.length λus=>bindArgs (W.fnOf x x (eQ st) (dg st) (aL st) .none kV gU pm an cdv ct) #[us,[]]=pure (ps.zip us):=by(repeat intro _);rfl): i_ K mg x ps st f (W.fnOf x x (eQ st) (dg st) (aL st) .none kV gU pm an cdv ct):=#[W.mg_of X G a,wy l c k,(wy (st:=st) l c k).binds λkV gU pm an cdv ct us e=>(b kV gU pm an cdv ct).to us e]
theorem Dv {cd:ClassData}(a:W.nsIn K mainGlobals x=some (some (.ref C)))(e:W.excIn K C Ga "ValueError.__new__" =true)(k1:W.clsIn K C=some cd)(k2:W.findIn K (.ref C) "__getattribute__" =some (some (.builtin "BaseException.__getattribute__")))(k3:W.findIn K (.ref C) "__getattr__" =some none)(k4:W.findIn K (.ref C) "__class__" =some (some (.builtin "object.__class__")))(k5:W.mroIn K C (.type "object")=some true)(k6:W.mroIn K C (.type "BaseException")=some true):qJ K x C:=#[a,e,(by rw[k1];rfl),k2,k3,k4,k5,k6]
def BQ {l:W.OpenLaw}{w:KZ}{fa:KQ}{fd:FuncData}{p:Str}{kd:Nat}(T:i_ K mg "law" [p] st f fd)(FN:mg "law" =some (.ref fa))(hb: ∀ (kV gU pm:Fp) (an:KO KQ) (cdv ct v:Fp),bindArgs (W.fnOf "law" "law" (eQ st) (dg st) (aL st) .none kV gU pm an cdv ct) #[[v],[]]=pure [(p,v)]) (ok: ∀base,c_ l.prog w K mg base gx kd f fd [p] (WQ.n5 K)): ∃fd:FuncData,(∀ (s:JZ) (v:Fp),BindsTo s fd #[[v],[]] [(p,v)]) /\ ∀base:K0,K.In base ->base.Ns mainGlobals mg ->c_ l.prog w K mg base gx kd fa fd [p] (WQ.n5 K):=by have e:=FN.symm.trans T.at_;cases e;let⟨oc,od,kV,gU,pm,an,cdv,ct,uw,rfl,lk,si⟩:=T.fn.ex;show#[_,λs v=> .of_eq (hb kV gU pm an cdv ct v),λbase _ _=>ok base]
end
end L2
namespace WQ
open PySem L2 WL WP
def lc:Fm Int ->Fm (Int ->Int) ->Int ->Int
 | v::vs,g::gs,x=>v*g x+lc vs gs x
 | _,_,_=>0
def Nw (s:Int)(b:Pt):Int ->Nat ->Fm (Int ->Int)
 | _,0=> []
 | lo,n+1=>(λx=>look b (x - s*lo))::Nw s b (lo+1) n
def cps (s:Int)(G:Fm (Pt×Int×Nat)):Fm (Int ->Int):=G.flatMap λg=>Nw s g.1 g.2.1 g.2.2
def As (q js:Pt):Pt:=js.flatMap λj=>tm j.2 (mv j.1 q)
def Ra (s c:Int):Int:=if s=0 then 0 else c
section
variable {s Z K w KP c c2 dr:Int}{a c1:Pt}{P P1:Pq}{L:Fm Rb}{t:Rb}
def eP (s K w KP c:Int):Int:=KP+Ra s c*(w+2*K*s+2*K)
variable {p:Int}{js:Pt}{ms:Fm Int}
end
def fW (s:Int)(a:Pt):W:=if Ml a= [] then wn else wi (BP ((Ml a).map (Lj s)))
def wR (l:Fm W)(k:Nat):qB l (some ((k:Nat):Int)) none=l.drop k:=by unfold qB;rw[HT.vi,HT.yb];obtain h | h:=Nat.le_total k l.length;rw[Nat.min_eq_left h,List.take_of_length_le (by rw[cx];show ag _)];rw[Nat.min_eq_right h,List.drop_length,List.take_nil,List.drop_of_length_le h]
def Mx (k:Int):Fm Int ->Pt
 | []=> []
 | v::r=>(k,v)::Mx (k+1) r
def lp (l:Fm Int):Pt:=Mx 0 l
end WQ
namespace L2
open PySem PyProof.Rows PyProof.V PySem.Calls PySem.Spec
def zb {K:KW}{M:Model}{h:K0}{C D e:KQ}{b:Bool}{oe:Obj}(X:K.In h)(kD:qI K D)(kw:C≠D)(he:h.get? e=some oe)(hc:oe.cls= .ref C)(hk:W.kitOne K (.ref C) (.ref D)=some b): W.Looks M h (excMatches (.ref e) (.ref D)) b:=by
 exact W.exm_one (cls:= .ref C) X (iW he hc) ?_;have e1:(W.subIn K (.ref D) (.type "BaseException")==some true)=true:=by change(W.mroIn K D (.type "BaseException")==some true)=true;rw[kD.mb];rfl
 unfold W.exmOne;rw[am e1];unfold W.kitOne at hk;rwa [ar (λz=>kw (Value.ref.inj (beq_iff_eq.mp z)))] at hk
end L2
namespace WL
open PySem L2
section
variable {K:KW}
def AD (p:i7)(xs:Fm W)(M:Mp)(q:WK)(e:WX):Prop:=p xs M q e
theorem DU {p:i7}{e:WX}{a:WA}{ρ:cA}{M:Mp}{q:WK}:uM p e a ρ M q=a ρ M λxs M1=>AD p xs M1 q (up e):=rfl
theorem DF {C:KQ}{e:WX}{a:WA}{D:dk}{ρ:cA}{M:Mp}:mH C e a D ρ M=a ρ M λxs M'=>dZ (xs.length<=sizeLine) (up e C M'):=rfl
theorem eZ.of {H H1 H2:Hp}{D':dk}{D:gc}(e:eZ K H D' D)(t1:aQ H H1)(t2:aQ H1 H2):eZ K H2 D' D:=(e.mv t1).mv t2
end
end WL
namespace L2
open PySem PySem.Spec PyProof.Rows
section
variable {X:Cx}{tg:Expr}
def EB:V ->KO Int ->KO Int ->Hp ->VK ->Prop:=λx lo hi H Q=> ∃z:Str,cJ (x= .str z) (z.length<=sizeLine) (Q (.str (Txt.slice z lo hi)) H)
def da:Lr X EB:=by
 intro aa s σ H x v vl vu lo hi sl Q I rx hs pl pu h;let⟨z,rfl,hz,q⟩:=h;let⟨t,rfl⟩:=rx;exact#["str",_,F.slot_str_getitem.lookup,typeIs_str _ _ _,?_];have fin: ∀t' k,EP X aa σ Q (.str (Txt.slice z lo hi) t') {s with toks:=k}:=λt' k=>#[.str (Txt.slice z lo hi),H,I.tok _,#[_,rfl],q]
 cases pl with
 | none=>
  cases pu with
  | none=>show wpAny_getItem_str_slice (l:=none) (u:=none) (st:=none) hs rfl (post_val_or_str #[aD (Txt.slice_le z _ _) hz,fin])
  | int j tj=>show wpAny_getItem_str_slice (l:=none) (u:=some (j,tj)) (st:=none) hs rfl (post_val_or_str #[aD (Txt.slice_le z _ _) hz,fin])
 | int i ti=>
  cases pu with
  | none=>show wpAny_getItem_str_slice (l:=some (i,ti)) (u:=none) (st:=none) hs rfl (post_val_or_str #[aD (Txt.slice_le z _ _) hz,fin])
  | int j tj=>show wpAny_getItem_str_slice (l:=some (i,ti)) (u:=some (j,tj)) (st:=none) hs rfl (post_val_or_str #[aD (Txt.slice_le z _ _) hz,fin])
def uU (z:Str)(n:Nat):Str:=if n=0 then Str.empty else if n=1 \/ z.length=0 then z else⟨(List.replicate n z.cps).foldl (· ++ ·) #[]⟩
def Lw (z:Str):It:=#[λi _=>i<z.cps.size,λi H x H'=>H'=H /\ ∃c,z.cps[i]? =some c /\ x= .str ⟨#[c]⟩,λi _=>z.cps.size<=i]
def uR {P:KY}{w:KZ}{K:KW}{tg:Expr}(z:Str)(t:Tok)(it:KQ):pE P w K tg (Lw z) [it] it (λi h=>h.IsStrIter it "str_ascii_iterator" z t i) where
 mem:=by simp
 obj:=λi h st b hb=>by have e:b=it:= ⇑hb;subst e;let⟨o,e,c,d⟩:=st;show#[o,e,λv z=>by rw[d] at z;cases z]
 keep:=λi h h' ⟨o,ho,r⟩ k=>#[o,k it (by simp) o ho,r]
 item:=by intro X hP hw hK hc i aa s σ H E I hf st hg;subst hP hw hK;let⟨f0,f1,f2,f3,f4,f5⟩:=hf it (by simp);have hg:i<z.cps.size:=hg;exact wpAny_pyNext_ascii_item st (c:=z.cps[i]) (by simp[hg]) λh' a_ sb=> ?_;have I1:Inv X aa σ H {s with heap:=h',toks:=s.toks+1}:=I.turned (t':=s.toks+1) (λb o hb e=>(sb.2 b hb).trans e) f0 f1 f3 f4 f5;let⟨o,e,c,d⟩:=id a_;show#[_,rfl,sk (s:= {s with heap:=h',toks:=s.toks+1}) e c d ⋯ #[.str ⟨#[z.cps[i]]⟩,H,I1,#[_,rfl],#[rfl,_,by simp[hg],rfl],a_,λb hb=>(hf b hb).1]]
 done:=by intro X hP hw hK hc i aa s σ H E I hf st hg;subst hP hw hK;let⟨f0,f1,f2,f3,f4,f5⟩:=hf it (by simp);have hg:z.cps.size<=i:=hg;show wpAny_pyNext_ascii_end (I.ok.hd hc) st (by simp[hg]) λh' eb=>#[rfl,I.turned (t':=s.toks) (λb o hb e=>eb b o hb e) f0 f1 f3 f4 f5]
 self:=λ_ _ _ _ _ st h=>wpAny_pyIter_striter_ascii st h
def Ft (tl:TE):TI:=λσ H R=>tl σ H λx H1=> ∃z:Str,cJ (x= .str z) (z.cps.all (· <128)=true) (R (Lw z) H1)
def vv {l:Expr}{tl:TE}(hl:PE X l tl):PI X tg l (Ft tl):=by intro aa s σ H R I h;exact cR (hl aa s σ H _ I h) λv s1 ⟨x,H1,I1,r1,q1⟩=> ?_;let⟨z,e,ha,q⟩:=q1;subst e;let⟨t,rfl⟩:=r1;exact wpAny_pyIter_ascii ha ?_;exact#[s1.heap.objs.size,[s1.heap.objs.size],_,_,H1,rfl,I1.kept (t':=s1.toks) λb o e=>aw _ e,uR z t _,#[_,aT _ rfl,rfl,rfl],λb hb=> ?_,q];have e:b=s1.heap.objs.size:= ⇑hb;subst e;show I1.wz (ag _) (I1.cI.fresh (ag _))
def zV:Fm V ->Hp ->VK ->Prop:=λxs H Q=> ∃z,cJ (xs= [.str z]) (z.length<=sizeLine) (Q (.int z.length) H)
theorem i5:dn X (.builtin "len") zV:=nG
def lL (i j:Str):Bool:= !(Builtin.Str.occurrences j i 0 j.length 1).isEmpty
def EH:R2:=λx y H Q=>bU λi j=>cJ (x= .str i) (y= .str j) (Q (.bl (lL i j)) H)
def rj:R2:=λx y H Q=>bU λi j=>cJ (x= .str i) (y= .str j) (Q (.bl (!lL i j)) H)
theorem BC:iB X (compareOp .In) EH:=tf
theorem s_:iB X (compareOp .NotIn) rj:=m7
end
end L2
namespace WL
open PySem L2
section
variable {K:KW}
def DL:mC:=λx y M q=>fE λz i c=>dW (x=ws z) (y=wi i) (z.length<=sizeLine) (fL z.cps.toList i=some c) (q (ws ⟨#[c]⟩) M)
instance:IR K EF DL where
 imp:=by rintro x y v u M H q Q m r1 r2 ⟨z,i,c,rfl,rfl,hz,e,h⟩ k;cases r1.eq;cases r2.eq;show#[z,i,c,rfl,rfl,hz,e,k _ M _ H h (aQ.refl H) m WR.v]
def IB {z:Str}{i:Int}{M:Mp}{q:WK}:DL (.v (.str z)) (.v (.int i)) M q=dZ (z.length<=sizeLine) (m6 (fL z.cps.toList i) λc=>q (ws ⟨#[c]⟩) M):=by apply propext;symm;rintro⟨_,_,c,h1,h2,h3,h4,k⟩;cases h1;cases h2;show#[h3,c,h4,k];rintro⟨h3,c,h4,k⟩;show#[_,_,c,rfl,rfl,h3,h4,k]
def DD:Dp:=λx lo hi M q=> ∃z:Str,cJ (x=ws z) (z.length<=sizeLine) (q (ws (Txt.slice z lo hi)) M)
instance:Lx K EB DD where
 imp:=by rintro x v lo hi M H q Q m r1 ⟨z,rfl,hz,h⟩ k;cases r1.eq;show#[z,rfl,hz,k _ M _ H h (aQ.refl H) m WR.v]
def Ip {z:Str}{lo hi:KO Int}{M:Mp}{q:WK}:DD (.v (.str z)) lo hi M q=dZ (z.length<=sizeLine) (q (ws (Txt.slice z lo hi)) M):=by apply propext;symm;rintro⟨_,h1,h3,k⟩;cases h1;show#[h3,k];rintro⟨h3,k⟩;show#[_,rfl,h3,k]
def DO:mC:=λx y M q=>bU λi j=>cJ (x=ws i) (y=ws j) (q (wb (lL i j)) M)
def mI:mC:=λx y M q=>bU λi j=>cJ (x=ws i) (y=ws j) (q (wb (!lL i j)) M)
instance:IR K EH DO where
 imp:=by rintro x y v u M H q Q m r1 r2 ⟨i,j,rfl,rfl,h⟩ k;cases r1.eq;cases r2.eq;show#[i,j,rfl,rfl,k _ M _ H h (aQ.refl H) m WR.v]
instance:IR K rj mI where
 imp:=by rintro x y v u M H q Q m r1 r2 ⟨i,j,rfl,rfl,h⟩ k;cases r1.eq;cases r2.eq;show#[i,j,rfl,rfl,k _ M _ H h (aQ.refl H) m WR.v]
def IH {i j:Str}{M:Mp}{q:WK}:DO (.v (.str i)) (.v (.str j)) M q=q (wb (lL i j)) M:=by apply propext;symm;rintro⟨_,_,h1,h2,k⟩;cases h1;cases h2;show k;intro k;show#[_,_,rfl,rfl,k]
def CY {i j:Str}{M:Mp}{q:WK}:mI (.v (.str i)) (.v (.str j)) M q=q (wb (!lL i j)) M:=by apply propext;symm;rintro⟨_,_,h1,h2,k⟩;cases h1;cases h2;show k;intro k;show#[_,_,rfl,rfl,k]
def zu:pK:=λxs M q=> ∃z,cJ (xs= [ws z]) (z.length<=sizeLine) (q (wi z.length) M)
instance:IC K zV zu where
 imp:=by rintro xs v M H q Q m r1 ⟨z,rfl,hz,h⟩ k;let⟨v,rfl,r⟩:=r1.one;cases r.eq;show#[z,rfl,hz,k _ M _ H h (aQ.refl H) m WR.v]
def GR {z:Str}{M:Mp}{q:WK}:zu [.v (.str z)] M q=dZ (z.length<=sizeLine) (q (wi z.length) M):=by apply propext;symm;rintro⟨_,h1,h3,k⟩;cases h1;show#[h3,k];rintro⟨h3,k⟩;show#[_,rfl,h3,k]
def lB (z:Str):Fm Str:=z.cps.toList.map λc=>⟨#[c]⟩
def yM (a:WE):WI:=λρ M q=>a ρ M λx M1=> ∃z:Str,cJ (x=ws z) (z.cps.all (· <128)=true) (q ((lB z).map ws) (λ_=>True) M1)
def wc {H1:Hp}{z:Str}:xh K H1 (Lw z) ((lB z).map ws) (λ_=>True):=by
 intro i M H ts m _;have hl:((lB z).map ws).length=z.cps.size:=by unfold lB;simp
 exact#[λh=>by change z.cps.size<=i;omega,λh=>by change i<z.cps.size;omega,λv H' hi y=> ?_];let⟨rfl,c,hc,rfl⟩:=y;exact#[aQ.refl _,m,ws ⟨#[c]⟩,?_,WR.v];unfold lB;rw[bh,aB,Array.getElem?_toList,hc];rfl
instance {t:TE}{a:WE} [ia:IE K t a]:II K (Ft t) (yM a) where
 imp:=λρ M σ H q R o h k=>ia.imp ρ M σ H _ _ o h λx M1 v H1 ⟨z,e,ha,h1⟩ t1 m1 r1=>by subst e;show#[z,r1.eq,ha,k _ _ _ M1 H1 h1 t1 m1 wc]
def JU {a:WE}{ρ:cA}{M:Mp}{q:Fm W ->(Mp ->Prop) ->Mp ->Prop}:yM a ρ M q=a ρ M λx M1=>u_ x λz=>dZ (z.cps.all (· <128)=true) (q ((lB z).map ws) (λ_=>True) M1):=by unfold yM u_ dZ;congr 1;funext x M1;show propext #[λ⟨i,a,b,c⟩=>#[i,a,b,c],λ⟨i,a,b,c⟩=>#[i,a,b,c]]
end
end WL
namespace L2
open PySem
theorem qD {K:KW}{h:K0}{mg:Str ->KO Fp}{x:Str}{C:KQ}(X:K.In h)(G:h.Ns mainGlobals mg)(a:W.nsIn K mainGlobals x=some (some (.ref C))):mg x=some (.ref C):=W.mg_of X G a
theorem AM {K:KW}{h:K0}{x:Str}{C:KQ}{cd:ClassData}(_:K.In h)(a:W.nsIn K mainGlobals x=some (some (.ref C)))(e:W.excIn K C Ga "ValueError.__new__" =true)(k1:W.clsIn K C=some cd)(k2:W.findIn K (.ref C) "__getattribute__" =some (some (.builtin "BaseException.__getattribute__")))(k3:W.findIn K (.ref C) "__getattr__" =some none)(k4:W.findIn K (.ref C) "__class__" =some (some (.builtin "object.__class__")))(k5:W.mroIn K C (.type "object")=some true)(k6:W.mroIn K C (.type "BaseException")=some true):qJ K x C:=Dv a e k1 k2 k3 k4 k5 k6
theorem A_ {K:KW}{h:K0}{mg:Str ->KO Fp}{x z:Str}{t:Tok}(X:K.In h)(G:h.Ns mainGlobals mg)(a:W.nsIn K mainGlobals x=some (some (.str z t))): ∃t,mg x=some (.str z t):=#[t,W.mg_of X G a]
end L2
namespace WQ
open PySem L2 WL WP
abbrev Rm:=Fm (Str×Rd)
abbrev Tm:=Fm (Str×Fm Str)
abbrev cg (n:Str):Prop:=n.cps.all (· <128)=true
structure Nm (n:Str):Prop where
 as:cg n
 len:n.length<=100
def dM {x:Str}:cg x↔ ∀c∈x.cps.toList,c<128:=by unfold cg;rw[<- Array.all_toList,List.all_eq_true];simp![decide_eq_true_eq]
def Nm.app {x y:Str}(hx:cg x)(hy:cg y):cg (x++y):=by rw[dM] at*;intro c hc;rw[iy] at hc;show(aR.mp hc).elim (hx c) (hy c)
def dS {x:Str}{lo hi:KO Int}(hx:cg x):cg (Txt.slice x lo hi):=by unfold Txt.slice;split;show hx;rw[dM] at*;intro c hc;rw[List.mem_filterMap] at hc;let⟨i,_,hi⟩:=hc;show hx c (Array.mem_toList_iff.mpr (Array.mem_of_getElem? hi))
def Ge {x:Str}{n:Nat}(hx:cg x):cg (uU x n):=by
 unfold uU;split;decide+kernel;split;show hx;rw [dM] at*;have: ∀ (n:Nat) (a:KU Nat),(∀c∈a.toList,c<128) -> ∀c∈((List.replicate n x.cps).foldl (· ++ ·) a).toList,c<128:=by
  intro n;induction n with
  | zero=>intro a ha c hc;show ha c hc
  | succ n ih=>intro a ha c hc;rw[List.replicate_succ,List.foldl_cons] at hc;exact ih (a++x.cps) (λc hc=> ?_) c hc;rw[bg] at hc;show(aR.mp hc).elim (ha c) (hx c)
 show this n #[] (by simp)
def w8 {ss:Fm Str}{e8:Str}(h0:cg e8)(h: ∀x∈ss,cg x):cg (Builtin.Str.glued e8 ss):=by
 cases ss with
 | nil=>rw[lY];decide+kernel
 | cons x ss=>rw[dM];intro c hc;rw[d9,aR] at hc;obtain hc | hc:=hc;show dM.mp (h x (by simp)) c hc;let⟨l,hl,hc⟩:=List.mem_flatten.mp hc;let⟨y,hy,rfl⟩:=bp.mp hl;obtain hc | hc:=aR.mp hc;show dM.mp h0 c hc;show dM.mp (h y (by simp[hy])) c hc
structure NH where
 R:Rm
 T:Tm
 past:List (Addr×Rm×Tm)
 NZ:List (Addr×Rm×Tm)
 Cj:List (Addr×Rm×Tm)
def keep (s:NH)(now:KQ):NH:= {s with past:=s.past++ [(now,s.R,s.T)],NZ:= []}
section
variable {i:Nat}{s k:Str}{l:Fm W}{a c7:WS}{D:dk}{ρ:cA}{M:Mp}
def Dm {q:WK}(hρ:ρ[i]? =some (some (.tup (ws k::l))))(h:q (wb (decide (k=s))) M):AS GS (AS AV (dq i) (wC (W.v (V.int 0)))) (wC (W.v (V.str s))) ρ M q:=by
 unfold AS dq wC;rw[hρ];exact#[_,0,_,rfl,rfl,Gc,_,_,rfl,rfl,rfl,?_];have e:decide (V.str k=V.str s)=decide (k=s):=by simp
 rw[e];show h
end
end WQ
namespace WL
open PySem L2
section
variable {M:Mp}{ρ:cA}{q:WK}{a b c:WE}{D:dk}{x y z:W}
def kb (b:WT)(q:Bool ->Mp ->Prop):cA ->Mp ->Prop:=λρ M=>b ρ M q
def kq (q:Bool ->Mp ->Prop)(c:Bool):cA ->Mp ->Prop:=λ_ M=>q c M
def jm (q:WK)(M:Mp)(o:MO):Prop:= ∀p,M p=none ->q (wr p) (um M p o)
end
end WL
namespace L2
open PySem PyProof.Rows PyProof.V PySem.Calls PySem.Spec
abbrev XH:=Hp ->XK
abbrev TR:=St ->Hp ->VK ->XH ->Prop
abbrev Dq:=gc ->(St ->XH) ->St ->Hp ->Prop
def XP (X:Cx)(aa:Fm (KQ×Obj))(σ:St)(E:XH)(ev:Fp)(s':JZ):Prop:=bU λH1 s1=>Inv X aa σ H1 s1 /\ gq X.prog X.w X.stack H1 s1 (E H1) ev s'
def PR (X:Cx)(e:Expr)(t:TR):Prop:=∀ (aa:Fm (KQ×Obj)) (s:JZ) (σ:St) (H:Hp) (Q:VK) (E:XH),Inv X aa σ H s ->t σ H Q E ->wpAny (model X.prog X.w) X.A (eval e X.env) (EP X aa σ Q) (XP X aa σ E) s
def NI (X:Cx)(st:Stmt)(t:Dq):Prop:=∀ (aa:Fm (KQ×Obj)) (s:JZ) (σ:St) (H:Hp) (D:gc) (E:St ->XH),Inv X aa σ H s ->t D E σ H ->wpAny (model X.prog X.w) X.A (exec st X.env) (SP X aa D) (λev s'=> ∃σ',XP X aa σ' (E σ') ev s') s
def Ma (sp:Sp)(t:TA):TR:=λσ H Q E=>t σ H λvs H1=>sp (vs++ []) H1 Q (E H1)
def L_ (t:TR):TR:=λσ H Q E=>t σ H (λx H1=> ∀p,H1 p=none ->Q (.ref p) (cU H1 p (.lst [x]))) E
def Mb (i:Nat)(t:TR):Dq:=λD E σ H=>t σ H (λx H1=>D.nx (σ.set i (some x)) H1) (E σ)
section
variable {X:Cx}{k:Nat}{f C:KQ}{fd:FuncData}{ps:Fm Str}{sp:Sp}{x m qual:Str}{p pos kP:Pos}{e o:Expr}{es:Fm Expr}{te:TE}{ta:TA}{t:TR}{st:Stmt}
theorem Bv {es:Fm Expr}{t:TA}(h:PA X.yy es t){E:Fp ->JZ ->Prop}{pos:Pos}{aa:Fm (KQ×Obj)}{s:JZ}{σ:St}{H:Hp}{Q:Fm V ->Hp ->Prop}(I:Inv X aa σ H s)(hw:t σ H Q):wpAny (model X.prog X.w) X.A (spliced (backTo pos (starEach es X.env))) (AP X aa σ Q) E s:=a6 (h pos aa s σ H Q (I.jF _) hw) (λ_ _ ⟨v,H',I',r,q⟩=>#[v,H',I'.fo,r,q]) λ_ _ z=>False.elim z
def yc {aa:Fm (KQ×Obj)}{σ:St}{H:Hp}{s:JZ}{Q:VK}{E:XH}{us:Fm Fp}{vs:Fm V}(F:c_ X.prog X.w X.K X.mg X.base (gq X.prog X.w) k f fd ps sp)(hr:dD k X.A)(hb:Binds X.K fd ps []) (I:Inv X aa σ H s) (r:b0 vs us) (h:sp (vs++ []) H Q (E H)):wpAny (model X.prog X.w) X.A (call (.ref f) us) (EP X aa σ Q) (XP X aa σ E) s:=by
 have r2:b0 (vs++ []) (us++ []):=r.append .nil;have hl:(us++ []).length=ps.length:=by rw[<- r2.length];show F.len _ _ _ _ h
 exact wpAny_call (codeAny_mono (F.run X.A X.stack s H #[us,[]] (us++ []) (vs++ []) Q _ hr I.F7 (hb s us I.kl hl) r2 h) λr s' hq=> ?_);cases r with
 | error e=>show#[H,s,I,hq]
 | ok fl=>
  cases fl with
  | ret u=>show I.after hq
  | next=>show False.elim hq
  | brk=>show False.elim hq
  | cont=>show False.elim hq
def rA (C:i_ X.K X.mg x ps st f fd)(F:c_ X.prog X.w X.K X.mg X.base (gq X.prog X.w) k f fd ps sp)(hr:dD k X.A)(hg:Gl X x)(ha:PA X.yy (e::es) ta) (li:(x==("__debug__" :Str))=false:=by decide) (he:starEach (e::es) X.env=(false,eval e X.env)::starEach es X.env:=by rfl) (lT:(backTo pos (starEach es X.env)).any (·.1)=false:=by rfl): PR X (.Call (.Name x p) (e::es) [] pos) (Ma sp ta):=by intro aa s σ H Q E I h;exact wpAny_Call_Name_kw (jx I hg C.at_ ?_ li);exact W.callWith_K (h₀:=X.base) I.ok.mod.Fe C.fn.kp (cR (Bv ha I h) λus s1 ⟨vs,H1,I1,r,q⟩=>#[I1.kl,?_]) he lT;show yc F hr C.bd I1 r q
def ym (h:PR X e t)(hs:starEach (e:: []) X.env=(false,eval e X.env)::starEach [] X.env:=by rfl):PR X (.List [e] pos) (L_ t):=by intro aa s σ H Q E I hq;exact wpAny_List_spliced ?_;rw[hs];change wpAny _ _ (spliced ((false,eval e X.env)::backTo pos (starEach [] X.env))) _ _ s;exact Calls.spliced_cons (cR (h aa s σ H _ E I hq) λu s1 ⟨x,H1,I1,r1,q⟩=> ?_);exact Calls.spliced_nil #[by change 1<=sizeLine;decide,?_];have hf:H1 s1.heap.objs.size=none:=I1.cI.fresh (ag _);exact#[.ref s1.heap.objs.size,cU H1 s1.heap.objs.size (.lst [x]),I1.laid (t':=s1.toks) (λb u e=>aw _ e) (ag _) ?_,rfl,q _ hf];show#[by change 1<=sizeLine;decide,[u],0, .cons r1 .nil,aT _ rfl]
def yl {i:Nat}{y:Str}{eI:Pos}(hN:X.N.Nodup)(hi:X.N[i]? =some y)(hy:X.env.kindOf y=some .local)(he:PR X e t)(hs:swapsWith e (some (.Name y eI)) pos.line X.env=pure false:=by rfl):NI X (.Assign [.Name y eI] e pos) (Mb i t):=by intro aa s σ H D E I h;exact wpAny_Assign_Name (a6 (he aa s σ H _ _ I h) (λv s1 ⟨y,H1,I1,r1,q1⟩=> ?_) λev s2 z=>#[σ,z]) hs;show gX I1 hN hi (.inl hy) r1 (λs2 I2=>#[_,H1,I2,q1]) (.inr hy)
end
def NE (i:Nat)(ts:TS):KQ ->TS:=λea D σ H=>ts (oO i D) (σ.set i (some (.ref ea))) H
def Q9 (ts:TS):KQ ->TS:=λ_=>ts
inductive zk (X:Cx):List ExceptHandler ->List (Addr× (Addr ->TS)) ->Prop
 | nil:zk X [] []
 | cons {x:Str} {np tV:Pos} {b₀:Stmt} {jK:List Stmt} {C:Addr} {ts:TS} {c7:List ExceptHandler} {al:List (Addr× (Addr ->TS))} (hg:Gl X x) (O:qJ X.K x C) (Fx: ∀ea,mE (X.fF (.ref ea)) (b₀::jK) ts) (r:zk X c7 al) (li:(x==("__debug__" :Str))=false:=by decide): zk X (.ExceptHandler (some (.Name x np)) none (b₀::jK) tV::c7) ((C,Q9 ts)::al)
 | name {x n:Str} {i:Nat} {np tV:Pos} {b₀:Stmt} {jK:List Stmt} {C:Addr} {ts:TS} {c7:List ExceptHandler} {al:List (Addr× (Addr ->TS))} (hg:Gl X x) (O:qJ X.K x C) (hN:X.N.Nodup) (hi:X.N[i]? =some n) (hk:X.env.kindOf n=some .local) (Fx: ∀ea,mE (X.fF (.ref ea)) (b₀::jK) ts) (r:zk X c7 al) (li:(x==("__debug__" :Str))=false:=by decide): zk X (.ExceptHandler (some (.Name x np)) (some n) (b₀::jK) tV::c7) ((C,NE i ts)::al)
def qV (K:KW):Fm (KQ× (KQ ->TS)) ->KQ ->KQ ->TS
 | [],_,_=>λ_ _ _=>False
 | (D,ts)::r,C,ea=>λE σ H=> ∃b,cJ (W.kitOne K (.ref C) (.ref D)=some b) (b=true ->ts ea E σ H) (b=false ->qV K r C ea E σ H)
section
variable {X:Cx}{aa:Fm (KQ×Obj)}{σ:St}{s':JZ}
def qE {E0:XK}{ev:Fp}{H1:Hp}{s1:JZ}{D:gc}{hs:Fm ExceptHandler}{al:Fm (KQ× (KQ ->TS))}(xD:X.stack=X.env::X.outer)(ww:X.env.frame=some X.env.locals) (I:Inv X aa σ H1 s1) (fl:gq X.prog X.w X.stack H1 s1 E0 ev s') (ph:zk X hs al) (k: ∀cls d H',E0 cls d H' -> ∃C,cls= .ref C /\ ∀ea,H' ea=none ->aQ H1 (cU H' ea (.ext (fH ea C))) ->qV X.K al C ea D σ (cU H' ea (.ext (fH ea C)))): wpAny (model X.prog X.w) X.A (noteFrame ev X.env) (λ_ s₂=>wpAny (model X.prog X.w) X.A (setFlight ev none) (λ_ s₃=>wpAny (model X.prog X.w) X.A (handleBy ev X.env hs) (SP X aa D) X.xe s₃) X.xe s₂) X.xe s':=by
 let⟨ea,cls,a0,B,H2,rfl,os,bare,fl,cI,oK,un,kb,kt,hE⟩:=fl;let⟨C,rfl,kk⟩:=k _ _ _ hE;exact wpAny_looks_onW (by rw[I.ok.frames,xD]) ww (xD▸fl) λh₄ FP I_=> ?_;exact wpAny_landsW FP λh₅ F4 I0=> ?_;rw[<- xD] at F4;let⟨I5,N2⟩:=gM I os bare fl cI oK un kb kt F4 (I_.trans I0) (tk:=s'.toks);let⟨ob,MV,FC⟩:=F4.there;have key:=kk ea oK N2;clear kk k;have matched: ∀ {A:K2} {b:Bool} {x:Str} {D':KQ} {Q:Bool ->JZ ->Prop} {E:Fp ->JZ ->Prop},qJ X.K x D' ->W.kitOne X.K (.ref C) (.ref D')=some b ->Q b {s' with heap:=h₅} ->wpAny (model X.prog X.w) A (excMatches (.ref ea) (.ref D')) Q E {s' with heap:=h₅}:=λ{A b x D' Q E} O hk hq=>by
  have O':=jv I.ok.mod O.ns O.exc;by_cases Nq:C=D';subst Nq;have hb:b=true:=by unfold W.kitOne at hk;rw[am (beq_self_eq_true _)] at hk;show(aW hk).symm
  let⟨bm,N,nm,qn,bs,hdct,sn,sub,ab,col,dd,k0,k1,k2,k3,k5,mN,hC,Ap,MX,TL⟩:=(O'.keeps I5.bk).obj;subst hb;show wpAny_excMatches_sub_self hC MV FC (TL.hasType (by decide+kernel)) hq;show(zb (M:=model X.prog X.w) I5.kl O.k Nq MV FC hk).here hq
 induction ph with
 | nil=>show key.elim
 | @cons x np tV b₀ jK D' ts c7 Q_ hg O Fx r li ih=>
  let⟨b,hk,ht,hf⟩:=key;have O':=jv I.ok.mod O.ns O.exc;exact wpAny_handleBy_cons (codeAny_handlers_test (rJ I5 hg O'.bound ?_ li)) (by intro q;cases q);exact matched O hk ?_;cases b with
  | false=>show ih (hf rfl)
  | true=>
   exact codeAny_handlers_suite ?_;exact PyProof.Rows.lands_againW F4 λh₆ La IZ=> ?_;let⟨I6,ts⟩:=gM I os bare fl cI oK un kb kt La ((I_.trans I0).trans IZ) (tk:=s'.toks);exact a6 (Fx ea aa _ σ _ D (I6.fF (.ref ea)) (ht rfl)) (λf s8 h8=> ?_) λ_ _ z=>z.elim;cases f with
   | next=>let⟨σ',H3,I8,q⟩:=h8;show#[_,_,I8.jY I.ok,q]
   | brk=>let⟨σ',H3,I8,q⟩:=h8;show#[_,_,I8.jY I.ok,q]
   | cont=>let⟨σ',H3,I8,q⟩:=h8;show#[_,_,I8.jY I.ok,q]
   | ret u=>let⟨v,σ',H3,I8,r,q⟩:=h8;show#[v,_,_,I8.jY I.ok,r,q]
 | @name x n i np tV b₀ jK D' ts c7 Q_ hg O hN hi lW Fx r li ih=>
  let⟨b,hk,ht,hf⟩:=key;have O':=jv I.ok.mod O.ns O.exc;exact wpAny_handleBy_cons (codeAny_handlers_test (rJ I5 hg O'.bound ?_ li)) (by intro q;cases q);exact matched O hk ?_;cases b with
  | false=>show ih (hf rfl)
  | true=>
   exact codeAny_handlers_suite_as ?_;exact PyProof.Rows.lands_againW F4 λh₆ La IZ=> ?_;let⟨I6,ts⟩:=gM I os bare fl cI oK un kb kt La ((I_.trans I0).trans IZ) (tk:=s'.toks);exact gX (X:=X.fF (.ref ea)) (I6.fF (.ref ea)) hN hi (.inl lW) (v:= .ref ea) (by rfl) (λs7 I7=> ?_) (.inr lW);exact a6 (Fx ea aa s7 _ _ _ I7 (ht rfl)) (λf s8 h8=> ?_) λ_ _ z=>z.elim;have fin: ∀ {σ':St} {H3:Hp} {Q:Unit ->JZ ->Prop},Inv (X.fF (.ref ea)) aa σ' H3 s8 ->(∀s9,Inv X aa (σ'.set i none) H3 s9 ->Q () s9) ->wpAny (model X.prog X.w) X.A (do bindName X.env n .none;unbindBehindTheSuite X.env n tV) Q X.xe s8:=λI8 hq=>yZ (I8.jY I.ok) hN hi lW hq;cases f with
   | next=>let⟨σ',H3,I8,q⟩:=h8;show fin I8 λs9 I9=>#[_,_,I9,q]
   | brk=>let⟨σ',H3,I8,q⟩:=h8;show fin I8 λs9 I9=>#[_,_,I9,q]
   | cont=>let⟨σ',H3,I8,q⟩:=h8;show fin I8 λs9 I9=>#[_,_,I9,q]
   | ret u=>let⟨v,σ',H3,I8,r,q⟩:=h8;show fin I8 λs9 I9=>#[v,_,_,I9,r,q]
def zF (K:KW)(tb:Dq)(al:Fm (KQ× (KQ ->TS))):TS:=λD σ H=>tb D (λσ' H1 cls _ H'=> ∃C,cls= .ref C /\ ∀ea,H' ea=none ->aQ H1 (cU H' ea (.ext (fH ea C))) ->qV K al C ea D σ' (cU H' ea (.ext (fH ea C)))) σ H
def yj {st:Stmt}{h₀:ExceptHandler}{hs:Fm ExceptHandler}{pos:Pos}{tb:Dq}{al:Fm (KQ× (KQ ->TS))}(xD:X.stack=X.env::X.outer)(ww:X.env.frame=some X.env.locals)(hb:NI X st tb)(ph:zk X (h₀::hs) al): PS X (.Try [st] (h₀::hs) [] [] pos) (zF X.K tb al):=by
 intro aa s σ H D I h;exact wpAny_Try_except (wpAny_execs_cons (a6 (hb aa s σ H D _ I h) (λf s1 q=> ?_) λev s1 ⟨σ',H1,s0,I1,fl⟩=>qE xD ww I1 fl ph λcls d H' z=>z));cases f with
 | next=>show wpAny_execs_nil (wpAny_execs_nil q)
 | brk=>show q
 | cont=>show q
 | ret u=>show q
end
end L2
namespace WL
open PySem L2
abbrev ui:=cA ->Mp ->WK ->WX ->Prop
abbrev Gg:=dk ->(cA ->WX) ->cA ->Mp ->Prop
class Gq (K:PySem.W.Frag) (t:TR) (w:outParam ui):Prop where
 imp: ∀ (ρ:cA) (M:Mp) (σ:L2.St) (H:Hp) (q:WK) (Q:VK) (e:WX) (E:XH),Ok K ρ M σ H ->w ρ M q e ->(∀x M' v H',q x M' ->aQ H H' ->dG K M' H' ->WR K H' x v ->Q v H') ->(∀C M' H1 H',e C M' ->aQ H H1 ->dG K M' H' ->E H1 (.ref C) none H') ->t σ H Q E
class NN (K:PySem.W.Frag) (t:Dq) (w:outParam Gg):Prop where
 imp: ∀ (ρ:cA) (M:Mp) (σ:L2.St) (H:Hp) (D':dk) (D:gc) (e:cA ->WX) (E:L2.St ->XH),Ok K ρ M σ H ->w D' e ρ M ->eZ K H D' D ->(∀C ρ' M' σ' H1 H',e ρ' C M' ->aQ H H1 ->sI K H1 ρ' σ' ->dG K M' H' ->E σ' H1 (.ref C) none H') ->t D E σ H
section
variable {K:KW}
def LN (p:i7)(a:WA):ui:=λρ M q e=>a ρ M λxs M1=>p xs M1 q e
instance {p:i7}{t:TA}{a:WA} [ia:IA K t a]:Gq K (Ma (Bc K p) t) (LN p a) where
 imp:=λρ M σ H q Q e E o h k kE=>ia.imp ρ M σ H _ _ o h λx M1 v H1 h1 t1 m1 r1=>#[x,M1,q,e,by rw[List.append_nil];show r1,m1,h1,λy M4 v4 H4 h4 t4 m4 r4=>k y M4 v4 H4 h4 (t1.trans t4) m4 r4,λC M' H' h m=>kE C M' H1 H' h t1 m]
def LM (a:ui):ui:=λρ M q e=>a ρ M (λx M1=> ∀p,M1 p=none ->q (wr p) (um M1 p (.lst [x]))) e
instance {t:TR}{a:ui} [ia:Gq K t a]:Gq K (L_ t) (LM a) where
 imp:=λρ M σ H q Q e E o h k kE=>ia.imp ρ M σ H _ _ e E o h (λx M1 v H1 h1 t1 m1 r1=>λp hp=>k _ _ _ _ (h1 p (m1.fresh hp)) (t1.trans (L2.d0.ts (bM hp))) (m1.jm hp (bS.cons r1 bS.nil)) WR.v) kE
def LO (i:Nat)(a:ui):Gg:=λD e ρ M=>a ρ M (λx M1=>D.nx (ρ.set i (some x)) M1) (e ρ)
instance {i:Nat}{t:TR}{a:ui} [ia:Gq K t a]:NN K (Mb i t) (LO i a) where
 imp:=λρ M σ H D' D e E o h jq kE=>ia.imp ρ M σ H _ _ (e ρ) (E σ) o h (λx M1 v H1 h1 t1 m1 r1=>jq.nx _ _ _ _ h1 t1 #[(o.env.ts t1).set i r1,m1]) λC M' H1 H' h t1 m=>kE C ρ M' σ H1 H' h t1 (o.env.ts t1) m
def DW (i:Nat)(s:WS):KQ ->WS:=λea D ρ M=>s (sj i D) (ρ.set i (some (wr ea))) M
class NO (K:PySem.W.Frag) (t:Addr ->TS) (w:outParam (Addr ->WS)):Prop where
 imp: ∀ (ea:Addr) (ρ:cA) (M:Mp) (σ:L2.St) (H:Hp) (D':dk) (D:gc),Ok K ρ M σ H ->w ea D' ρ M ->eZ K H D' D ->t ea D σ H
instance {i:Nat}{t:TS}{s:WS} [is:IS K t s]:NO K (NE i t) (DW i s) where
 imp:=λea ρ M σ H D' D o h jq=>is.imp _ M _ H (sj i D') (oO i D) #[o.env.set i WR.v,o.hp] h #[λρ' M5 σ' H5 h5 t5 o5=>jq.nx _ _ _ _ h5 t5 (o5.vf i),jq.rt,λρ' M5 σ' H5 h5 t5 o5=>jq.bk _ _ _ _ h5 t5 (o5.vf i),λρ' M5 σ' H5 h5 t5 o5=>jq.ct _ _ _ _ h5 t5 (o5.vf i)]
def lr (K:KW):Fm (KQ× (KQ ->WS)) ->KQ ->KQ ->WS
 | [],_,_=>λ_ _ _=>False
 | (D,s)::r,C,ea=>λE ρ M=> ∃b,cJ (W.kitOne K (.ref C) (.ref D)=some b) (b=true ->s ea E ρ M) (b=false ->lr K r C ea E ρ M)
class HV (K:PySem.W.Frag) (t:List (Addr× (Addr ->TS))) (w:outParam (List (Addr× (Addr ->WS)))):Prop where
 imp: ∀ (C ea:Addr) (ρ:cA) (M:Mp) (σ:L2.St) (H:Hp) (D':dk) (D:gc),Ok K ρ M σ H ->lr K w C ea D' ρ M ->eZ K H D' D ->qV K t C ea D σ H
instance:HV K [] [] where
 imp:=λ_ _ _ _ _ _ _ _ _ h _=>h.elim
instance {D:KQ}{t:KQ ->TS}{s:KQ ->WS}{r:Fm (KQ× (KQ ->TS))}{r':Fm (KQ× (KQ ->WS))} [is:NO K t s] [ir:HV K r r']:HV K ((D,t)::r) ((D,s)::r') where
 imp:=λC ea ρ M σ H D' D o ⟨b,hk,h1,h2⟩ e=>#[b,hk,λhb=>is.imp ea ρ M σ H D' D o (h1 hb) e,λhb=>ir.imp C ea ρ M σ H D' D o (h2 hb) e]
theorem CL {D C ea:KQ}{s:KQ ->WS}{r:Fm (KQ× (KQ ->WS))}{E:dk}{ρ:cA}{M:Mp}(hk:W.kitOne K (.ref C) (.ref D)=some true)(h:s ea E ρ M):lr K ((D,s)::r) C ea E ρ M:=#[true, .mk hk (λ_=>h) λz=>nomatch z]
theorem CM {C ea:KQ}{s:KQ ->WS}{r:Fm (KQ× (KQ ->WS))}{E:dk}{ρ:cA}{M:Mp}(h:s ea E ρ M):lr K ((C,s)::r) C ea E ρ M:=CL (by unfold W.kitOne;rw[am (beq_self_eq_true _)]) h
def zn (K:KW)(b:Gg)(al:Fm (KQ× (KQ ->WS))):WS:=λD ρ M=>b D (λρ' C M'=> ∀ea,M' ea=none ->lr K al C ea D ρ' (um M' ea (.exc C))) ρ M
instance {tb:Dq}{b:Gg}{al:Fm (KQ× (KQ ->TS))}{wl:Fm (KQ× (KQ ->WS))} [ib:NN K tb b] [il:HV K al wl]:IS K (zF K tb al) (zn K b wl) where
 imp:=λρ M σ H D' D o h jq=>ib.imp ρ M σ H D' D _ _ o h jq λC ρ' M' σ' H1 H' h t1 en m=>#[C,rfl,λea oK L8=>il.imp C ea ρ' (um M' ea (.exc C)) σ' _ D' D #[en.ts L8,m.put (L2.d0.ts (bM oK)) bV] (h ea (m.fresh oK)) (jq.of t1 L8)]
theorem DH {i:Nat}{a:ui}{D:dk}{e:cA ->WX}{ρ:cA}{M:Mp}:LO i a D e ρ M=a ρ M (λx M1=>D.nx (ρ.set i (some x)) M1) (e ρ):=rfl
theorem DG {a:ui}{ρ:cA}{M:Mp}{q:WK}{e:WX}:LM a ρ M q e=a ρ M (λx M1=>jm q M1 (.lst [x])) e:=rfl
theorem zq {p:i7}{a:WA}{ρ:cA}{M:Mp}{q:WK}{e:WX}:LN p a ρ M q e=a ρ M λxs M1=>AD p xs M1 q e:=rfl
theorem xO {b:Gg}{al:Fm (KQ× (KQ ->WS))}{D:dk}{ρ:cA}{M:Mp}:zn K b al D ρ M=b D (λρ' C M'=> ∀ea,M' ea=none ->lr K al C ea D ρ' (um M' ea (.exc C))) ρ M:=rfl
end
end WL
namespace L2
open PySem PyProof.Rows PySem.Spec PyProof.V Builtin.Str
section
variable {X:Cx}
def Ez:V ->Fm V ->Hp ->VK ->Prop:=λx vs H Q=>bU λa b=>cJ (x= .str a) (vs= [.str b]) (Q (.bl (Txt.startswith a b)) H)
def k9:AH X "str.startswith" Ez:=by intro aa s σ H x xs v us Q I rx rv h;let⟨a,b,rfl,rfl,q⟩:=h;let⟨t,rfl⟩:=rx;let⟨u,rfl,t',rfl⟩:=vals1 rv;show SC.startswith #[.bl _,H,I,rfl,q]
def EK:V ->Fm V ->Hp ->VK ->Prop:=λx vs H Q=>bU λa b=>cJ (x= .str a) (vs= [.str b]) (Q (.bl (Txt.endswith a b)) H)
def oy:AH X "str.endswith" EK:=by intro aa s σ H x xs v us Q I rx rv h;let⟨a,b,rfl,rfl,q⟩:=h;let⟨t,rfl⟩:=rx;let⟨u,rfl,t',rfl⟩:=vals1 rv;show SC.endswith #[.bl _,H,I,rfl,q]
def EI:V ->Fm V ->Hp ->VK ->Prop:=λx vs H Q=>bU λa b=>cJ (x= .str a) (vs= [.str b]) (Q (.int (Txt.find a b)) H)
def rL:AH X "str.find" EI:=by intro aa s σ H x xs v us Q I rx rv h;let⟨a,b,rfl,rfl,q⟩:=h;let⟨t,rfl⟩:=rx;let⟨u,rfl,t',rfl⟩:=vals1 rv;show SC.find #[.int _,H,I.tok _,#[_,rfl],q]
theorem lv: ∀ (l:Fm Str) (k:Nat),b0 (l.map V.str) (strsFrom k l)
 | [],_=> .nil
 | x::l,k=> .cons #[_,rfl] (lv l (k+1))
def EA:V ->Fm V ->Hp ->VK ->Prop:=λx vs H Q=>bU λa b=>dW (x= .str a) (vs= [.str b]) ((b.length==0)=false) (a.length+2<=sizeLine) (∀p,H p=none ->Q (.ref p) (cU H p (.lst ((Txt.split a b).map .str))))
def ka:AH X "str.split" EA:=by
 intro aa s σ H x xs v us Q I rx rv h;let⟨a,b,rfl,rfl,hb,hz,q⟩:=h;let⟨t,rfl⟩:=rx;let⟨u,rfl,t',rfl⟩:=vals1 rv;have hf:H s.heap.objs.size=none:=I.cI.fresh (ag _);have hl:=split_le a b;have self:Txt.split a b= [a] ->EP X aa σ Q (.ref s.heap.objs.size) {s with heap:=s.heap.push {cls:= .type "list",data:= .seq [Value.str a t].toArray}}:=λe=>#[.ref _,cU H s.heap.objs.size (.lst ((Txt.split a b).map .str)),I.laid (t':=s.toks) (λb u e=>aw _ e) (ag _) #[by rw[af];omega,[Value.str a t],0,by rw[e];show .cons #[t,rfl] .nil,aT _ rfl],rfl,q _ hf]
 by_cases h1:(decide (a.length<b.length) || decide (strKind a<strKind b))=true;show call_meets PySem.F.slot_str_split (typeIs_str _ _ _) PySem.F.entry_str_split (PySem.F.args_str_split_2 _ _) (meets_str_split_cannot_occur a b t t' h1) (self (by unfold Txt.split;rw[am h1]));have Ct:(decide (a.length<b.length) || decide (strKind a<strKind b))=false:=by simpa using h1
 by_cases h2:(occurrences a b 0 a.length (a.length+1)).isEmpty=true;show call_meets PySem.F.slot_str_split (typeIs_str _ _ _) PySem.F.entry_str_split (PySem.F.args_str_split_2 _ _) (meets_str_split_not_found a b t t' Ct hb h2) (self (by unfold Txt.split;rw[ar h1,am h2]));have uB:(occurrences a b 0 a.length (a.length+1)).isEmpty=false:=by simpa using h2
 have e:Txt.split a b=partsBetween a (occurrences a b 0 a.length (a.length+1)) b.length:=by unfold Txt.split;rw[ar h1,ar h2]
 exact call_meets PySem.F.slot_str_split (typeIs_str _ _ _) PySem.F.entry_str_split (PySem.F.args_str_split_2 _ _) (meets_str_split_sep a b t t' Ct hb uB (by omega) (by rw[<- e];omega)) ?_;exact#[.ref _,cU H s.heap.objs.size (.lst ((Txt.split a b).map .str)),I.laid (λb u e=>aw _ e) (ag _) #[by rw[af];omega,_,0,?_,aT _ rfl],rfl,q _ hf];rw[<- e];show lv _ _
def zX:Fm V ->Hp ->VK ->Prop:=λxs H Q=>bU λ(x:Str) (n:Int)=>dN (xs= [.str x]) (PySem.intText? x=some n) (x.length<=640) (Q (.int n) H)
def mh:dn X (.type "int") zX:=by intro aa s σ H xs us Q I r h;let⟨x,n,rfl,hn,hl,q⟩:=h;let⟨u,rfl,t,rfl⟩:=vals1 r;show W.KIN.call_text hn hl #[.int n,H,I.tok _,#[_,rfl],q]
end
section
variable {X:Cx}
def ED:V ->Fm V ->Hp ->VK ->Prop:=λx vs H Q=>bU λa b=>dW (x= .str a) (vs= [.str b]) ((b.length==0)=false) (a.length<=sizeLine) (∀p,H p=none ->Q (.ref p) (cU H p (.tup [.str (Txt.partition a b).1, .str (Txt.partition a b).2.1, .str (Txt.partition a b).2.2])))
def nh:AH X "str.partition" ED:=by
 intro aa s σ H x xs v us Q I rx rv h;let⟨a,b,rfl,rfl,hb,hz,q⟩:=h;let⟨t,rfl⟩:=rx;let⟨u,rfl,t',rfl⟩:=vals1 rv;have hf:H s.heap.objs.size=none:=I.cI.fresh (ag _);exact call_meets PySem.F.slot_str_partition (typeIs_str _ _ _) PySem.F.entry_str_partition (PySem.F.args_str_partition_2 _ _) (meets_str_partition a b t t' hb hz) ?_;exact#[.ref _,cU H s.heap.objs.size (.tup [.str (Txt.partition a b).1, .str (Txt.partition a b).2.1, .str (Txt.partition a b).2.2]),?_,rfl,q _ hf];unfold Txt.partition;cases e:occurrences a b 0 a.length 1 with
 | nil=>show I.laid (λb u e=>aw _ e) (ag _) #[by change 3<=sizeLine;decide,_, .cons #[_,rfl] (.cons #[_,rfl] (.cons #[_,rfl] .nil)),ln.new _ _]
 | cons i r=>show I.laid (λb u e=>aw _ e) (ag _) #[by change 3<=sizeLine;decide,_, .cons #[_,rfl] (.cons #[_,rfl] (.cons #[_,rfl] .nil)),ln.new _ _]
end
end L2
namespace WL
open PySem L2
section
variable {K:KW}
def DB:WM:=λx ys M q=>bU λa b=>cJ (x=ws a) (ys= [ws b]) (q (wb (Txt.startswith a b)) M)
instance:IM K Ez DB where
 imp:=by rintro x v ys us M H q Q m r1 r2 ⟨a,b,rfl,rfl,h⟩ k;cases r1.eq;let⟨u,rfl,r⟩:=r2.one;cases r.eq;show#[a,b,rfl,rfl,k _ M _ H h (aQ.refl H) m WR.v]
theorem Im {a b:Str}{M:Mp}{q:WK}:DB (.v (.str a)) [.v (.str b)] M q=q (wb (Txt.startswith a b)) M:=propext #[λ⟨_,_,h1,h2,k⟩=>by cases h1;cases h2;show k,λk=>#[_,_,rfl,rfl,k]]
def DQ:WM:=λx ys M q=>bU λa b=>cJ (x=ws a) (ys= [ws b]) (q (wb (Txt.endswith a b)) M)
instance:IM K EK DQ where
 imp:=by rintro x v ys us M H q Q m r1 r2 ⟨a,b,rfl,rfl,h⟩ k;cases r1.eq;let⟨u,rfl,r⟩:=r2.one;cases r.eq;show#[a,b,rfl,rfl,k _ M _ H h (aQ.refl H) m WR.v]
theorem IK {a b:Str}{M:Mp}{q:WK}:DQ (.v (.str a)) [.v (.str b)] M q=q (wb (Txt.endswith a b)) M:=propext #[λ⟨_,_,h1,h2,k⟩=>by cases h1;cases h2;show k,λk=>#[_,_,rfl,rfl,k]]
def DP:WM:=λx ys M q=>bU λa b=>cJ (x=ws a) (ys= [ws b]) (q (wi (Txt.find a b)) M)
instance:IM K EI DP where
 imp:=by rintro x v ys us M H q Q m r1 r2 ⟨a,b,rfl,rfl,h⟩ k;cases r1.eq;let⟨u,rfl,r⟩:=r2.one;cases r.eq;show#[a,b,rfl,rfl,k _ M _ H h (aQ.refl H) m WR.v]
theorem IJ {a b:Str}{M:Mp}{q:WK}:DP (.v (.str a)) [.v (.str b)] M q=q (wi (Txt.find a b)) M:=propext #[λ⟨_,_,h1,h2,k⟩=>by cases h1;cases h2;show k,λk=>#[_,_,rfl,rfl,k]]
def DC:WM:=λx ys M q=>bU λa b=>dW (x=ws a) (ys= [ws b]) ((b.length==0)=false) (a.length+2<=sizeLine) (∀p,M p=none ->q (wr p) (um M p (.lst ((Txt.split a b).map ws))))
theorem bS.ofStrs {H:Hp}: ∀ {ss:Fm Str},bS K H (ss.map ws) (ss.map V.str)
 | []=> .nil
 | n::r=>bS.cons WR.v bS.ofStrs
instance:IM K EA DC where
 imp:=by rintro x v ys us M H q Q m r1 r2 ⟨a,b,rfl,rfl,hb,hz,h⟩ k;cases r1.eq;let⟨u,rfl,r⟩:=r2.one;cases r.eq;show#[a,b,rfl,rfl,hb,hz,λp hp=>k _ _ _ _ (h p (m.fresh hp)) (L2.d0.ts (bM hp)) (m.jm hp bS.ofStrs) WR.v]
theorem Io {a b:Str}{M:Mp}{q:WK}:DC (.v (.str a)) [.v (.str b)] M q=dZ ((b.length==0)=false) (dZ (a.length+2<=sizeLine) (∀p,M p=none ->q (wr p) (um M p (.lst ((Txt.split a b).map ws))))):=propext #[λ⟨_,_,h1,h2,h3,h4,k⟩=>by cases h1;cases h2;show#[h3,h4,k],λ⟨h3,h4,k⟩=>#[_,_,rfl,rfl,h3,h4,k]]
def DI:WM:=λx ys M q=>bU λa b=>dW (x=ws a) (ys= [ws b]) ((b.length==0)=false) (a.length<=sizeLine) (q (.tup [ws (Txt.partition a b).1,ws (Txt.partition a b).2.1,ws (Txt.partition a b).2.2]) M)
instance:IM K ED DI where
 imp:=by rintro x v ys us M H q Q m r1 r2 ⟨a,b,rfl,rfl,hb,hz,h⟩ k;cases r1.eq;let⟨u,rfl,r⟩:=r2.one;cases r.eq;show#[a,b,rfl,rfl,hb,hz,λp hp=>k _ M _ _ h (L2.d0.ts (bM hp)) (m.new hp) (WR.E_ (gw.of bV) (bS.cons WR.v (bS.cons WR.v (bS.cons WR.v .nil))))]
theorem Ir {a b:Str}{M:Mp}{q:WK}:DI (.v (.str a)) [.v (.str b)] M q=dZ ((b.length==0)=false) (dZ (a.length<=sizeLine) (q (.tup [ws (Txt.partition a b).1,ws (Txt.partition a b).2.1,ws (Txt.partition a b).2.2]) M)):=propext #[λ⟨_,_,h1,h2,h3,h4,k⟩=>by cases h1;cases h2;show#[h3,h4,k],λ⟨h3,h4,k⟩=>#[_,_,rfl,rfl,h3,h4,k]]
def zw:pK:=λxs M q=>bU λ(x:Str) (n:Int)=>dN (xs= [ws x]) (PySem.intText? x=some n) (x.length<=640) (q (wi n) M)
instance:IC K zX zw where
 imp:=by rintro xs v M H q Q m r1 ⟨x,n,rfl,hn,hl,h⟩ k;let⟨v,rfl,r⟩:=r1.one;cases r.eq;show#[x,n,rfl,hn,hl,k _ M _ H h (aQ.refl H) m WR.v]
end
end WL
namespace L2
open PySem PyProof.Rows PySem.Spec PySem.Calls PySem.W
def pW {P:KY}{w:KZ}{A:K2}{E:Fp ->JZ ->Prop}{s:JZ}{l:KQ}{items:KU Fp}{Q:Fm Fp ->JZ ->Prop}(hl:s.heap.IsList l items)(hh:A.handled=none)(hn:1<=items.size)(hz:items.size<=sizeLine) (h: ∀ (h':K0) (tk:Nat),(∀b o,s.heap.get? b=some o ->h'.get? b=some o) ->Q (items.toList.take 1++ [.ref h'.objs.size]) {s with heap:=h'.push {cls:= .type "list",dict:=none,data:= .seq (items.toList.drop 1).toArray},toks:=tk}): wpAny (model P w) A (unpackItems (.ref l) 2 (some 1)) Q E s:=by
 have Dc:l<s.heap.objs.size:=by let⟨o,ho,_⟩:=hl;show au ho
 have fJ:=aU Dc;unfold unpackItems notIterableAtAll;exact ak (ak (wpAny_specialOf hl.typeIs slot_list_iter.lookup (aX ?_)));simp![av,a8];exact ak (b9 (wpAny_pyIter_list hl (ak (b9 (kun_draw fJ 1 0 _ _ #[_,aT _ rfl,rfl,rfl] (hl.push _) hn λh₁ Kq hs=> ?_)))));have M_:h₁.IsList l items:=(hl.push _).extBut hs.extBut fJ;let⟨oi,OK,_⟩:=id Kq;let⟨ol,OJ,_⟩:=id M_;rw[List.drop_zero];have e1:(items.toList.take 1).length=1:=by rw[bi,bJ];omega
 rw[ar (by omega)];exact ak (b9 (kun_collect (s:= {s with heap:=h₁}) (T:= "list_iterator") (.inr (.inr (.inl rfl))) (Walks.list (A:=A.in1) hh s.heap.objs.size l fJ items) (λj u st=>st.1.typeIs) (k:=1) hn #[Kq,M_] (au OK) (au OJ) (λh₂ tk hk=> ?_) hz));have e2:(items.toList.drop 1).length - (2 - 1 - 1)=(items.toList.drop 1).length:=rfl;have e3:List.take ((items.toList.drop 1).length - (2 - 1 - 1)) (items.toList.drop 1)=items.toList.drop 1:=by rw[e2,List.take_length]
 have e4:List.drop ((items.toList.drop 1).length - (2 - 1 - 1)) (items.toList.drop 1)= []:=by rw[e2,List.drop_length]
 dsimp only;rw[ar (by omega),e3,e4];have e5:(items.toList.drop 1).length<=sizeLine:=by rw[cx,bJ];omega
 exact ak (wpAny_newList (aX ?_) e5);have kp: ∀b o,s.heap.get? b=some o ->h₂.get? b=some o:=λb o e=>hk b o (aU (au e)) (hs.extBut b o (aU (au e)) (aw _ e));rw[List.append_nil];show h h₂ tk kp
section
variable {X:Cx}
def Aq (K:KW)(t:uj):TG:=λv σ H Q=>fE λ(a:KQ) (x:V) (xs:Fm V)=>cJ (v= .ref a) (dw K H a (x::xs)) (∀p,H p=none ->t [x, .ref p] σ (cU H p (.lst xs)) Q)
def yn {e t:Expr}{sp pos:Pos}{k:Nat}{g:uj}(hc:X.calm=true)(h:Gj X [e,t] g)(hs:assignEach [e, .Starred t sp] X.env= [(false,assign e X.env),(true,assign t X.env)]:=by rfl)(hp:assignEach [e,t] X.env= [(false,assign e X.env),(false,assign t X.env)]:=by rfl): PG X (.Tuple [e, .Starred t sp] k pos) (Aq X.K g):=by
 intro aa s σ H v u Q I r hw;let⟨a,x,xs,rfl,hq,hw⟩:=hw;cases r;let⟨bq,rv,ht,hz⟩:=I.list hq;rw[assign_Tuple];exact ak (wpAny_standAt ?_);unfold unpack;rw[hs];let⟨u0,us,rfl,r0,rr⟩: ∃u0 us,bq=u0::us /\ RelV x u0 /\ b0 xs us:=by cases rv with | cons a b=>show#[_,_,rfl,a,b]
 exact ak (b9 (pW ht.isList (I.ok.hd hc) (by simp) (by have:=rr.length;simp at hz ⊢;omega) λh' tk kp=> ?_));have I1:Inv X aa σ H {s with heap:=h',toks:=tk}:=I.kept (t':=tk) kp;have hf:H h'.objs.size=none:=I1.cI.fresh (ag _);have I2:=I1.laid (o:= .lst xs) (t':=tk) (λb u e=>aw {cls:= .type "list",dict:=none,data:= .seq (List.drop 1 (u0::us).toArray.toList).toArray} e) (ag _) #[by have:=rr.length;simp at hz;omega,us,0,rr, ⇑(aT _ rfl)];have h2:=h aa _ σ _ [x, .ref h'.objs.size] [u0, .ref h'.objs.size] Q I2 (.cons r0 (.cons rfl .nil)) (hw _ hf);rw[hp] at h2;simpa using h2
end
end L2
namespace WL
open PySem L2
section
variable {K:KW}
def D_ (a:xa):WG:=λx ρ M q=>fE λ(l:KQ) (y:W) (ys:Fm W)=>cJ (x=wr l) (M l=some (.lst (y::ys))) (∀p,M p=none ->a [y,wr p] ρ (um M p (.lst ys)) q)
instance {t:uj}{a:xa} [ia:Gr K t a]:IG K (Aq K t) (D_ a) where
 imp :=by
  rintro x v ρ M σ H q Q o r ⟨l,y,ys,rfl,hl,h⟩ k;cases r.eq;let⟨vs,hv,rr⟩:=o.hp l _ hl;cases vs with
  | nil=>show absurd rr.length (by simp)
  | cons v0 vs=>simp![bS] at rr;let⟨v',sM,e,r0,rs⟩:=rr;cases e;exact#[l,v0,vs,rfl,dw.of hv,λp hp=> ?_];have ts:=L2.d0.ts (bM (o:= .lst vs) hp);show ia.imp _ _ ρ _ σ _ q Q (o.mv ts (o.hp.jm hp rs)) (bS.cons (r0.ts ts) (bS.cons WR.v .nil)) (h p (o.hp.fresh hp)) λρ' M' σ' H' hq t2 o2=>k ρ' M' σ' H' hq (ts.trans t2) o2
end
end WL
namespace L2
open PySem PyProof.Rows PySem.Spec PySem.Calls
section
variable {M:Model}{A:K2}{E:Fp ->JZ ->Prop}{s:JZ}{env:Env}
def rB (M:Model)(A:K2)(E:Fp ->JZ ->Prop)(fr:KO KQ)(u:Fp ->Sem Unit)(Q:Fp ->JZ ->Prop)(dU:Fp)(C:KQ):Result ->JZ ->Prop
 | .ok _,s'=>wpAny M A (u dU) (λ_ s2=> ∃m,s2.heap.Ns C m /\ ∀h',Heap.SameBut C s2.heap h' ->Q .none {s2 with heap:=h'}) E s'
 | .error x,s'=> ∃m,s'.heap.Ns C m /\ ∀h',Heap.SameBut C s'.heap h' -> ∀ce:Env,ce.frame=fr ->wpAny M A (passOn "comprehension.variables-let-go" x ce:Sem Fp) (λ_ _=>False) E {s' with heap:=h'}
def CG {e:Expr}{scope:Scope}{pos:Pos}{nw fst:Sem Fp}{g:Comprehension}{gs:Fm Comprehension}{cl:Fm (Str×KQ)}{u:Fp ->Sem Unit}{Q:Fp ->JZ ->Prop}(iD:clausesOf e=g::gs)(hs: ∀x,foldedSetIterable g.iter env x=pure x)(hc:closureFor scope env=pure cl) (hk:scope.kind= .function) (hn: ∀x∈scope.names,x.2= .local ->scope.names.lookup x.1=some .local) (h :wpAny M A fst (λx s1=>wpAny M A (pyIter x) (λit s2=>wpAny M A nw (λdU s3=>wpAny M A (newFunctionEnv scope env.globals cl [] env.qual none .none (some env)) (λce s4=>ce.frame=env.frame /\codeAny M A (.compStart e 0 it dU {ce with scope:=relabel scope env}) (rB M A E env.frame u Q dU ce.locals) s4) E s3) E s2) E s1) E s): wpAny M A (comprehension e scope env pos nw false fst (some u)) Q E s:=by
 unfold comprehension;rw[hc,iD];exact ak (a6 h (λx s1 h1=> ?_) λ_ _ z=>z);exact ak (wpAny_standAt (ak (wpAny_of_eq (hs x) (ak (b9 (a6 h1 (λit s2 h2=> ?_) λ_ _ z=>z))))));exact wpAny_standIf (ak (a6 h2 (λdU s3 h3=> ?_) λ_ _ z=>z));exact ak (aX (ak (a6 h3 (λce s4 h4=> ?_) λ_ _ z=>z)));let⟨hf,h4⟩:=h4;dsimp only;have kn: ∀x∈scope.names,x.2= .local ->Env.kindOf {ce with scope:=relabel scope env} x.1=some .local:=λx hx hl=>lookup_relabel_local (hn x hx hl);have JY: ∀ {p:Str×NameKind ->Bool} {x:Str×NameKind},x∈(scope.names.filter p).reverse ->x∈scope.names:=λhx=>(List.mem_filter.mp (List.mem_reverse.mp hx)).1;exact b9 (ak (wpAny_attempt (b9 (wpAny_run (codeAny_mono h4 λr s5 hr=> ?_)))));cases r with
 | ok f=>exact ak (wpAny_rule (ak (b9 (a6 hr (λ_ s6 q=> ?_) λ_ _ z=>z))));let⟨m,hm,q⟩:=q;exact ak (wpAny_comp_letGo (cenv:= {ce with scope:=relabel scope env}) hk _ s6 m (λx hx hl=>kn x ?_ hl) hm λh' _ _ sb=>aX (q h' sb));obtain z | z:=aR.mp hx;show JY (List.mem_of_mem_drop z);show JY (List.mem_of_mem_take z)
 | error x=>let⟨m,hm,q⟩:=hr;show ak (b9 (wpAny_comp_letGo (cenv:= {ce with scope:=relabel scope env}) hk _ s5 m (λx hx hl=>kn x (JY hx) hl) hm λh' _ _ sb=>a6 (q h' sb _ hf) (λ_ _ z=>z.elim) λ_ _ z=>z))
end
end L2
namespace L2
open PySem PyProof.Rows PyProof.V PySem.Calls PySem.Spec
def ou {α:Type}{M:Model}{A:K2}{E:Fp ->JZ ->Prop}{Q:α ->JZ ->Prop}{s:JZ}{Dy:String}{B:K0}{l:Fm Env}{ea L:KQ}{cls a0:Fp}{ce:Env}(hf:ce.frame=some L)(hh:Heap.HeldW B l ea cls a0 L s.heap) (k: ∀h6,Heap.HeldW B l ea cls a0 L h6 ->(∀b o,s.heap.get? b=some o ->(∀vs,o.data≠ .fields vs) ->h6.get? b=some o) ->E (.ref ea) {s with heap:=h6}):wpAny M A (PySem.passOn Dy (.ref ea) ce:Sem α) Q E s:=by
 let⟨st,hn,fr,oe,vs,T,oT,ts,he,hc,hd,h1,FD,HA,hT,Df,h3⟩:=hh;have Nr:=(Array.getElem?_eq_some_iff.mp h3).1;have ot: ∀b,b≠T ->(s.heap.update T (Obj.mapFields (·.setIfInBounds 3 ((some L:KO KQ).elim Value.none λf=>rawInt f)))).get? b=s.heap.get? b:=λb hb=>Heap.get?_update_other _ _ (bY hb);have nr: ∀b o,s.heap.get? b=some o ->(∀vs,o.data≠ .fields vs) ->b≠T:=λb o hb z q=>by rw[q,hT] at hb;cases hb;show z ts Df
 unfold PySem.passOn setFlight;rw[hf];exact ak (wpAny_field he hd h1 ?_);rw[ar (by simp)];exact ak (ak (wpAny_field he hd h1 ?_));rw[am (by simp)];exact wpAny_setField hT Df Nr (wpAny_throw (k _ #[λb o e=>(ot b λq=>by rw[q,FD] at e;cases e).trans (st b o e),hn,fr.of_keeps λb o e z=>#[o,(ot b (nr b o e z)).trans e,rfl],?_] λb o e z=>(ot b (nr b o e z)).trans e));show#[oe,vs,T,_,_,(ot ea (bY HA)).trans he,hc,hd,h1,FD,HA,Heap.get?_update_self _ hT (Obj.isFreed_of_fields (Obj.data_mapFields Df _)),Obj.data_mapFields Df _,by simp[Nr]]
theorem Ea {outer:Fm Env}{H₀ H':Hp}{h0 h h' B:K0}{base:K0}(ff:h.FunFrames base outer)(hF: ∀b∈eC outer,H₀ b=none)(u:Un (eC outer) [] H₀ H' h0 h)(st:B.StaysIn h')(up: ∀b∈eC outer, ∀o,h.get? b=some o ->(∀vs,o.data≠ .fields vs) -> ∃sl,h'.get? b=some {o with slots:=sl}) (kb: ∀b o,h0.get? b=some o ->H₀ b=none ->b∉eC outer ->B.get? b=some o) (kt: ∀b o,h0.get? b=some o ->b∉eC outer -> ∃o',B.get? b=some o'):Un (eC outer) [] H₀ H' h0 h' where
 keep b o e n hb _:=st b o (kb b o e n hb)
 slot b o e n hb hx:=by let⟨sl,e1⟩:=u.slot b o e n hb hx;let⟨_,o2,e2,tW⟩:=ff.mem hb;rw[e1] at e2;cases e2;let⟨zO,e3⟩:=up b hb _ e1 tW;show#[zO,e3]
 free:=u.free
 there b o e hx:=by by_cases hb:b∈eC outer;let⟨sl,e1⟩:=u.slot b o e (hF b hb) hb hx;let⟨_,o2,e2,tW⟩:=ff.mem hb;rw[e1] at e2;cases e2;let⟨zO,e3⟩:=up b hb _ e1 tW;show#[_,e3];let⟨o',e'⟩:=kt b o e hb;show#[o',st _ _ e']
 gA:=u.gA
 gp:=u.gp
 gV:=u.gV
theorem Au {h h' B B':K0}(k: ∀b u,B.get? b=none ->h.get? b=some u ->h'.get? b=some u)(nb: ∀b,B.get? b=none ->B'.get? b=none): ∀l,h.FunFrames B l ->h'.FunFrames B' l
 | [],_=>trivial
 | _::r,⟨x1,⟨L,u,x2,x3,x4,x5⟩,x6⟩=>#[x1,#[L,u,x2,nb _ x3,k _ _ x3 x4,x5],Au k nb r x6]
def xc (X:Cx)(E0:XK):Prop:= ∀ (aa:Fm (KQ×Obj)) (σ:St) (H3:Hp) (s3:JZ) (N':Fm Str) (sc:Scope) (cl:Fm (Str×KQ)) (fp:Fm KQ) (fc:Fm (KQ×Obj)) (σ':St) (H1:Hp) (s1:JZ) (ev:Fp) (s9:JZ) (u:Fp ->Sem Unit) (Q:Fp ->JZ ->Prop) (dU:Fp),Inv X aa σ H3 s3 ->(∀b∈fp,fk X aa H3 b) ->Inv (bR X N' sc cl fp s3 H3) fc σ' H1 s1 ->gq X.prog X.w X.stack H1 s1 E0 ev s9 ->wpAny (model X.prog X.w) X.A (noteFrame ev X.env) (λ_ Ew=>rB (model X.prog X.w) X.A X.xe X.env.frame u Q dU s3.heap.objs.size (.error ev) Ew) (λQZ Ew=>rB (model X.prog X.w) X.A X.xe X.env.frame u Q dU s3.heap.objs.size (.error QZ) Ew) s9
def Bu {P:KY}{w:KZ}{K:KW}{mg:Str ->KO Fp}{base:K0}{N:Fm Str}{qual:Str}{scope:Scope}{f:KQ}{cd:Fp}{A:K2}{outer:Fm Env}{s:JZ}{H:Hp}{E:XK}:xc (dF (gq P w) P w K mg base N qual scope f cd A outer s H E) E:=by
 intro aa σ H3 s3 N' sc cl fp fc σ' H1 s1 ev s9 u Q dU I3 lh Ic hf;let⟨ea,cls,a0,B,H',rfl,os,bare,fl,cI,oK,un,kb,kt,hE⟩:=hf;have I1:=gh I3 lh Ic;have I':=I1.sE (ch:= []) os un (cI.kept fl.1) bare (λb z=>absurd z (by simp));let⟨m,hm,_⟩:=Ic.loc;let⟨o,es,ep,ho,hr⟩:=hm;have Np:s3.heap.objs.size∉eC (dF (gq P w) P w K mg base N qual scope f cd A outer s H E).stack:=λz=>by let⟨_,o2,e2,_⟩:=I3.stack.mem z;show absurd (au e2) (bB _)
 have hB:B.get? s3.heap.objs.size=some o:=kb _ _ ho Ic.free Np;have HF:H' s3.heap.objs.size=none:=un.free _ _ ho Ic.free (by simp);exact wpAny_looks_onW (by rw[I1.ok.frames];rfl) rfl fl λh4 Cj NX=> ?_;exact#[m,#[o,es,ep,Cj.1 _ _ hB,hr],λh' sb ce OW=> ?_];have Jx: ∀ {b u},(W.hideAll B [s3.heap.objs.size]).get? b=some u ->B.get? b=some u /\ b≠s3.heap.objs.size:=λ{b u} q=>#[W.of_hideAll _ q,λz=>by rw[z,W.hideAll_none _ (List.mem_singleton_self _)] at q;cases q]
 have JB: ∀ {b},B.get? b=none ->(W.hideAll B [s3.heap.objs.size]).get? b=none:=λ{b} q=>by
  cases z:(W.hideAll B [s3.heap.objs.size]).get? b with
  | none=>rfl
  | some u=>rw[(Jx z).1] at q;cases q
 have JE: ∀ {b},B.get? b=none ->b≠s3.heap.objs.size:=λ{b} q z=>by rw[z,hB] at q;cases q
 have FQ:Heap.HeldW (W.hideAll B [s3.heap.objs.size]) (dF (gq P w) P w K mg base N qual scope f cd A outer s H E).stack ea cls a0 s.heap.objs.size h':=by let⟨g1,g2,g3,oe,vs,T,oT,ts,he,hc,hd,q1,FD,HA,hT,Df,q3⟩:=Cj;exact#[λb u q=>sb.extBut b u (Jx q).2 (g1 b u (Jx q).1),JB g2,?_,oe,vs,T,oT,ts,sb.extBut _ _ (JE g2) he,hc,hd,q1,JB FD,HA,sb.extBut _ _ (JE FD) hT,Df,q3];show Au (λb u q e=>sb.extBut _ _ (JE q) e) (λb q=>JB q) _ g3
 exact ou (OW.trans rfl) FQ λh6 Al k6=> ?_;change wpAny _ _ (leaving _ (.ref ea)) _ _ _;unfold leaving;exact ak (wpAny_noteFrame_againW rfl Al.2.2.2 (wpAny_landsW Al λh7 F5 NW=> ?_));have hex:(dF (gq P w) P w K mg base N qual scope f cd A outer s H E).ex= []:=rfl;have bC: ∀ {b u},s.heap.get? b=some u ->b∉ [s3.heap.objs.size]:=λ{b u} e z=>by rw[aY.mp z] at e;show absurd (aF (au e) I3.sz) (bB _)
 have Fg: ∀b u,s.heap.get? b=some u ->H b=none ->b∉eC outer ->(W.hideAll B [s3.heap.objs.size]).get? b=some u:=λb u e n hb=>W.hideAll_get _ (kb b u (I1.base.keep b u e n hb (λz=>absurd z (by simp[hex]))) (I1.base.free b u e n (λz=>absurd z (by simp[hex]))) (I1.tz e hb)) (bC e);have Fd: ∀b u,s.heap.get? b=some u ->b∉eC outer -> ∃u',(W.hideAll B [s3.heap.objs.size]).get? b=some u':=λb u e hb=>by let⟨u1,e1⟩:=I1.base.there b u e (λz=>absurd z (by simp[hex]));let⟨u2,e2⟩:=kt b u1 e1 (I1.tz e hb);show#[u2,W.hideAll_get _ e2 (bC e)]
 have B_:fM P w H' (W.hideAll B [s3.heap.objs.size]):=λa u ea=>(cI a u ea).jL (λb v hb q=>W.hideAll_get _ q λhm=>by rw[aY.mp hm] at hb;obtain z | z:=hb;rw[<- z] at ea;rw[ea] at HF;cases HF;rw[z] at HF;cases HF) (λ_ q=>q) λ_ _ q=>q;have sub: ∀b∈eC outer,b≠s3.heap.objs.size:=λb hb z=>Np (by rw[<- z];show aS _ hb);exact#[ea,cls,a0,_,H',rfl,os.trans I1.os,bare,#[F5.1,F5.2.1,F5.2.2.1.2.2,F5.2.2.2],B_,oK,Ea I'.gN I3.ok.xF I'.base F5.1 (λb hb u e tW=> ?_) Fg Fd,Fg,Fd,hE];let⟨sl,e4⟩:=NX b u e tW;let⟨zO,e7⟩:=NW b _ (k6 b _ (sb.extBut _ _ (sub b hb) e4) tW) tW;show#[zO,e7]
end L2
namespace L2
open PySem PySem.Spec PyProof.Rows
def wT (J:It)(own:Nat)(fr:Fm Nat)(g:TG)(tc:TT)(te:TR)(E0:XK)(σ:St)(p:KQ)(H1:Hp)(Q:VK):Prop:=∃ W :Nat ->Nat ->Fm V ->Hp ->Prop,(∃m,W 0 m [] (cU H1 p (.lst []))) /\ ∀i m ys H',W i m ys H' ->H' p=some (.lst ys) /\((J.stop i H' /\ Q (.ref p) H') \/ (J.go i H' /\ ys.length<sizeLine /\ ∀x H2,J.CW i H' x H2 ->g x (iz own fr σ) H2 λσ2 H3=>tc σ2 H3 λb H4=>if b=true then te σ2 H4 (λy H5=> ∃zs,H5 p=some (.lst zs) /\ zs.length<sizeLine /\ ∃m',m'<m /\ W (i+1) m' (zs++ [y]) (cU H5 p (.lst (zs++ [y])))) (λ_=>E0) else ∃zs m',m'<m /\ W (i+1) m' zs H4))
def zG (E0:XK)(wi:TI)(own:Nat)(fr:Fm Nat)(g:TG)(tc:TT)(te:TR)(i:Nat):TS:=λD σ H=>wi σ H λJ H1=> ∀p,H1 p=none ->wT J own fr g tc te E0 σ p H1 λx H2=>im i x σ H2 D.nx
section
variable {prog:KY}{w:KZ}{A:K2}{R:Result ->JZ ->Prop}{s:JZ}
theorem qC {iE eg iter:Expr}{iC:Fm Expr}{scope:Scope}{pos:Pos}{it dU:Fp}{env:Env}(I:Nat ->JZ ->Prop) (turn : ∀n s,I n s ->wpAny (model prog w) A (pyNext it) (λr s₁=>match r with
   | none=>R (.ok .next) s₁
   | some v=>wpAny (model prog w) A (letOwnedTupleGo eg it v) (λ_ s₀=>wpAny (model prog w) A (assign eg env v) (λ_ s₂=>
    wpAny (model prog w) A (forIn iC true λc r=>if r=true then do let ok <- isTrue c env (eval c env);pure (ForInStep.yield ok) else pure (ForInStep.yield r)) (λok s₃=>if ok=true then wpAny (model prog w) A (eval iE env) (λx s₄=>wpAny (model prog w) A (call (.builtin "list.append") [dU,x]) (λ_ s₅=> ∃m,m<n /\ I m s₅) (λ_ _=>False) s₄) (notedBy (model prog w) A env λx s'=>R (.error x) s') s₃ else ∃m,m<n /\ I m s₃) (λ_ _=>False) s₂)
    (λ_ _=>False) s₀) (λ_ _=>False) s₁) (λ_ _=>False) s)
  (n:Nat) (h:I n s):codeAny (model prog w) A (.compLoop (.ListComp iE [#[eg,iter,iC,0]] scope pos) 0 it dU env) R s:=by
 exact codeAny_loop rfl I (λn s hI=> ?_) n h
 change wpAny _ A ((compTurn (.ListComp iE [#[eg,iter,iC,0]] scope pos) 0 it dU env).onRaise (λx=>do noteFrame x env;theTreesLotGoes x)) _ _ s
 exact wpAny_noted ?_
 rw[compTurn_list]
 exact ak (wpAny_standAt (ak (a6 (turn n s hI) (λr s₁ h₁=> ?_) λ_ _ h'=>h'.elim)))
 cases r with
 | none=>show aX h₁
 | some v=>
  exact ak (a6 h₁ (λ_ s₀ J0=> ?_) λ_ _ h'=>h'.elim);exact ak (a6 J0 (λ_ s₂ h₂=> ?_) λ_ _ h'=>h'.elim);exact ak (a6 h₂ (λJv s₃ h₃=> ?_) λ_ _ h'=>h'.elim);cases Jv with
  | false=>show aX #[rfl,h₃]
  | true=>show ak (ak (a6 h₃ (λx s₄ h₄=>ak (a6 h₄ (λ_ s₅ h₅=>aX (aX #[rfl,h₅])) λ_ _ h'=>h'.elim)) λ_ _ h'=>h'))
end
section
variable {X:Cx}{aa:Fm (KQ×Obj)}{σ:St}{H:Hp}{s s3:JZ}
def pz {tg iter iE:Expr}{iC:Fm Expr}{pos:Pos}{own N':Fm Str}{fr:Fm Nat}{scope:Scope}{cl:Fm (Str×KQ)}{fp:Fm KQ}{it:KQ}{tn:Nat ->K0 ->Prop}{J:It}{g:TG}{tc:TT}{te:TR}{E0:XK}{Q:VK} {E:Fp ->JZ ->Prop} {RR:Fp ->KQ ->Result ->JZ ->Prop} (fY:X.calm=true) (S:dh X own fr N' scope) (hg: ∀s3 H3,PG (bR X N' scope cl fp s3 H3) tg g) (hw:qK own.length g) (hc: ∀s3 H3,CO (bR X N' scope cl fp s3 H3) iC tc) (he: ∀s3 H3,PR (bR X N' scope cl fp s3 H3) iE te) (iD: ∀x c,cl.lookup x=some c ->X.env.cells.lookup x=some c) (jp: ∀y∈scope.names,y.2= .free ->(cl.lookup y.1).isSome=true) (I:Inv X aa σ H s) (T:pE X.prog X.w X.K tg J fp it tn) (st:tn 0 s.heap) (lh: ∀b∈fp,fk X aa H b) (h: ∀p,H p=none ->wT J own.length fr g tc te E0 σ p H Q) (Lc: ∀ (s3:JZ) (H3:Hp),Inv X aa σ H3 s3 ->(∀b∈fp,fk X aa H3 b) -> ∀ (fc:Fm (KQ×Obj)) (σ':St) (H1:Hp) (s1:JZ) (ev dU:Fp) (s9:JZ),Inv (bR X N' scope cl fp s3 H3) fc σ' H1 s1 ->gq X.prog X.w X.stack H1 s1 E0 ev s9 ->notedBy (model X.prog X.w) X.A (compEnvC scope cl s3.heap.objs.size X.env) (λx s'=>RR dU s3.heap.objs.size (.error x) s') ev s9) (fin: ∀ (s3:JZ) (H3:Hp),Inv X aa σ H3 s3 ->(∀b∈fp,fk X aa H3 b) -> ∀ (D:KQ) (σ':St) (H':Hp) (s':JZ) (t:Nat),D<s3.heap.objs.size ->Inv (bR X N' scope cl fp s3 H3) [] σ' H' s' ->Q (.ref D) H' ->RR (.ref D) s3.heap.objs.size (.ok .next) s'): wpAny (model X.prog X.w) X.A (newList []) (λdU s₃=>wpAny (model X.prog X.w) X.A (newFunctionEnv scope X.env.globals cl [] X.env.qual none .none (some X.env)) (λcenv s₄=>cenv.frame=X.env.frame /\codeAny (model X.prog X.w) X.A (.compStart (.ListComp iE [#[tg,iter,iC,0]] scope pos) 0 (.ref it) dU {cenv with scope:=relabel scope X.env}) (RR dU cenv.locals) s₄) E s₃) E s:=by
 exact wpAny_newObj_type ?_;have hf:H s.heap.objs.size=none:=I.cI.fresh (ag _);let⟨W,⟨m0,w0⟩,turn⟩:=h _ hf;generalize e3:({s with heap:=s.heap.push {cls:= .type "list",dict:=none,data:= .seq ([]:Fm Fp).toArray}}:JZ)=s3;have A9:s3.heap.objs.size=s.heap.objs.size+1:=by rw[<- e3];show Heap.size_push ..
 have Ja: ∀b o,s.heap.get? b=some o ->s3.heap.get? b=some o:=λb o e=>by rw[<- e3];show aw _ e
 have I3:Inv X aa σ (cU H s.heap.objs.size (.lst [])) s3:=by rw[<- e3];show I.laid (t':=s.toks) (λb u e=>aw _ e) (ag _) #[Nat.zero_le _,[],0, .nil,aT _ rfl]
 have Cw: ∀b∈fp,b<s.heap.objs.size:=λb hb=>by let⟨o,e,_⟩:=T.obj 0 _ st b hb;show au e
 have oJ: ∀b∈fp,fk X aa (cU H s.heap.objs.size (.lst [])) b:=λb hb=>#[by rw[bP (aU (Cw b hb))];show(lh b hb).1,(lh b hb).2]
 exact wpAny_newFunctionEnv S.j_ (by intro y hy;simp at hy) (λh₁ Cb B6=> ?_) S.kind;have old: ∀b o,s3.heap.get? b=some o ->h₁.get? b=some o:=λb o e=>B6.extBut b o (aU (au e)) (aw _ e);have Ic:=oI (t:=s3.toks+([]:Fm (Str×Fp)).length) S I3 iD jp oJ (λb hb=>by rw[A9];show Nat.lt_succ_of_lt (Cw b hb)) Cb old;have sQ:tn 0 h₁:=T.keep 0 _ _ st λb hb o e=>old b o (Ja b o e);have jM: ∀ {H':Hp},(∀b∈fp,H' b=none) -> ∀b∈fp,fk (bR X N' scope cl fp s3 (cU H s.heap.objs.size (.lst []))) [] H' b:=λhn b hb=>by exact#[hn b hb,?_,?_, .inl hb,λx c e=>(lh b hb).2.2.2.2.1 x c (iD x c e),λp hp=>absurd (show p∈([]:Fm (KQ×Obj)) from hp) (by simp)];change b≠s3.heap.objs.size;rw[A9];show aU (Nat.lt_succ_of_lt (Cw b hb));show Ic.ok.qz b hb
 have loop:codeAny (model X.prog X.w) X.A (.compLoop (.ListComp iE [#[tg,iter,iC,0]] scope pos) 0 (.ref it) (.ref s.heap.objs.size) (compEnvC scope cl s3.heap.objs.size X.env)) (RR (.ref s.heap.objs.size) s3.heap.objs.size) {s3 with heap:=h₁,toks:=s3.toks+([]:Fm (Str×Fp)).length}:=by
  exact qC (λn s'=>fE λi ys H'=>dN (Inv (bR X N' scope cl fp s3 (cU H s.heap.objs.size (.lst []))) [] (iz own.length fr σ) H' s') (tn i s'.heap) (∀b∈fp,H' b=none) (W i n ys H')) ?_ m0 #[0,[],_,Ic,sQ,λb hb=>(oJ b hb).1,w0];rintro n s4 ⟨i,ys,H4,I4,dE,F2,w4⟩;let⟨yY,alt⟩:=turn i n ys H4 w4;rcases alt with⟨stop,q⟩ | ⟨go,hsz,step⟩
  .exact cR (T.done (bR X N' scope cl fp s3 (cU H s.heap.objs.size (.lst []))) rfl rfl rfl fY i [] s4 _ H4 (λ_ _=>False) I4 (jM F2) dE stop) λr s5 ⟨hr,I5⟩=> ?_;subst hr;show fin s3 _ I3 oJ _ _ H4 s5 s5.toks (by rw[A9];show Nat.lt_succ_self _) I5 q
  exact cR (T.item (bR X N' scope cl fp s3 (cU H s.heap.objs.size (.lst []))) rfl rfl rfl fY i [] s4 _ H4 (λ_ _=>False) I4 (jM F2) dE go) λr s5 ⟨u,hr,h5⟩=> ?_;subst hr;exact cR h5 λ_ s6 ⟨x,H6,I6,r6,y6,Bb,K_⟩=> ?_;have Ly:=I6.pinned (jM K_) (T.obj _ _ Bb);have Ep:=hw _ x H6 _ (step x H6 y6);exact cR (hg s3 _ _ s6 _ H6 x u _ Ly r6 Ep) λ_ s7 ⟨σ7,H7,I7,wk,q7⟩=> ?_;have again: ∀ {H9:Hp} {s9:JZ} {AL:Fm V},Inv (bR X N' scope cl fp s3 (cU H s.heap.objs.size (.lst []))) ([]++iN fp s6.heap) σ7 H9 s9 ->(∃m',m'<n /\ W (i+1) m' AL H9) ->∃m,m<n /\ fE λi ys H'=>dN (Inv (bR X N' scope cl fp s3 (cU H s.heap.objs.size (.lst []))) [] (iz own.length fr σ) H' s9) (tn i s9.heap) (∀b∈fp,H' b=none) (W i m ys H'):=λ{H9 s9 AL} I9 ⟨m',hm,w9⟩=>by exact#[m',hm,i+1,AL,H9,(I9.fN).weak ?_ wk.2,T.keep _ _ _ Bb λb hb o e=>(I9.pin (b,o) (aH _ (aH _ (dL hb e)))).1,λb hb=> ?_,w9];show wk.1.symm;let⟨o,e,d⟩:=T.obj _ _ Bb b hb;show(I9.pin (b,o) (aH _ (aH _ (dL hb e)))).2.1
  exact cR (hc s3 _ _ s7 σ7 H7 _ I7 q7) λok s8 ⟨H8,I8,q8⟩=> ?_;cases ok with
  | false=>simp![av,a8] at q8 ⊢;let⟨zs,q8⟩:=q8;show again I8 q8
  | true=>simp![bH] at q8 ⊢;exact a6 (he s3 _ _ s8 σ7 H8 _ _ I8 q8) ?_ λev s9 ⟨H1,s1,Ie,fl⟩=>Lc s3 _ I3 oJ _ _ H1 s1 ev _ s9 Ie fl;rintro y s9 ⟨yv,H9,I9,ry,zs,Kd,J6,q9⟩;exact cR (gf _ s9 σ7 H9 (.ref s.heap.objs.size) [yv] (.ref s.heap.objs.size) [y] (λv H'=>H'=cU H9 s.heap.objs.size (.lst (zs++ [yv]))) I9 rfl (.cons ry .nil) #[_,zs,yv,rfl,rfl,Kd,J6,rfl]) λv Ew ⟨_,Rg,Lz,_,Lh⟩=> ?_;subst Lh;show again Lz q9
 show#[rfl,codeAny_compStart_list loop (T.self _ 0 _ _ _ sQ loop)]
end
section
variable {X:Cx}
def oq {i:Nat}{x:Str}{tg iter iE:Expr}{iC:Fm Expr}{pos va eI:Pos}{own N':Fm Str}{fr:Fm Nat}{scope:Scope}{wi:TI}{g:TG}{tc:TT}{te:TR}{E0:XK}(OG:xc X E0)(fY:X.calm=true)(hN:X.N.Nodup)(hx:X.N[i]? =some x)(hl:Loc X.env.scope x)(S:dh X own fr N' scope)(hi:PI X tg iter wi) (hg: ∀cl fp s3 H3,PG (bR X N' scope cl fp s3 H3) tg g) (hw:qK own.length g) (hc: ∀cl fp s3 H3,CO (bR X N' scope cl fp s3 H3) iC tc) (he: ∀cl fp s3 H3,PR (bR X N' scope cl fp s3 H3) iE te) (J_:swapsWith (.ListComp iE [#[tg,iter,iC,0]] scope pos) (some (.Name x eI)) va.line X.env=pure true) (hs: ∀x,foldedSetIterable iter X.env x=pure x:=by intro _;rfl) (hf:X.fn x=true \/ X.env.scope.names.lookup x=some .local:=by first | show .inl rfl | show .inr rfl | assumption):PS X (.Assign [.Name x eI] (.ListComp iE [#[tg,iter,iC,0]] scope pos) va) (zG E0 wi own.length fr g tc te i):=by
 intro aa s σ H D I h;let⟨cl,oM,iD,jp⟩:=gR (I.ok.cellsOf S);rw[exec_Assign_Name_used _ _ _ _ J_];exact ak (wpAny_standAt (ak ?_));change wpAny _ X.A (do let _ <- comprehension (.ListComp iE [#[tg,iter,iC,0]] scope pos) scope X.env _ (newList []) false (eval iter X.env) (some (assign (.Name x eI) X.env))) _ _ s;exact ak (cR (CG (u:=assign (.Name x eI) X.env) (Q:=λ_ s'=>SP X aa D .next s') rfl hs oM S.kind S.loc (cR (hi aa s σ H _ I h) λv s1 h1=>cR h1 λFj s2 h2=> ?_)) λ_ s' hq=>aX (aX hq));let⟨it,fp,tn,J,H2,e,I2,T,gC,f2,h2⟩:=h2;subst e;exact pz (RR:=λdU C=>rB (model X.prog X.w) X.A X.xe X.env.frame (assign (.Name x eI) X.env) (λ_ s'=>SP X aa D .next s') dU C) fY S (hg cl fp) hw (hc cl fp) (he cl fp) iD jp I2 T gC f2 h2 (λs3 H3 I3 f3 fc σ' H1 s1 ev dU s9 Ie fl=>OG _ _ H3 s3 N' scope cl fp fc σ' H1 s1 ev s9 _ _ dU I3 f3 Ie fl) ?_;intro s3 H3 I3 f3 Da σ' H' s' t hD Ic q;let⟨m,hn,_⟩:=Ic.loc;have I5:=gh I3 f3 Ic;change wpAny _ X.A (assign (.Name x eI) X.env (.ref Da)) _ _ s';exact wpAny_assign_Name (iI I5 hN hx hl (show RelV (.ref Da) (.ref Da) from rfl) (λs6 I6 B8=> ?_) hf);let⟨a,sb,ha⟩:=B8;have kw:s3.heap.objs.size≠a:=by obtain rfl | ha:=ha;show Nat.ne_of_gt I3.lt;let⟨v,z⟩:=I3.cell x a ha;show Nat.ne_of_gt z.lt
 exact#[m,hn.sameBut sb kw,λh' B7=>#[_,H',iZ I3 rfl I6 Ic.free B7,q]]
end
end L2
namespace WL
open PySem L2 PySem.Spec PyProof.Rows
section
variable {K:KW}
def AC (xs:Fm W)(keep:Mp ->Prop)(own:Nat)(fr:Fm Nat)(g:WG)(c:WT)(el:ui)(e:WX)(ρ:cA)(M1:Mp)(q:WK):Prop:=xs.length<=sizeLine /\ ∀p,M1 p=none -> ∃I:Nat ->Fm W ->Mp ->Prop,dN (I 0 [] (um M1 p (.lst []))) (∀i ys M,i<=xs.length ->I i ys M ->keep M /\ M p=some (.lst ys) /\ ys.length<=i) (∀i x ys M,xs[i]? =some x ->I i ys M ->g x (iA own fr ρ) M λρ2 M2=>c ρ2 M2 λb M3=>if b=true then el ρ2 M3 (λy M4=>M4 p=some (.lst ys) /\ I (i+1) (ys++ [y]) (um M4 p (.lst (ys++ [y])))) (up e) else I (i+1) ys M3) (∀ys M,I xs.length ys M ->q (wr p) M)
def zo (e:WX)(it:WI)(own:Nat)(fr:Fm Nat)(g:WG)(c:WT)(el:ui)(i:Nat):WS:=λD ρ M=>it ρ M λxs keep M1=>AC xs keep own fr g c el e ρ M1 λx M2=>D.nx (ρ.set i (some x)) M2
instance {e:WX}{ti:TI}{own:Nat}{fr:Fm Nat}{g:TG}{tc:TT}{te:TR}{it:WI}{w:WG}{c:WT}{el:ui}{j:Nat} [ii:II K ti it] [ig:IG K g w] [ic:IT K tc c] [ie:Gq K te el]:IS K (zG (Ex K e) ti own fr g tc te j) (zo e it own fr w c el j) where
 imp :=λρ M σ H D' D o h jq=>ii.imp ρ M σ H _ _ o h λxs keep J M1 H1 h1 t1 m1 ok=>by
  intro p hp;let⟨hz,h1⟩:=h1;let⟨I,h0,hk,hs,hd⟩:=h1 p (m1.fresh hp);have tp:=L2.d0.ts (bM (o:= .lst []) hp);exact#[λi m vs H'=>m=xs.length - i /\ i<=xs.length /\ bU λys M'=>dW (I i ys M') (aQ H1 H') (dG K M' H') (bS K H' ys vs) (H' p=some (.lst vs)),#[_,rfl,Nat.zero_le _,[],_,h0,tp,m1.jm hp bS.nil,bS.nil,bV],?_];rintro i m vs H' ⟨rfl,hi,ys,M',hI,ts,m',rv,hv⟩;exact#[hv,?_];let⟨kp,O7,Oh⟩:=hk i ys M' hi hI;let⟨k1,k2,k3⟩:=ok i M' H' ts m' kp;by_cases fJ:i<xs.length;exact .inr #[k2 fJ,by rw[rv.length];lia,λv H2 y=> ?_];let⟨ty,my,x,hx,r⟩:=k3 v H2 fJ y;replace ts:=ts.trans ty;have oc:Ok K (iA own fr ρ) M' (iz own fr σ) H2:=#[(o.env.ts (t1.trans ts)).Dk own fr,my]
  exact ig.imp x v _ M' _ H2 _ _ oc r (hs i x ys M' hx hI) λρ3 M3 σ3 H3 h3 t3 o3=>ic.imp ρ3 M3 σ3 H3 _ _ o3 h3 λb M4 H4 h4 t4 m4=> ?_;cases b with
  | true=>
   simp![bH] at h4 ⊢;exact ie.imp ρ3 M4 σ3 H4 _ _ _ _ (o3.mv t4 m4) h4 (λz M5 u H5 ⟨h5,h6⟩ t5 m5 r5=> ?_) λC M5 Ha Hb ⟨M0,sm,he⟩ _ m5=>#[C,M0,rfl,he,m5.sub sm]
   let⟨xR,wg,vj⟩:=m5 p _ h5;have A8:=(t3.trans t4).trans t5;have t6:=gB (u:= .lst (xR++ [u])) wg;show#[xR,wg,by rw[vj.length];lia,_, ∅,rfl,fJ,_,_,h6,(ts.trans A8).trans t6,m5.putL wg (vj.snoc r5),(vj.snoc r5).ts t6,bV]
  | false=>simp![av,a8] at h4 ⊢;let⟨xR,wg,vj⟩:=m4 p _ (hk (i+1) ys M4 fJ h4).2.1;show#[xR,_, ∅,rfl,fJ,_,_,h4,ts.trans (t3.trans t4),m4,vj,wg]
  have e':i=xs.length:= ∅;subst e';show .inl #[k1 rfl,jq.nx _ M' _ H' (hd ys M' hI) (t1.trans ts) #[(o.env.ts (t1.trans ts)).set j WR.v,m']]
theorem xQ {e:WX}{it:WI}{own:Nat}{fr:Fm Nat}{g:WG}{c:WT}{el:ui}{i:Nat}{D:dk}{ρ:cA}{M:Mp}:zo e it own fr g c el i D ρ M=it ρ M λxs keep M1=>AC xs keep own fr g c el e ρ M1 λx M2=>D.nx (ρ.set i (some x)) M2:=rfl
def Jw {P:KY}{w:KZ}{mg:Str ->KO Fp}{base:K0}{x qual:Str}{st:Stmt}{f:KQ}{fd:FuncData}{N ps:Fm Str}{k:Nat}{p:i7}(F:pF K x qual st f fd)(S:dm N ps (aL st))(len: ∀vs M q e,p vs M q e ->vs.length=ps.length) (eB: ∀ (cdv:Fp) (A:K2) (outer:Fm Env) (s:JZ) (H:Hp) (E:XK) (e:WX),dD k (A.deeper (envOfC qual (aL st) s.heap.objs.size f cdv)) ->pG (dF (gq P w) P w K mg base N qual (aL st) f cdv A outer s H E) (Ex K e) ->gT (gq P w) (dF (gq P w) P w K mg base N qual (aL st) f cdv A outer s H E) (Ex K e) ->xc (dF (gq P w) P w K mg base N qual (aL st) f cdv A outer s H E) (Ex K e) ->∃ t,mE (dF (gq P w) P w K mg base N qual (aL st) f cdv A outer s H E) (dg st) t /\ ∃w',IS K t w' /\∀vs M q,p vs M q e ->w' {nx:=λ_ M'=> ∃M0,Sm M0 M' /\ q wn M0,rt:=λx M'=> ∃M0,Sm M0 M' /\ q x M0} (vs.map some++List.replicate (N.length - vs.length) none) M): c_ P w K mg base (gq P w) (k+1) f fd ps (Bc K p):=by
 exact pF.Mo F S (λvs H Q E ⟨xs,M,q,e,r,m,h,_⟩=>by rw[r.length];show len xs M q e h) λcdv A outer s H vs Q E hr h=> ?_;let⟨xs,M,q,e,r,m,h,k',kE⟩:=h;have hE: ∀c d H',Ex K e c d H' ->E c none H':=λc d H' ⟨C,M',ec,he,m'⟩=>by rw[ec];show kE C M' H' he m'
 have fm: ∀ {o H s ev s'},gq P w o H s (Ex K e) ev s' ->gq P w o H s E ev s':=λ{o H s ev s'} z=>by let⟨ea,cls,a0,B,H',r1,r2,r3,r4,r5,r6,r7,r8,r9,r⟩:=z;show#[ea,cls,a0,B,H',r1,r2,r3,r4,r5,r6,r7,r8,r9,hE _ _ _ r]
 let⟨t,h1,w',h2,h3⟩:=eB cdv A outer s H E e hr (λaa σ H1 s1 h' ea cls us I mk z=>oR aa σ H1 s1 h' ea cls us I mk (hE _ _ _ z)) (λaa σ H1 s1 ev s2 I z=>jX aa σ H1 s1 ev s2 I (fm z)) (λaa σ H3 s3 N' sc cl fp fc σ' H1 s1 ev s9 u Q dU I3 lh Ic fl=>Bu aa σ H3 s3 N' sc cl fp fc σ' H1 s1 ev s9 u Q dU I3 lh Ic (fm fl));exact#[t,h1,h2.imp _ M _ H _ _ #[#[?_,λi x e=> ?_],m] (h3 xs M q h) #[?_,?_,λ_ _ _ _ h=>h.elim,λ_ _ _ _ h=>h.elim]];have:=r.length;simp[L2.start,this];have hl:=r.length;unfold L2.start;by_cases hi:i<xs.length;rw[aI ⇑hi,aB] at e;cases ex:xs[i]? with
 | none=>rw[ex] at e;cases e
 | some y=>rw[ex] at e;cases e;let⟨v,hv,rv⟩:=r.at ex;exact#[v,?_,rv];rw[aI (by simp;lia),aB,hv];rfl
 rw[aG ⇑hi,cy] at e;split at e<;>cases e;rintro ρ' M' σ' H' ⟨M0,s,hq⟩ ts o;show k' _ M0 _ H' hq ts (o.hp.sub s) WR.v;rintro x M' v H' ⟨M0,s,hq⟩ ts m' r';show k' x M0 v H' hq ts (m'.sub s) r'
end
end WL
namespace EN
open PySem PySem.Spec PyProof.Rows L2 WL
section
variable {X:Cx}{aa:Fm (KQ×Obj)}{σ:L2.St}{H:Hp}{s:JZ}{h':K0}
def BY {fp:Fm KQ}{xs:Fm V}{t':Nat}(I:Inv X aa σ H s)(k: ∀b o,b∉fp ->s.heap.get? b=some o ->h'.get? b=some o)(fe: ∀b∈fp,fk X aa H b) (new:cV X.prog X.w (cU H s.heap.objs.size (.tup xs)) h' s.heap.objs.size (.tup xs)):Inv X aa σ (cU H s.heap.objs.size (.tup xs)) {s with heap:=h',toks:=t'}:=by
 have ww:H s.heap.objs.size=none:=I.cI.fresh (ag _);have ne: ∀ {b u},H b=some u ->b∉fp:=λ{b u} q z=>by rw[(fe b z).1] at q;cases q
 exact I.call (ch:=fp) (g':=s.gens) (d':=s.drawn) #[λb o q n _ hc=>k b o hc q,λb o q n _ hc=>#[o.slots,k b o hc q],λb o q n hc=> ?_,λb o q hc=>#[o,k b o hc q],λb ys q=> ?_,λb o u q=> ?_,λb ps q=>#[#[],?_]] ?_ I.bare ?_;rw[bP (aU (au q))];show n;rw[bP (cC q ww)];show q;rw[bP (cC q ww)];show q;rw[bP (cC q ww),q];simp;intro b u q;by_cases hb:b=s.heap.objs.size;subst hb;rw[bV] at q;cases q;show new;rw[bP hb] at q;exact(I.cI b u q).jL (λc v hc r=> ?_) (λc r=>by rw[bP (cC r ww)];show r) λc ys r=>by rw[bP (cC r ww)];show r
 obtain rfl | hc:=hc;show k _ v (ne q) r;show k _ v (ne hc) r;intro b hb;show#[(fe b hb).2.2.2.1,(fe b hb).2.1,(fe b hb).2.2.2.2.1,(fe b hb).2.2.2.2.2]
def yO {fp:Fm KQ}{t':Nat}(I:Inv X aa σ H s)(k: ∀b o,b∉fp ->s.heap.get? b=some o ->h'.get? b=some o)(fe: ∀b∈fp,fk X aa H b):Inv X aa σ H {s with heap:=h',toks:=t'}:=by
 have ne: ∀ {b u},H b=some u ->b∉fp:=λ{b u} q z=>by rw[(fe b z).1] at q;cases q
 exact I.call (ch:=fp) (g':=s.gens) (d':=s.drawn) #[λb o q n _ hc=>k b o hc q,λb o q n _ hc=>#[o.slots,k b o hc q],λb o q n hc=>n,λb o q hc=>#[o,k b o hc q],λb ys q=>q,λb o u q=>q,λb ps q=>#[#[],by rw[q];simp]] ?_ I.bare ?_;intro b u q;exact(I.cI b u q).jL (λc v hc r=> ?_) (λc r=>r) λc ys r=>r;obtain rfl | hc:=hc;show k _ v (ne q) r;show k _ v (ne hc) r;intro b hb;show#[(fe b hb).2.2.2.1,(fe b hb).2.1,(fe b hb).2.2.2.2.1,(fe b hb).2.2.2.2.2]
end
def xg (K:KW)(a b:KQ):It:=#[λi H=>i6 λxs ys x y=>dN (dw K H a xs) (dw K H b ys) (xs[i]? =some x) (ys[i]? =some y),λi H v H'=>fE λp x y=>dW (H p=none) (H'=cU H p (.tup [x,y])) (v= .ref p) (∀xs,dw K H a xs ->xs[i]? =some x) (∀ys,dw K H b ys ->ys[i]? =some y),λi H=>bU λxs ys=>cJ (dw K H a xs) (dw K H b ys) (xs.length<=i \/ ys.length<=i)]
def mF (n:KQ):Fm KQ:= [n+4,n+3,n+2,n,n+1]
def LG (n a b:KQ)(i:Nat)(h:K0):Prop:=dW (IsZip h (n+4) (n+2) (n+3) .none) (IsPair h (n+2) (.ref n) (.ref (n+1))) (bU λu v=>IsPair h (n+3) u v) (h.IsListIter n a i) (h.IsListIter (n+1) b i)
def uE {n a b:KQ}(ha:a∉mF n)(hb:b∉mF n):ZipApart (n+4) (n+2) (n+3) n (n+1) a b:=by simp![mF,az,List.not_mem_nil,or_false,not_or] at ha hb;have ad: ∀i j:Nat,i≠j ->n+i≠n+j:=λi j h z=>h (Nat.add_left_cancel z);show#[ad 2 4 ⋯,ad 3 4 ⋯,ad 0 4 ⋯,ad 1 4 ⋯,ad 2 3 ⋯,ad 2 0 ⋯,ad 2 1 ⋯,ad 3 0 ⋯,ad 3 1 ⋯,ad 0 1 ⋯,ha.1,ha.2.1,ha.2.2.2.1,ha.2.2.2.2,hb.1,hb.2.1,hb.2.2.2.1,hb.2.2.2.2]
theorem qL {n a b c:KQ}{i:Nat}{h:K0}{bq:KU Fp}(st:LG n a b i h)(hl:h.IsList c bq):c∉mF n:=λz=>by let⟨h1,h2,⟨u,v,h3⟩,⟨o4,h4,c4,_⟩,⟨o5,h5,c5,_⟩⟩:=st;let⟨o,ho,hc,_⟩:=hl;simp![mF,az,List.not_mem_nil,or_false] at z;obtain rfl | rfl | rfl | rfl | rfl:=z;cases ho.symm.trans h1;simp at hc;cases ho.symm.trans h3;simp at hc;cases ho.symm.trans h2;simp at hc;rw[ho] at h4;cases h4;rw[hc] at c4;simp at c4;rw[ho] at h5;cases h5;rw[hc] at c5;simp at c5
def uQ {P:KY}{w:KZ}{K:KW}{CB:Fm Expr}{x1}{pos:Pos}(n a b:KQ):pE P w K (.Tuple CB x1 pos) (xg K a b) (mF n) (n+4) (LG n a b) where
 mem:=by simp[mF]
 obj:=λi h st c hc=>by let⟨h1,h2,⟨u,v,h3⟩,⟨o4,h4,c4,d4⟩,⟨o5,h5,c5,d5⟩⟩:=st;simp![mF,az,List.not_mem_nil,or_false] at hc;obtain rfl | rfl | rfl | rfl | rfl:=hc;show#[_,h1,λv z=>nomatch z];show#[_,h3,λv z=>nomatch z];show#[_,h2,λv z=>nomatch z];show#[_,h4,λv z=>by rw[d4] at z;cases z];show#[_,h5,λv z=>by rw[d5] at z;cases z]
 keep:=λi h h' st k=>by let⟨h1,h2,⟨u,v,h3⟩,⟨o4,h4,r4⟩,⟨o5,h5,r5⟩⟩:=st;show#[k _ (by simp[mF]) _ h1,k _ (by simp[mF]) _ h2,#[u,v,k _ (by simp[mF]) _ h3],#[o4,k _ (by simp[mF]) _ h4,r4],#[o5,k _ (by simp[mF]) _ h5,r5]]
 item :=by
  intro X hP hw hK hc i aa s σ H E I hf st hg;subst hP hw hK;let⟨xs,ys,x,y,hq,C_,hx,hy⟩:=hg;let⟨bq,rv,p,hz⟩:=I.list hq;let⟨its',nQ,p',fw⟩:=I.list C_;have oa:=qL st p.isList;have ob:=qL st p'.isList;let⟨h1,h2,⟨u,v,h3⟩,h4,h5⟩:=st;let⟨ux,Op,rx⟩:=rv.get hx;let⟨uy,Oo,ry⟩:=nQ.get hy;have C9:n+4<s.heap.objs.size:=au h1;exact wpAny_pyNext_zip_item (x:=ux) (y:=uy) (uE oa ob) h1 h2 h3 h4 h5 p.isList p'.isList ⇑Op ⇑Oo λh' z1 z2 z3 z4 z5 z6 z7=> ?_;exact#[_,rfl,wpAny_letOwnedTupleGo_zip z1 λuB y1 y2=> ?_];have kk: ∀c o,c∉mF n ->s.heap.get? c=some o ->uB.get? c=some o:=λc o hc q=>by simp![mF,az,List.not_mem_nil,or_false,not_or] at hc;show y2.extBut c o hc.1 (z7 c o hc.1 hc.2.1 hc.2.2.2.1 hc.2.2.2.2 q)
  have nz:s.heap.objs.size≠n+4:=Nat.ne_of_gt C9;exact#[.ref s.heap.objs.size,cU H s.heap.objs.size (.tup [x,y]),BY (t':=s.toks) I kk hf #[by rw[sizeLine_eq];change 2<=16777216;decide,[ux,uy], .cons rx (.cons ry .nil),#[_,y2.extBut _ _ nz z5,rfl,_,rfl,rfl]],rfl,#[_,x,y,I.cI.fresh (ag _),rfl,rfl,λzs J1=>by rw[I.list_inj J1 hq];show hx,λzs J1=>by rw[I.list_inj J1 C_];show hy],?_,λc hc=> ?_];have ad: ∀j,j≠4 ->n+j≠n+4:=λj h z=>h (Nat.add_left_cancel z);have O_:h'.get? (n+2)=_:=z7 _ _ (ad 2 ⋯) (λz=>absurd (Nat.add_left_cancel z) ⋯) (λz=>absurd (Nat.add_left_cancel (k:=0) z) ⋯) (λz=>absurd (Nat.add_left_cancel z) ⋯) h2;let⟨o4,e4,r4⟩:=z3;let⟨o5,e5,r5⟩:=z4;show#[y1,y2.extBut _ _ (ad 2 ⋯) O_,#[_,_,y2.extBut _ _ (ad 3 ⋯) z2],#[o4,y2.extBut _ _ (ad 0 ⋯) e4,r4],#[o5,y2.extBut _ _ (ad 1 ⋯) e5,r5]];rw[bP (λz=> ?_)];show(hf c hc).1;let⟨o4,e4,_⟩:=h4;let⟨o5,e5,_⟩:=h5;simp![mF,az,List.not_mem_nil,or_false] at hc;obtain rfl | rfl | rfl | rfl | rfl:=hc;show nz z.symm;show absurd (au h3) (by rw[z];show bB _);show absurd (au h2) (by rw[z];show bB _);show absurd (au e4) (by rw[z];show bB _);show absurd (au e5) (by rw[z];show bB _)
 done:=by
   intro X hP hw hK hc i aa s σ H E I hf st hg;subst hP hw hK;let⟨xs,ys,hq,C_,hx⟩:=hg;let⟨bq,rv,p,hz⟩:=I.list hq;let⟨its',nQ,p',fw⟩:=I.list C_;have oa:=qL st p.isList;have ob:=qL st p'.isList;let⟨h1,h2,⟨u,v,h3⟩,h4,h5⟩:=st;have hl:=rv.length;have nR:=nQ.length;exact wpAny_pyNext_zip_end (I.ok.hd hc) (uE oa ob) h1 h2 h3 h4 h5 p.isList p'.isList (by simp;omega) λh' z7=>#[rfl,yO (t':=s.toks) I (λc o hc q=> ?_) hf]
   simp![mF,az,List.not_mem_nil,or_false,not_or] at hc;show z7 c o hc.1 hc.2.1 hc.2.2.2.1 hc.2.2.2.2 q
 self:=λ_ _ _ _ _ st h=>wpAny_pyIter_zip st.1 h
section
variable {X:Cx}{CB:Fm Expr}{x1:_}{Ec:Pos}
def Fq (K:KW)(tl:TA):TI:=λσ H R=>tl σ H λvs H1=>bU λa b=>dN (vs= [.ref a, .ref b]) (∃xs,dw K H1 a xs) (∃ys,dw K H1 b ys) (R (xg K a b) H1)
def Br {l l2:Expr}{tl:TA}{p pos:Pos}{tg:Expr}(et:tg= .Tuple CB x1 Ec)(hg:Gl X "zip")(hm:X.mg "zip" =none)(ha:PA X [l,l2] tl)(hs:starEach [l,l2] X.env= [(false,eval l X.env),(false,eval l2 X.env)]:=by rfl)(Ht:starEach [l2] X.env= [(false,eval l2 X.env)]:=by rfl):PI X tg (.Call (.Name "zip" p) [l,l2] [] pos) (Fq X.K tl):=by
 subst et;intro aa s σ H R I h;exact Call_ (kh I hg hm Boot.«zip» (PyProof.Rows.callWith_type1 (cR (ha pos aa s σ H _ I h) λus s1 ⟨vs,H1,I1,r1,q1⟩=> ?_) (by rw[hs,Ht]) (by rw[Ht];rfl)));let⟨a,b,e,⟨xs,hq⟩,⟨ys,C_⟩,q⟩:=q1;subst e;cases r1 with
 | cons r rr=>
  cases rr with
  | cons r' rr=>
   cases rr;cases r;cases r';let⟨bq,rv,ht,hz⟩:=I1.list hq;let⟨its',nQ,kU,fw⟩:=I1.list C_;exact call_zip_2 ht.isList kU.isList λh2 z1 z2 z3 z4 z5 hsz hk=> ?_;have I2:Inv X aa σ H1 {s1 with heap:=h2}:=I1.kept (t':=s1.toks) hk;exact wpAny_pyIter_zip z1 ?_;exact#[_,mF s1.heap.objs.size,_,_,H1,rfl,I2,uQ s1.heap.objs.size a b,#[z1,z2,#[_,_,z3],z4,z5],λc hc=> ?_,q];have FT:s1.heap.objs.size<=c:=by simp![mF,az,List.not_mem_nil,or_false] at hc;obtain rfl | rfl | rfl | rfl | rfl:=hc;show Nat.le_add_right _ _;show Nat.le_add_right _ _;show Nat.le_add_right _ _;show ag _;show Nat.le_add_right _ _
   show I1.wz FT (I1.cI.fresh FT)
end
section
variable {K:KW}
def jj (l r:Fm W):Fm W:=(l.zip r).map λz=> .tup [z.1,z.2]
def xJ {l r:Fm W}:(jj l r).length=min l.length r.length:=by unfold jj;rw[af,List.length_zip]
def AK {l r:Fm W}{i:Nat}{x y:W}(hx:l[i]? =some x)(hy:r[i]? =some y):(jj l r)[i]? =some (.tup [x,y]):=by unfold jj;rw[aB,(List.getElem?_zip_eq_some (z:=(x,y))).mpr #[hx,hy]];rfl
def v9 {H1:Hp}{p p':KQ}{l r:Fm W}: ∀i M H,aQ H1 H ->dG K M H ->(M p=some (.lst l) /\ M p'=some (.lst r)) ->((jj l r).length=i ->(xg K p p').stop i H) /\ (i< (jj l r).length ->(xg K p p').go i H) /\ ∀v H',i< (jj l r).length ->(xg K p p').CW i H v H' ->aQ H H' /\ dG K M H' /\ ∃x,(jj l r)[i]? =some x /\ WR K H' x v:=by rintro i M H ts m ⟨hk,lW⟩;let⟨vs,hv,rr⟩:=m p _ hk;let⟨sM,wj,ye⟩:=m p' _ lW;have hl:=rr.length;have nR:=ye.length;rw[xJ];exact#[λh=>#[vs,sM,dw.of hv,dw.of wj,by omega],λh=>#[vs,sM,vs[i]'(by omega),sM[i]'(by omega),dw.of hv,dw.of wj,by simp,by simp],λv H' hi y=> ?_];let⟨q,x,y',hq,rfl,rfl,y1,y2⟩:=y;let⟨d,hd,r1⟩:=rr.back (y1 vs (dw.of hv));let⟨d',wx,r2⟩:=ye.back (y2 sM (dw.of wj));have ts:=L2.d0.ts (bM (o:= .tup [x,y']) hq);show#[ts,m.new hq,_,AK hd wx,WR.E_ (gw.of bV) (bS.cons (r1.ts ts) (bS.cons (r2.ts ts) bS.nil))]
def Fh (a:WA):WI:=λρ M q=>a ρ M λxs M1=>i6 λp l p' r=>dN (xs= [wr p,wr p']) (M1 p=some (.lst l)) (M1 p'=some (.lst r)) (q (jj l r) (λM'=>M' p=some (.lst l) /\ M' p'=some (.lst r)) M1)
instance {t:TA}{a:WA} [ia:IA K t a]:II K (Fq K t) (Fh a) where
 imp:=λρ M σ H q R o h k=>ia.imp ρ M σ H _ _ o h λxs M1 v H1 ⟨p,l,p',r,e,hp,FA,h1⟩ t1 m1 r1=>by subst e;let⟨v,u,rfl,ra,rb⟩:=r1.two;cases ra.eq;cases rb.eq;let⟨vs,hv,rr⟩:=m1 p _ hp;let⟨sM,wj,ye⟩:=m1 p' _ FA;show#[p,p',rfl,#[vs,dw.of hv],#[sM,dw.of wj],k _ _ _ M1 H1 h1 t1 m1 v9]
end
end EN
namespace WQ
open PySem L2 WL WP PySem.W.KIN PySem.NumText PyProof.Rows
theorem Es (x:String):(Str.ofString x).cps.toList=x.toList.map Char.toNat:=signs_ofString x
def fB (m:Nat):AllDigits ((Nat.toDigits 10 m).map Char.toNat):=by intro c hc;let⟨ch,uA,e⟩:=bp.mp hc;rw[<- e];show digit_range (Nat.isDigit_of_mem_toDigits ⋯ ⋯ uA)
def pd (m:Nat):(Nat.toDigits 10 m).map Char.toNat≠ []:=by intro e;have h:=toDigits_len_ge 10 m;rw[List.map_eq_nil_iff.mp e] at h;show absurd h ⋯
def jO (m:Nat):(Str.ofString (toString (Int.negSucc m))).cps.toList=45::(Nat.toDigits 10 (m+1)).map Char.toNat:=by rw[Es];change(("-" ++Nat.repr (m+1):String)).toList.map Char.toNat=_;rw[String.toList_append,Nat.toList_repr];rfl
def e_ {n:Int}(hl:(Str.ofString (toString n)).length<=4300):PySem.intText? (Str.ofString (toString n))=some n:=by
 cases n with
 | ofNat m=>have e:=intText_digits (x:=Str.ofString (toString ((m:Nat):Int))) (by rw[signs_num];show fB m) (by rw[signs_num];show pd m) hl;rw[signs_num,val_back] at e;show e
 | negSucc m=>have e:=intText_neg (jO m) (fB _) (pd _) hl;rw[val_back] at e;show e
def yq (B:KQ):i7:=λxs M q e=> ∃x:Str,dW (xs= [ws x]) (x.length<=500) (x.cps.all (· <128)=true) (∀n:Int,x=Str.ofString (toString n) ->q (wi n) M) ((∀n:Int,x≠Str.ofString (toString n)) ->e B M)
theorem gE (x:Str)(l u:KO Int):Txt.slice x l u=StrLaws.sliceText x l u:=rfl
def iT:(Str.ofString "-").cps.toList= [45]:=by decide+kernel
def tF:(Str.ofString "-").length=1:=by decide+kernel
theorem bz (x:Str):x.cps.toList.length=x.length:=bJ
def n4 (x:Str):Txt.startswith x (Str.ofString "-")=true↔ ∃r,x.cps.toList=45::r:=by
 unfold Txt.startswith;rw[StrLaws.subAt_eq,iT,tF,Bool.and_eq_true,beq_iff_eq,List.drop_zero,decide_eq_true_eq];have hl:=bz x;cases e:x.cps.toList with
 | nil => rw[e] at hl;simp at hl;symm
          rintro⟨h,_⟩;omega
          rintro⟨r,h⟩;cases h
 | cons c r=>rw[e] at hl;simp at hl;symm;rintro⟨_,h⟩;have:c=45:= ⇑h;show#[r,by rw[this]];rintro⟨r',h⟩;cases h;show#[by omega,by simp]
def qZ {x:Str}{c:Nat}{r:Fm Nat}(h:x.cps.toList=c::r):(Txt.slice x (some 1) none).cps.toList=r:=by rw[gE,StrLaws.sliceText_from (by rw[h];simp;omega),h];simp
def sK:Str:=Str.ofString "0123456789"
def y_:sK.cps.toList= [48,49,50,51,52,53,54,55,56,57]:=by decide+kernel
def jw (c:Nat):lL ⟨#[c]⟩ sK=decide (48<=c /\ c<=57):=by unfold lL;rw[StrLaws.found_one,y_];apply Bool.eq_iff_iff.mpr;simp![decide_eq_true_eq,az,List.not_mem_nil,or_false];omega
theorem A5 {M:Mp}{f:Str}{k:Bool ->Prop}:Eb M (.v (.str f)) k=dZ (f.length<=sizeLine) (k ((f.length:Int) !=0)):=propext #[λ⟨_,⟨h1,h2⟩,z⟩=>by cases h2;show#[h1,z],λ⟨h1,z⟩=>#[_,#[h1,rfl],z]]
def Du (x f:Str):Prop:=x.cps.toList=45::f.cps.toList \/ (f=x /\ ∀r,x.cps.toList≠45::r)
def Du.num {x f:Str}{n:Int}(h:Du x f)(e:x=Str.ofString (toString n)):AllDigits f.cps.toList /\ f.cps.toList≠ []:=by
 cases n with
 | ofNat m=>
  have e':x.cps.toList=(Nat.toDigits 10 m).map Char.toNat:=by rw[e];show signs_num m
  obtain h | ⟨h,_⟩:=h;have:=fB m 45 (by rw[<- e',h];show a4 ..);omega;rw[h,e'];show#[fB m,pd m]
 | negSucc m=>
  have e':x.cps.toList=45::(Nat.toDigits 10 (m+1)).map Char.toNat:=by rw[e];show jO m
  obtain h | ⟨_,h⟩:=h;rw[e'] at h;have h2:=(cj h).2;rw[<- h2];show#[fB _,pd _];show absurd e' (h _)
theorem l7: ∀ (n:Nat) (cs:Fm Nat),cs.length=n ->AllDigits cs ->digitsVal cs<10 ^ n
 | 0,cs,h,_=>by rw[List.eq_nil_of_length_eq_zero h];decide
 | n +1,cs,h,hd=>by obtain e | ⟨l,c,e⟩:=List.eq_nil_or_concat cs;rw[e] at h;cases h;rw[List.concat_eq_append] at e;subst e;have hl:l.length=n:= ⇑h;have ih:=l7 n l hl λd wx=>hd d (List.mem_append_left _ wx);have hc:=hd c (aH _ (List.mem_singleton_self c));rw[digitsVal_snoc,Nat.pow_succ];omega
def qk {m n:Nat}(h:m<10 ^ n)(hn:n<=500):m.log2<1920:=by
 have h1:(10:Nat) ^ n<=10 ^ 500:=Nat.pow_le_pow_right ⋯ hn;have h2:(10:Nat) ^ 500<2 ^ 1920:=by decide+kernel
 by_cases h0:m=0;rw[h0];decide;show(Nat.log2_lt h0).mpr (by omega)
def Du.int {x f:Str}(h:Du x f)(hd:AllDigits f.cps.toList)(hn:f.cps.toList≠ [])(hl:x.length<=500): ∃v,PySem.intText? x=some v /\ v.natAbs.log2<1920:=by
 obtain h | ⟨rfl,_⟩:=h;exact#[_,intText_neg h hd hn (by omega),?_];rw[Int.natAbs_neg,Int.natAbs_natCast];have e:x.length=f.cps.toList.length+1:=by rw[<- bz,h];rfl
 show qk (l7 _ _ rfl hd) (by omega);exact#[_,intText_digits hd hn (by omega),?_];rw[Int.natAbs_natCast];show qk (l7 _ _ rfl hd) (by rw[bz];omega)
end WQ
namespace WQ
open PySem L2 WL WP PySem.W.KIN PySem.NumText PyProof.Rows Builtin.Str
def dY:Str.ofString "=" =⟨#[61]⟩:=by decide+kernel
theorem kO {x:Str}{c i:Nat}:StrLaws.At x ⟨#[c]⟩ x.length i↔x.cps.toList[i]? =some c:=StrLaws.subAt_one x c i
def vz (x:Str)(c:Nat):(∃a b:Str,cJ (x=a++⟨#[c]⟩++b) (c∉a.cps.toList) (Txt.partition x ⟨#[c]⟩=(a,⟨#[c]⟩,b))) \/ (c∉x.cps.toList /\ Txt.partition x ⟨#[c]⟩=(x,Str.empty,Str.empty)):=by
 have hs:=PySem.StrLaws.partition_sum x ⟨#[c]⟩;unfold Txt.partition at hs ⊢;rcases StrLaws.occ_head x ⟨#[c]⟩ 1 (ag 1) with⟨h0,hn⟩ | ⟨i,r,h0,hi,hn⟩
 rw[h0];exact .inr #[λhm=> ?_,rfl];let⟨i,hi⟩:=cL.mp hm;show hn i (kO.mpr hi);rw[h0] at hs ⊢;exact .inl #[_,_,hs.symm,λhm=> ?_,rfl];rw[StrLaws.strSub_toList,List.drop_zero] at hm;let⟨j,hj⟩:=cL.mp hm;rw[List.getElem?_take] at hj;split at hj;rename_i fJ;show hn j (by omega) (kO.mpr hj);cases hj
def cB (a b:Str):(a++b).cps.toList=a.cps.toList++b.cps.toList:=by rw[PySem.Str.cps_append,bg]
theorem cZ {a b:Str}(h:a.cps.toList=b.cps.toList):a=b:=PySem.Str.ext' (Array.ext' h)
theorem ix {c:Nat}: ∀ {a a' b b':Fm Nat},c∉a ->c∉a' ->a++c::b=a'++c::b' ->a=a' /\ b=b'
 | [],[],b,b',_,_,h=>#[rfl,(cj h).2]
 | [],y::a',b,b',_,h',h=>absurd (cj h).1 λe=>h' (by rw[<- e];show a4 ..)
 | y::a,[],b,b',h',_,h=>absurd (cj h).1 λe=>h' (by rw[e];show a4 ..)
 | y::a,z::a',b,b',h1,h2,h=>by let⟨e1,e2⟩:=cj h;let⟨e3,e4⟩:=ix (λhm=>h1 (aS _ hm)) (λhm=>h2 (aS _ hm)) e2;show#[by rw[e1,e3],e4]
def dA {n:Int}{c:Nat}(hc:c∈(Str.ofString (toString n)).cps.toList):c=45 \/ (48<=c /\ c<=57):=by
 cases n with
 | ofNat m=>show .inr (fB m c (by rw[<- signs_num m];show hc))
 | negSucc m=>rw[jO] at hc;obtain h | h:=az.mp hc;show .inl h;show .inr (fB _ c h)
end WQ
namespace WQ
open PySem L2 WL WP
def EX (B:KQ):i7:=λxs M q e=>bU λ(p:Int) (x:Str)=>dW (xs= [wi p,ws x]) (x.length<=500) (x.cps.all (· <128)=true) (∀a b:Int,x=Str.ofString (toString a)++Str.ofString "=" ++Str.ofString (toString b) ->1<=b ->b<p ->q (ci (a,b)) M) ((∀a b:Int,1<=b ->b<p ->x≠Str.ofString (toString a)++Str.ofString "=" ++Str.ofString (toString b)) ->e B M)
end WQ
namespace WQ
open PySem L2 WL WP PySem.W.KIN PySem.NumText PyProof.Rows
def hX {a b:Str}{m n:Int}(ha:61∉a.cps.toList)(h:a++⟨#[61]⟩++b=Str.ofString (toString m)++Str.ofString "=" ++Str.ofString (toString n)):a=Str.ofString (toString m) /\ b=Str.ofString (toString n):=by
 have e:=congrArg (λz:Str=>z.cps.toList) h;simp![cB,dY,a9] at e;have hm:61∉(Str.ofString (toString m)).cps.toList:=λz=>by have:=dA z;omega
 let⟨e1,e2⟩:=ix ha hm e;show#[cZ e1,cZ e2]
def vP {x:Str}{m n:Int}(h:x=Str.ofString (toString m)++Str.ofString "=" ++Str.ofString (toString n)):61∈x.cps.toList:=by rw[h,cB,cB,dY];simp
def gl (a b:Str):(a++b).length=a.length+b.length:=by rw[<- bz,cB,aN,bz,bz]
theorem vE {n:Int}:Str.empty≠Str.ofString (toString n):=λe=>by
 have:=congrArg (λz:Str=>z.cps.toList) e;cases n with
 | ofNat m=>show pd m (by rw[<- signs_num m];show this.symm)
 | negSucc m=>rw[jO] at this;cases this
end WQ
namespace WQ
open PySem L2 WL WP
def f_ (p:Int)(a:Pt):Prop:=(a.map (·.1)).Pairwise (· < ·) /\ ∀z∈a,1<=z.2 /\ z.2<p
def EW (B:KQ)(sh:Rd ->Str):i7:=λxs M q e=>bU λ(p:Int) (x:Str)=>dW (xs= [wi p,ws x]) (x.length<=500) (x.cps.all (· <128)=true) (∀r:Rd,f_ p r.2 ->x=sh r ->q (jc r) M) ((∀r:Rd,f_ p r.2 ->x≠sh r) ->e B M)
end WQ
namespace WQ
open PySem L2 WL WP PySem.W.KIN PySem.NumText PyProof.Rows Builtin.Str
def ed:Str.ofString " " =⟨#[32]⟩:=by decide+kernel
def d_:(Str.ofString ":").cps.toList= [58]:=by decide+kernel
def ue:(Str.ofString ":").length=1:=by decide+kernel
def o7 (x:Str):Txt.endswith x (Str.ofString ":")=true↔ ∃r,x.cps.toList=r++ [58]:=by
 unfold Txt.endswith;rw[StrLaws.subAt_eq,d_,ue,Bool.and_eq_true,beq_iff_eq,decide_eq_true_eq];have hl:=bz x;symm;rintro⟨h1,h2⟩;exact#[x.cps.toList.take (x.length - 1),?_];have e:=aV (x.length - 1) x.cps.toList;have:(List.drop (x.length - 1) x.cps.toList).length=1:=by rw[cx];omega
 rw[List.take_of_length_le (by omega)] at h2;rw[h2] at e;show e.symm;rintro⟨r,h⟩;rw[h,aN] at hl;have hr:x.length - 1=r.length:=by simp at hl;omega
 exact#[by simp at hl;omega,?_];rw[hr,h,List.drop_left];rfl
def fU (c:Nat)(a b:Str)(r:Fm Str):(Str.join ⟨#[c]⟩ (a::b::r)).cps.toList=a.cps.toList++c::(Str.join ⟨#[c]⟩ (b::r)).cps.toList:=by change(a++⟨#[c]⟩++Str.join ⟨#[c]⟩ (b::r)).cps.toList=_;rw[cB,cB];simp
theorem km {c:Nat}: ∀ {l l':Fm Str},l≠ [] ->l'≠ [] ->(∀p∈l,c∉p.cps.toList) ->(∀p∈l',c∉p.cps.toList) ->Str.join ⟨#[c]⟩ l=Str.join ⟨#[c]⟩ l' ->l=l'
 | [],_,h,_,_,_,_=>absurd rfl h
 | _,[],_,h,_,_,_=>absurd rfl h
 | [a],[a'],_,_,_,_,h=>by rw[show a=a' from h]
 | [a],a'::b'::r',_,_,h1,h2,h=>by have e:=congrArg (λz:Str=>z.cps.toList) h;simp![fU] at e;show absurd (show c∈a.cps.toList by rw[show a.cps.toList=_ from e];simp) (h1 a (a4 ..))
 | a::b::r,[a'],_,_,h1,h2,h=>by have e:=congrArg (λz:Str=>z.cps.toList) h;simp![fU] at e;show absurd (show c∈a'.cps.toList by rw[show a'.cps.toList=_ from e.symm];simp) (h2 a' (a4 ..))
 | a::b::r,a'::b'::r',_,_,h1,h2,h=>by have e:=congrArg (λz:Str=>z.cps.toList) h;simp![fU] at e;let⟨e1,e2⟩:=ix (h1 a (a4 ..)) (h2 a' (a4 ..)) e;rw[cZ e1,km (l:=b::r) (l':=b'::r') (by simp) (by simp) (λp hp=>h1 p (aS _ hp)) (λp hp=>h2 p (aS _ hp)) (cZ e2)]
theorem gY (x y:Str):Txt.split x y≠ []:=λe=>by have:=split_pos x y;rw[e] at this;cases this
def e9 (a:Rd):Txt.split (be a) (Str.ofString " ")=((toString a.1:Str)++ ":")::a.2.map bO:=by
 rw[ed];exact km (c:=32) (gY _ _) (by simp) (StrLaws.split_free _ 32) (λq hq=> ?_) ?_;have sg: ∀ {n:Int},(32:Nat)∉(Str.ofString (toString n)).cps.toList:=λz=>by have:=dA z;omega
 obtain rfl | hq:=az.mp hq;rw[cB];intro z;obtain z | z:=aR.mp z;show sg z;rw[d_] at z;simp at z;let⟨z,_,rfl⟩:=bp.mp hq;unfold bO;rw[cB,cB,dY];intro w;obtain w | w:=aR.mp w;obtain w | w:=aR.mp w;show sg w;simp at w;show sg w;rw[StrLaws.join_split, <- StrLaws.glued_eq_join,dO];change _=glued (Str.ofString " ") _;rw[ed]
def gZ {x e0:Str}{ls:Fm Str}{r:Rd}(hw:Txt.split x (Str.ofString " ")=e0::ls)(h:x=be r):e0=(toString r.1:Str)++ ":" /\ ls=r.2.map bO:=by rw[h,e9] at hw;show#[(cj hw).1.symm,(cj hw).2.symm]
theorem vM: ∀ {l:Fm Nat} {a:Nat},a∈l ->a<=l.sum
 | b::l,a,h=>by rw[List.sum_cons];obtain rfl | h:=az.mp h;omega;have:=vM h;omega
theorem iG {x e0:Str}{ls:Fm Str}(hw:Txt.split x (Str.ofString " ")=e0::ls): ∀p∈e0::ls,p.length<=x.length:=λp hp=>by
 have h:=PyProof.Rows.split_weight x (Str.ofString " ") (by decide+kernel);rw[hw] at h;have:p.length<=((e0::ls).map (·.length)).sum:=vM (bp.mpr #[p,hp,rfl]);have h2:1<=(e0::ls).length:=by simp
 omega
theorem lq {x e0:Str}{ls:Fm Str}(ha:cg x)(hw:Txt.split x (Str.ofString " ")=e0::ls): ∀p∈e0::ls,cg p:=λp hp=>by
 have hj:=StrLaws.join_split x (Str.ofString " ");rw[hw] at hj;rw[dM] at ha ⊢;intro c hc;apply ha;rw[<- hj,ed];clear hj hw;revert e0;induction ls with
 | nil=>intro e0 hp;rw[aY.mp hp] at hc;show hc
 | cons l ls ih=>intro e0 hp;rw[fU];obtain h | h:=az.mp hp;rw[<- h];show List.mem_append_left _ hc;show aH _ (aS _ (ih h))
end WQ
namespace EN
open PySem L2 WL
def JR (q:Fm W ->(Mp ->Prop) ->Mp ->Prop)(xs:Fm W)(M1:Mp):Prop:=i6 λp l p' r=>dN (xs= [wr p,wr p']) (M1 p=some (.lst l)) (M1 p'=some (.lst r)) (q (jj l r) (λM'=>M' p=some (.lst l) /\ M' p'=some (.lst r)) M1)
theorem JS {a:WA}{ρ:cA}{M:Mp}{q:Fm W ->(Mp ->Prop) ->Mp ->Prop}:Fh a ρ M q=a ρ M (JR q):=rfl
end EN
namespace WQ
open PySem L2 WL WP PySem.W.KIN PySem.NumText PyProof.Rows Builtin.Str
theorem jT: ∀zs:Pt,((zs.zip (zs.drop 1)).map λz=>decide (z.2.1<=z.1.1)).any id=false↔(zs.map (·.1)).Pairwise (· < ·)
 | []=>by simp
 | [z]=>by simp
 | a ::b::r=>by have ih:=jT (b::r);simp![List.drop_succ_cons,List.drop_zero,List.zip_cons_cons,aC,List.any_cons,id,Bool.or_eq_false_iff,decide_eq_false_iff_not,bE] at ih ⊢;rw[ih];symm;rintro⟨h1,h2,h3⟩;exact#[λc hc=> ?_,h2,h3];obtain rfl | hc:=az.mp hc;omega;have:=h2 c hc;omega;rintro⟨h1,h2,h3⟩;have:=h1 b.1 (a4 ..);show#[by omega,h2,h3]
def ng {m n:Int}(hl:(Str.ofString (toString m)).length<=4300)(h:Str.ofString (toString m)=Str.ofString (toString n)):m=n:=by have e1:=e_ hl;have e2:=e_ (n:=n) (by rw[<- h];show hl);rw[h,e2] at e1;show(aW e1).symm
def vO {z z':Int×Int}(hl:(bO z).length<=4300)(h:bO z=bO z'):z=z':=by
 unfold bO at h hl;have Cs:61∉(Str.ofString (toString z.1)).cps.toList:=λw=>by have:=dA w;omega
 rw[gl,gl] at hl;let⟨e1,e2⟩:=hX (m:=z'.1) (n:=z'.2) Cs (by rw[<- dY];show h);show Prod.ext (ng (by omega) e1) (ng (by omega) e2)
theorem iU: ∀ {l l':Pt},(∀z∈l,(bO z).length<=4300) ->l.map bO=l'.map bO ->l=l'
 | [],[],_,_=>rfl
 | [],_::_,_,h=>by cases h
 | _::_,[],_,h=>by cases h
 | a::l,b::l',hl,h=>by let⟨e1,e2⟩:=cj h;rw[vO (hl a (a4 ..)) e1,iU (λz hz=>hl z (aS _ hz)) e2]
def xX {x:Str}{r:Fm Nat}{c:Nat}(h:x.cps.toList=r++ [c]):(Txt.slice x none (some (-1))).cps.toList=r:=by
 have hl:=bz x;rw[h] at hl;simp at hl;rw[gE,StrLaws.sliceText_neg_hi x none ⋯ (by omega),StrLaws.sliceText_to (by rw[h];simp;omega),h];have:((-1+(x.length:Int)) - 0).toNat=r.length:=by omega
 simp![this,List.drop_zero];simp
def ku (len a b:Nat):strSliceIndices (some (a:Int)) (some (b:Int)) 1 len=strSliceIndices (some ((min a len:Nat):Int)) (some ((min b len:Nat):Int)) 1 len:=by
 have e: ∀a:Nat,max (0:Int) (min (a:Int) (len:Int))=max (0:Int) (min ((min a len:Nat):Int) (len:Int)):=λa=>by omega
 have n: ∀a:Nat,¬((a:Int) <0):=λa=>by omega
 have e1:=e a;have e2:=e b;simp![strSliceIndices,ar (n _)];rw[am ⋯,am ⋯,am ⋯,am ⋯,e1,e2]
def jN (x:Str){a b:Nat}(h:a<=b):(Txt.slice x (some (a:Int)) (some (b:Int))).cps.toList=(x.cps.toList.drop a).take (b - a):=by
 have e:Txt.slice x (some (a:Int)) (some (b:Int))=StrLaws.sliceText x (some ((min a x.length:Nat):Int)) (some ((min b x.length:Nat):Int)):=by rw[gE];unfold StrLaws.sliceText;rw[ku x.length a b]
 rw[e,StrLaws.sliceText_nat x (by omega) (by omega)];change((x.cps.toList.drop (min a x.length)).take (min b x.length - min a x.length))=_;have hl:=bz x;by_cases ha:a<=x.length;rw[Nat.min_eq_left ha];by_cases hb:b<=x.length;rw[Nat.min_eq_left hb];rw[Nat.min_eq_right (by omega),List.take_of_length_le (by rw[cx];omega),List.take_of_length_le (by rw[cx];omega)];rw[Nat.min_eq_right (by omega),List.drop_eq_nil_of_le (by omega),List.drop_eq_nil_of_le (by omega)];simp
def qY (x:Str)(b:Nat):(Txt.slice x none (some (b:Int))).cps.toList=x.cps.toList.take b:=by
 have e:Txt.slice x none (some (b:Int))=Txt.slice x (some ((0:Nat):Int)) (some (b:Int)):=by rw[gE,gE];unfold StrLaws.sliceText;rw[StrLaws.sliceIdx_none_lo];rfl
 rw[e,jN x (Nat.zero_le _)];rfl
def vc (x:Str)(a:Nat):(Txt.slice x (some (a:Int)) none).cps.toList=x.cps.toList.drop a:=by
 have hl:=bz x;have e:Txt.slice x (some (a:Int)) none=Txt.slice x (some (a:Int)) (some ((a+x.length:Nat):Int)):=by rw[gE,gE];unfold StrLaws.sliceText;rw[StrLaws.sliceIdx_none_hi,ku x.length a x.length,ku x.length a (a+x.length),Nat.min_self,Nat.min_eq_right (Nat.le_add_left ..)]
 rw[e,jN x (by omega),List.take_of_length_le (by rw[cx];omega)]
def sS (x:Str)(b:Nat):(Txt.slice x none (some (b:Int))).length<=b:=by rw[<- bz,qY,bi];omega
def sT (x:Str)(a:Nat):(Txt.slice x (some (a:Int)) none).length=x.length - a:=by rw[<- bz,vc,cx,bz]
def pX (x:Str){a b:Nat}(h:a<=b):(Txt.slice x (some (a:Int)) (some (b:Int))).length<=b - a:=by rw[<- bz,jN x h,bi];omega
def kz (x:Str)(c:Nat):(Txt.find x ⟨#[c]⟩= -1 /\ c∉x.cps.toList) \/ ∃a b:Fm Nat,cJ (x.cps.toList=a++c::b) (c∉a) (Txt.find x ⟨#[c]⟩=(a.length:Int)):=by
 rcases find_whole x ⟨#[c]⟩ with⟨h,hn⟩ | ⟨i,h,hi,hn⟩
 exact .inl #[h,λhm=> ?_];let⟨i,hi⟩:=cL.mp hm;show hn i (kO.mpr hi);have gu:=kO.mp hi;let⟨fJ,hg⟩:=aZ.mp gu;exact .inr #[x.cps.toList.take i,x.cps.toList.drop (i+1),?_,λhm=> ?_,?_];rw[<- hg, <- cG,aV];let⟨j,hj⟩:=cL.mp hm;rw[List.getElem?_take] at hj;split at hj;rename_i fJ;show hn j (by omega) (kO.mpr hj);cases hj;rw[h,bi,Nat.min_eq_left (by omega)]
def kF {m:Nat}{r:Fm Nat}(h:(Nat.toDigits 10 m).map Char.toNat=48::r):r= []:=by
 cases r with
 | nil=>rfl
 | cons c r=>
  have hd:=fB m;have hv:=val_back m;have hl:(Nat.toDigits 10 m).length=r.length+2:=by rw[<- af (f:=Char.toNat),h];rfl
  rw[h] at hd hv;have h2:digitsVal (c::r)=m:=by rw[<- hv];rfl
  have h3:=l7 _ (c::r) rfl λd wx=>hd d (aS _ wx);rw[h2] at h3;have h4:=(Nat.length_toDigits_le_iff (b:=10) (k:=(c::r).length) ⋯ (by simp)).mpr h3;simp at h4;omega
def nS:(Str.ofString "0").cps.toList= [48]:=by decide+kernel
def vK (x:Str):Txt.slice x none (some 1)=Str.ofString "-" ↔ ∃r,x.cps.toList=45::r:=by
 have h:(Txt.slice x none (some 1)).cps.toList=x.cps.toList.take 1:=qY x 1;symm;intro e;rw[e,iT] at h;cases e':x.cps.toList with
 | nil=>rw[e'] at h;cases h
 | cons c r=>rw[e'] at h;simp at h;show#[r,by rw[<- h]]
 rintro⟨r,e⟩;exact cZ ?_;rw[h,e,iT];rfl
noncomputable def df (x:Str):Str:=open Classical in if Txt.slice x none (some 1)=Str.ofString "-" then Txt.slice x (some 1) none else x
def kA (x:Str):Du x (df x):=by unfold df;split;rename_i h;let⟨r,hr⟩:=(vK x).mp h;show .inl (by rw[qZ hr];show hr);rename_i h;show .inr #[rfl,λr hr=>h ((vK x).mpr #[r,hr])]
noncomputable def cc (x:Str):Fm Int:=open Classical in if AllDigits (df x).cps.toList /\ (df x).cps.toList≠ [] /\ ((df x).cps.toList.head? =some 48 ->x=Str.ofString "0") then(PySem.intText? x).toList else []
def qm {n:Int}(hl:(Str.ofString (toString n)).length<=4300):cc (Str.ofString (toString n))= [n]:=by
 unfold cc;have hf:=kA (Str.ofString (toString n));let⟨h1,h2⟩:=hf.num rfl;have key:(df (Str.ofString (toString n))).cps.toList.head? =some 48 ->Str.ofString (toString n)=Str.ofString "0" :=by
  intro h3;let⟨r,hr⟩: ∃r,(df (Str.ofString (toString n))).cps.toList=48::r:=by
   cases e:(df (Str.ofString (toString n))).cps.toList with
   | nil=>show absurd e h2
   | cons c r=>rw[e] at h3;simp at h3;show#[r,by rw[h3]]
  cases n with
  | ofNat m=>have e':(Str.ofString (toString (Int.ofNat m))).cps.toList=(Nat.toDigits 10 m).map Char.toNat:=signs_num m;obtain h | ⟨h,_⟩:=hf;have:=fB m 45 (by rw[<- e',h];show a4 ..);omega;rw[h,e'] at hr;have h5:=kF hr;exact cZ ?_;rw[e',nS,hr,h5]
  | negSucc m=>
   have e':=jO m;obtain h | ⟨_,h⟩:=hf;rw[e'] at h;have h4:=(cj h).2;rw[hr] at h4;have h5:=kF h4;have h6:=val_back (m+1);rw[h4,h5] at h6;have:digitsVal [48]=0:=by decide+kernel
   omega;show absurd e' (h _)
 rw[am #[h1,h2,key],e_ hl];rfl
def hW (x:Str):(cc x).length<=1:=by unfold cc;split;cases PySem.intText? x<;>simp;simp
def ni {x:Str}(hl:x.length<=500){n:Int}(h:n∈cc x):n.natAbs<10 ^ 500:=by
 unfold cc at h;split at h;rename_i hc;obtain hf | ⟨hf,_⟩:=kA x;rw[intText_neg hf hc.1 hc.2.1 (by omega)] at h;simp at h;rw[h,Int.natAbs_neg,Int.natAbs_natCast];have e:x.length=(df x).cps.toList.length+1:=by rw[<- bz,hf];rfl
 show aF (l7 _ _ rfl hc.1) (Nat.pow_le_pow_right ⋯ (by omega));rw[hf] at hc;rw[intText_digits hc.1 hc.2.1 (by omega)] at h;simp at h;rw[h,Int.natAbs_natCast];show aF (l7 _ _ rfl hc.1) (Nat.pow_le_pow_right ⋯ (by rw[bz];omega));cases h
def fh {k:Nat}(hk:0<k){i:Int}(h:i.natAbs<10 ^ k):(Str.ofString (toString i)).length<=k+1:=by
 rw[u9];have hd: ∀n:Nat,n<10 ^ k ->(Nat.repr n).toList.length<=k:=λn hn=>by rw[Nat.repr_eq_ofList_toDigits,String.toList_ofList];show(Nat.length_toDigits_le_iff ⋯ hk).mpr hn
 cases i with
 | ofNat n=>change(Nat.repr n).toList.length<=k+1;have:=hd n h;lia
 | negSucc n=>
  change("-" ++Nat.repr (n+1)).toList.length<=k+1;rw[String.toList_append,aN];have:=hd (n+1) h;have e:("-" :String).toList.length=1:=⋯
  lia
theorem j7 {i:Int}(h:i.natAbs<10 ^ 500):i.natAbs.log2<1920:=qk h (ag _)
def sJ (k:Nat)(a:Rd):Prop:=a.1.natAbs<10 ^ k /\ ∀z∈a.2,z.1.natAbs<10 ^ k /\ z.2.natAbs<10 ^ k
def lN {k:Nat}(hk:0<k){z:Int×Int}(h:z.1.natAbs<10 ^ k /\ z.2.natAbs<10 ^ k):(bO z).length<=2*k+3:=by
 unfold bO;rw[cS,cS];have h1:=fh hk h.1;have h2:=fh hk h.2;have e:(Str.ofString "=").length=1:=by decide+kernel
 lia
def yp:jD:=λxs M q=> ∃ (a:Rd),dN (xs= [jc a]) (a.2.length<=1000) (sJ 500 a) (q (ws (be a)) M)
def zC (n:Int): ∃c r,(Str.ofString (toString n)).cps.toList=c::r:=by
 cases e:(Str.ofString (toString n)).cps.toList with
 | nil=>show absurd (cZ (a:=Str.empty) (b:=Str.ofString (toString n)) (by rw[e];rfl)) vE
 | cons c r=>show#[c,r,rfl]
def eU (r:Rd):(be r).cps.toList=(Str.ofString (toString r.1)).cps.toList++58::(r.2.map λz=>32::(bO z).cps.toList).flatten:=by rw[dO,d9,cB,d_,bh,a9];congr 3
theorem JD {n:Int}:(58:Nat)∉(Str.ofString (toString n)).cps.toList:=λz=>by have:=dA z;omega
theorem JC {n:Int}:(61:Nat)∉(Str.ofString (toString n)).cps.toList:=λz=>by have:=dA z;omega
def Bg {r:Rd}:Txt.slice (be r) none (some ((Str.ofString (toString r.1)).cps.toList.length:Int))=Str.ofString (toString r.1):=by exact cZ ?_;rw[qY,eU,List.take_left]
def Bd {r:Rd}{i j:Int}(hi:i=((Str.ofString (toString r.1)).cps.toList.length:Int)+1)(hj:j=((Str.ofString (toString r.1)).cps.toList.length:Int)+2):Txt.slice (be r) (some i) (some j)=Str.ofString "" \/ Txt.slice (be r) (some i) (some j)=Str.ofString " " :=by
 have gu:i=(((Str.ofString (toString r.1)).cps.toList.length+1:Nat):Int):=by omega
 have yX:j=(((Str.ofString (toString r.1)).cps.toList.length+2:Nat):Int):=by omega
 have h:=jN (be r) (a:=(Str.ofString (toString r.1)).cps.toList.length+1) (b:=(Str.ofString (toString r.1)).cps.toList.length+2) (by omega);rw[<- gu, <- yX,eU, <- List.drop_drop,List.drop_left,List.drop_succ_cons,List.drop_zero,show(Str.ofString (toString r.1)).cps.toList.length+2 - ((Str.ofString (toString r.1)).cps.toList.length+1)=1 by omega] at h;cases e:r.2 with
 | nil=>rw[e] at h;show .inl (cZ (by rw[h];rfl))
 | cons z l=>rw[e] at h;show .inr (cZ (by rw[h,ed];rfl))
def xZ {r:Rd}{c:Nat}(h:fL (be r).cps.toList (-1)=some c):c≠32:=by
 rintro rfl;have kw:(be r).cps.toList≠ []:=by rw[eU];simp
 let⟨l,y,e⟩: ∃l y,(be r).cps.toList=l++ [y]:=by obtain h0 | ⟨l,y,h0⟩:=List.eq_nil_or_concat (be r).cps.toList;show absurd h0 kw;show#[l,y,by rw[h0,List.concat_eq_append]]
 rw[e,pC List.getLast?_concat] at h;cases h;have e2:=e;rw[eU] at e2;obtain h0 | ⟨l',z,h0⟩:=List.eq_nil_or_concat r.2;rw[h0] at e2;have:=(List.append_inj' e2 rfl).2;cases this;rw [List.concat_eq_append] at h0;let⟨c,t,hc⟩: ∃t c,(Str.ofString (toString z.2)).cps.toList=t++ [c]:=by obtain h1 | ⟨l,y,h1⟩:=List.eq_nil_or_concat (Str.ofString (toString z.2)).cps.toList;let⟨c,t,hc⟩:=zC z.2;rw[hc] at h1;cases h1;show#[l,y,by rw[h1,List.concat_eq_append]]
 rw[h0,cn,List.flatten_append] at e2;have e3:(List.map (λz=>32::(bO z).cps.toList) [z]).flatten=32::((Str.ofString (toString z.1)).cps.toList++61::c)++ [t]:=by unfold bO;simp![aC,List.map_nil,List.flatten_cons,List.flatten_nil,List.append_nil];rw[cB,cB,hc,dY];simp
 rw[e3, <- List.cons_append, <- a9, <- a9] at e2;have:=(List.append_inj' e2 rfl).2;have ht:t∈(Str.ofString (toString z.2)).cps.toList:=by rw[hc];simp
 have:=dA ht;cases (List.append_inj' e2 rfl).2;omega
def fK (w:Str):KO (Str×Str):=if 0<Txt.find w (Str.ofString "=") then some (Txt.slice w none (some (Txt.find w (Str.ofString "="))),Txt.slice w (some (Txt.find w (Str.ofString "=")+1)) none) else none
def ub (z:Int×Int):fK (bO z)=some (Str.ofString (toString z.1),Str.ofString (toString z.2)):=by
 have hc:(bO z).cps.toList=(Str.ofString (toString z.1)).cps.toList++61::(Str.ofString (toString z.2)).cps.toList:=by unfold bO;rw[cB,cB,dY];simp
 have hf:Txt.find (bO z) (Str.ofString "=")=((Str.ofString (toString z.1)).cps.toList.length:Int):=by
  rw[dY];rcases kz (bO z) 61 with⟨_,h⟩ | ⟨a,b,h1,h2,h3⟩
  show absurd (by rw[hc];simp) h;rw[h3,(ix h2 JC (h1.symm.trans hc)).1]
 let⟨c,t,ht⟩:=zC z.1;have hp:0< (Str.ofString (toString z.1)).cps.toList.length:=by rw[ht];simp
 unfold fK;rw[hf,am (by omega)];congr 2;exact cZ ?_;rw[qY,hc,List.take_left];exact cZ ?_;have h:=vc (bO z) ((Str.ofString (toString z.1)).cps.toList.length+1);rw[hc, <- List.drop_drop,List.drop_left] at h;show h
def qA {w:Str}(h:w.cps.toList= []):fK w=none:=by
 unfold fK;rcases kz w 61 with⟨e,_⟩ | ⟨a,b,h1,_⟩
 rw[dY,e,ar ⋯];rw[h] at h1;simp at h1
def xY {r:Rd}{i:Int}(hi:i=((Str.ofString (toString r.1)).cps.toList.length:Int)+2):(Txt.split (Txt.slice (be r) (some i) none) (Str.ofString " ")).filterMap fK=r.2.map λz=>(Str.ofString (toString z.1),Str.ofString (toString z.2)):=by
 have gu:i=(((Str.ofString (toString r.1)).cps.toList.length+2:Nat):Int):=by omega
 have h:=vc (be r) ((Str.ofString (toString r.1)).cps.toList.length+2);rw[<- gu,eU, <- List.drop_drop,List.drop_left,List.drop_succ_cons] at h;rw[ed];have hj:=StrLaws.join_split (Txt.slice (be r) (some i) none) ⟨#[32]⟩;have hf:=StrLaws.split_free (Txt.slice (be r) (some i) none) 32;have hn:=gY (Txt.slice (be r) (some i) none) ⟨#[32]⟩;cases e:r.2 with
 | nil=>
  rw[e] at h;generalize Txt.split (Txt.slice (be r) (some i) none) ⟨#[32]⟩=L at hj hf hn;match L,hj,hn with
  | [],_,hn=>show absurd rfl hn
  | [a],hj,_=>rw[show a=_ from hj,List.filterMap_cons,qA h];rfl
  | a::b::l,hj,_=>have:=congrArg (λz:Str=>z.cps.toList) hj;simp![fU] at this;rw[h] at this;simp at this
 | cons z l=>
  have hw:Txt.split (Txt.slice (be r) (some i) none) ⟨#[32]⟩=(z::l).map bO:=by
   exact km (c:=32) hn (by simp) hf (λq hq=> ?_) ?_;let⟨z,_,rfl⟩:=bp.mp hq;have sg: ∀ {n:Int},(32:Nat)∉(Str.ofString (toString n)).cps.toList:=λz=>by have:=dA z;omega
   unfold bO;rw[cB,cB,dY];intro w;obtain w | w:=aR.mp w;obtain w | w:=aR.mp w;show sg w;simp at w;show sg w;rw[hj, <- StrLaws.glued_eq_join];exact cZ ?_;rw[h,e,show List.map bO (z::l)=bO z::List.map bO l from rfl,d9,bh,aC,List.flatten_cons];rfl
  rw[hw,List.filterMap_map];have:(fK ∘ bO)=λz:Int×Int=>some (Str.ofString (toString z.1),Str.ofString (toString z.2)):=by funext z;show ub z
  rw[this,List.filterMap_eq_map']
def vd (r:Rd):(Str.ofString (toString r.1)).length<=(be r).length:=by rw[<- bz, <- bz,eU,aN];omega
theorem rN {r:Rd}{z:Int×Int}(hz:z∈r.2):(bO z).length<=(be r).length:=iG (e9 r) _ (aS _ (bp.mpr #[z,hz,rfl]))
def Be {r r':Rd}(hl:(be r).length<=4000)(h:be r=be r'):r=r':=by have e:=e9 r;rw[h,e9] at e;let⟨e1,e2⟩:=cj e;have h1:=congrArg (λz:Str=>z.cps.toList) e1;simp![cB] at h1;have h2:=cZ (List.append_inj' h1 rfl).1;have hb:=vd r;exact Prod.ext (ng (by omega) h2.symm) (iU (λz hz=>by have:=rN hz;omega) e2.symm)
theorem qF (n:Int):cg (Str.ofString (toString n)):=dM.mpr λc hc=>by have:=dA hc;omega
theorem zg (z:Int×Int):cg (bO z):=Nm.app (Nm.app (qF _) (by decide+kernel)) (qF _)
end WQ
namespace WQ
open PySem L2 WL WP
def EY:jD:=λxs M q=> ∃x:Str,dN (xs= [ws x]) (x.length<=500) (x.cps.all (· <128)=true) (∀u,M u=none ->q (wr u) (um M u (.lst ((cc x).map wi))))
def Bz:jD:=λxs M q=>bU λ(p:Int) (x:Str)=>HR (xs= [wi p,ws x]) (2<=p) (0<x.length) (x.length<=500) (x.cps.all (· <128)=true) (∀r:Rd,f_ p r.2 ->x=be r -> ∀u,M u=none ->q (wr u) (um M u (.lst [jc r]))) ((∀r:Rd,f_ p r.2 ->x≠be r) -> ∀u,M u=none ->q (wr u) (um M u (.lst [])))
def EV:jD:=λxs M q=>bU λ(d l:KQ)=>cJ (xs= [wr d]) (Dr M d l) (∀ (s:Str) (M':Mp),s.length=1 ->cg s ->Dr M' d l ->NB d M M' ->q (ws s) M')
def yo:jD:=λxs M q=>fE λ(d l:KQ) (x:Str)=>dW (xs= [wr d,ws x]) (Dr M d l) (x.length<=450) (cg x) (∀ (y:Str) (M':Mp),y.length<=x.length+1 ->cg y ->Dr M' d l ->NB d M M' ->q (ws y) M')
def Bw:jD:=λxs M q=>fE λ(d l:KQ) (r:Rd)=>dW (xs= [wr d,ws (be r)]) (Dr M d l) (r.2.length<=6) (sJ 24 r) (∀ (y:Str) (M':Mp),y.length<=400 ->cg y ->Dr M' d l ->NB d M M' ->q (ws y) M')
def ES:jD:=λxs M q=>bU λ(p:Int) (x:Str)=>dW (xs= [wi p,ws x]) (x.length<=500) (x.cps.all (· <128)=true) (∀r:Rd,f_ p r.2 ->x=be r -> ∀u,M u=none ->q (wr u) (um M u (.lst [jc r]))) ((∀r:Rd,f_ p r.2 ->x≠be r) -> ∀u,M u=none ->q (wr u) (um M u (.lst [ws (Str.ofString "bad"),wb true,wb true,wb false])))
def kx {p:Int}{a:Pt}:f_ p a↔dB p a:=by unfold f_ dB;rw[List.pairwise_map];symm;rintro⟨h1,h2⟩;show#[λz hz=>by have:=h2 z hz;omega,h1];rintro⟨h1,h2⟩;show#[h2,λz hz=>by have:=h1 z hz;omega]
def y8 (x:Str):(df x).length<=x.length:=by unfold df;split;show Txt.slice_le x _ _;show ag _
def y9 {x:Str}(h:cg x):cg (df x):=by unfold df;split;show dS h;show h
def yD {x:Str}(h:¬(PySem.NumText.AllDigits (df x).cps.toList /\ (df x).cps.toList≠ [] /\ ((df x).cps.toList.head? =some 48 ->x=Str.ofString "0"))):cc x= []:=by unfold cc;rw[ar h]
def oE {x:Str}{v:Int}(h:PySem.NumText.AllDigits (df x).cps.toList /\ (df x).cps.toList≠ [] /\ ((df x).cps.toList.head? =some 48 ->x=Str.ofString "0"))(hv:PySem.intText? x=some v):cc x= [v]:=by unfold cc;rw[am h,hv];rfl
def Fc {x:Str}{j:Int}(h:0<=j):(Txt.slice x none (some j)).length<=j.toNat:=by let⟨b,rfl⟩:=Int.eq_ofNat_of_zero_le h;show sS x b
def vR {x:Str}{i:Int}(h:0<=i):(Txt.slice x (some i) none).length=x.length - i.toNat:=by let⟨b,rfl⟩:=Int.eq_ofNat_of_zero_le h;show sT x b
def vS {x:Str}{i j:Int}(h:0<=i)(h2:i<=j):(Txt.slice x (some i) (some j)).length<=(j - i).toNat:=by let⟨a,rfl⟩:=Int.eq_ofNat_of_zero_le h;let⟨b,rfl⟩:=Int.eq_ofNat_of_zero_le (Int.le_trans h h2);have:=pX x (a:=a) (b:=b) (by omega);omega
def rT {x:Str}{i j:Int}(h:0<=i)(h2:i<=j):(Txt.slice x (some i) (some j)).length<=x.length - i.toNat:=by let⟨a,rfl⟩:=Int.eq_ofNat_of_zero_le h;let⟨b,rfl⟩:=Int.eq_ofNat_of_zero_le (Int.le_trans h h2);rw[<- bz,jN x (by omega),bi,cx,bz];omega
def sC {M M2:Mp}{d l u:KQ}(hD:Dr M d l)(hu:M u=none)(D2:Dr M2 d l)(b: ∀a,a≠d ->a≠u ->M2 a=M a): ∃M0,cJ (Sm M0 M2) (Dr M0 d l) (NB d M M0):=by let⟨n1,n2⟩:=hD.ne hu;exact#[λa=>if a=u then none else M2 a,λa o e=> ?_,?_,λa h=> ?_];dsimp only at e;split at e;cases e;show e;let⟨ns,i,c,s,h1,h2,h3,h4⟩:=D2;show#[ns,i,c,s,by dsimp only;rw[ar (bY n1)];show h1,by dsimp only;rw[ar (bY n2)];show h2,h3,h4];dsimp only;split;rename_i e;rw[e];show hu.symm;rename_i e;show b a h e
def yA {M:Mp}{q:WK}{a b:Pt}(h:q (wb (!decide (a=b))) M):DJ (gG a) (gG b) M q:=by exact#[_,_, .inl (nC a), .inl (nC b),rfl,?_,by rw[ze];show h];unfold mZ;rw[nB];have:=gQ a;lia
theorem gD {M M1:Mp}{u:KQ}{o:MO}(s:Sm M M1):Sm (um M u o) (um M1 u o):=λb x e=>by by_cases h:b=u;subst h;rw[aM] at e ⊢;show e;rw[cO h] at e ⊢;show s _ _ e
abbrev Zs:=Fm ((KQ×Str)×KQ×Str)
def AJ (z:(KQ×Str)×KQ×Str):W:= .tup [wr z.1.1,wr z.2.1]
noncomputable def pL (z:(KQ×Str)×KQ×Str):Int×Int:=((cc z.1.2).headD 0,(cc z.2.2).headD 0)
structure LP (M M':Mp)(ap:Addr)(zs:Zs):Prop where
 Dm:M' ap=some (.lst (zs.map AJ))
 sm:Sm M M'
 HN: ∀z∈zs,pD (M' z.1.1=some (.lst ((cc z.1.2).map wi))) (M' z.2.1=some (.lst ((cc z.2.2).map wi))) (z.1.1≠ap) (z.2.1≠ap) (z.1.2.length<=500) (z.2.2.length<=500)
def LP.step {M M':Mp}{ap v w:KQ}{zs:Zs}{s t:Str}(h:LP M M' ap zs)(hM:M ap=none)(hv:M' v=none)(hw:um M' v (.lst ((cc s).map wi)) w=none)(hs:s.length<=500)(ht:t.length<=500):LP M (um (um (um M' v (.lst ((cc s).map wi))) w (.lst ((cc t).map wi))) ap (.lst (zs.map AJ++ [.tup [wr v,wr w]]))) ap (zs++ [((v,s),w,t)]):=by have s1:Sm M' (um (um M' v (.lst ((cc s).map wi))) w (.lst ((cc t).map wi))):=(bv hv).trans (bv hw);have nv:v≠ap:=(gK h.Dm hv).symm;have nw:w≠ap:=(gK (bv hv _ _ h.Dm) hw).symm;exact#[by rw[aM,cn];rfl,(h.sm.trans s1).um hM,λz hz=> ?_];obtain hz | hz:=aR.mp hz;let⟨h1,h2,h3,h4,h5,h6⟩:=h.HN z hz;show#[by rw[cO h3];show s1 _ _ h1,by rw[cO h4];show s1 _ _ h2,h3,h4,h5,h6];rw[aY.mp hz];show#[by rw[cO nv];show bv hw _ _ aM,by rw[cO nw,aM],nv,nw,hs,ht]
def m9 {x:Str}(h:(cc x).length=1):cc x= [(cc x).headD 0]:=by
 cases e:cc x with
 | nil=>rw[e] at h;cases h
 | cons a l=>
  rw[e] at h;cases l with
  | nil=>rfl
  | cons b l=>simp at h
def yR (s a b:Str):Fn (.str s) [.str a, .str b]=decide (s=a \/ s=b):=by
 change(uC (.str a) (.str s) || (uC (.str b) (.str s) || false))=_;have e: ∀y:Str,uC (.str y) (.str s)=true↔s=y:=λy=>by simp[uC];show eq_comm
 rw[Bool.or_false,Bool.eq_iff_iff,Bool.or_eq_true,decide_eq_true_eq,e,e]
def yf {zs:Zs}{r:Rd}(hl:(be r).length<=500)(h:zs.map (λz=>(z.1.2,z.2.2))=r.2.map λz=>(Str.ofString (toString z.1),Str.ofString (toString z.2))):(∀z∈zs,(cc z.1.2).length=1 /\ (cc z.2.2).length=1) /\ zs.map pL=r.2:=by
 have hb: ∀z∈r.2,cc (Str.ofString (toString z.1))= [z.1] /\ cc (Str.ofString (toString z.2))= [z.2]:=λz hz=>by
  have h1:=rN hz;unfold bO at h1;rw[gl,gl] at h1;have e1:(Str.ofString (toString z.1)).length<=500:=by change((toString z.1:Str)).length<=500;omega
  have e2:(Str.ofString (toString z.2)).length<=500:=by change((toString z.2:Str)).length<=500;omega
  show#[qm (by omega),qm (by omega)]
 symm;intro z hz;have hm:(z.1.2,z.2.2)∈zs.map λz=>(z.1.2,z.2.2):=bp.mpr #[z,hz,rfl];rw[h] at hm;let⟨y,hy,e⟩:=bp.mp hm;let⟨b1,b2⟩:=hb y hy;rw[<- (Prod.mk.inj e).1, <- (Prod.mk.inj e).2,b1,b2];show#[rfl,rfl];have e:zs.map pL=(zs.map (λz=>(z.1.2,z.2.2))).map λs=>((cc s.1).headD 0,(cc s.2).headD 0):=by rw[bh];rfl
 rw[e,h,bh];have: ∀z∈r.2,((λs:Str×Str=>((cc s.1).headD 0,(cc s.2).headD 0)) ∘ λz:Int×Int=>(Str.ofString (toString z.1),Str.ofString (toString z.2))) z=id z:=λz hz=>by let⟨b1,b2⟩:=hb z hz;change((cc (Str.ofString (toString z.1))).headD 0,(cc (Str.ofString (toString z.2))).headD 0)=z;rw[b1,b2];rfl
 rw[List.map_congr_left this,List.map_id]
end WQ
set_option synthInstance.maxSize 100000
set_option synthInstance.maxHeartbeats 0
open PySem L2 WL WP WQ EN PyProof.Rows
local macro_rules | `(tactic| simp? [$xs,*]) => do let a <- ("JK Li Js Lm JV JW MD Jn Jd JO Ik Ij Ii Ih Ig Ib Ia H_ H0 HZ GJ GI GH GG GF GD GC GB GA Gz Gy Gx Gw Gv NU LR LI NT LX NR L4 LU LZ LS GK IP LQ Iu GZ GP LV DT Iv GW Il Iw ID Iz CZ JX GO LK Iq L5 GY Iy Ix IV C0 AR IF L6 C2 C1 DA GU GV DS G6 G7 Jj Mh Jl Ev Jk xS IY G1 IW IX GN Hl JT Ju Hk GX HY G0 GL Jg IL Im IK IJ Io Ir xQ EN.JS JU IB Ip IH CY GR DU DF".splitOn " ").toArray.mapM λs => `(Lean.Parser.Tactic.simpLemma| ↓ $(Lean.mkIdent s.toName):term); let b <- ("Ae yJ Ad xA yI yL xC yK vY xB Ac yF Ab xx yE tM rW tL qt rV xw vW xv uz vV yH xz yG vX xy Rj zO Ri Rh Rk List.map_cons List.map_nil List.length_cons List.length_nil Nat.zero_add List.cons_append List.nil_append List.set_cons_zero List.set_cons_succ aM uO Gc NC NA Nz MB MA Mz Bool.not_true Bool.not_false List.getElem?_cons_zero List.getElem?_cons_succ Option.join_some and_self and_true true_and Option.getD_some Option.getD_none G2 iA".splitOn " ").toArray.mapM λs => `(Lean.Parser.Tactic.simpLemma| $(Lean.mkIdent s.toName):term); `(tactic| try simp only [$a,*, $b,*, Nat.reduceAdd, Nat.reduceSub, List.reduceReplicate, $xs,*])
local macro_rules | `(tactic| dsimp? [$xs,*]) => `(tactic| (simp? [↓bQ, $xs,*]; repeat (with_reducible refine dv ?_; simp? [↓bQ, $xs,*])))
local macro_rules | `(tactic| trivial) => `(tactic| first | exact Or.inl rfl | exact Or.inr rfl)
local macro_rules | `(tactic| right) => `(tactic| decide +kernel)
local macro_rules | `(tactic| left) => `(tactic| (intro _ _ _ h; (repeat (cases h; rename_i h)); subst_vars; rfl))
set_option hygiene false
local macro_rules | `(tactic| exists $a, $n, $c) => `(tactic| (have nd : List.Nodup ($n : List Str) := (by decide +kernel); refine Oc (N := $n) $a ⟨rfl, rfl, rfl, nd, rfl, by decide +kernel, by decide +kernel⟩ (by left) λcdv A' outer s H E hr => ?_; refine ⟨_, $c, ?_⟩; (try dsimp only [dF]); refine ⟨_, inferInstance, ?_⟩))
set_option hygiene true
set_option hygiene false
local macro_rules | `($a ∩ $b) => `(b7 (show Ds _ (Bo K) from cH) $a $b (λ_ _ => rfl))
local macro_rules | `($a ∪ $b) => `(b7 (show Ds _ (Bn K) from de) $a $b (λ_ _ => rfl))
local macro_rules | `($i \ $e) => `(Bq (i := $i) nd rfl (by trivial) $e)
set_option hygiene true
namespace iF
open PySem L2 WL WP WQ EN PyProof.Rows
nonrec def top (i:Nat):Stmt:=PySem.Challenge.pw_duskround_k51_rounds_read.main.body.getD i (.Pass #[0,0,0,0])
nonrec abbrev g0:Stmt:=top 6
nonrec abbrev pY:Stmt:=top 7
nonrec abbrev iJ:Stmt:=top 8
nonrec abbrev iM:Stmt:=top 10
nonrec abbrev n9:Stmt:=top 11
nonrec abbrev n6:Stmt:=top 12
nonrec abbrev zP:Stmt:=top 13
nonrec abbrev jQ:Stmt:=top 14
nonrec abbrev ja:Stmt:=top 15
nonrec abbrev lE:Stmt:=top 16
nonrec abbrev iL:Stmt:=top 17
nonrec abbrev iK:Stmt:=top 18
nonrec abbrev gF:Stmt:=top 19
nonrec abbrev eL:Stmt:=top 20
nonrec abbrev n_:Stmt:=top 21
nonrec abbrev jR:Stmt:=top 22
nonrec abbrev rf:Stmt:=top 23
nonrec abbrev fO:Stmt:=top 24
nonrec abbrev g_:Stmt:=top 25
nonrec abbrev lD:Stmt:=top 26
nonrec abbrev n8:Stmt:=top 27
nonrec abbrev vh:Stmt:=top 28
set_option genInjectivity false in
set_option genSizeOf false in
structure LF where
 oS:Addr
 pe:FuncData
 wD:Addr
 wO:FuncData
 wB:Addr
 wN:FuncData
 l6:Addr
 me:FuncData
 oX:Addr
 pk:FuncData
 oU:Addr
 pf:FuncData
 Aw:Addr
 AA:FuncData
 oW:Addr
 pj:FuncData
 jg:Addr
 ji:FuncData
 l4:Addr
 l_:FuncData
 l5:Addr
 md:FuncData
 l3:Addr
 l9:FuncData
 kC:Addr
 kH:FuncData
 jf:Addr
 jh:FuncData
 oY:Addr
 pq:FuncData
 kB:Addr
 kG:FuncData
 sr:Addr
 sB:FuncData
 fZ:Addr
 f9:FuncData
 ip:Addr
 iu:FuncData
 l0:Addr
 l8:FuncData
 oV:Addr
 pi:FuncData
 Av:Addr
 Az:FuncData
 dc:Addr
 kN:Addr
 eY:Addr
structure kQ (K:PySem.W.Frag)(mg:Str ->Option Value)(A:LF):Prop where
 nJ:mg "ValueError" =none
 AG:mg "abs" =none
 AF:mg "all" =none
 AE:mg "any" =none
 CK:mg "bool" =none
 wZ:mg "int" =none
 c0:mg "isinstance" =none
 eE:mg "len" =none
 wY:mg "list" =none
 nI:mg "range" =none
 wX:mg "sorted" =none
 sH:mg "str" =none
 fD:mg "tuple" =none
 Gb:mg "zip" =none
 number:i_ K mg "number" ["text"] g0 A.oS A.pe
 lamp:i_ K mg "lamp" ["p","text"] pY A.wD A.wO
 read:i_ K mg "read" ["p","text"] iJ A.wB A.wN
 rS:i_ K mg "_law_begin" ["_law_script"] iM A.l6 A.me
 cN:i_ K mg "_law_take" ["_law_draw","_law_many"] n9 A.oX A.pk
 qo:i_ K mg "_law_wide" ["_law_draw"] n6 A.oU A.pf
 My:i_ K mg "_law_p" ["_law_draw"] zP A.Aw A.AA
 qp:i_ K mg "_law_tidy" ["_law_p_here","_law_pairs"] jQ A.oW A.pj
 lP:i_ K mg "_law_pattern" ["_law_draw","_law_p_here","_law_most","_law_far"] ja A.jg A.ji
 rP:i_ K mg "_law_round" ["_law_draw","_law_p_here","_law_end","_law_most","_law_far"] lE A.l4 A.l_
 rQ:i_ K mg "_law_moved" ["_law_pattern_here","_law_by"] iL A.l5 A.md
 nj:i_ K mg "_law_shown" ["_law_one"] iK A.l3 A.l9
 hZ:i_ K mg "_law_number" ["_law_word"] gF A.kC A.kH
 lO:i_ K mg "_law_reading" ["_law_p_here","_law_text"] eL A.jf A.jh
 qq:i_ K mg "_law_sign" ["_law_draw"] n_ A.oY A.pq
 oF:i_ K mg "_law_spoilt" ["_law_draw","_law_text"] jR A.kB A.kG
 rR:i_ K mg "_law_int" ["_law_thing"] rf A.sr A.sB
 h_:i_ K mg "_law_is_pattern" ["_law_p_here","_law_thing"] fO A.fZ A.f9
 ki:i_ K mg "_law_is_round" ["_law_p_here","_law_thing"] g_ A.ip A.iu
 rO:i_ K mg "_law_words" ["_law_draw","_law_text"] lD A.l0 A.l8
 vQ:i_ K mg "_law_told" ["_law_p_here","_law_text"] n8 A.oV A.pi
 law:i_ K mg "law" ["_law_script"] vh A.Av A.Az
 sN: ∃t,mg "FIGURES" =some (.str "0123456789" t)
 C7:mg "BadText" =some (.ref A.dc)
 vJ:mg "NoDeed" =some (.ref A.kN)
 k_:mg "StreetError" =some (.ref A.eY)
 dt:qJ K "BadText" A.dc
 iV:PySem.W.kitOne K (.ref A.dc) (.ref A.kN)=some false
 fI:PySem.W.kitOne K (.ref A.dc) (.ref A.eY)=some true
 fX:PySem.W.kitOne K (.ref A.dc) (.type "ValueError")=some true
theorem lC:dm ["text","figures","found"] ["text"] (aL g0):=#[rfl,rfl,rfl,by right,rfl,by right,by right]
theorem re:dm ["p","text","place","equals","setting","pair"] ["p","text"] (aL pY):=#[rfl,rfl,rfl,by right,rfl,by right,by right]
theorem q_:dm ["p","text","end","lamps","pattern","places"] ["p","text"] (aL iJ):=#[rfl,rfl,rfl,by right,rfl,by right,by right]
theorem jP:dm ["_law_script"] ["_law_script"] (aL iM):=#[rfl,rfl,rfl,by right,rfl,by right,by right]
theorem vg:dm ["_law_script","_law_draw","_law_p_here","_law_one","_law_text","_law_k","_law_due","_law_told_here"] ["_law_script"] (aL vh):=#[rfl,rfl,rfl,by right,rfl,by right,by right]
section
variable {P:KY}{w:KZ}{K:KW}{mg:Str ->KO Fp}{base:K0}{A:LF}
def iR (T:kQ K mg A):c_ P w K mg base (gq P w) 1 A.oS A.pe ["text"] (Bc K (yq A.dc)):=by
 exact Mn T.number.fn lC (by rintro vs M q e ⟨x,rfl,_⟩;rfl) λcdv A' outer s H E e hr hF hP=> ?_;have nd:=lC.nd;exact#[_,(ax (1\(vw (eo (fg bt PySem.F.slot_str_startswith PySem.F.type_str_startswith k9 (pv 0) (ae cb aq))) (bN da (pv 0) (bZ ao) cM) (pv 0))) (ax (cP (fP (eu (sY (pv 1))) (fq (eo (bn (mj rfl) (by rfl) T.AE Boot.«any» (ae (eM rfl (dh.of (sc:=aL g0) (N:= ["text","figures","found"]) (own:= ["sign"]) (fr:= []) (N':= ["sign"])) (vv (pv 1)) (λ_ _ _ _=>(bL (i:=0) (by change(["sign"]:Fm Str).Nodup;decide+kernel) rfl (by trivial))) gi (λ_ _ _ _=>d6) (λ_ _ _ _=>(fu s_ (pv 0) (mW (by rfl) T.sN.choose_spec (show RelV (.str "0123456789") _ from#[_,rfl])) (by rfl)))) aq))))).pt (aJ (fb hF rfl (by rfl) T.dt (ae cb aq))) bw) (ax (2\(cX mh (by rfl) T.wZ Boot.«int» (ae (pv 0) aq))) (ax (cP (br lG (cX gj (by rfl) T.sH Boot.«str» (ae (pv 2) aq)) (pv 0) (bA _)) (aJ (fb hF rfl (by rfl) T.dt (ae cb aq))) bw) (aJ (bx (pv 2))))))),?_];try dsimp only[dF]
 exact#[_,inferInstance,?_];rintro vs M q ⟨x,rfl,hl,ha,kq,ke⟩;have hz:x.length<=sizeLine:=a7 (by omega);have fw:(x.length<=sizeLine)=True:=eq_true hz;have key: ∀f:Str,Du x f ->f.length<=x.length ->f.cps.all (· <128)=true ->wq (pZ (C5 (Is (AT (pO (dq 1))) (nV (DV DX (jG (uK (yM (dq 1)) 1 [] (qS 0) AO (AS mI (dq 0) (wC (W.v (V.str (Str.ofString "0123456789")))))) pQ)))) (mH A.dc e (jG (wC (W.v (V.str (Str.ofString "a number has figures alone, and perhaps a minus ahead")))) pQ)) rg) (pZ (Bj (DV zw (jG (dq 0) pQ)) (qS 2)) (pZ (C5 (nV (AS GQ (DV uH (jG (dq 2) pQ)) (dq 0))) (mH A.dc e (jG (wC (W.v (V.str (Str.ofString "a number has no needless signs")))) pQ)) rg) (Bi (dq 2)))) {nx:=λx M'=> ∃M0,Sm M0 M' /\ q wn M0,rt:=λx M'=> ∃M0,Sm M0 M' /\ q x M0}) [some (ws x),some (ws f),none] M:=by
  intro f hf FM FN;exact dv ?_;have Ah:(f.length<=sizeLine)=True:=eq_true (aD FM hz);dsimp? [A5,Ah];by_cases h0:f.length=0;have e0:((f.length:Int) !=0)=false:=by rw[h0];rfl
  dsimp? [e0,bT];show#[M,Sm.refl M,ke λn e=>(hf.num e).2 (List.eq_nil_of_length_eq_zero ((bz f).trans h0))];have e0:((f.length:Int) !=0)=true:= ⇑h0;dsimp? [e0,bI,FN];exact eD (λc=>wb (!lL c sK)) (by unfold lB;rw[af,bz];show aD FM hz) (λ_ _=>trivial) ?_ λu hu=> ?_;intro c hc M3 N3 s3 lX;dsimp? [];show lX;exact#[u,(lB f).map λc=> !lL c sK,rfl,by rw[aM,bh];rfl,?_];have xE:Sm M (um M u (.lst ((lB f).map λc=>wb (!lL c sK)))):=bv hu;by_cases hd:PySem.NumText.AllDigits f.cps.toList;have e3:((lB f).map λc=> !lL c sK).any id=false:=by rw[List.any_map,List.any_eq_false];intro c hc;unfold lB at hc;let⟨d,wx,rfl⟩:=bp.mp hc;simp[jw,hd d wx]
  rw[e3];let⟨v,hv,FG⟩:=hf.int hd (λz=>h0 (by rw[<- bz,z];rfl)) hl;dsimp? [];exact#[x,v,rfl,hv,by omega,?_];dsimp? [];exact#[FG,?_];by_cases hx:Str.ofString (toString v)=x;have ex:decide (Str.ofString (toString v)=x)=true:=bo hx;dsimp? [ex,bI];show#[M,xE,kq v hx.symm];have ex:decide (Str.ofString (toString v)=x)=false:=aK hx;dsimp? [ex,bT];exact#[M,xE,ke λn en=>hx ?_];have h1:=e_ (n:=n) (by rw[<- en];omega);rw[<- en,hv] at h1;rw[aW h1,en];have e3:((lB f).map λc=> !lL c sK).any id=true:=by have⟨c,hc,hn⟩: ∃c∈f.cps.toList,¬(48<=c /\ c<=57):=Classical.byContradiction λz=>hd λc hc=>Classical.byContradiction λhn=>z #[c,hc,hn];rw[List.any_map,List.any_eq_true];exact#[⟨#[c]⟩,?_,?_];unfold lB;show bp.mpr #[c,hc,rfl];change(!lL _ sK)=true;rw[jw,aK hn];rfl
  rw[e3];dsimp? [];show#[M,xE,ke λn e=>hd (hf.num e).1]
 have has:=(show cg x from ha)
 by_cases hm:Txt.startswith x (Str.ofString "-")=true;let⟨r,jy⟩:=(n4 x).mp hm;simp? [↓bQ,hm,fw];exact key _ (.inl (by rw[qZ jy];show jy)) (Txt.slice_le x _ _) (dS has);have OM:Txt.startswith x (Str.ofString "-")=false:=by simpa using hm
 simp? [↓bQ,OM];exact key _ (.inr #[rfl,λr jy=>hm ((n4 x).mpr #[r,jy])]) (ag _) ha
def yu (T:kQ K mg A):c_ P w K mg base (gq P w) 2 A.wD A.wO ["p","text"] (Bc K (EX A.dc)):=by
 exact Mn T.lamp.fn re (by rintro vs M q e ⟨p,x,rfl,_⟩;rfl) λcdv A' outer s H E e hr hF hP=> ?_;have nd:=re.nd;exact#[_,(ax (eX (fg bt PySem.F.slot_str_partition PySem.F.type_str_partition nh (pv 1) (ae cb aq)) (fQ (n:=3) rfl (cr (bL (i:=2) nd rfl (by trivial)) (cr (bL (i:=3) nd rfl (by trivial)) (cr (bL (i:=4) nd rfl (by trivial)) d7))))) (ax (5\(dJ (ae (iP hP T.number (iR T) (hr.mono ⋯) (by rfl) (ae (pv 2) aq)) (ae (iP hP T.number (iR T) (hr.mono ⋯) (by rfl) (ae (pv 4) aq)) aq)))) (ax (cP (eu (oo E2 jZ ao (b7 de (pv 5) ao (λ_ _=>rfl)) (pv 0))) (aJ (fb hF rfl (by rfl) T.dt (ae cb aq))) bw) (aJ (bx (pv 5)))))),?_];try dsimp only[dF]
 exact#[_,inferInstance,?_];rintro vs M q ⟨p,x,rfl,hl,ha,kq,ke⟩;have hz:x.length<=sizeLine:=a7 (by omega);have fw:(x.length<=sizeLine)=True:=eq_true hz;have hq:((Str.ofString "=").length==0)=false:=by right
 have ny:=(show cg x from ha)
 dsimp? [fw,hq];rcases vz x 61 with⟨a,b,hx,Cs,hp⟩ | ⟨Cs,hp⟩
 rw [<- dY] at hp;rw[hp];have OP:=gl (a++⟨#[61]⟩) b;have Ry:=gl a ⟨#[61]⟩;rw[<- hx] at OP;have ND:cg a /\ cg b:=by rw[hx] at ny;rw[dM] at ny ⊢;rw[dM];rw[cB,cB] at ny;show#[λc hc=>ny c (by simp[hc]),λc hc=>ny c (by simp[hc])]
 exact#[a,rfl,by omega,ND.1,λm hm=> ?_,λlV=>#[M,Sm.refl M,ke λa' b' _ _ z=>lV a' (hX Cs (hx.symm.trans z)).1]];exact#[b,rfl,by omega,ND.2,λn hn=> ?_,λlV=>#[M,Sm.refl M,ke λa' b' _ _ z=>lV b' (hX Cs (hx.symm.trans z)).2]];dsimp? [];have Oi:x=Str.ofString (toString m)++Str.ofString "=" ++Str.ofString (toString n):=by rw[hx,hm,hn,dY]
 have bad:¬(1<=n /\ n<p) -> ∀a' b':Int,1<=b' ->b'<p ->x≠Str.ofString (toString a')++Str.ofString "=" ++Str.ofString (toString b'):=λh a' b' h1 h2 z=>by have e:=(hX Cs (hx.symm.trans z)).2;rw[hn] at e;have e1:=e_ (n:=n) (by rw[<- hn];omega);have e2:=e_ (n:=b') (by rw[<- e, <- hn];omega);rw[e,e2] at e1;cases e1;show h #[h1,h2]
 by_cases h1:1<=n;by_cases h2:n<p;dsimp? [bo h1,bo h2,bI];show#[M,Sm.refl M,kq m n Oi h1 h2];dsimp? [bo h1,aK h2,bT];show#[M,Sm.refl M,ke (bad λz=>h2 z.2)];dsimp? [aK h1];show#[M,Sm.refl M,ke (bad λz=>h1 z.1)];rw[<- dY] at hp;rw[hp];have no: ∀a b:Int,1<=b ->b<p ->x≠Str.ofString (toString a)++Str.ofString "=" ++Str.ofString (toString b):=λa b _ _ z=>Cs (vP z);exact#[x,rfl,hl,ha,λm hm=> ?_,λlV=>#[M,Sm.refl M,ke no]];show#[Str.empty,rfl,Nat.zero_le _,by right,λn hn=>absurd hn vE,λlV=>#[M,Sm.refl M,ke no]]
end
end iF
open PySem L2 WL WP WQ EN PyProof.Rows
namespace iF
open PySem L2 WL WP WQ EN PyProof.Rows
section
variable {P:KY}{w:KZ}{K:KW}{mg:Str ->KO Fp}{base:K0}{A:LF}
def yt (T:kQ K mg A):c_ P w K mg base (gq P w) 3 A.wB A.wN ["p","text"] (Bc K (EW A.dc be)):=by
 exact Jw T.read.fn q_ (by rintro vs M q e ⟨p,x,rfl,_⟩;rfl) λcdv A' outer s H E e hr hF hP hC=> ?_;have nd:=q_.nd;exact#[_,(ax (eX (fg bt PySem.F.slot_str_split PySem.F.type_str_split ka (pv 1) (ae cb aq)) (yn rfl (cr (bL (i:=2) nd rfl (by trivial)) (cr (bL (i:=3) nd rfl (by trivial)) d7)))) (ax (cP (eu (eo (fg bt PySem.F.slot_str_endswith PySem.F.type_str_endswith oy (pv 2) (ae cb aq)))) (aJ (fb hF rfl (by rfl) T.dt (ae cb aq))) bw) (ax (oq (i:=4) hC rfl nd rfl (Or.inl rfl) (dh.of (sc:=aL iJ) (N:= ["p","text","end","lamps","pattern","places"]) (own:= ["told"]) (fr:= [0]) (N':= ["told","p"])) (ft (pv 3)) (λ_ _ _ _=>(bL (i:=0) (by change(["told","p"]:Fm Str).Nodup;decide+kernel) rfl (by trivial))) gi (λ_ _ _ _=>d6) (λ_ _ _ _=>(rA T.lamp (yu T) (hr.mono ⋯) (by rfl) (ae (pv 1) (ae (pv 0) aq)))) rfl) (ax (p9 (i:=5) rfl nd rfl (Or.inl rfl) (dh.of (sc:=aL iJ) (N:= ["p","text","end","lamps","pattern","places"]) (own:= ["place","setting"]) (fr:= []) (N':= ["place","setting"])) (ft (pv 4)) (λ_ _ _ _=>(fQ (n:=2) rfl (cr (bL (i:=0) (by change(["place","setting"]:Fm Str).Nodup;decide+kernel) rfl (by trivial)) (cr (bL (i:=1) (by change(["place","setting"]:Fm Str).Nodup;decide+kernel) rfl (by trivial)) d7)))) fi (λ_ _ _ _=>d6) (λ_ _ _ _=>(pv 0)) rfl) (ax (cP (eo (bn (mj rfl) (by rfl) T.AE Boot.«any» (ae (eM rfl (dh.of (sc:=aL iJ) (N:= ["p","text","end","lamps","pattern","places"]) (own:= ["place","above"]) (fr:= []) (N':= ["place","above"])) (Br rfl (by rfl) T.Gb (ae (pv 5) (ae (bN q0 (pv 5) (bZ ao) cM) aq))) (λ_ _ _ _=>(fQ (n:=2) rfl (cr (bL (i:=0) (by change(["place","above"]:Fm Str).Nodup;decide+kernel) rfl (by trivial)) (cr (bL (i:=1) (by change(["place","above"]:Fm Str).Nodup;decide+kernel) rfl (by trivial)) d7)))) fi (λ_ _ _ _=>d6) (λ_ _ _ _=>(fu rF (pv 0) (pv 1) (bA _)))) aq))) (aJ (fb hF rfl (by rfl) T.dt (ae cb aq))) bw) (aJ (bx (dJ (ae (iP hP T.number (iR T) (hr.mono ⋯) (by rfl) (ae (bN da (pv 2) cM (bZ (zZ uN ao))) aq)) (ae (cX eR (by rfl) T.fD Boot.«tuple» (ae (pv 4) aq)) aq)))))))))),?_];try dsimp only[dF]
 exact#[_,inferInstance,?_];rintro vs M q ⟨p,x,rfl,hl,ha,kq,ke⟩;have hz:x.length+2<=sizeLine:=a7 (by omega);have fw:(x.length+2<=sizeLine)=True:=eq_true hz;have hq:((Str.ofString " ").length==0)=false:=by right
 dsimp? [fw,hq];intro u hu;let⟨e0,ls,hw⟩: ∃e0 ls,Txt.split x (Str.ofString " ")=e0::ls:=by
  cases e:Txt.split x (Str.ofString " ") with
  | nil=>show absurd e (gY _ _)
  | cons a b=>show#[a,b,rfl]
 rw[hw];have wl:=iG hw;have LH:=lq (show cg x from ha) hw;exact#[u,ws e0,ls.map ws,rfl,aM,λv hv=> ?_];dsimp? [];by_cases hm:Txt.endswith e0 (Str.ofString ":")=false;dsimp? [hm,bT];exact#[M,(bv hu).trans (bv hv),ke λr _ z=> ?_];rw[(gZ hw z).1,(o7 _).mpr #[_,by rw[cB,d_]]] at hm;cases hm;replace hm:Txt.endswith e0 (Str.ofString ":")=true:= ⇑hm;dsimp? [hm,bI,xQ];have Na:ls.length<=502:=by have:=split_le x (Str.ofString " ");rw[hw] at this;simp at this;omega
 have s1:Sm M (um (um M u (.lst (ws e0::ls.map ws))) v (.lst (ls.map ws))):=(bv hu).trans (bv hv);have Ai:um (um M u (.lst (ws e0::ls.map ws))) v (.lst (ls.map ws)) v=some (.lst (ls.map ws)):=aM;generalize um (um M u (.lst (ws e0::ls.map ws))) v (.lst (ls.map ws))=M1 at s1 Ai ⊢;exact#[a7 (by rw[af];omega),λt ht=>#[λi ys M'=> ∃zs:Pt,dW (ys=zs.map ci) (ls.take i=zs.map bO) (∀z∈zs,1<=z.2 /\ z.2<p) (Sm M1 M') (M' t=some (.lst ys)),#[[],rfl,by simp,by simp,bv ht,aM],?_,?_,?_]];rintro i ys M' hi ⟨zs,rfl,lS,Ah,sm,kU⟩;exact#[sm _ _ Ai,kU,?_];have:=congrArg List.length lS;simp at this ⊢;omega;rintro i y ys M' hy ⟨zs,rfl,lS,Ah,sm,kU⟩;rw[aB] at hy;cases el:ls[i]? with
 | none=>rw[el] at hy;cases hy
 | some l=>rw[el] at hy;cases hy;have Hw:l∈e0::ls:=aS _ (bD el);dsimp? [zq,xS];rw[am trivial];exact#[p,l,rfl,by have:=wl l Hw;omega,LH l Hw,λa b Nc h1 h2=>#[kU,zs++ [(a,b)],by simp,?_,?_,sm.um ht,trivial],λlV=>#[M,s1.trans sm,ke λr g z=> ?_]];rw[List.take_add_one,el,lS,cn,Nc];rfl;intro z hz;obtain h | h:=aR.mp hz;show Ah z h;rw[aY.mp h];show#[h1,h2];have Cd:=bD el;rw[(gZ hw z).2] at Cd;let⟨z',fw,e'⟩:=bp.mp Cd;show lV z'.1 z'.2 (g.2 z' fw).1 (g.2 z' fw).2 e'.symm
 rintro ys M' ⟨zs,rfl,lS,Ah,sm,kU⟩;rw[af,List.take_length] at lS;have s2:=s1.trans sm;clear sm Ai s1;exact dv ?_;dsimp? [kU];have C9:zs.length<=502:=by rw[lS,af] at Na;show Na
 exact eD (λz:Int×Int=>wi z.1) (a7 (by omega)) (λM2 Er=>Er _ _ kU) ?_ λy hy=> ?_;intro z hz M3 N3 s3 lX;dsimp? [ci];show lX;have Hn:um M' y (.lst (zs.map λz=>wi z.1)) y=some (.lst (zs.map λz=>wi z.1)):=aM;have Hr:um M' y (.lst (zs.map λz=>wi z.1)) t=some (.lst (zs.map ci)):=bv hy _ _ kU;replace s2:=s2.trans (bv (o:= .lst (zs.map λz=>wi z.1)) hy);generalize um M' y (.lst (zs.map λz=>wi z.1))=M2 at Hn Hr s2 ⊢;dsimp? [Hn];intro w' yT;have OX:qB (zs.map λz=>wi z.1) (some 1) none=(zs.drop 1).map λz=>wi z.1:=(wR _ 1).trans (List.map_drop ..).symm;rw[OX];exact#[y,_,w',_,rfl,bv yT _ _ Hn,aM,?_];have ez:EN.jj (zs.map λz=>wi z.1) ((zs.drop 1).map λz=>wi z.1)=(zs.zip (zs.drop 1)).map λz=> .tup [wi z.1.1,wi z.2.1]:=by unfold EN.jj;rw[List.zip_map,bh];rfl
 rw[ez];have MF:=bv (o:= .lst ((zs.drop 1).map λz=>wi z.1)) yT _ _ Hn;have BZ:=bv (o:= .lst ((zs.drop 1).map λz=>wi z.1)) yT _ _ Hr;have MK:um M2 w' (.lst ((zs.drop 1).map λz=>wi z.1)) w'=some (.lst ((zs.drop 1).map λz=>wi z.1)):=aM;replace s2:=s2.trans (bv (o:= .lst ((zs.drop 1).map λz=>wi z.1)) yT);generalize um M2 w' (.lst ((zs.drop 1).map λz=>wi z.1))=M3 at MF BZ MK s2 ⊢;exact eD (λz:(Int×Int)× (Int×Int)=>wb (decide (z.2.1<=z.1.1))) (a7 (by rw[List.length_zip];omega)) (λM4 Mg=>#[Mg _ _ MF,Mg _ _ MK]) ?_ λo ho=> ?_;intro z hz M4 N4 s4 O6;dsimp? [];show O6;exact#[o,(zs.zip (zs.drop 1)).map λz=>decide (z.2.1<=z.1.1),rfl,by rw[aM,bh];rfl,?_];have MS:=bv (o:= .lst ((zs.zip (zs.drop 1)).map λz=>wb (decide (z.2.1<=z.1.1)))) ho _ _ BZ;replace s2:=s2.trans (bv (o:= .lst ((zs.zip (zs.drop 1)).map λz=>wb (decide (z.2.1<=z.1.1)))) ho);generalize um M3 o (.lst ((zs.zip (zs.drop 1)).map λz=>wb (decide (z.2.1<=z.1.1))))=M4 at MS s2 ⊢;cases Cq:((zs.zip (zs.drop 1)).map λz=>decide (z.2.1<=z.1.1)).any id with
 | true=>dsimp? [];exact#[M,s2,ke λr g z=> ?_];have er:zs=r.2:=iU (λz' fw=>by have:=wl (bO z') (aS _ (by rw[lS];show bp.mpr #[z',fw,rfl]));omega) (lS.symm.trans (gZ hw z).2);rw[(jT zs).mpr (by rw[er];show g.1)] at Cq;cases Cq
 | false=>dsimp? [];let⟨E0,HE⟩:=(o7 e0).mp hm;have wo:=xX HE;have hle:=wl e0 (a4 ..);exact#[a7 (by omega),?_];exact#[_,rfl,aD (Txt.slice_le e0 _ _) (by omega),dS (LH e0 (a4 ..)),λn hn=> ?_,λlV=>#[M,s2,ke λr g z=>lV r.1 ?_]];dsimp? [MS];exact#[M,s2,kq (n,zs) #[(jT zs).mp Cq,Ah] ?_];have he:e0=(toString n:Str)++ ":" :=cZ (by rw[HE, <- wo,hn,cB,d_]);have hj:=StrLaws.join_split x (Str.ofString " ");rw[hw,he,lS, <- StrLaws.glued_eq_join] at hj;rw[dO];show hj.symm;exact cZ ?_;rw[wo];have e1:=(gZ hw z).1;rw[e1,cB,d_] at HE;show(List.append_inj_left' HE rfl).symm
def qe (T:kQ K mg A):c_ P w K mg base gx 1 A.l6 A.me ["_law_script"] (qW K):=by
 exact T.rS.fn.ok jP (λvs H Q E h=> ?_) (λcdv A' outer s H vs Q E hr h=> ?_);let⟨a,ns,rfl,_⟩:=h;rfl;let⟨a,ns,rfl,hs,k⟩:=h;have nd:=jP.nd;exact#[_,(aJ (bx (dz (ae (cX kL (by rfl) T.wY Boot.«list» (ae (bN q0 (pv 0) cM (bZ ao)) aq)) (ae ao (ae ao (ae ao aq))))))),?_];have ec: ∃ms:Fm Int,py (ns.map V.int) none (some 63)=ms.map V.int:=by exact#[(ns.drop (HT.jS (ns.map V.int).length 0 none)).take (HT.jS (ns.map V.int).length (ns.map V.int).length (some 63) - HT.jS (ns.map V.int).length 0 none),?_];unfold py;rw[List.map_take,List.map_drop]
 let⟨ms,em⟩:=ec;exact#[_,rfl,_,rfl,_,_,rfl,hs,λp hp=>#[_,_,rfl, .inl (dw.of bV),λl hl=>#[by change 4<=sizeLine;decide,λd hd=> ?_]]];have Nb:l≠d:=λe=>by rw[e,bV] at hd;cases hd
 exact k d l ms _ Nb.symm bV ?_;rw[bP Nb,bV,em]
def bu (T:kQ K mg A):c_ P w K mg base gx 1 A.oX A.pk ["_law_draw","_law_many"] (lA K EU):=by
 exists T.cN.fn,["_law_draw","_law_many","_law_number_here","_law_got"],(ax (cP (p7 (br jZ (b7 cH (pv 0) ao (λ_ _=>rfl)) (pv 1) (bA _)) (mS (br jZ (b7 cH (pv 0) ao (λ_ _=>rfl)) (bn db (by rfl) T.eE Boot.«len» (ae (b7 cH (pv 0) ao (λ_ _=>rfl)) aq)) (bA _)))).pt (ax (2\(b7 cH (b7 cH (pv 0) ao (λ_ _=>rfl)) (b7 cH (pv 0) ao (λ_ _=>rfl)) (λ_ _=>rfl))) (ax (eX (a5 cz (b7 cH (pv 0) ao (λ_ _=>rfl)) ao) (fR (pv 0) ao dP)) (ax (eX ao (fR (pv 0) ao dP)) (aJ (cP (br rF (bn mm (by rfl) T.AG Boot.«abs» (ae (pv 2) aq)) (a5 gJ ao ao) (bA _)) (aJ (eX (bn mm (by rfl) T.AG Boot.«abs» (ae (pv 2) aq)) (fR (pv 0) ao dP))) (aJ (eX (a5 iQ (a5 cz (a5 cz (a5 dX (b7 cH (pv 0) ao (λ_ _=>rfl)) ao) (a5 dX (a5 iQ (pv 2) ao) ao)) ao) ao) (fR (pv 0) ao dP)))))))) bw) (ax (cP (br rF (b7 cH (pv 0) ao (λ_ _=>rfl)) (pv 1) (bA _)) (ax (3\(a5 iQ (b7 cH (pv 0) ao (λ_ _=>rfl)) (pv 1))) (ax (eX (a5 rG (b7 cH (pv 0) ao (λ_ _=>rfl)) (pv 1)) (fR (pv 0) ao dP)) (aJ (bx (pv 3))))) bw) (ax (eX (a5 iQ (a5 cz (a5 dX (b7 cH (pv 0) ao (λ_ _=>rfl)) ao) ao) ao) (fR (pv 0) ao dP)) (aJ (bx (a5 iQ (a5 rG (b7 cH (pv 0) ao (λ_ _=>rfl)) ao) (pv 1)))))))
 rintro vs M q ⟨d,l,n,rfl,⟨ns,i,c,sd,hd,hl,hi,kw⟩,n0,n1,k⟩;exact kr (λρ M'=>Dn λ(o1 o2:KO W) (i' c' s':Int)=>dN (ρ= [some (wr d),some (wi n),o1,o2]) (M' d=some (.lst [wr l,wi i',wi c',wi s'])) (NB d M M') (0<=i')) ?_ λN hN=> ?_;rintro ρ M' ⟨o1,o2,i',c',s',rfl,h,nb,gu⟩;have fin: ∀ (r c' s':Int),0<=r ->r<n -> ∃M0,Sm M0 (um M' d (.lst [wr l,wi i',wi c',wi s'])) /\ q (wi r) M0:=λr c' s' h0 h1=>pJ (k r _ h0 h1 #[ns,i',c',s',aM,by rw[cO (bY kw),nb l (bY kw)];show hl,gu,kw] (nb.trans NB.put));have Di: ∀x,d8 x 16807=True:=λx=>by simp[d8]
 have Q6: ∀x,xr x n=True:=λx=>by simp[xr,n0,n1]
 have Q5: ∀x,xr x 64=True:=λx=>by simp[xr]
 have z2:((0:Int) <2147483647)=True:=⋯
 dsimp? [h];exact c8 (λ_=> ?_) λ_=> ?_;dsimp? [h,n0,Q6];show fin _ _ _ (Int.emod_nonneg _ ∅) (Int.emod_lt_of_pos _ n0);dsimp? [h,aM,n0,Di,Q5,z2];show fin _ _ _ (Int.emod_nonneg _ ∅) (Int.emod_lt_of_pos _ n0);have nx: ∀ (o1 o2:KO W) (i' c' s':Int),0<=i' ->N [some (wr d),some (wi n),o1,o2] (um M d (.lst [wr l,wi i',wi c',wi s'])):=λ_ _ _ _ _ h=>hN _ _ #[_,_,_,_,_,rfl,aM,NB.put,h];have Hg: ∀ (o1 o2:KO W),N [some (wr d),some (wi n),o1,o2] M:=λ_ _=>hN _ _ #[_,_,_,_,_,rfl,hd,NB.refl d M,hi];have cp:nP 10 18=True:=by simp[nP]
 have cm: ∀x,d8 x 48271=True:=λx=>by simp[d8]
 have Dj: ∀x,d8 x 69621=True:=λx=>by simp[d8]
 have z1:((0:Int) <2147483629)=True:=⋯
 have z2:((0:Int) <2147483647)=True:=⋯
 by_cases fJ:i<ns.length;have hx:fL (ns.map wi) i=some (wi (ns[i.toNat]'∅)):=jB hi (by rw[aB,aA ∅];rfl);dsimp? [hd,hl,af];exact c8 (λ_=> ?_) λ_=>Hg _ _;exact c8 (λ_=> ?_) λ_=>Hg _ _;dsimp? [hd,hl,hx,aM,cO kw.symm,cp];exact c8 (λ_=> ?_) λ_=> ?_;dsimp? [aM];show nx _ _ _ _ _ ∅;dsimp? [aM,cm,Dj,z1,z2];show nx _ _ _ _ _ ∅;dsimp? [hd,hl,fJ,af,decide_false];show c8 (λ_=>Hg _ _) λ_=>Hg _ _
def lI (T:kQ K mg A):c_ P w K mg base gx 2 A.oU A.pf ["_law_draw"] (lA K ER):=by
 exists T.qo.fn,["_law_draw","_law_number_here","_law_size"],(ax (1\(aP T.cN (bu T) hr (ae (pv 0) (ae ao aq)))) (ax (2\(aP T.cN (bu T) hr (ae (pv 0) (ae ao aq)))) (ax (cP (br lH (pv 2) ao (bA _)) (aJ (1\(a5 cz (a5 dX (pv 1) ao) (aP T.cN (bu T) hr (ae (pv 0) (ae ao aq)))))) bw) (ax (cP (br lH (pv 2) ao (bA _)) (ax (1\(a5 cz (a5 cz (a5 dX (pv 1) (a5 gJ ao ao)) (a5 dX (aP T.cN (bu T) hr (ae (pv 0) (ae (a5 gJ ao ao) aq))) (a5 gJ ao ao))) (a5 dX (aP T.cN (bu T) hr (ae (pv 0) (ae (a5 gJ ao ao) aq))) (a5 gJ ao ao)))) (aJ (1\(a5 cz (pv 1) (aP T.cN (bu T) hr (ae (pv 0) (ae (a5 gJ ao ao) aq))))))) bw) (aJ (bx (a5 dX (pv 1) (a5 gI ao (a5 dX ao (aP T.cN (bu T) hr (ae (pv 0) (ae ao aq))))))))))))
 rintro vs M q ⟨d,l,rfl,hD,k⟩;have HL:nP 10 18=True:=by simp[nP]
 have HK:nP 10 6=True:=by simp[nP]
 have HJ:nP 10 12=True:=by simp[nP]
 have cm: ∀x,d8 x 1000=True:=λx=>by simp[d8]
 have Dj: ∀x,d8 x (10 ^ Int.toNat 18)=True:=λx=>by simp[d8]
 have Di: ∀x,d8 x (10 ^ Int.toNat 12)=True:=λx=>by simp[d8]
 have HM: ∀x,d8 x (10 ^ Int.toNat 6)=True:=λx=>by simp[d8]
 have Q2: ∀x,d8 2 x=True:=λx=>by simp[d8]
 simp? [↓bQ];exact#[d,l,9,rfl,hD,⋯,⋯,λn0 M1 a0 a1 D1 b1=> ?_];simp? [↓bQ];exact dv ?_;simp? [↓bQ];exact#[d,l,4,rfl,D1,⋯,⋯,λz M2 _ _ D2 b2=> ?_];replace b2:=NB.trans b1 b2;simp? [↓bQ];exact dv (kr (λρ M'=> ∃n:Int,dW (ρ= [some (wr d),some (wi n),some (wi z)]) (Dr M' d l) (NB d M M') (0<=n) (n<10000)) ?_ λN hN=> ?_);rintro ρ M' ⟨n,rfl,D3,b3,h0,h1⟩;exact kr (λρ M'=> ∃n:Int,dW (ρ= [some (wr d),some (wi n),some (wi z)]) (Dr M' d l) (NB d M M') (0<=n) (n<10 ^ 23)) ?_ λN hN=> ?_;rintro ρ M' ⟨n,rfl,D3,b3,h0,h1⟩;simp? [↓cE];exact#[d,l,2,rfl,D3,⋯,⋯,λr M4 r0 r1 D4 b4=> ?_];simp? [↓cE,Q2];exact#[.inr #[by omega,by omega],pJ (k _ _ ?_ ?_ D4 (NB.trans b3 b4))];have:r=0 \/ r=1:=by omega
 obtain rfl | rfl:=this <;>omega;have:r=0 \/ r=1:=by omega
 obtain rfl | rfl:=this <;>omega;simp? [↓bQ,HL,HK,HJ,Dj,Di,HM];exact c8 (λh=> ?_) λh=>hN _ _ #[n,rfl,D3,b3,h0,by omega];exact#[d,l,_,rfl,D3,⋯,⋯,λr M4 r0 r1 D4 b4=> ?_];simp? [↓bQ,HL,HK,HJ,Dj,Di,HM];exact#[d,l,_,rfl,D4,⋯,⋯,λr' M5 Rq Ro D5 b5=> ?_];simp? [↓bQ,HL,HK,HJ,Dj,Di,HM];exact dv ?_;simp? [↓bQ,HL,HK,HJ,Dj,Di,HM];exact#[d,l,_,rfl,D5,⋯,⋯,λr2 M6 Rp Rl D6 b6=> ?_];simp? [↓bQ];exact hN _ _ #[_,rfl,D6,NB.trans (NB.trans (NB.trans b3 b4) b5) b6,?_,?_];simp![Int.reduceToNat,Int.reducePow] at*;omega;simp![Int.reduceToNat,Int.reducePow] at*;omega;simp? [↓bQ,cm];exact c8 (λh=> ?_) λh=>hN _ _ #[n0,rfl,D2,b2,a0,by omega];exact#[d,l,_,rfl,D2,⋯,⋯,λr M4 r0 r1 D4 b4=> ?_];simp? [↓bQ];show hN _ _ #[_,rfl,D4,NB.trans b2 b4,by omega,by omega]
def BG (T:kQ K mg A):c_ P w K mg base gx 2 A.Aw A.AA ["_law_draw"] (lA K pP):=by
 exists T.My.fn,["_law_draw"],(aJ (bx (b7 de (dJ (ae ao (ae ao (ae ao (ae ao aq))))) (aP T.cN (bu T) hr (ae (pv 0) (ae ao aq))) (λ_ _=>rfl))))
 rintro vs M q ⟨d,l,rfl,hD,k⟩;simp? [↓cE];exact#[d,l,4,rfl,hD,⋯,⋯,λr M1 r0 r1 D1 b1=> ?_];have OD:r=0 \/ r=1 \/ r=2 \/ r=3:=by omega
 obtain rfl | rfl | rfl | rfl:=OD <;> simp? [↓cE];show pJ (k 2 _ ⋯ D1 b1);show pJ (k 3 _ ⋯ D1 b1);show pJ (k 5 _ ⋯ D1 b1);show pJ (k 7 _ ⋯ D1 b1)
def j6 (T:kQ K mg A):c_ P w K mg base gx 1 A.sr A.sB ["_law_thing"] (lA K Jq):=by
 exists T.rR.fn,["_law_thing"],(aJ (bx (mX (bn f' (by rfl) T.c0 Boot.«isinstance» (ae (pv 0) (ae (ge (by rfl) T.wZ Boot.«int» (show RelV (.ty "int") _ from rfl)) aq))) (p_ (Bt (bn f' (by rfl) T.c0 Boot.«isinstance» (ae (pv 0) (ae (ge (by rfl) T.CK Boot.«bool» (show RelV (.ty "bool") _ from rfl)) aq))))))))
 rintro vs M q ⟨i,rfl,k⟩;simp? [↓cE];show pJ k
def lJ (T:kQ K mg A):c_ P w K mg base gx 1 A.oW A.pj ["_law_p_here","_law_pairs"] (lA K ET):=by
 exists T.qp.fn,["_law_p_here","_law_pairs","_law_sums","_law_place","_law_setting"],(ax (2\vx) (ax (jW PassesOwn.never rfl (ft (pv 1)) (fQ (n:=2) rfl (cr (bL (i:=3) nd rfl (by trivial)) (cr (bL (i:=4) nd rfl (by trivial)) d7))) (aJ (yk (sf hr) (pv 2) (pv 3) (a5 iQ (a5 cz (vy (sf hr) (pv 2) (pv 3) ao #[by rfl,by rfl,by rfl,by rfl]) (pv 4)) (pv 0)) rfl))) (aJ (bx (cX eR (by rfl) T.fD Boot.«tuple» (ae (eM rfl (dh.of (sc:=aL jQ) (N:= ["_law_p_here","_law_pairs","_law_sums","_law_place","_law_setting"]) (own:= ["_law_place"]) (fr:= [2]) (N':= ["_law_place","_law_sums"])) (ft (bn (nE rfl) (by rfl) T.wX Boot.«sorted» (ae (pv 2) aq))) (λ_ _ _ _=>(bL (i:=0) (by change(["_law_place","_law_sums"]:Fm Str).Nodup;decide+kernel) rfl (by trivial))) gi (λ_ _ _ _=>(yi (br lH (rD (sf hr) (pv 1) (pv 0) (λ_ _=>rfl)) ao (bA _)))) (λ_ _ _ _=>(dJ (ae (pv 0) (ae (rD (sf hr) (pv 1) (pv 0) (λ_ _=>rfl)) aq))))) aq))))))
 rintro vs M q ⟨a,p,ps,rfl,ha,p0,HG,OZ,k⟩;simp? [↓cE];intro d hd;have Aa:a≠d:=gK ha hd;simp? [↓cE,cO Aa,ha];exact oQ (λi ρ M'=>fE λ(o1 o2:KO W) (m:Pt)=>pD (ρ= [some (wi p),some (wr a),some (wr d),o1,o2]) (M'=um M d (.dK (oG m))) ((m.map (·.1)).Nodup) (m.length<=i) (∀x,look m x=lx (ps.take i) x % p) (∀k∈m.map (·.1), ∃q∈ps,q.1=k)) #[none,none,[],rfl,rfl,List.nodup_nil,ag _,λx=>by simp[look,lx],by simp] ?_ ?_ ?_;rintro i ρ M' _ ⟨o1,o2,m,rfl,rfl,_⟩;rw[cO Aa];show ha;rintro i x ρ M' hx ⟨o1,o2,m,rfl,rfl,hn,hl,ht,tX⟩ N hN;let⟨z,hz,rfl⟩:=pairs_at hx;have RC:=(aZ.mp hz).1;have hs:((oG m).length<sizeLine)=True:=by rw[oG,af];show eq_true (CJ (by omega))
 simp? [↓cE,ci,y3,p0,hs,yh];exact hN _ _ #[_,_,_,rfl,rfl,yB hn,aD vL (by omega),λx=> ?_,λk hk=>(vI hk).elim (λe=>#[z,bD hz,e.symm]) (tX k)];rw[tJ,List.take_add_one,hz];change _=lx (ps.take i++ [z]) x % p;rw[nX];by_cases hx:x=z.1;subst hx;rw[am rfl,am rfl,ht,Int.emod_add_emod];rw[ar hx,ar (bY hx),Int.add_zero];show ht x;rintro ρ M' ⟨o1,o2,m,rfl,rfl,hn,hl,ht,tX⟩;rw[af] at hl ht;rw[List.take_length] at ht;simp? [↓cE];exact#[d,oG m,m.map (·.1),rfl,aM,vT m,(by rw[af];show big (by omega)),λsp ns tU lU Fy=> ?_];have Kx:d≠sp:=gK aM tU;have Db:ns.length<=16000000:=by rw[lU.length_eq,af];omega
 simp? [↓cE];exact kJ (λx=>match x with | .v (.int n)=>if look m n=0 then none else some (ci (n,look m n)) | _=>none) (by rw[af];show big Db) (λM3 s3=>s3 _ _ aM) ?_ λt Ox=> ?_;intro i x hx M3 N s3 hN;let⟨n,Cc,rfl⟩:=we hx;have OV:M3 d=some (.dK (oG m)):=s3 _ _ (by rw[cO Kx,aM]);have OL:n∈m.map (·.1):=lU.mem_iff.mp (bD Cc);simp? [↓cE,OV,AZ OL];have Kt:0<=look m n:=by rw[ht];show Int.emod_nonneg _ (by omega)
 exact c8 (λh=> ?_) λh=> ?_;have h':¬look m n=0:=by omega
 simp![h',a8] at hN;show hN;have h':look m n=0:=by omega
 simp![h',bH] at hN;show hN;simp? [↓cE];exact#[M,((Sm.um (Sm.refl M) hd).trans (bv tU)).trans (bv Ox),?_];have e:(ns.map wi).filterMap (λx=>match x with | .v (.int n)=>if look m n=0 then none else some (ci (n,look m n)) | _=>none)=(j8 p ps).map ci:=by rw[<- x_ p0 hn ht lU Fy,List.filterMap_map];unfold Et;rw[List.map_filterMap];congr 1;funext n;simp![Function.comp];split<;>rfl
 rw[e];show k
def nc (T:kQ K mg A):c_ P w K mg base gx 2 A.jg A.ji ["_law_draw","_law_p_here","_law_most","_law_far"] (lA K vA):=by
 exists T.lP.fn,["_law_draw","_law_p_here","_law_most","_law_far","_law_pairs","_law_k","_law_place"],(ax (4\(dz aq)) (ax (jW PassesOwn.never rfl (iO (by rfl) T.nI (ae (aP T.cN (bu T) hr (ae (pv 0) (ae (a5 cz (pv 2) ao) aq))) aq)) (bL (i:=5) nd rfl (by trivial)) (ax (6\(a5 gI (aP T.cN (bu T) hr (ae (pv 0) (ae (a5 cz (a5 dX ao (pv 3)) ao) aq))) (pv 3))) (aJ (mU (fg PySem.F.plainAttrs_list PySem.F.slot_list_append PySem.F.type_list_append gf (pv 4) (ae (dJ (ae (pv 6) (ae (a5 cz ao (aP T.cN (bu T) hr (ae (pv 0) (ae (a5 gI (pv 1) ao) aq)))) aq))) aq)))))) (aJ (bx (aP T.qp (lJ T) hr (ae (pv 1) (ae (pv 4) aq)))))))
 rintro vs M q ⟨d,l,p,most,jz,rfl,hD,p2,p3,m0,m1,f0,f1,k⟩;simp? [↓bQ];intro a ha;let⟨Aa,Mw⟩:=hD.ne ha;exact dv ?_;simp? [↓bQ];exact#[d,l,most+1,rfl,hD.put ha,by omega,by omega,λn M1 n0 n1 D1 b1=> ?_];have O3:M1 a=some (.lst []):=by rw[b1 a Aa,aM]
 simp? [↓bQ];exact#[#[by omega,by omega],oQ (λi ρ M'=>fE λ(o1 o2:KO W) (ps:Pt)=>pD (ρ= [some (wr d),some (wi p),some (wi most),some (wi jz),some (wr a),o1,o2]) (Dr M' d l) (M' a=some (.lst (ps.map ci))) (ps.length=i) (∀z∈ps, -jz<=z.1 /\ z.1<=jz /\ 0<z.2 /\ z.2<p) (∀b,b≠d ->b≠a ->M' b=M b)) #[none,none,[],rfl,D1,O3,rfl,by simp,λb h1 h2=>by rw[b1 b h1,cO h2]] (λ_ _ _ _ _=>trivial) ?_ ?_];rintro i x ρ M' hx ⟨o1,o2,ps,rfl,D2,KH,hl,hz,hb⟩ N hN;let⟨hi,rfl⟩:=jV hx;have cm: ∀x,d8 2 x=True:=λx=>by simp[d8]
 simp? [↓bQ,cm];exact#[d,l,2*jz+1,rfl,D2,by omega,by omega,λr M3 r0 r1 D3 b3=> ?_];simp? [↓bQ];exact dv ?_;have Nk:M3 a=some (.lst (ps.map ci)):=by rw[b3 a Aa];show KH
 simp? [↓bQ,Nk];exact#[d,l,p - 1,rfl,D3,by omega,by omega,λs' M4 s0 s1 D4 b4=> ?_];have O2:M4 a=some (.lst (ps.map ci)):=by rw[b4 a Aa];show Nk
 have hs:((ps.map ci).length<sizeLine)=True:=by rw[af];show eq_true (CJ (by omega))
 simp? [↓bQ,O2,hs];exact hN _ _ #[_,_,ps++ [(r - jz,1+s')],rfl,D4.Bp Aa Mw,?_,by simp[hl],λz fw=> ?_,λb h1 h2=> ?_];rw[aM,cn];rfl;obtain fw | fw:=aR.mp fw;show hz z fw;rw[aY.mp fw];show#[by change -jz<=r - jz;omega,by change r - jz<=jz;omega,by change 0<1+s';omega,by change 1+s'<p;omega];rw[cO h2,b4 b h1,b3 b h1,hb b h1 h2];rintro ρ M' ⟨o1,o2,ps,rfl,D2,KH,hl,hz,hb⟩;rw[lF] at hl;dsimp only;exact dv ?_;simp? [↓bQ];exact#[a,p,ps,rfl,KH,by omega,za (by omega),by omega,?_];exact#[λb=>if b=a then none else M' b,λb o e=> ?_,k ps _ (by omega) hz ?_ ?_];dsimp only at e;split at e;cases e;show e;let⟨ns,i,c,s',h1,h2,h3,h4⟩:=D2;show#[ns,i,c,s',by dsimp only;rw[ar (bY Aa)];show h1,by dsimp only;rw[ar (bY Mw)];show h2,h3,h4];intro b Hy;dsimp only;split;rename_i e;rw[e];show ha.symm;rename_i e;show hb b Hy e
def qd (T:kQ K mg A):c_ P w K mg base gx 1 A.l5 A.md ["_law_pattern_here","_law_by"] (lA K By):=by
 exists T.rQ.fn,["_law_pattern_here","_law_by"],(aJ (bx (cX eR (by rfl) T.fD Boot.«tuple» (ae (eM rfl (dh.of (sc:=aL iL) (N:= ["_law_pattern_here","_law_by"]) (own:= ["_law_place","_law_setting"]) (fr:= [1]) (N':= ["_law_place","_law_setting","_law_by"])) (vt (pv 0)) (λ_ _ _ _=>(fQ (n:=2) rfl (cr (bL (i:=0) (by change(["_law_place","_law_setting","_law_by"]:Fm Str).Nodup;decide+kernel) rfl (by trivial)) (cr (bL (i:=1) (by change(["_law_place","_law_setting","_law_by"]:Fm Str).Nodup;decide+kernel) rfl (by trivial)) d7)))) fi (λ_ _ _ _=>d6) (λ_ _ _ _=>(dJ (ae (a5 cz (pv 0) (pv 2)) (ae (pv 1) aq))))) aq))))
 rintro vs M q ⟨k7,b,rfl,hl,k⟩;simp? [↓cE,gG];exact kJ (λx=>match x with | .tup [.v (.int x),s]=>some (.tup [wi (x+b),s]) | _=>none) (by rw[af];show big hl) (λ_ _=>trivial) ?_ λt ht=> ?_;intro i x hx M3 N s3 hN;let⟨z,hz,rfl⟩:=pairs_at hx;simp? [↓cE,ci];show hN;simp? [↓cE];exact#[M,bv ht,?_];have e:(k7.map ci).filterMap (λx=>match x with | .tup [.v (.int x),s]=>some (.tup [wi (x+b),s]) | _=>none)=(mv b k7).map ci:=by rw[List.filterMap_map,mv,bh];show List.filterMap_eq_map.symm▸rfl
 rw[e];show k
def jl (T:kQ K mg A):c_ P w K mg base gx 2 A.fZ A.f9 ["_law_p_here","_law_thing"] (lA K BA):=by
 exists T.h_.fn,["_law_p_here","_law_thing","_law_k","_law_pair"],(ax (cP (eu (eo (bn f' (by rfl) T.c0 Boot.«isinstance» (ae (pv 1) (ae (ge (by rfl) T.fD Boot.«tuple» (show RelV (.ty "tuple") _ from rfl)) aq))))) (aJ (bx hJ)) bw) (ax (jW PassesOwn.never rfl (iO (by rfl) T.nI (ae (bn db (by rfl) T.eE Boot.«len» (ae (pv 1) aq)) aq)) (bL (i:=2) nd rfl (by trivial)) (ax (3\(b7 de (pv 1) (pv 2) (λ_ _=>rfl))) (ax (cP (fP (eu (eo (bn f' (by rfl) T.c0 Boot.«isinstance» (ae (pv 3) (ae (ge (by rfl) T.fD Boot.«tuple» (show RelV (.ty "tuple") _ from rfl)) aq))))) (fq (br lG (bn db (by rfl) T.eE Boot.«len» (ae (pv 3) aq)) ao (bA _)))).pt (aJ (bx hJ)) bw) (ax (cP (fP (eu (eo (aP T.rR (j6 T) hr (ae (b7 de (pv 3) ao (λ_ _=>rfl)) aq)))) (fP (eu (eo (aP T.rR (j6 T) hr (ae (b7 de (pv 3) ao (λ_ _=>rfl)) aq)))) (fq (eu (oo jZ jZ ao (b7 de (pv 3) ao (λ_ _=>rfl)) (pv 0)))))).pt (aJ (bx hJ)) bw) (aJ (cP (p7 (br lH (pv 2) ao (bA _)) (mS (br rF (b7 de (b7 de (pv 1) (a5 gI (pv 2) ao) (λ_ _=>rfl)) ao (λ_ _=>rfl)) (b7 de (pv 3) ao (λ_ _=>rfl)) (bA _)))).pt (aJ (bx hJ)) bw)))))) (aJ (bx hJ))))
 rintro vs M q ⟨p,k7,rfl,⟨h1,h2⟩,hl,k⟩;have nR:(k7.map ci).length=k7.length:=af _;simp? [↓cE,gG,nR];exact#[#[by omega,by omega],oQ (λi ρ M'=>bU λ(o1 o2:KO W)=>ρ= [some (wi p),some (gG k7),o1,o2] /\ M'=M) #[none,none,rfl,rfl] (λ_ _ _ _ _=>trivial) ?_ ?_];rintro i x ρ M' hx ⟨o1,o2,rfl,rfl⟩ N hN;let⟨hi,rfl⟩:=jV hx;have gu:i<k7.length:=by omega
 have ha:fL (k7.map ci) (0+(i:Int))=some (ci k7[i]):=by rw[Int.zero_add];show eT (by rw[aB,aA gu];rfl)
 have hz:=h1 k7[i] (List.getElem_mem gu);simp? [↓cE,gG,ha,ci];exact#[_,rfl,?_];simp? [↓cE];exact#[_,rfl,?_];simp? [↓cE,hz.1,hz.2,decide_true];exact c8 (λh=> ?_) λh=>hN _ _ #[_,_,rfl,rfl];have Nd:i - 1<k7.length:=by omega
 have O4:fL (k7.map ci) (0+(i:Int) - 1)=some (ci k7[i - 1]):=by
  have:(0+(i:Int) - 1)=((i - 1:Nat):Int):=by omega
  rw[this];show eT (by rw[aB,aA Nd];rfl)
 have fJ:=List.pairwise_iff_getElem.mp h2 (i - 1) i Nd gu (by omega);simp? [↓cE,O4,ci];show c8 (λh=>by omega) λ_=>hN _ _ #[_,_,rfl,rfl];rintro ρ M' ⟨o1,o2,rfl,rfl⟩;simp? [↓cE];show pJ k
def qc (T:kQ K mg A):c_ P w K mg base gx 3 A.l4 A.l_ ["_law_draw","_law_p_here","_law_end","_law_most","_law_far"] (lA K Bx):=by
 exists T.rP.fn,["_law_draw","_law_p_here","_law_end","_law_most","_law_far","_law_goal"],(ax (5\(a5 gI (aP T.cN (bu T) hr (ae (pv 0) (ae (a5 cz (a5 dX ao (pv 2)) ao) aq))) (pv 2))) (aJ (bx (dJ (ae (pv 5) (ae (aP T.lP (nc T) hr (ae (pv 0) (ae (pv 1) (ae (pv 3) (ae (pv 4) aq))))) aq))))))
 rintro vs M q ⟨d,l,p,en,most,jz,rfl,hD,p2,p3,e0,e1,m0,m1,f0,f1,k⟩;have cm: ∀x,d8 2 x=True:=λx=>by simp[d8]
 simp? [↓cE,cm];exact#[d,l,2*en+1,rfl,hD,by omega,by omega,λr M1 r0 r1 D1 b1=> ?_];simp? [↓cE];exact#[d,l,p,most,jz,rfl,D1,p2,p3,m0,m1,f0,f1,λps M2 hl hz D2 b2=> ?_];simp? [↓cE];show pJ (k (r - en) ps _ (by omega) (by omega) hl hz D2 (NB.trans b1 b2))
def k8 (T:kQ K mg A):c_ P w K mg base gx 3 A.ip A.iu ["_law_p_here","_law_thing"] (lA K vB):=by
 exists T.ki.fn,["_law_p_here","_law_thing"],(ax (cP (fP (eu (eo (bn f' (by rfl) T.c0 Boot.«isinstance» (ae (pv 1) (ae (ge (by rfl) T.fD Boot.«tuple» (show RelV (.ty "tuple") _ from rfl)) aq))))) (fq (br lG (bn db (by rfl) T.eE Boot.«len» (ae (pv 1) aq)) ao (bA _)))).pt (aJ (bx hJ)) bw) (aJ (bx (mX (aP T.rR (j6 T) hr (ae (b7 de (pv 1) ao (λ_ _=>rfl)) aq)) (p_ (aP T.h_ (jl T) hr (ae (pv 0) (ae (b7 de (pv 1) ao (λ_ _=>rfl)) aq))))))))
 rintro vs M q ⟨p,a,rfl,hp,hl,k⟩;have e2:decide ((((0+1+1:Nat)):Int)=2)=true:=⋯
 have F8:decide (((2:Nat):Int)=2)=true:=⋯
 simp? [↓cE,jc,e2,F8];exact#[_,rfl,?_];simp? [↓cE];show#[p,a.2,rfl,hp,aD hl ⋯,pJ k]
def fS (T:kQ K mg A):c_ P w K mg base gx 1 A.kC A.kH ["_law_word"] (lA K EY):=by
 exists T.hZ.fn,["_law_word","_law_figures"],(ax (1\(pv 0)) (ax (cP (br eA (bN da (pv 0) cM (bZ ao)) cb (bA _)) (aJ (1\(bN da (pv 0) (bZ ao) cM))) bw) (ax (cP (fP (br eA (bn i5 (by rfl) T.eE Boot.«len» (ae (pv 1) aq)) ao (bA _)) (fq (eu (eo (bn (ml rfl) (by rfl) T.AF Boot.«all» (ae (eM rfl (dh.of (sc:=aL gF) (N:= ["_law_word","_law_figures"]) (own:= ["_law_sign_here"]) (fr:= []) (N':= ["_law_sign_here"])) (vv (pv 1)) (λ_ _ _ _=>(bL (i:=0) (by change(["_law_sign_here"]:Fm Str).Nodup;decide+kernel) rfl (by trivial))) gi (λ_ _ _ _=>d6) (λ_ _ _ _=>(fu BC (pv 0) cb (by rfl)))) aq)))))).pt (aJ (bx (dz aq))) bw) (ax (cP (p7 (br eA (b7 qw (pv 1) ao (λ_ _=>rfl)) cb (bA _)) (mS (br lG (pv 0) cb (bA _)))).pt (aJ (bx (dz aq))) bw) (aJ (bx (dz (ae (cX mh (by rfl) T.wZ Boot.«int» (ae (pv 0) aq)) aq))))))))
 rintro vs M q ⟨x,rfl,hl,ha,kq⟩;have hz:x.length<=sizeLine:=a7 (by omega);have fw:(x.length<=sizeLine)=True:=eq_true hz;have FM:=y8 x;have FL:((df x).length<=sizeLine)=True:=eq_true (aD FM hz);have FN:(df x).cps.all (· <128)=true:=y9 (show cg x from ha);have hf:=kA x;dsimp? [fw];apply qv (λf:Str=> [some (ws x),some (ws f)]) (λ_=>M) (λf=>f=df x);case use=>
  intro key
  show c8 (λh=>key _ (by unfold df;rw[am h])) λh=>key _ (by unfold df;rw[ar h])
 rintro f rfl;have no:¬(PySem.NumText.AllDigits (df x).cps.toList /\ (df x).cps.toList≠ [] /\ ((df x).cps.toList.head? =some 48 ->x=Str.ofString "0")) -> ∀ {M1:Mp},Sm M M1 -> ∀u,M1 u=none -> ∃M0,Sm M0 (um M1 u (.lst [])) /\ q (wr u) M0:=λh M1 s u hu=>#[um M u (.lst []),gD s,by have:=kq u (s.free hu);rw[yD h] at this;show this]
 exact dv ?_;dsimp? [FL];by_cases h0:(df x).length=0;have e0:decide (((df x).length:Int)=0)=true:=bo (by omega);dsimp? [e0];show no (λh=>h.2.1 (List.eq_nil_of_length_eq_zero ((bz _).trans h0))) (Sm.refl M);have e0:decide (((df x).length:Int)=0)=false:=aK (by omega);dsimp? [e0,FN];exact eD (λc=>wb (lL c sK)) (by unfold lB;rw[af,bz];show aD FM hz) (λ_ _=>trivial) ?_ λu hu=> ?_;intro c hc M3 N3 s3 lX;dsimp? [];show lX;exact#[u,(lB (df x)).map λc=>lL c sK,rfl,by rw[aM,bh];rfl,?_];have xE:Sm M (um M u (.lst ((lB (df x)).map λc=>wb (lL c sK)))):=bv hu;by_cases hd:PySem.NumText.AllDigits (df x).cps.toList;have e3:((lB (df x)).map λc=>lL c sK).all id=true:=by rw[List.all_map,List.all_eq_true];intro c hc;unfold lB at hc;let⟨d,wx,rfl⟩:=bp.mp hc;simp[jw,hd d wx]
 rw[e3];let⟨c,t,hc⟩: ∃c t,(df x).cps.toList=c::t:=by
  cases e:(df x).cps.toList with
  | nil=>show absurd (by rw[<- bz,e];rfl) h0
  | cons c t=>show#[c,t,rfl]
 have An:fL (df x).cps.toList 0=some c:=by rw[hc];show eT (j:=0) rfl
 let⟨v,hv,FG⟩:=hf.int hd (by rw[hc];simp) hl;have Rs:(x.length<=640)=True:=eq_true (by omega);dsimp? [An,FL];by_cases h1:(⟨#[c]⟩:Str)=Str.ofString "0";have Ky:c=48:=by have:=congrArg (λz:Str=>z.cps.toList) h1;simp![nS] at this;show(cj this).1
 by_cases h2:x=Str.ofString "0";dsimp? [bo h1,bo h2,bI];exact#[x,v,rfl,hv,by omega,?_];dsimp? [];exact λy hy=>#[um M y (.lst [wi v]),gD xE,?_]
 have:=kq y (xE.free hy);rw[oE #[hd,by rw[hc];simp,λ_=>h2] hv] at this;show this;dsimp? [bo h1,aK h2,bT];show no (λh=>h2 (h.2.2 (by rw[hc,Ky];rfl))) xE;dsimp? [aK h1];exact#[x,v,rfl,hv,by omega,?_];dsimp? [];exact λy hy=>#[um M y (.lst [wi v]),gD xE,?_]
 have:=kq y (xE.free hy);rw[oE #[hd,by rw[hc];simp,λh=>absurd (by rw[hc] at h;rw[show c=48 by simpa using h];decide+kernel) h1] hv] at this;show this;have e3:((lB (df x)).map λc=>lL c sK).all id=false:=by have⟨c,hc,hn⟩: ∃c∈(df x).cps.toList,¬(48<=c /\ c<=57):=Classical.byContradiction λz=>hd λc hc=>Classical.byContradiction λhn=>z #[c,hc,hn];rw[List.all_map,List.all_eq_false];exact#[⟨#[c]⟩,?_,?_];unfold lB;show bp.mpr #[c,hc,rfl];change ¬(lL _ sK)=true;rw[jw,aK hn];decide
 rw[e3];dsimp? [bT];show no (λh=>hd h.1) xE
def lK (T:kQ K mg A):c_ P w K mg base gx 2 A.oY A.pq ["_law_draw"] (lA K EV):=by
 exists T.qq.fn,["_law_draw","_law_some"],(ax (1\cb) (ax (1\(a5 du (pv 1) cb)) (ax (1\(a5 du (pv 1) cb)) (ax (cP (br eA (aP T.cN (bu T) hr (ae (pv 0) (ae ao aq))) ao (bA _)) (aJ (1\cb)) bw) (aJ (bx (b7 qw (pv 1) (aP T.cN (bu T) hr (ae (pv 0) (ae (bn i5 (by rfl) T.eE Boot.«len» (ae (pv 1) aq)) aq))) (λ_ _=>rfl))))))))
 rintro vs M q ⟨d,l,rfl,hD,kq⟩;dsimp? [];exact#[a7 (by right),?_];dsimp? [];exact#[a7 (by right),?_];have hS:0< (Str.ofString " !\"#$&'()*+,-./0123456789:;<=>?@" ++Str.ofString "ABCDEFGHIJKLMNOPQRSTUVWXYZ[\\]^_`" ++Str.ofString "abcdefghijklmnopqrstuvwxyz{|}~\n").length /\ (Str.ofString " !\"#$&'()*+,-./0123456789:;<=>?@" ++Str.ofString "ABCDEFGHIJKLMNOPQRSTUVWXYZ[\\]^_`" ++Str.ofString "abcdefghijklmnopqrstuvwxyz{|}~\n").length<=1000 /\ cg (Str.ofString " !\"#$&'()*+,-./0123456789:;<=>?@" ++Str.ofString "ABCDEFGHIJKLMNOPQRSTUVWXYZ[\\]^_`" ++Str.ofString "abcdefghijklmnopqrstuvwxyz{|}~\n"):=by right
 revert hS;generalize Str.ofString " !\"#$&'()*+,-./0123456789:;<=>?@" ++Str.ofString "ABCDEFGHIJKLMNOPQRSTUVWXYZ[\\]^_`" ++Str.ofString "abcdefghijklmnopqrstuvwxyz{|}~\n" =S;intro hS;dsimp? [];exact#[d,l,2,rfl,hD,⋯,⋯,λz M1 z0 z1 D1 b1=> ?_];dsimp? [];apply qv (λf:Str=> [some (wr d),some (ws f)]) (λ_=>M1) (λf=>0<f.length /\ f.length<=1000 /\ cg f);case use=>
  intro key
  show c8 (λh=>key _ (by right)) λh=>key _ hS
 rintro f ⟨f0,f1,fa⟩;have FL:(f.length<=sizeLine)=True:=eq_true (a7 (by omega));exact dv ?_;dsimp? [FL];exact#[d,l,f.length,rfl,D1,by omega,by omega,λi M2 i0 i1 D2 b2=> ?_];have hi:i.toNat<f.cps.toList.length:=by rw[bz];omega
 have An:fL f.cps.toList i=some f.cps.toList[i.toNat]:=jB i0 (aA hi);dsimp? [An,FL];show pJ (kq _ _ rfl (dM.mpr λc hc=>by rw[aY.mp (show c∈ [f.cps.toList[i.toNat]] from hc)];show dM.mp fa _ (List.getElem_mem hi)) D2 (NB.trans b1 b2))
def ox (T:kQ K mg A):c_ P w K mg base gx 3 A.kB A.kG ["_law_draw","_law_text"] (lA K yo):=by
 exists T.oF.fn,["_law_draw","_law_text","_law_at","_law_way","_law_ahead"],(ax (2\(aP T.cN (bu T) hr (ae (pv 0) (ae (a5 cz (bn i5 (by rfl) T.eE Boot.«len» (ae (pv 1) aq)) ao) aq)))) (ax (3\(aP T.cN (bu T) hr (ae (pv 0) (ae ao aq)))) (ax (cP (br eA (pv 3) ao (bA _)) (aJ (bx (a5 du (bN da (pv 1) cM (bZ (pv 2))) (bN da (pv 1) (bZ (a5 cz (pv 2) ao)) cM)))) bw) (ax (cP (br eA (pv 3) ao (bA _)) (aJ (bx (a5 du (a5 du (bN da (pv 1) cM (bZ (pv 2))) (aP T.qq (lK T) hr (ae (pv 0) aq))) (bN da (pv 1) (bZ (a5 cz (pv 2) ao)) cM)))) bw) (ax (cP (br eA (pv 3) ao (bA _)) (ax (4\(a5 du (bN da (pv 1) cM (bZ (pv 2))) (bN da (pv 1) (bZ (a5 cz (pv 2) ao)) (bZ (a5 cz (pv 2) ao))))) (aJ (bx (a5 du (a5 du (pv 4) (bN da (pv 1) (bZ (pv 2)) (bZ (a5 cz (pv 2) ao)))) (bN da (pv 1) (bZ (a5 cz (pv 2) ao)) cM))))) bw) (ax (cP (br eA (pv 3) ao (bA _)) (aJ (bx (bN da (pv 1) cM (bZ (pv 2))))) bw) (aJ (bx (a5 du (a5 du (bN da (pv 1) cM (bZ (pv 2))) (aP T.qq (lK T) hr (ae (pv 0) aq))) (bN da (pv 1) (bZ (pv 2)) cM))))))))))
 rintro vs M q ⟨d,l,x,rfl,hD,hl,ha,kq⟩;have hz:x.length<=sizeLine:=a7 (by omega);have fw:(x.length<=sizeLine)=True:=eq_true hz;dsimp? [fw];exact#[d,l,x.length+1,rfl,hD,by omega,by omega,λa M1 a0 a1 D1 b1=> ?_];dsimp? [];exact#[d,l,5,rfl,D1,⋯,⋯,λy M2 y0 y1 D2 b2=> ?_];have b3:=NB.trans b1 b2;have s1:=Fc (x:=x) a0;have s2:=vR (x:=x) (i:=a+1) (by omega);have s3:=vS (x:=x) (i:=a+1) (j:=a+2) (by omega) (by omega);have s4:=vS (x:=x) (i:=a) (j:=a+1) (by omega) (by omega);have s7:=rT (x:=x) (i:=a+1) (j:=a+2) (by omega) (by omega);have s8:=rT (x:=x) (i:=a) (j:=a+1) (by omega) (by omega);rw[show(a+1).toNat=a.toNat+1 by omega] at s7;have s5:=vR (x:=x) (i:=a+2) (by omega);have s6:=vR (x:=x) (i:=a) (by omega);have as: ∀ {lo hi},cg (Txt.slice x lo hi):=λ{lo hi}=>dS ha;have t1:(a+2).toNat=a.toNat+2:=by omega
 have t2:(a+1).toNat=a.toNat+1:=by omega
 have t3:(a+2 - (a+1)).toNat=1:=by omega
 have t4:(a+1 - a).toNat=1:=by omega
 rw[t2] at s2;rw[t3] at s3;rw[t4] at s4;rw[t1] at s5;dsimp? [];exact c8 (λh=> ?_) λh=> ?_;dsimp? [fw];exact#[a7 (by omega),?_];show pJ (kq _ _ (by rw[cS];omega) (Nm.app as as) D2 b3);dsimp? [];exact c8 (λh=> ?_) λh=> ?_;dsimp? [fw];exact#[d,l,rfl,D2,λs M3 hs ny D3 b4=> ?_];dsimp? [fw];exact#[a7 (by omega),?_];dsimp? [fw];exact#[a7 (by rw[cS];omega),?_];show pJ (kq _ _ (by rw[cS,cS];omega) (Nm.app (Nm.app as ny) as) D3 (NB.trans b3 b4));dsimp? [];exact c8 (λh=> ?_) λh=> ?_;dsimp? [fw];exact#[a7 (by omega),?_];dsimp? [fw];exact#[a7 (by rw[cS];omega),?_];dsimp? [fw];exact#[a7 (by rw[cS,cS];omega),?_];show pJ (kq _ _ (by rw[cS,cS,cS];omega) (Nm.app (Nm.app (Nm.app as as) as) as) D2 b3);dsimp? [];exact c8 (λh=> ?_) λh=> ?_;dsimp? [fw];show pJ (kq _ _ (by omega) as D2 b3);dsimp? [fw];exact#[d,l,rfl,D2,λs M3 hs ny D3 b4=> ?_];dsimp? [fw];exact#[a7 (by omega),?_];dsimp? [fw];exact#[a7 (by rw[cS];omega),?_];show pJ (kq _ _ (by rw[cS,cS];omega) (Nm.app (Nm.app as ny) as) D3 (NB.trans b3 b4))
def qb (T:kQ K mg A):c_ P w K mg base gx 2 A.l0 A.l8 ["_law_draw","_law_text"] (lA K Bw):=by
 exists T.rO.fn,["_law_draw","_law_text","_law_words_here","_law_one","_law_other","_law_kept"],(ax (2\(fg bt PySem.F.slot_str_split PySem.F.type_str_split ka (pv 1) (ae cb aq))) (ax (cP (fP (br jZ (bn db (by rfl) T.eE Boot.«len» (ae (pv 2) aq)) ao (bA _)) (fq (br lH (aP T.cN (bu T) hr (ae (pv 0) (ae ao aq))) ao (bA _)))).pt (aJ (bx (pv 1))) bw) (ax (3\(a5 cz ao (aP T.cN (bu T) hr (ae (pv 0) (ae (a5 gI (bn db (by rfl) T.eE Boot.«len» (ae (pv 2) aq)) ao) aq))))) (ax (4\(a5 cz ao (aP T.cN (bu T) hr (ae (pv 0) (ae (a5 gI (bn db (by rfl) T.eE Boot.«len» (ae (pv 2) aq)) ao) aq))))) (ax (5\(b7 cH (pv 2) (pv 3) (λ_ _=>rfl))) (ax (cP (br eA (aP T.cN (bu T) hr (ae (pv 0) (ae ao aq))) ao (bA _)) (aJ (eX (b7 cH (pv 2) (pv 4) (λ_ _=>rfl)) (fR (pv 2) (pv 3) dP))) bw) (ax (eX (pv 5) (fR (pv 2) (pv 4) dP)) (aJ (bx (fg bt PySem.F.slot_str_join PySem.F.type_str_join rK cb (ae (pv 2) aq)))))))))))
 rintro vs M q ⟨d,l,r,rfl,hD,hl,hn,kq⟩;have hw:=e9 r;have qy: ∀y∈((toString r.1:Str)++Str.ofString ":")::r.2.map bO,y.length<=51 /\ cg y:=λy hy=>by
  obtain rfl | hy:=az.mp hy;have:=fh (k:=24) ⋯ hn.1;have e:(Str.ofString ":").length=1:=by right
  show#[by rw[cS];omega,Nm.app (qF _) (by right)];let⟨z,hz,rfl⟩:=bp.mp hy;show#[lN (k:=24) ⋯ (hn.2 z hz),zg z]
 have dj:(((toString r.1:Str)++Str.ofString ":")::r.2.map bO).length<=7:=by simp;omega
 have eb:(Str.ofString " ").length=1:=by right
 have Nt: ∀ss:Fm Str,(∀y∈ss,y.length<=51 /\ cg y) ->ss.length<=7 ->(Builtin.Str.glued (Str.ofString " ") ss).length<=400 /\ cg (Builtin.Str.glued (Str.ofString " ") ss):=λss h1 h2=>by have h3:=ik (Str.ofString " ") ss λy hy=>(h1 y hy).1;have h4:ss.length*(51+(Str.ofString " ").length) <=7*52:=Nat.mul_le_mul h2 (by omega);show#[by omega,w8 (by right) λy hy=>(h1 y hy).2]
 have wo:=Nt _ qy dj;have Oz:=dO r;rw[<- show be r=Builtin.Str.glued (Str.ofString " ") _ from Oz] at wo;dsimp? [];exact#[by right,a7 (by omega),?_];intro u hu;rw[show Txt.split (be r) (Str.ofString " ")=_ from hw];revert qy dj;generalize ((toString r.1:Str)++Str.ofString ":")::r.2.map bO=ss;intro qy dj;have Dc:(ss.map ws).length=ss.length:=af _;dsimp? [Dc];exact c8 (λh=> ?_) λh=> ?_;dsimp? [];show#[M,bv hu,kq _ _ wo.1 wo.2 hD (NB.refl d M)];dsimp? [];exact#[d,l,3,rfl,hD.put hu,⋯,⋯,λz M2 z0 z1 D2 b2=> ?_];have Mv: ∀a,a≠d ->a≠u ->M2 a=M a:=λa h1 h2=>by rw[b2 a h1,cO h2]
 dsimp? [];exact c8 (λh=> ?_) λh=> ?_;dsimp? [];let⟨M0,m1,m2,m3⟩:=sC hD hu D2 Mv;show#[M0,m1,kq _ _ wo.1 wo.2 m2 m3];let⟨nd,nl⟩:=hD.ne hu;have Fv:M2 u=some (.lst (ss.map ws)):=by rw[b2 u nd,aM]
 dsimp? [Fv,Dc];exact#[d,l,_,rfl,D2,by omega,by omega,λi M3 i0 i1 D3 b3=> ?_];have MP:M3 u=some (.lst (ss.map ws)):=by rw[b3 u nd];show Fv
 dsimp? [MP,Dc];exact#[d,l,_,rfl,D3,by omega,by omega,λj M4 j0 j1 D4 b4=> ?_];have MN:M4 u=some (.lst (ss.map ws)):=by rw[b4 u nd];show MP
 have Oe: ∀a,a≠d ->a≠u ->M4 a=M a:=λa h1 h2=>by rw[b4 a h1,b3 a h1,Mv a h1 h2]
 have hi:(1+i).toNat<ss.length:=by omega
 have hj:(1+j).toNat<ss.length:=by omega
 have ai:fL (ss.map ws) (1+i)=some (ws ss[(1+i).toNat]):=jB (by omega) (by rw[aB,aA hi];rfl);have aj:fL (ss.map ws) (1+j)=some (ws ss[(1+j).toNat]):=jB (by omega) (by rw[aB,aA hj];rfl);have xi:lg ss.length (1+i)=some (1+i).toNat:=by unfold lg;split<;>simp<;>omega
 have xj:lg ss.length (1+j)=some (1+j).toNat:=by unfold lg;split<;>simp<;>omega
 dsimp? [MN,ai];exact#[d,l,2,rfl,D4,⋯,⋯,λk M5 k0 k1 D5 b5=> ?_];have MM:M5 u=some (.lst (ss.map ws)):=by rw[b5 u nd];show MN
 have Mu: ∀a,a≠d ->a≠u ->M5 a=M a:=λa h1 h2=>by rw[b5 a h1,Oe a h1 h2]
 apply qv (λx:Fm Str×Mp=> [some (wr d),some (ws (be r)),some (wr u),some (wi (1+i)),some (wi (1+j)),some (ws ss[(1+i).toNat])]) (λx=>x.2) (λx=>dW (x.2 u=some (.lst (x.1.map ws))) (x.1.length=ss.length) (∀y∈x.1,y.length<=51 /\ cg y) (Dr x.2 d l) (∀a,a≠d ->a≠u ->x.2 a=M a));case use=>
  intro key
  dsimp? []
  exact c8 (λh=> ?_) λh=>key (ss,M5) #[MM,rfl,qy,D5,Mu]
  simp? [↓bQ,MM,aj,Dc,xi]
  exact key (ss.set (1+i).toNat ss[(1+j).toNat],um M5 u (.lst ((ss.map ws).set (1+i).toNat (ws ss[(1+j).toNat])))) #[by dsimp only;rw[aM,List.map_set],by simp,λy hy=> ?_,D5.Bp nd nl,λa h1 h2=>by dsimp only;rw[cO h2];show Mu a h1 h2]
  obtain hy | rfl:=List.mem_or_eq_of_mem_set hy
  show qy y hy
  show qy _ (List.getElem_mem hj)
 rintro⟨ts,M6⟩ ⟨ML,tl,tw,D6,Mt⟩;dsimp only at ML tl tw D6 Mt ⊢;have Ov:(ts.map ws).length=ss.length:=by rw[af,tl]
 exact dv ?_;dsimp? [ML,Ov,xj];have L7: ∀y∈ts.set (1+j).toNat ss[(1+i).toNat],y.length<=51 /\ cg y:=λy hy=>by obtain hy | rfl:=List.mem_or_eq_of_mem_set hy;show tw y hy;show qy _ (List.getElem_mem hi)
 have hg:=Nt _ L7 (by simp;omega);exact vZ (ss:=ts.set (1+j).toNat ss[(1+i).toNat]) (c:=51) (by rw[aM,List.map_set]) (λy hy=>(L7 y hy).1) (aD (m:=7*52) (Nat.mul_le_mul (by simp;omega) (by omega)) (a7 ⋯)) ?_;let⟨M0,m1,m2,m3⟩:=sC hD hu (D6.Bp (o:= .lst ((ts.set (1+j).toNat ss[(1+i).toNat]).map ws)) nd nl) λa h1 h2=>by rw[cO h2];show Mt a h1 h2
 rw[List.map_set] at m1;show#[M0,m1,kq _ _ hg.1 hg.2 m2 m3]
def tq (T:kQ K mg A):c_ P w K mg base gx 4 A.oV A.pi ["_law_p_here","_law_text"] (lA K ES):=by
 exists T.vQ.fn,["_law_p_here","_law_text","_law_told_here","e"],(ax (2\(dz aq)) (ax (yj rfl rfl (yl (i:=2) nd rfl (by rfl) (ym (rA T.read (yt T) (hr.mono ⋯) (by rfl) (ae (pv 0) (ae (pv 1) aq))))) (zk.name (i:=3) (by rfl) T.dt nd rfl (by rfl) (λea=>(aJ (2\(dz (ae cb (ae (bn (show dn _ _ (vn K) from kM) (by rfl) T.c0 Boot.«isinstance» (ae (pv 3) (ae (mW (by rfl) T.k_ (show RelV (.ref A.eY) _ from rfl)) aq))) (ae (bn (show dn _ _ (vn K) from kM) (by rfl) T.c0 Boot.«isinstance» (ae (pv 3) (ae (ge (by rfl) T.nJ Boot.«ValueError» (show RelV (.ty "ValueError") _ from rfl)) aq))) (ae (bn (show dn _ _ (vn K) from kM) (by rfl) T.c0 Boot.«isinstance» (ae (pv 3) (ae (mW (by rfl) T.vJ (show RelV (.ref A.kN) _ from rfl)) aq))) aq)))))))) zk.nil)) (aJ (bx (pv 2)))))
 rintro vs M q ⟨p,x,rfl,hl,ha,kq,ke⟩;dsimp? [];intro a0 h0;dsimp? [xO,DH,DG,zq];exact#[p,x,rfl,hl,ha,λr g e=> ?_,λlV=> ?_];intro u hu;dsimp? [];show#[_,gD (bv h0),kq r g e u ((bv h0).free hu)];intro ea oK;exact CM ?_;dsimp? [DW];exact rZ aM T.dt.k T.fI ?_;dsimp? [];exact BW aM T.dt.k T.fX ?_;dsimp? [];exact rZ aM T.dt.k T.iV ?_;dsimp? [sj];intro u hu;dsimp? [sj];have s2:=(bv (o:= .lst []) h0).trans (bv (o:= .exc A.dc) oK);show#[_,gD s2,ke lV u (s2.free hu)]
def j5 (T:kQ K mg A):c_ P w K mg base gx 1 A.l3 A.l9 ["_law_one"] (lA K yp):=by
 exists T.nj.fn,["_law_one","_law_words_here"],(ax (1\(dz (ae (a5 du (cX gj (by rfl) T.sH Boot.«str» (ae (b7 de (pv 0) ao (λ_ _=>rfl)) aq)) cb) aq))) (ax (mU (fg PySem.F.plainAttrs_list PySem.F.slot_list_extend PySem.F.type_list_extend tE (pv 1) (ae (eM rfl (dh.of (sc:=aL iK) (N:= ["_law_one","_law_words_here"]) (own:= ["_law_place","_law_setting"]) (fr:= []) (N':= ["_law_place","_law_setting"])) (vt (b7 de (pv 0) ao (λ_ _=>rfl))) (λ_ _ _ _=>(fQ (n:=2) rfl (cr (bL (i:=0) (by change(["_law_place","_law_setting"]:Fm Str).Nodup;decide+kernel) rfl (by trivial)) (cr (bL (i:=1) (by change(["_law_place","_law_setting"]:Fm Str).Nodup;decide+kernel) rfl (by trivial)) d7)))) fi (λ_ _ _ _=>d6) (λ_ _ _ _=>(a5 du (a5 du (cX gj (by rfl) T.sH Boot.«str» (ae (pv 0) aq)) cb) (cX gj (by rfl) T.sH Boot.«str» (ae (pv 1) aq))))) aq))) (aJ (bx (fg bt PySem.F.slot_str_join PySem.F.type_str_join rK cb (ae (pv 1) aq))))))
 rintro vs M q ⟨a,rfl,hl,⟨hn,hz⟩,k⟩;have l1:=fh (k:=500) ⋯ hn;have lc:(Str.ofString ":").length=1:=by right
 have lb:(Str.ofString " ").length=1:=by right
 have le:(Str.ofString "=").length=1:=by right
 dsimp? [jc,gG,eq_true (j7 hn)];exact#[a7 (by omega),?_];intro t ht;dsimp? [];exact eD (λz=>ws (bO z)) (big (by omega)) (λ_ _=>trivial) ?_ λu hu=> ?_;intro z yS M3 N3 s3 lX;have lS:=hz z yS;have n1:=fh (k:=500) ⋯ lS.1;have n2:=fh (k:=500) ⋯ lS.2;have g1:=eq_true (j7 lS.1);have g2:=eq_true (j7 lS.2);dsimp? [ci,g1,g2];exact#[a7 (by omega),?_];dsimp? [g2];exact#[a7 (by rw[cS];omega),?_];show lX;have Ot:t≠u:=gK aM hu;have FI:(1+(a.2.map λz=>ws (bO z)).length<=sizeLine)=True:=eq_true (by rw[af];show big (by omega));dsimp? [cO Ot,FI];have Ka:Sm M (um (um (um M t (.lst [ws (Str.ofString (toString a.1)++Str.ofString ":")])) u (.lst (a.2.map λz=>ws (bO z)))) t (.lst ([ws (Str.ofString (toString a.1)++Str.ofString ":")]++a.2.map λz=>ws (bO z)))):=λc o e=>by
  have nt:=gK e ht;have h2:um M t (.lst [ws (Str.ofString (toString a.1)++Str.ofString ":")]) c=some o:=by rw[cO nt];show e
  rw[cO nt,cO (gK h2 hu)];show h2
 have dj: ∀x∈((toString a.1:Str)++Str.ofString ":")::a.2.map bO,x.length<=1100:=λx hx=>by obtain rfl | hx:=az.mp hx;rw[cS];omega;let⟨z,yS,rfl⟩:=bp.mp hx;have:=lN (k:=500) ⋯ (hz z yS);omega
 exact vZ (ss:=((toString a.1:Str)++Str.ofString ":")::a.2.map bO) (c:=1100) ?_ dj ?_ ?_;rw[aM,aC,bh];rfl;exact aD (m:=2000000) ?_ (by rw[sizeLine_eq];decide);rw[bj,af,lb];omega;rw[<- dO];show#[M,Ka,k]
def m_ (T:kQ K mg A):c_ P w K mg base gx 2 A.jf A.jh ["_law_p_here","_law_text"] (lA K Bz):=by
 exists T.lO.fn,["_law_p_here","_law_text","_law_at","_law_end","_law_pairs","_law_word","_law_cut","_law_one"],(ax (2\(fg bt PySem.F.slot_str_find PySem.F.type_str_find rL (pv 1) (ae cb aq))) (ax (cP (fP (br jZ (pv 2) ao (bA _)) (fP (br m8 (bN da (pv 1) (bZ (a5 cz (pv 2) ao)) (bZ (a5 cz (pv 2) ao))) (dJ (ae cb (ae cb aq))) (by rfl)) (fq (br eA (b7 qw (pv 1) (zZ uN ao) (λ_ _=>rfl)) cb (bA _))))).pt (aJ (bx (dz aq))) bw) (ax (3\(aP T.hZ (fS T) hr (ae (bN da (pv 1) cM (bZ (pv 2))) aq))) (ax (4\(dz aq)) (ax (jW PassesOwn.never rfl (ft (fg bt PySem.F.slot_str_split PySem.F.type_str_split ka (bN da (pv 1) (bZ (a5 cz (pv 2) ao)) cM) (ae cb aq))) (bL (i:=5) nd rfl (by trivial)) (ax (6\(fg bt PySem.F.slot_str_find PySem.F.type_str_find rL (pv 5) (ae cb aq))) (aJ (cP (br lH (pv 6) ao (bA _)) (aJ (mU (fg PySem.F.plainAttrs_list PySem.F.slot_list_append PySem.F.type_list_append gf (pv 4) (ae (dJ (ae (aP T.hZ (fS T) hr (ae (bN da (pv 5) cM (bZ (pv 6))) aq)) (ae (aP T.hZ (fS T) hr (ae (bN da (pv 5) (bZ (a5 cz (pv 6) ao)) cM) aq)) aq))) aq)))) bw)))) (ax (cP (fP (br eA (bn db (by rfl) T.eE Boot.«len» (ae (pv 3) aq)) ao (bA _)) (fq (eu (eo (bn (ml rfl) (by rfl) T.AF Boot.«all» (ae (eM rfl (dh.of (sc:=aL eL) (N:= ["_law_p_here","_law_text","_law_at","_law_end","_law_pairs","_law_word","_law_cut","_law_one"]) (own:= ["_law_place","_law_setting"]) (fr:= []) (N':= ["_law_place","_law_setting"])) (ft (pv 4)) (λ_ _ _ _=>(fQ (n:=2) rfl (cr (bL (i:=0) (by change(["_law_place","_law_setting"]:Fm Str).Nodup;decide+kernel) rfl (by trivial)) (cr (bL (i:=1) (by change(["_law_place","_law_setting"]:Fm Str).Nodup;decide+kernel) rfl (by trivial)) d7)))) fi (λ_ _ _ _=>d6) (λ_ _ _ _=>(fu eA (a5 dX (bn (mf (K:=K) rfl) (by rfl) T.eE Boot.«len» (ae (pv 0) aq)) (bn (mf (K:=K) rfl) (by rfl) T.eE Boot.«len» (ae (pv 1) aq))) ao (bA _)))) aq)))))).pt (aJ (bx (dz aq))) bw) (ax (7\(dJ (ae (b7 cH (pv 3) ao (λ_ _=>rfl)) (ae (cX eR (by rfl) T.fD Boot.«tuple» (ae (eM rfl (dh.of (sc:=aL eL) (N:= ["_law_p_here","_law_text","_law_at","_law_end","_law_pairs","_law_word","_law_cut","_law_one"]) (own:= ["_law_place","_law_setting"]) (fr:= []) (N':= ["_law_place","_law_setting"])) (ft (pv 4)) (λ_ _ _ _=>(fQ (n:=2) rfl (cr (bL (i:=0) (by change(["_law_place","_law_setting"]:Fm Str).Nodup;decide+kernel) rfl (by trivial)) (cr (bL (i:=1) (by change(["_law_place","_law_setting"]:Fm Str).Nodup;decide+kernel) rfl (by trivial)) d7)))) fi (λ_ _ _ _=>d6) (λ_ _ _ _=>(dJ (ae ((pv 0)∩ao) (ae ((pv 1)∩ao) aq))))) aq)) aq)))) (ax (cP (fP (br (BB hr.Jb) (aP T.qp (lJ T) hr (ae (pv 0) (ae (cX kL (by rfl) T.wY Boot.«list» (ae (b7 de (pv 7) ao (λ_ _=>rfl)) aq)) aq))) (b7 de (pv 7) ao (λ_ _=>rfl)) (bA _)) (fq (br lG (aP T.nj (j5 T) hr (ae (pv 7) aq)) (pv 1) (bA _)))).pt (aJ (bx (dz aq))) bw) (aJ (bx (dz (ae (pv 7) aq))))))))))))
 rintro vs M q ⟨p,x,rfl,MT,J9,hl,ha,kq,ke⟩;have fw:(x.length<=sizeLine)=True:=eq_true (a7 (by omega));have has:=(show cg x from ha)
 have no:(∀r:WQ.Rd,f_ p r.2 ->x≠be r) -> ∀ {M1:Mp},Sm M M1 -> ∀u,M1 u=none -> ∃M0,Sm M0 (um M1 u (.lst [])) /\ q (wr u) M0:=λh M1 s u hu=>#[um M u (.lst []),gD s,ke h u (s.free hu)]
 have FS:(Str.ofString ":")=⟨#[58]⟩:=by right
 have OY:((Str.ofString " ").length==0)=false:=by right
 dsimp? [fw];rcases kz x 58 with⟨e,lV⟩ | ⟨a,b,h1,h2,h3⟩
 rw[<- FS] at e;have d1:decide ((-1:Int) <0)=true:=⋯
 dsimp? [e,d1];show no (λr g e=>lV (by rw[e,eU];simp)) (Sm.refl M);rw[<- FS] at h3;have C': ∀ {r:WQ.Rd},x=be r ->a=(Str.ofString (toString r.1)).cps.toList:=λ{r} e=>(ix h2 JD (h1.symm.trans (by rw[e];show eU r))).1;have d1:decide ((a.length:Int) <0)=false:=aK (by omega);have RD:a.length+1<=x.length:=by rw[<- bz,h1];simp
 dsimp? [h3,d1,fw];exact#[.str (Txt.slice x (some ((a.length:Int)+1)) (some ((a.length:Int)+2))),[.str (Str.ofString ""), .str (Str.ofString " ")],rfl, .inl rfl,rfl,rfl,?_];rw[am rfl,yR];by_cases hm:Txt.slice x (some ((a.length:Int)+1)) (some ((a.length:Int)+2))=Str.ofString "" \/ Txt.slice x (some ((a.length:Int)+1)) (some ((a.length:Int)+2))=Str.ofString " ";case neg=>
  rw[aK hm]
  dsimp? [bT]
  show no (λr g e=>hm (by rw[e];show Bd (by rw[C' e]) (by rw[C' e]))) (Sm.refl M)
 rw[bo hm];let⟨c,hc⟩: ∃c,x.cps.toList.getLast? =some c:=by
  cases e:x.cps.toList.getLast? with
  | some c=>show#[c,rfl]
  | none=>rw[List.getLast?_eq_none_iff] at e;rw[<- bz,e] at J9;cases J9
 have An:fL x.cps.toList (-1)=some c:=pC hc;dsimp? [bI,An];by_cases hs:(⟨#[c]⟩:Str)=Str.ofString " ";dsimp? [bo hs];have Kz:c=32:=by have:=congrArg (λz:Str=>z.cps.toList) (hs.trans ed);show(cj this).1
 show no (λr g e=>xZ (by rw[<- e];show An) Kz) (Sm.refl M);dsimp? [aK hs,fw];exact#[Txt.slice x none (some (a.length:Int)),rfl,aD (Txt.slice_le x _ _) hl,dS has,λen Nh=> ?_];have hE: ∀ {r:WQ.Rd},x=be r ->cc (Txt.slice x none (some (a.length:Int)))= [r.1]:=λ{r} e=>by have:=vd r;rw[<- e] at this;rw[show Txt.slice x none (some (a.length:Int))=Str.ofString (toString r.1) by rw[C' e,e];show Bg];show qm (by omega)
 have KJ:=hW (Txt.slice x none (some (a.length:Int)));have KL: ∀n∈cc (Txt.slice x none (some (a.length:Int))),n.natAbs<10 ^ 500:=λn hn=>ni (aD (Txt.slice_le x _ _) hl) hn;revert hE KJ KL;generalize cc (Txt.slice x none (some (a.length:Int)))=E at*;intro hE KJ KL;dsimp? [];intro ap Hz;have O8:M ap=none:=(bv Nh).free Hz;have s1:Sm M (um (um M en (.lst (E.map wi))) ap (.lst [])):=(bv Nh).trans (bv Hz);have Od:en≠ap:=gK aM Hz;have FO:um (um M en (.lst (E.map wi))) ap (.lst []) en=some (.lst (E.map wi)):=bv Hz _ _ aM;have Cp:um (um M en (.lst (E.map wi))) ap (.lst []) ap=some (.lst (([]:Zs).map AJ)):=aM;generalize um (um M en (.lst (E.map wi))) ap (.lst [])=M1 at s1 FO Cp ⊢;have OB:(Txt.slice x (some ((a.length:Int)+2)) none).length<=500:=aD (Txt.slice_le x _ _) hl;have OC:cg (Txt.slice x (some ((a.length:Int)+2)) none):=dS has;have hR: ∀ {r:WQ.Rd},x=be r ->(Txt.split (Txt.slice x (some ((a.length:Int)+2)) none) (Str.ofString " ")).filterMap fK=r.2.map λz=>(Str.ofString (toString z.1),Str.ofString (toString z.2)):=λ{r} e=>by rw[e];show xY (by rw[C' e])
 dsimp? [fw];exact#[OY,a7 (by omega),?_];intro u hu;have qy: ∀s∈Txt.split (Txt.slice x (some ((a.length:Int)+2)) none) (Str.ofString " "),s.length<=500 /\ cg s:=λs hs=>by
  let⟨e0,ls,hw⟩: ∃e0 ls,Txt.split (Txt.slice x (some ((a.length:Int)+2)) none) (Str.ofString " ")=e0::ls:=by
   cases e:Txt.split (Txt.slice x (some ((a.length:Int)+2)) none) (Str.ofString " ") with
   | nil=>show absurd e (gY _ _)
   | cons a b=>show#[a,b,rfl]
  rw[hw] at hs;show#[aD (iG hw s hs) OB,lq OC hw s hs]
 have MJ:=split_le (Txt.slice x (some ((a.length:Int)+2)) none) (Str.ofString " ");revert hR qy MJ;generalize Txt.split (Txt.slice x (some ((a.length:Int)+2)) none) (Str.ofString " ")=L;intro hR qy MJ;have nu:u≠ap:=(gK Cp hu).symm;simp? [↓bQ];exact oQ (λi ρ M'=>fE λ(o5 o6:KO W) (zs:Zs)=>dW (ρ= [some (wi p),some (ws x),some (wi a.length),some (wr en),some (wr ap),o5,o6,none]) (LP M M' ap zs) (zs.map (λz=>(z.1.2,z.2.2))=(L.take i).filterMap fK) (M' en=some (.lst (E.map wi))) (M' u=some (.lst (L.map ws)))) #[none,none,[],rfl,#[bv hu _ _ Cp,s1.trans (bv hu),by simp],rfl,bv hu _ _ FO,aM] ?_ ?_ ?_;rintro i ρ M' hi ⟨o5,o6,zs,rfl,hP,hz,h5,h6⟩;show h6;rintro i y ρ M' hy ⟨o5,o6,zs,rfl,hP,hz,h5,h6⟩ N hN;rw[aB] at hy;cases el:L[i]? with
 | none=>rw[el] at hy;cases hy
 | some s=>
  rw[el] at hy;cases hy;let⟨wo,ny⟩:=qy s (bD el);have hsz:(s.length<=sizeLine)=True:=eq_true (a7 (by omega));have C9:(zs.map AJ).length<sizeLine:=by have h8:=congrArg List.length hz;have h9:=List.length_filterMap_le fK (L.take i);rw[af] at h8;rw[bi] at h9;rw[af];show CJ (by omega)
  have et:(L.take (i+1)).filterMap fK=(L.take i).filterMap fK++(fK s).toList:=by rw[List.take_add_one,el,List.filterMap_append];cases h:fK s<;>simp[h]
  dsimp? [];exact c8 (λhf=> ?_) λhf=> ?_;have ec:fK s=some (Txt.slice s none (some (Txt.find s (Str.ofString "="))),Txt.slice s (some (Txt.find s (Str.ofString "=")+1)) none):=by unfold fK;rw[am hf]
  have l1:(Txt.slice s none (some (Txt.find s (Str.ofString "=")))).length<=500:=aD (Txt.slice_le s _ _) wo;have l2:(Txt.slice s (some (Txt.find s (Str.ofString "=")+1)) none).length<=500:=aD (Txt.slice_le s _ _) wo;have KG:=hP.Dm;dsimp? [hsz,KG];exact#[_,rfl,l1,dS ny,λv hv=> ?_];dsimp? [hsz];exact#[_,rfl,l2,dS ny,λw' yT=> ?_];have Cr:=hP.step O8 hv yT l1 l2;have KD:um (um M' v (.lst ((cc (Txt.slice s none (some (Txt.find s (Str.ofString "="))))).map wi))) w' (.lst ((cc (Txt.slice s (some (Txt.find s (Str.ofString "=")+1)) none)).map wi)) ap=some (.lst (zs.map AJ)):=bv yT _ _ (bv hv _ _ hP.Dm);have J5:=eq_true C9;dsimp? [KD,J5];exact hN _ _ #[_,_,_,rfl,Cr,?_,?_,?_];rw[cn,hz,et,ec];rfl;rw[cO Od];show bv yT _ _ (bv hv _ _ h5);rw[cO nu];show bv yT _ _ (bv hv _ _ h6);have ec:fK s=none:=by unfold fK;rw[ar hf]
  exact hN _ _ #[_,_,zs,rfl,hP,?_,h5,h6];rw[hz,et,ec];simp
 .rintro ρ M' ⟨o5,o6,zs,rfl,hP,hz,h5,h6⟩;rw[af,List.take_length] at hz;have Nl: ∀ {r:WQ.Rd},x=be r ->(∀z∈zs,(cc z.1.2).length=1 /\ (cc z.2.2).length=1) /\ zs.map pL=r.2:=λ{r} e=>yf (by rw[<- e];show hl) (hz.trans (hR e));have C9:zs.length<=502:=by have h8:=congrArg List.length hz;have h9:=List.length_filterMap_le fK L;rw[af] at h8;omega
  have Co:=hP.Dm;have O9:(E.map wi).length=E.length:=af _;dsimp only;exact dv ?_;dsimp? [h5,O9];by_cases e0:E.length=0;have d2:decide ((E.length:Int)=0)=true:=bo (by omega);dsimp? [d2];show no (λr g e=>by rw[hE e] at e0;cases e0) hP.sm;let⟨n,rfl⟩: ∃n,E= [n]:=by
   match E,e0,KJ with
   | [n],_,_=>show#[n,rfl]
  have d2:decide (((1:Nat):Int)=0)=false:=⋯
  dsimp? [d2,Co];exact eD (l:=zs) (λz:(KQ×Str)×KQ×Str=>wb (decide (((cc z.1.2).length:Int)*((cc z.2.2).length:Int)=1))) (a7 (by omega)) (λM2 Er=>Er _ _ Co) ?_ λt ht=> ?_;intro z yS M3 N3 s3 lX;let⟨k1,k2,_⟩:=hP.HN z yS;have k3:=s3 _ _ k1;have k4:=s3 _ _ k2;have c1:((cc z.1.2).map wi).length=(cc z.1.2).length:=af _;have c2:((cc z.2.2).map wi).length=(cc z.2.2).length:=af _;have c3:=hW z.1.2;have cm:d8 ((cc z.1.2).length:Int) ((cc z.2.2).length:Int)=True:=eq_true (.inl #[by omega,by omega]);dsimp? [AJ,k3,k4,c1,c2,cm];show lX;exact#[t,zs.map λz=>decide (((cc z.1.2).length:Int)*((cc z.2.2).length:Int)=1),rfl,by rw[aM,bh];rfl,?_];have s3:Sm M' (um M' t (.lst (zs.map λz=>wb (decide (((cc z.1.2).length:Int)*((cc z.2.2).length:Int)=1))))):=bv ht;generalize um M' t (.lst (zs.map λz=>wb (decide (((cc z.1.2).length:Int)*((cc z.2.2).length:Int)=1))))=M2 at s3 ⊢;cases oN:(zs.map λz=>decide (((cc z.1.2).length:Int)*((cc z.2.2).length:Int)=1)).all id with
  | false=>dsimp? [bT];exact no (λr g e=> ?_) (hP.sm.trans s3);rw[List.all_map,List.all_eq_false] at oN;let⟨z,lS,Ah⟩:=oN;let⟨j1,j2⟩:=(Nl e).1 z lS;show Ah (by change decide _=true;rw[j1,j2];rfl)
  | true=>
   have HH: ∀z∈zs,(cc z.1.2).length=1 /\ (cc z.2.2).length=1:=λz lS=>by rw[List.all_map,List.all_eq_true] at oN;have hh:=of_decide_eq_true (oN z lS);have c3:=hW z.1.2;have c4:=hW z.2.2;obtain c5 | c5:=(show(cc z.1.2).length=0 \/ (cc z.1.2).length=1 by omega);rw[c5] at hh;simp at hh;obtain c6 | c6:=(show(cc z.2.2).length=0 \/ (cc z.2.2).length=1 by omega);rw[c6] at hh;simp at hh;show#[c5,c6]
   have h7:=s3 _ _ h5;have FX:=s3 _ _ Co;dsimp? [h7,FX,bI];exact eD (l:=zs) (λz=>ci (pL z)) (a7 (by omega)) (λM2 Er=>Er _ _ FX) ?_ λt2 Hr=> ?_;intro z yS M3 N3 s4 lX;let⟨k1,k2,_⟩:=hP.HN z yS;rw[m9 (HH z yS).1] at k1;rw[m9 (HH z yS).2] at k2;have k3:=s4 _ _ (s3 _ _ k1);have k4:=s4 _ _ (s3 _ _ k2);dsimp? [AJ,k3,k4];show lX;have eP:(zs.map λz=>ci (pL z))=(zs.map pL).map ci:=by rw[bh];rfl
   rw[eP];have s5:=(hP.sm.trans s3).trans (bv (o:= .lst ((zs.map pL).map ci)) Hr);have BZ:um M2 t2 (.lst ((zs.map pL).map ci)) t2=some (.lst ((zs.map pL).map ci)):=aM;generalize um M2 t2 (.lst ((zs.map pL).map ci))=M3 at s5 BZ ⊢;have lT:((zs.map pL).map ci).length<=sizeLine:=by rw[af,af];show a7 (by omega)
   have Kg:sJ 500 (n,zs.map pL):=#[KL n (by simp),λz lS=>by let⟨y,hy,rfl⟩:=bp.mp lS;let⟨_,_,_,_,k5,k6⟩:=hP.HN y hy;show#[ni k5 (by have:=m9 (HH y hy).1;rw[this];show List.mem_singleton_self _),ni k6 (by have:=m9 (HH y hy).2;rw[this];show List.mem_singleton_self _)]]
   have dj:(zs.map pL).length<=502:=by rw[af];show C9
   have HB: ∀ {r:WQ.Rd},x=be r ->zs.map pL=r.2:=λ{r} e=>(Nl e).2;revert Kg dj HB BZ lT;generalize zs.map pL=ps;intro BZ lT Kg dj HB;have Kc:=eq_true lT;dsimp? [BZ,Kc];intro y hy;exact#[y,p,ps,rfl,aM,by omega,trivial,by omega,?_];have s6:=s5.trans (bv (o:= .lst (ps.map ci)) hy);generalize um M3 y (.lst (ps.map ci))=M4 at s6 ⊢;dsimp? [];exact yA ?_;by_cases hn:j8 p ps=ps;case neg=>
    rw[aK hn]
    dsimp? [bT]
    show no (λr g e=>hn (by rw[HB e];show vF (by omega) (kx.mp g))) s6
   rw[bo hn];dsimp? [bI];exact#[(n,ps),rfl,by change ps.length<=1000;omega,Kg,?_];dsimp? [];by_cases he:be (n,ps)=x;case neg=>
    dsimp? [aK he,bT]
    show no (λr g e=>he (by have h8:=HB e;have h9:=hE e;rw[e];congr 1;show Prod.ext (cj h9).1 h8)) s6
   dsimp? [bo he,bI];intro v hv;show#[_,gD s6,kq (n,ps) (kx.mpr (by rw[<- hn];show hV (by omega) ps)) he.symm v (s6.free hv)]
def BF (T:kQ K mg A):c_ P w K mg base gx 5 A.Av A.Az ["_law_script"] (n5 K):=by
 exact E4 T.law.fn vg ⋯ λcdv A' outer s H E hr=> ?_;have nd:=vg.nd;exact#[_,(ax (1\(aP T.rS (qe T) hr (ae (pv 0) aq))) (ax (2\(aP T.My (BG T) hr (ae (pv 1) aq))) (ax (3\(aP T.rP (qc T) hr (ae (pv 1) (ae (b7 de (dJ (ae (pv 2) (ae (pv 2) (ae ao aq)))) (aP T.cN (bu T) hr (ae (pv 1) (ae ao aq))) (λ_ _=>rfl)) (ae ao (ae ao (ae ao aq))))))) (ax (cP (br eA (aP T.cN (bu T) hr (ae (pv 1) (ae ao aq))) ao (bA _)) (aJ (3\(dJ (ae (a5 cz (b7 de (pv 3) ao (λ_ _=>rfl)) (aP T.qo (lI T) hr (ae (pv 1) aq))) (ae (aP T.rQ (qd T) hr (ae (b7 de (pv 3) ao (λ_ _=>rfl)) (ae (aP T.qo (lI T) hr (ae (pv 1) aq)) aq))) aq))))) bw) (ax (4\(aP T.rO (qb T) hr (ae (pv 1) (ae (aP T.nj (j5 T) hr (ae (pv 3) aq)) aq)))) (ax (jW PassesOwn.never rfl (iO (by rfl) T.nI (ae (aP T.cN (bu T) hr (ae (pv 1) (ae ao aq))) aq)) (bL (i:=5) nd rfl (by trivial)) (aJ (4\(aP T.oF (ox T) hr (ae (pv 1) (ae (pv 4) aq)))))) (ax (6\(dz aq)) (ax (cP (br lG (pv 4) cb (bA _)) (aJ (6\(aP T.lO (m_ T) hr (ae (pv 2) (ae (pv 4) aq))))) bw) (ax (7\(aP T.vQ (tq T) hr (ae (pv 2) (ae (pv 4) aq)))) (ax (cP (br eA (bn db (by rfl) T.eE Boot.«len» (ae (pv 6) aq)) ao (bA _)) (aJ (bx (fu (vD hr.Jb) (pv 7) (dz (ae cb (ae hJ (ae hJ (ae hJ aq))))) (bA _)))) bw) (aJ (bx (mX (fu eA (bn db (by rfl) T.eE Boot.«len» (ae (pv 7) aq)) ao (bA _)) (mX (aP T.ki (k8 T) hr (ae (pv 2) (ae (b7 cH (pv 7) ao (λ_ _=>rfl)) aq))) (p_ (fu (vD hr.Jb) (b7 cH (pv 7) ao (λ_ _=>rfl)) (b7 cH (pv 6) ao (λ_ _=>rfl)) (bA _))))))))))))))))),?_];try dsimp only[dF]
 exact#[_,inferInstance,?_];intro d l M hD;dsimp? [];exact#[d,l,rfl,hD,λp M1 hp D1 _=> ?_];have p0:0<p:=by omega
 have p2:2<=p:=by omega
 have p1:p<1000:=by omega
 dsimp? [];exact#[d,l,3,rfl,D1,⋯,⋯,λr M2 r0 r1 D2 b2=> ?_];let⟨pp,OE,N_,N9⟩: ∃pp:Int,fL [wi p,wi p,wi 7] r=some (wi pp) /\ 2<=pp /\ pp<1000:=by obtain rfl | rfl | rfl:=(show r=0 \/ r=1 \/ r=2 by omega);show#[p,rfl,p2,p1];show#[p,rfl,p2,p1];show#[7,rfl,⋯,⋯]
 dsimp? [OE];exact#[d,l,pp,12,6,12,rfl,D2,N_,N9,⋯,⋯,⋯,⋯,⋯,⋯,λg ps M3 ga gb lp hz D3 _=> ?_];have hP:dB pp (j8 pp ps):=hV (by omega) ps;have HC:(j8 pp ps).length<=6:=aD (yx pp ps) (by omega);have tX: ∀y∈j8 pp ps, -12<=y.1 /\ y.1<=12 /\ 0<y.2 /\ y.2<1000:=λy hy=>by let⟨y',Fu,e⟩:=BH hy;have h1:=hz y' Fu;have h2:=hP.1 y hy;omega
 revert tX HC;generalize j8 pp ps=pt;intro HC tX;simp? [↓bQ];exact dv (kr (λρ M'=> ∃one:WQ.Rd,dN (ρ= [none,some (wr d),some (wi p),some (jc one),none,none,none,none]) (one.2.length<=6) (sJ 24 one) (Dr M' d l)) ?_ λN hN=> ?_);rintro ρ M' ⟨one,rfl,hl,hn,D4⟩;have up: ∀ {n:Int},n.natAbs<10 ^ 24 ->n.natAbs<10 ^ 500:=λh=>aF h (Nat.pow_le_pow_right ⋯ ⋯);dsimp? [];exact#[one,rfl,by omega,#[up hn.1,λz hz=>#[up (hn.2 z hz).1,up (hn.2 z hz).2]],?_];dsimp? [];exact#[d,l,one,rfl,D4,hl,hn,λx M5 hx Ol D5 b5=> ?_];dsimp? [];exact#[d,l,3,rfl,D5,⋯,⋯,λk M6 k0 k1 D6 b6=> ?_];dsimp? [];exact#[#[by omega,by omega],oQ (λi ρ M'=>bU λ(o5:KO W) (y:Str)=>dN (ρ= [none,some (wr d),some (wi p),some (jc one),some (ws y),o5,none,none]) (Dr M' d l) (y.length<=400+i) (cg y)) #[none,x,rfl,D6,by omega,Ol] (λ_ _ _ _ _=>trivial) ?_ ?_];rintro i y ρ M' hy ⟨o5,s,rfl,D7,hs,ny⟩ N hN;let⟨hi,rfl⟩:=jV hy;dsimp? [];exact#[d,l,s,rfl,D7,by omega,ny,λt M8 ht Ow D8 b8=> ?_];dsimp? [];show hN _ _ #[_,t,rfl,D8,by omega,Ow];rintro ρ M' ⟨o5,s,rfl,D7,hs,ny⟩;rw[lF] at hs;have Hs:s.length<=500:=by omega
 dsimp only;exact dv ?_;simp? [↓bQ];intro a ha;have kw: ∀r:WQ.Rd,be r≠Str.ofString "" :=λr e=>by have:=congrArg (λz:Str=>z.cps.toList) e;simp![eU] at this;rw[show(Str.ofString "").cps.toList= [] by right] at this;simp at this
 by_cases hr: ∃r:WQ.Rd,f_ p r.2 /\ s=be r;let⟨r,hg,rfl⟩:=hr;have same: ∀r':WQ.Rd,be r=be r' ->r'=r:=λr' e=>(Be (by omega) e).symm;have h0:0< (be r).length:=by rw[<- bz,eU];simp;omega
 have Ru:r.2.length<=502:=by have h1:=split_le (be r) (Str.ofString " ");rw[e9] at h1;simp at h1;omega
 dsimp? [aK (kw r),bT];exact#[p,be r,rfl,p2,h0,Hs,ny,λr' g' e u hu=> ?_,λlV=>absurd rfl (lV r hg)];obtain rfl:=same r' e;have Hq:um (um M' a (.lst [])) u (.lst [jc r']) u=some (.lst [jc r']):=aM;generalize um (um M' a (.lst [])) u (.lst [jc r'])=M9 at Hq ⊢;dsimp? [];exact#[p,be r',rfl,Hs,ny,λr2 g2 e2 v hv=> ?_,λlV=>absurd rfl (lV r' hg)];obtain rfl:=same r2 e2;have Ai:um M9 v (.lst [jc r2]) v=some (.lst [jc r2]):=aM;have Fv:=bv (o:= .lst [jc r2]) hv _ _ Hq;have e1:decide (((1:Nat):Int)=0)=false:=⋯
 have F8:decide (((1:Nat):Int)=1)=true:=⋯
 have e3:fL [jc r2] 0=some (jc r2):=rfl;dsimp? [Fv,Ai,e1,F8,e3];exact#[p,r2,rfl,kx.mp hg,by omega,?_];dsimp? [Fv,Ai,e3];show F6 rfl rfl;have lV: ∀r:WQ.Rd,f_ p r.2 ->s≠be r:=λr g e=>hr #[r,g,e];have e1:decide (((0:Nat):Int)=0)=true:=⋯
 exact dv (kr (λρ M9=> ∃u:KQ,ρ= [none,some (wr d),some (wi p),some (jc one),some (ws s),o5,some (wr u),none] /\ M9 u=some (.lst [])) ?_ λN hN=> ?_);rintro ρ M9 ⟨u,rfl,hu⟩;dsimp? [];exact#[p,s,rfl,Hs,ny,λr g e=>absurd e (lV r g),λ_ v hv=> ?_];have Ai:um M9 v (.lst [ws (Str.ofString "bad"),wb true,wb true,wb false]) v=some (.lst [ws (Str.ofString "bad"),wb true,wb true,wb false]):=aM;have Hq:=bv (o:= .lst [ws (Str.ofString "bad"),wb true,wb true,wb false]) hv _ _ hu;dsimp? [Hq,e1];intro y hy;show CA (d:= .lst [.str (Str.ofString "bad"), .bl true, .bl true, .bl false]) (.inr #[_,_,_,rfl,bv hy _ _ Ai,rfl,rfl]) (.inr #[_,_,_,rfl,aM,rfl,rfl]) ⋯ rfl rfl;by_cases h0:s=Str.ofString "";dsimp? [bo h0,bI];show hN _ _ #[a,rfl,aM];have OQ:0<s.length:=by obtain h | h:=Nat.eq_zero_or_pos s.length;show absurd (cZ (by rw[List.eq_nil_of_length_eq_zero ((bz s).trans h),show(Str.ofString "").cps.toList= [] by right])) h0;show h
 dsimp? [aK h0,bT];exact#[p,s,rfl,p2,OQ,Hs,ny,λr g e=>absurd e (lV r g),λ_ u hu=> ?_];dsimp? [];show hN _ _ #[u,rfl,aM];simp? [↓bQ];exact#[d,l,3,rfl,D3,⋯,⋯,λz M5 z0 z1 D5 _=> ?_];simp? [↓bQ];exact c8 (λh=> ?_) λh=>hN _ _ #[(g,pt),rfl,HC,#[?_,λy hy=> ?_],D5];simp? [↓bQ,jc];exact#[d,l,rfl,D5,λu M6 u0 u1 D6 _=> ?_];simp? [↓bQ,jc];exact#[d,l,rfl,D6,λv M7 v0 v1 D7 _=> ?_];simp? [↓bQ,jc];exact#[pt,v,rfl,by omega,?_];simp? [↓bQ];exact hN _ _ #[(g+u,mv v pt),rfl,by change(mv v pt).length<=6;rw[BK];show HC,#[?_,λy hy=> ?_],D7];change(g+u).natAbs<10 ^ 24;omega;let⟨y',Fu,rfl⟩:=bp.mp hy;have h2:=tX y' Fu;change(y'.1+v).natAbs<10 ^ 24 /\ y'.2.natAbs<10 ^ 24;omega;change g.natAbs<10 ^ 24;omega;have h2:=tX y hy;omega
end
end iF
namespace iF
open PySem L2 WL WQ PyProof.Rows
theorem walk {l:W.OpenLaw}{q:KY}{jd:Fm Str}{XP:(Str ->KO Fp) ->K0 ->Prop}{YP:KZ ->K0 ->Prop}{d:DefRec}{K:Params ->KW}(hn:l.most=some 63)(FR:d.params.defaults= []) (hY: ∀ (w:KZ) (h:K0),YP w h ->(K w.params).In h) (nm:d.name= "law") (F: ∀ (w:KZ) (mg:Str ->KO Fp) (h:K0),(K w.params).In h ->h.Ns mainGlobals mg -> ∃A,kQ (K w.params) mg A): W.WalkO q jd XP YP l.row.toRowW d [] (λf vs=>PySem.call f vs):=L2.xN (n:=63) (k:=5) (x:= "_law_script") (CX:=λ_=>gx) (sp:=λw=>n5 (K w.params)) hn ⋯ FR #[rfl,⋯,⋯] hY (λw mg fa h X G e=>(F w mg h X G).elim λ_ T=>BQ T.law (nm▸e) (λ_ _ _ _ _ _ _=>rfl) λ_=>BF T) (λ_ _ a ns hl _ hS=>#[a,ns,rfl,hS,λ_=>rfl]) λ_ _ _ _ _ z=>z
end iF
end
def PySem.W.Fast.tw15648777970683467400:Nat:=0
def PySem.W.Fast.tw3503314508156927069:Nat:=0
def PySem.W.Fast.tw5717927872435633138:Nat:=0
def PySem.W.Fast.tw2602782316559001187:Nat:=0
def PySem.W.Fast.tw11951888124288803379:Nat:=0
def PySem.W.Fast.tw12705494644267966153:Nat:=0
def PySem.W.Fast.tw16866907546284123594:Nat:=0
def PySem.W.Fast.tw1947737287429217663:Nat:=0
def PySem.W.Fast.tw11756123922921529064:Nat:=0
def PySem.W.Fast.tw3718383824743087694:Nat:=0
def PySem.W.Fast.tw17789582121793743640:Nat:=0
def PySem.W.Fast.tw8888256537133622144:Nat:=0
def PySem.W.Fast.tw17364744461721470165:Nat:=0
def PySem.W.Fast.tw18240891276580219274:Nat:=0
def PySem.W.Fast.tw7045374865802011966:Nat:=0
def PySem.W.Fast.tw8267802571359362805:Nat:=0
def PySem.W.Fast.tw3305457855977302985:Nat:=0
def PySem.W.Fast.tw5099035233040176368:Nat:=0
def PySem.W.Fast.tw17512853418530167730:Nat:=0
def PySem.W.Fast.tw10645871126146606486:Nat:=0
def PySem.W.Fast.tw5186007027529637108:Nat:=0
def PySem.W.Fast.tw17344760032462588652:Nat:=0
def PySem.W.Fast.tw4204520785178485491:Nat:=0
def PySem.W.Fast.tw5508276554801315989:Nat:=0
def PySem.W.Fast.tw14962754145456117271:Nat:=0
def PySem.W.Fast.tw7475778859482298300:Nat:=0
def PySem.W.Fast.tw6522472897449632235:Nat:=0
def PySem.W.Fast.tw16433909125417824426:Nat:=0
def PySem.W.Fast.tw791825017862574128:Nat:=0
def PySem.W.Fast.tw10516787668959322723:Nat:=0
def PySem.W.Fast.tw11970931352507034197:Nat:=0
def PySem.W.Fast.tw16311351259637637721:Nat:=0
def PySem.W.Fast.tw14839985479944624772:Nat:=0
def PySem.W.Fast.tw12299160254542083120:Nat:=0
def PySem.W.Fast.tw6738012639746250157:Nat:=0
def PySem.W.Fast.tw88305932792442372:Nat:=0
def PySem.W.Fast.tw10899659375843042714:Nat:=0
def PySem.W.Fast.tw3196879993800880612:Nat:=0
def PySem.W.Fast.tw17149525375549316104:Nat:=0
def PySem.W.Fast.tw17747956926554515884:Nat:=0
def PySem.W.Fast.tw1762361314481713534:Nat:=0
def PySem.W.Fast.tw16582735908255045558:Nat:=0
def PySem.W.Fast.tw4586015274214566457:Nat:=0
def PySem.W.Fast.tw8117186926105778102:Nat:=0
def PySem.W.Fast.tw9041105443984433266:Nat:=0
def PySem.W.Fast.tw10498792638060969677:Nat:=0
def PySem.W.Fast.tw10819144858621439075:Nat:=0
def PySem.W.Fast.tw3286861235839049444:Nat:=0
def PySem.W.Fast.tw13682324601215712008:Nat:=0
def PySem.W.Fast.tw4784290154788083293:Nat:=0
def PySem.W.Fast.tw8550142131487744011:Nat:=0
def PySem.W.Fast.tw10340861146963979184:Nat:=0
def PySem.W.Fast.tw6596974548105087936:Nat:=0
open PySem PySem.W PyProof.Rows L2
set_option maxRecDepth 100000 in
set_option maxHeartbeats 0 in
theorem PySem.Challenge.cw_duskround_k51_rounds_read_holds : PySem.Challenge.rw_duskround_k51_rounds_read.Holds := by
 w_on;o_law;k_head;(case hw=>w_witness2)
 k_fill
 refine iF.walk (l:=PySem.Challenge.rw_duskround_k51_rounds_read) rfl rfl (λw h Y=>PySem.W.kIn_of Y) rfl λw mg h X G=> ?_
 have' xk:=cW (x:= "number") (ps:= ["text"]) (st:=iF.g0) X G ?g15 ?g16 ?g17 ?g18;(case g15 | g16 | g17 | g18=>k_is);have' CT:=cW (x:= "lamp") (ps:= ["p","text"]) (st:=iF.pY) X G ?g19 ?g20 ?g21 ?g22;(case g19 | g20 | g21 | g22=>k_is);have' CS:=cW (x:= "read") (ps:= ["p","text"]) (st:=iF.iJ) X G ?g23 ?g24 ?g25 ?g26;(case g23 | g24 | g25 | g26=>k_is);have' ut:=cW (x:= "_law_begin") (ps:= ["_law_script"]) (st:=iF.iM) X G ?g27 ?g28 ?g29 ?g30;(case g27 | g28 | g29 | g30=>k_is);have' xo:=cW (x:= "_law_take") (ps:= ["_law_draw","_law_many"]) (st:=iF.n9) X G ?g31 ?g32 ?g33 ?g34;(case g31 | g32 | g33 | g34=>k_is);have' xl:=cW (x:= "_law_wide") (ps:= ["_law_draw"]) (st:=iF.n6) X G ?g35 ?g36 ?g37 ?g38;(case g35 | g36 | g37 | g38=>k_is);have' Gu:=cW (x:= "_law_p") (ps:= ["_law_draw"]) (st:=iF.zP) X G ?g39 ?g40 ?g41 ?g42;(case g39 | g40 | g41 | g42=>k_is);have' xn:=cW (x:= "_law_tidy") (ps:= ["_law_p_here","_law_pairs"]) (st:=iF.jQ) X G ?g43 ?g44 ?g45 ?g46;(case g43 | g44 | g45 | g46=>k_is);have' pI:=cW (x:= "_law_pattern") (ps:= ["_law_draw","_law_p_here","_law_most","_law_far"]) (st:=iF.ja) X G ?g47 ?g48 ?g49 ?g50;(case g47 | g48 | g49 | g50=>k_is);have' uq:=cW (x:= "_law_round") (ps:= ["_law_draw","_law_p_here","_law_end","_law_most","_law_far"]) (st:=iF.lE) X G ?g51 ?g52 ?g53 ?g54;(case g51 | g52 | g53 | g54=>k_is);have' ur:=cW (x:= "_law_moved") (ps:= ["_law_pattern_here","_law_by"]) (st:=iF.iL) X G ?g55 ?g56 ?g57 ?g58;(case g55 | g56 | g57 | g58=>k_is);have' uo:=cW (x:= "_law_shown") (ps:= ["_law_one"]) (st:=iF.iK) X G ?g59 ?g60 ?g61 ?g62;(case g59 | g60 | g61 | g62=>k_is);have' qH:=cW (x:= "_law_number") (ps:= ["_law_word"]) (st:=iF.gF) X G ?g63 ?g64 ?g65 ?g66;(case g63 | g64 | g65 | g66=>k_is);have' pH:=cW (x:= "_law_reading") (ps:= ["_law_p_here","_law_text"]) (st:=iF.eL) X G ?g67 ?g68 ?g69 ?g70;(case g67 | g68 | g69 | g70=>k_is);have' xp:=cW (x:= "_law_sign") (ps:= ["_law_draw"]) (st:=iF.n_) X G ?g71 ?g72 ?g73 ?g74;(case g71 | g72 | g73 | g74=>k_is);have' qG:=cW (x:= "_law_spoilt") (ps:= ["_law_draw","_law_text"]) (st:=iF.jR) X G ?g75 ?g76 ?g77 ?g78;(case g75 | g76 | g77 | g78=>k_is);have' zl:=cW (x:= "_law_int") (ps:= ["_law_thing"]) (st:=iF.rf) X G ?g79 ?g80 ?g81 ?g82;(case g79 | g80 | g81 | g82=>k_is);have' kS:=cW (x:= "_law_is_pattern") (ps:= ["_law_p_here","_law_thing"]) (st:=iF.fO) X G ?g83 ?g84 ?g85 ?g86;(case g83 | g84 | g85 | g86=>k_is);have' nN:=cW (x:= "_law_is_round") (ps:= ["_law_p_here","_law_thing"]) (st:=iF.g_) X G ?g87 ?g88 ?g89 ?g90;(case g87 | g88 | g89 | g90=>k_is);have' ul:=cW (x:= "_law_words") (ps:= ["_law_draw","_law_text"]) (st:=iF.lD) X G ?g91 ?g92 ?g93 ?g94;(case g91 | g92 | g93 | g94=>k_is);have' xm:=cW (x:= "_law_told") (ps:= ["_law_p_here","_law_text"]) (st:=iF.n8) X G ?g95 ?g96 ?g97 ?g98;(case g95 | g96 | g97 | g98=>k_is);have' Gs:=cW (x:= "law") (ps:= ["_law_script"]) (st:=iF.vh) X G ?g99 ?g100 ?g101 ?g102;(case g99 | g100 | g101 | g102=>k_is);have' uk:=qD (x:= "BadText") X G ?g104;(case g104=>k_is);have' xf:=qD (x:= "NoDeed") X G ?g105;(case g105=>k_is);have' lm:=qD (x:= "StreetError") X G ?g106;(case g106=>k_is);have' uu:=AM (x:= "BadText") X ?g107 ?g108 ?g109 ?g110 ?g111 ?g112 ?g113 ?g114;(case g107=>k_is);(case g108=>k_exc);(case g109 | g110 | g111 | g112 | g113 | g114=>k_is)
 refine' ⟨⟨_,_,_,_,_,_,_,_,_,_,_,_,_,_,_,_,_,_,_,_,_,_,_,_,_,_,_,_,_,_,_,_,_,_,_,_,_,_,_,_,_,_,_,_,_,_,_⟩,bf X G ?g1,bf X G ?g2,bf X G ?g3,bf X G ?g4,bf X G ?g5,bf X G ?g6,bf X G ?g7,bf X G ?g8,bf X G ?g9,bf X G ?g10,bf X G ?g11,bf X G ?g12,bf X G ?g13,bf X G ?g14,xk,CT,CS,ut,xo,xl,Gu,xn,pI,uq,ur,uo,qH,pH,xp,qG,zl,kS,nN,ul,xm,Gs,A_ X G ?g103,uk,xf,lm,uu,?g115,?g116,?g117⟩
 (case g1 | g2 | g3 | g4 | g5 | g6 | g7 | g8 | g9 | g10 | g11 | g12 | g13 | g14 | g103=>k_is);(case g115 | g116 | g117=>kit_is)
