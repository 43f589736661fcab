import PyProof.Rows.All
import Wide.All
import OpenK.AllK
import Wide.FinOn
import Lean
import PyProof.EqAt
import PyProof.EqKinds
import PyProof.TupleCall
import PyProof.NeKinds
import PyProof.SumAny
import PyProof.ConsumeS
import PyProof.WalkInts
import PyProof.Draws
import PyProof.EnumMake
import PyProof.Rows.Range3
import PyProof.MeetsStr
import KE.KDictLaws
import PyProof.Rows.CallKwBuiltin
import PyProof.DictItems
import KE.KPairComp
import PyProof.AttrMissHeap
import KE.KDictOf
import KE.KItemsList
import PySem.Challenge.RW_duskround_k14_rounds_of_each_cost
set_option linter.all false
set_option genSizeOf false
set_option genInjectivity false
abbrev yr:=@List
abbrev yt:=@PySem.Value
abbrev yu:=@PySem.Shared
abbrev BP:=@Option
abbrev Fm:=@PySem.Addr
abbrev Fn:=@PyProof.Rows.Keyed
abbrev Fo:=@Array
abbrev Fp:=@PySem.W.Frag
abbrev Fq:=@PyProof.Rows.SortSt
def ai:=@if_neg
def aj:=@if_pos
def ak:=@PyProof.Rows.wpS_bind
def am:=@Nat.le_refl
def ao:=@PyProof.Rows.wpS_pure
def ap:=@Bool.false_eq_true
def aq:=@List.size_toArray
def ar:=@PySem.wpAny_bind
def av:=@List.length_map
def ax:=@PySem.Heap.lt_size
def ay:=@PySem.Heap.get?_push_of_some
def az:=@List.map_cons
def aB:=@List.getElem?_append_right
def aC:=@List.find?_cons
def aD:=@List.mem_cons
def aE:=@Option.some.inj
def aF:=@Bool.false_ne_true
def aG:=@List.getElem?_eq_some_iff
def aH:=@List.getElem?_append_left
def aJ:=@Nat.lt_of_lt_of_le
def aK:=@List.length_append
def aM:=@List.getElem?_eq_getElem
def aO:=@if_false
def aP:=@List.getElem?_map
def aQ:=@List.take_append_drop
def aR:=@List.mem_append_right
def aS:=@PySem.wpAny_pure
def aV:=@PySem.PassesOwn.never
def aX:=@List.append_assoc
def aZ:=@Nat.ne_of_lt
def a0:=@Nat.le_trans
def a4:=@Array.toList_append
def a5:=@PySem.Heap.get?_push_size
def a6:=@PySem.W.mg_none_of
def a8:=@PyProof.Rows.wpS_forRange
def a9:=@decide_eq_false
def a_:=@PySem.W.kia_one
def be:=@List.length_cons
def bg:=@if_true
def bh:=@List.mem_append
def bn:=@List.replicate_succ
def bq:=@Ne.symm
def bu:=@List.mem_singleton
def bv:=@List.pairwise_append
def bC:=@PySem.mem_of_lookup
def bD:=@Array.length_toList
def bG:=@List.perm_append_comm
inductive bH {T0 T1:Type}(P:T0 ->T1 ->Prop):Prop | mk (x0:T0) (x1:T1) (h:P x0 x1):bH P
inductive dr {T0 T1 T2:Type}(P:T0 ->T1 ->T2 ->Prop):Prop | mk (x0:T0) (x1:T1) (x2:T2) (h:P x0 x1 x2):dr P
inductive d5 {T0 T1 T2 T3:Type}(P:T0 ->T1 ->T2 ->T3 ->Prop):Prop | mk (x0:T0) (x1:T1) (x2:T2) (x3:T3) (h:P x0 x1 x2 x3):d5 P
inductive wT {T0 T1 T2 T3 T4:Type}(P:T0 ->T1 ->T2 ->T3 ->T4 ->Prop):Prop | mk (x0:T0) (x1:T1) (x2:T2) (x3:T3) (x4:T4) (h:P x0 x1 x2 x3 x4):wT P
inductive za {T0 T1 T2 T3 T4 T5:Type}(P:T0 ->T1 ->T2 ->T3 ->T4 ->T5 ->Prop):Prop | mk (x0:T0) (x1:T1) (x2:T2) (x3:T3) (x4:T4) (x5:T5) (h:P x0 x1 x2 x3 x4 x5):za P
inductive Ej {T0 T1 T2 T3 T4 T5 T6:Type}(P:T0 ->T1 ->T2 ->T3 ->T4 ->T5 ->T6 ->Prop):Prop | mk (x0:T0) (x1:T1) (x2:T2) (x3:T3) (x4:T4) (x5:T5) (x6:T6) (h:P x0 x1 x2 x3 x4 x5 x6):Ej P
inductive Ei {T0 T1 T2 T3 T4 T5 T6 T7:Type}(P:T0 ->T1 ->T2 ->T3 ->T4 ->T5 ->T6 ->T7 ->Prop):Prop | mk (x0:T0) (x1:T1) (x2:T2) (x3:T3) (x4:T4) (x5:T5) (x6:T6) (x7:T7) (h:P x0 x1 x2 x3 x4 x5 x6 x7):Ei P
inductive b0 (P0 P1 P2:Prop):Prop | mk (At:P0) (As:P1) (Ar:P2):b0 P0 P1 P2
inductive c6 (P0 P1 P2 P3:Prop):Prop | mk (At:P0) (As:P1) (Ar:P2) (CC:P3):c6 P0 P1 P2 P3
inductive dB (P0 P1 P2 P3 P4:Prop):Prop | mk (At:P0) (As:P1) (Ar:P2) (CC:P3) (D7:P4):dB P0 P1 P2 P3 P4
inductive gW (P0 P1 P2 P3 P4 P5:Prop):Prop | mk (At:P0) (As:P1) (Ar:P2) (CC:P3) (D7:P4) (Fl:P5):gW P0 P1 P2 P3 P4 P5
inductive wq (P0 P1 P2 P3 P4 P5 P6:Prop):Prop | mk (At:P0) (As:P1) (Ar:P2) (CC:P3) (D7:P4) (Fl:P5) (G0:P6):wq P0 P1 P2 P3 P4 P5 P6
set_option Elab.async false
set_option maxRecDepth 100000
set_option genSizeOf false
set_option genInjectivity false
local macro_rules | `(∅) => `(by lia)
local macro_rules | `(⇑$x) => `(by simpa using $x)
set_option compiler.extract_closed false
noncomputable section
local macro_rules|`(⋯)=>`(by decide)
local macro_rules|`(tactic|symm)=>`(tactic|constructor)
local macro_rules|`(tactic|exact $e)=>`(tactic|refine $e)
local macro_rules|`(tactic|show $e)=>`(tactic|refine $e)
local macro_rules|`(def $i $s:optDeclSig:=by $v)=>do let d:=Lean.mkNode ``Lean.Parser.Command.declSig #[s.raw[0],s.raw[1][0]];`(theorem $i $(⟨d⟩):declSig:=by $v)|`(def $i $s:optDeclSig $v:declVal)=>`(noncomputable def $i $s:optDeclSig $v:declVal)|`(abbrev $i $s:optDeclSig $v:declVal)=>`(noncomputable abbrev $i $s:optDeclSig $v:declVal)
local macro_rules|`(tactic|let $p:term$[:$t]?:=$e)=>do let r:=p.raw.rewriteBottomUp (λs=>let k:=s.getKind;if s.isIdent then Lean.mkNode `Lean.Parser.Tactic.rcasesPat.one #[s] else if k==`Lean.Parser.Term.hole then Lean.mkNode `Lean.Parser.Tactic.rcasesPat.ignore s.getArgs else if k==`Lean.Parser.Term.anonymousCtor then Lean.mkNode `Lean.Parser.Tactic.rcasesPat.tuple (s.getArgs.modify 1 λa=>.node .none `null (a.getArgs.map λq=>if q.isAtom then q else Lean.mkNode `Lean.Parser.Tactic.rcasesPatLo #[Lean.mkNode `Lean.Parser.Tactic.rcasesPatMed #[Lean.mkNullNode #[q]],Lean.mkNullNode])) else s);`(tactic|obtain $(⟨Lean.mkNode `Lean.Parser.Tactic.rcasesPatMed #[Lean.mkNullNode #[r]]⟩):rcasesPatMed$[:$t]?:=$e)
local macro_rules|`(tactic|simp![$x,*]$[$l]?)=>`(tactic|simp only[$x,*]$[$l]?)
local macro_rules|`(#[$x,$y])=>`(⟨$x,$y⟩)|`(#[$x,$y,$z,*])=>`(⟨$x,$y,$z,*⟩)
namespace TS
open PySem PyProof.Rows
def LE (less:Fn ->Fn ->Bool)(x y:Fn):Prop:=less y x=false
structure Ord (less:Keyed ->Keyed ->Bool):Prop where
 y_: ∀x y,less x y=true ->less y x=false
 trans: ∀x y z,LE less x y ->LE less y z ->LE less x z
def Ord.refl (O:Ord less)(x:Fn):LE less x x:=by
 unfold LE;cases h:less x x with
 | false=>rfl
 | true=>show(O.y_ x x h).symm.trans h▸rfl
theorem Ord.le (O:Ord less)(h:less x y=true):LE less x y:=O.y_ x y h
def Ord.yn (O:Ord less)(h:LE less x y)(h':less y z=true):less x z=true:=by
 cases e:less x z with
 | true=>rfl
 | false=>have:=O.trans z x y e h;unfold LE at this;rw[h'] at this;cases this
def bf (xs:Fo Fn)(i:Nat):Fn:=(xs[i]?).getD (.none, .none)
def qf (h:i<xs.size):xs[i]? =some (bf xs i):=by unfold bf;rw[getElem?_pos xs i h];rfl
def de (h:xs[i]? =ys[j]?):bf xs i=bf ys j:=by unfold bf;rw[h]
def iJ (h:i<xs.size):bf xs i∈xs.toList:=by unfold bf;rw[getElem?_pos xs i h];simp
def Sg (less:Fn ->Fn ->Bool)(xs:Fo Fn)(lo hi:Nat):Prop:= ∀i j,lo<=i ->i<=j ->j<hi ->LE less (bf xs i) (bf xs j)
def Ng (less:Fn ->Fn ->Bool)(xs:Fo Fn)(lo hi:Nat):Prop:= ∀i j,lo<=i ->i<=j ->j<hi ->LE less (bf xs j) (bf xs i)
structure SB (kd:SortKind)(a₀:Array Keyed)(st:SortSt):Prop where
 perm:(arrOf st).Perm a₀
 kd:kindOf st=kd
 fl:failedOf st=none
theorem SB.size {kd:SortKind}{st:Fq}(h:SB kd a₀ st):(arrOf st).size=a₀.size:=h.perm.size_eq
theorem SB.mem {kd:SortKind}{st:Fq}(h:SB kd a₀ st)(hi:i<a₀.size):bf (arrOf st) i∈a₀.toList:=(Array.perm_iff_toList_perm.mp h.perm).mem_iff.mp (iJ (by rw[h.size];show hi))
theorem SB.arr {kd:SortKind}{st:Fq}(h:SB kd a₀ st)(hp:xs.Perm (arrOf st)):SB kd a₀ (setArr st xs):=#[hp.trans h.perm,h.kd,h.fl]
def cW (prog:Program)(w:World)(A:Around)(E:yt ->yu ->Prop)(s:yu)(kd:SortKind)(a₀:Fo Fn)(less:Fn ->Fn ->Bool):Prop:=∀ (x y:Fn) (st:Fq) (Q:BP Bool ->Fq ->Prop),x∈a₀.toList ->y∈a₀.toList ->kindOf st=kd ->Q (some (less x y)) st ->wpS (model prog w) A E s (lt' x y) Q st
def wp_elem {st:Fq}(hi:i<xs.size)(h:Q (bf xs i) st):wpS (model prog w) A E s (elem' xs i) Q st:=by rw[elem'_eq,qf hi];show ao h
def wp_lt (L:cW prog w A E s kd a₀ less){st:Fq}(B:SB kd a₀ st)(hi:i<a₀.size)(hj:j<a₀.size)(h:Q (some (less (bf (arrOf st) i) (bf (arrOf st) j))) st):wpS (model prog w) A E s (ltAt' i j) Q st:=by rw[ltAt'_eq];exact ak (wpS_get ?_);show ak (wp_elem (by rw[B.size];show hi) (ak (wp_elem (by rw[B.size];show hj) (L _ _ _ _ (B.mem hi) (B.mem hj) B.kd h))))
def wp_rev {st:Fq}(h:Q () (setArr st (mirror (arrOf st) i j ((j - i) / 2)))):wpS (model prog w) A E s (reverseSlice' i j) Q st:=by rw[reverseSlice'_eq];show wpS_modify h
def bT (hj:j<=xs.size)(k:Nat):bf (mirror xs i j ((j - i) / 2)) k=if i<=k /\ k<j then bf xs (i+j - 1 - k) else bf xs k:=by have e:=getElem?_mirror_all (i:=i) hj k;by_cases c:i<=k /\ k<j;rw[aj c] at e ⊢;show de e;rw[ai c] at e ⊢;show de e
def d2 (hs:qz<xs.size)(hd:d<=qz)(k:Nat):bf (bubble xs qz d) k=if k=qz - d then bf xs qz else if qz - d<k /\ k<=qz then bf xs (k - 1) else bf xs k:=by have e:=getElem?_bubble hs d hd k;by_cases c:k=qz - d;rw[aj c] at e ⊢;show de e;rw[ai c] at e ⊢;by_cases c':qz - d<k /\ k<=qz;rw[aj c'] at e ⊢;show de e;rw[ai c'] at e ⊢;show de e
def qg (lo a bE:Nat):StateT Fq Sem AscSt:=forIn [a:bE] ((none,a):AscSt) λ_ c=>do
 let x <- ltAt' (lo+c.snd) (lo+c.snd - 1)
 match x with
 | some b=>if b=true then pure (ForInStep.done (none,c.snd)) else pure (ForInStep.yield (none,c.snd+1))
 | _=>pure (ForInStep.done (some none,c.snd))
def i0 (lo n bE:Nat):StateT Fq Sem (BP Nat):=do
 reverseSlice' lo (lo+n)
 let c <- qg lo n bE
 match c.fst with
 | some r=>pure r
 | none=>pure (some c.snd)
def md (lo n bE:Nat):StateT Fq Sem DescSt:=forIn [n:bE] ((none,n,0):DescSt) λ_ c=>do
 let x <- ltAt' (lo+c.snd.fst) (lo+c.snd.fst - 1)
 match x with
 | some b=>
  if b=true then
   if c.snd.snd >0 then do
    reverseSlice' (lo+c.snd.fst - (c.snd.snd+1)) (lo+c.snd.fst)
    pure (ForInStep.yield (none,c.snd.fst+1,0))
   else pure (ForInStep.yield (none,c.snd.fst+1,0))
  else do
   let y <- ltAt' (lo+c.snd.fst - 1) (lo+c.snd.fst)
   match y with
   | some d=>
    if d=true then pure (ForInStep.done (none,c.snd.fst,c.snd.snd))
    else pure (ForInStep.yield (none,c.snd.fst+1,c.snd.snd+1))
   | _=>pure (ForInStep.done (some none,c.snd.fst,c.snd.snd))
 | _=>pure (ForInStep.done (some none,c.snd.fst,c.snd.snd))
def jo (lo n bE:Nat):StateT Fq Sem (BP Nat):=do
 liftM (rule "list.sort.descending-run")
 let c <- md lo (n+1) bE
 match c.fst with
 | some r=>pure r
 | none=>
  if c.snd.snd >0 then do
   reverseSlice' (lo+c.snd.fst - (c.snd.snd+1)) (lo+c.snd.fst)
   i0 lo c.snd.fst bE
  else i0 lo c.snd.fst bE
theorem re (lo bE:Nat):countRun' lo bE=(do
  let c <- qg lo 1 bE
  match c.fst with
  | some r=>pure r
  | none =>
   if(c.snd==bE)=true then pure (some c.snd)
   else if c.snd >1 then do
    let x <- ltAt' lo (lo+c.snd - 1)
    match x with
    | some b=>if b=true then pure (some c.snd) else do
     reverseSlice' lo (lo+c.snd)
     jo lo c.snd bE
    | _=>pure none
   else jo lo c.snd bE):=by
 rw[countRun'_eq]
 dsimp only
 unfold jo i0 md qg
 congr 1
 funext c
 let⟨r,n⟩:=c
 cases r with
 | some r=>rfl
 | none =>
  dsimp only;split;rfl;split;congr 1;funext x;cases x with
  | none=>rfl
  | some b=>
   dsimp only;split;rfl;congr 1;funext _r;congr 1;funext _u;congr 1;congr 1;funext s2;let⟨r2,n2,q2⟩:=s2;cases r2 with
   | some r2=>rfl
   | none=>dsimp only;split;congr 1;funext _v;congr 1;funext _w;congr 1;funext s3;let⟨r3,n3⟩:=s3;cases r3<;>rfl;congr 1;funext _w;congr 1;funext s3;let⟨r3,n3⟩:=s3;cases r3<;>rfl
  congr 1;funext _u;congr 1;congr 1;funext s2;let⟨r2,n2,q2⟩:=s2;cases r2 with
  | some r2=>rfl
  | none=>dsimp only;split;congr 1;funext _v;congr 1;funext _w;congr 1;funext s3;let⟨r3,n3⟩:=s3;cases r3<;>rfl;congr 1;funext _w;congr 1;funext s3;let⟨r3,n3⟩:=s3;cases r3<;>rfl
def e9 (lo hi:Nat)(xs ys:Fo Fn):Prop:= ∀k,k<lo \/ hi<=k ->bf ys k=bf xs k
theorem e9.refl {lo hi:Nat}:e9 lo hi xs xs:=λ_ _=>rfl
theorem e9.trans {lo hi:Nat}(a:e9 lo hi xs ys)(b:e9 lo hi ys zs):e9 lo hi xs zs:=λk h=>(b k h).trans (a k h)
def wp_ascL (O:Ord less)(L:cW prog w A E s kd a₀ less){st:Fq}{lo a bE:Nat}(hn:lo+bE<=a₀.size)(ha:1<=a)(Fk:a<=bE)(B:SB kd a₀ st)(hs:Sg less (arrOf st) lo (lo+a))(h: ∀n,a<=n ->n<=bE ->Sg less (arrOf st) lo (lo+n) ->(n=bE \/ less (bf (arrOf st) (lo+n)) (bf (arrOf st) (lo+n - 1))=true) ->Q (none,n) st): wpS (model prog w) A E s (qg lo a bE) Q st:=by
 unfold qg;exact a8 (I:=λx c aL=>aL=st /\ c=(none,x) /\ Sg less (arrOf st) lo (lo+x)) ?step ?fin #[rfl,rfl,hs];case fin=>
  rintro c aL ⟨rfl,rfl,en⟩
  rw[show max a bE=bE by lia] at en ⊢
  show h bE Fk (am _) en (.inl rfl)
 case step=>
  rintro x c aL Cz EU ⟨rfl,rfl,en⟩
  dsimp only
  exact ak (wp_lt L B ∅ ∅ ?_)
  cases e:less (bf (arrOf aL) (lo+x)) (bf (arrOf aL) (lo+x - 1)) with
  | true=>simp![bg];show ao (h x Cz ∅ en (.inr e))
  | false=>simp![ap,aO];exact ao #[rfl,rfl,λi j hi dm hj=> ?_];by_cases c:j<lo+x;show en i j hi dm c;have:j=lo+x:= ∅;subst this;by_cases c2:i=lo+x;subst c2;show O.refl _;show O.trans _ _ _ (en i (lo+x - 1) hi ∅ ∅) e
def wp_tailL (O:Ord less)(L:cW prog w A E s kd a₀ less){st:Fq}{lo n bE:Nat}(hn:lo+bE<=a₀.size)(h1:1<=n)(sA:n<=bE)(B:SB kd a₀ st)(hs:Ng less (arrOf st) lo (lo+n))(h: ∀m aL,SB kd a₀ aL ->1<=m ->m<=bE ->Sg less (arrOf aL) lo (lo+m) ->pendingOf aL=pendingOf st ->e9 lo (lo+bE) (arrOf st) (arrOf aL) ->Q (some m) aL): wpS (model prog w) A E s (i0 lo n bE) Q st:=by
 unfold i0;have hsz:lo+n<=(arrOf st).size:=by rw[B.size];lia
 exact ak (wp_rev ?_);have B':SB kd a₀ (setArr st (mirror (arrOf st) lo (lo+n) ((lo+n - lo) / 2))):=B.arr (mirror_perm _ _ _ _);exact ak (wp_ascL O L hn h1 sA B' ?_ λm E9 Ao EZ _=>ao (h m _ B' ∅ Ao EZ rfl ?_));intro i j hi dm hj;change LE less (bf (mirror (arrOf st) lo (lo+n) ((lo+n - lo) / 2)) i) (bf (mirror (arrOf st) lo (lo+n) ((lo+n - lo) / 2)) j);rw[bT hsz,bT hsz,aj ∅,aj ∅];show hs _ _ ∅ ∅ ∅;intro k hk;change bf (mirror (arrOf st) lo (lo+n) ((lo+n - lo) / 2)) k=_;rw[bT hsz,ai ∅]
def eQ (O:Ord less){lo i m:Nat}(hj:m<=xs.size)(GS:lo<=i)(hs:Ng less xs lo m)(he: ∀k,i<=k ->k<m ->LE less (bf xs k) (bf xs (m - 1))):Ng less (mirror xs i m ((m - i) / 2)) lo m:=by intro a b ha yT hb;rw[bT hj,bT hj];by_cases c1:i<=a;rw[aj ∅,aj ∅];exact O.trans _ _ _ (he (i+m - 1 - b) ∅ ∅) (hs _ _ ∅ ∅ ∅);rw[ai (show ¬(i<=a /\ a<m) by lia)];by_cases c2:i<=b;rw[aj ∅];show hs _ _ ∅ ∅ ∅;rw[ai ∅];show hs _ _ ∅ ∅ ∅
theorem dW {lo hi i j:Nat}(hj:j<=xs.size)(h1:lo<=i)(h2:j<=hi):e9 lo hi xs (mirror xs i j ((j - i) / 2)):=λk hk=>by rw[bT hj,ai ∅]
def wp_descL (O:Ord less)(L:cW prog w A E s kd a₀ less){st:Fq}{lo n bE:Nat}(hn:lo+bE<=a₀.size)(h1:1<=n)(sA:n<=bE)(B:SB kd a₀ st)(hs:Ng less (arrOf st) lo (lo+n))(h: ∀m gy aL,SB kd a₀ aL ->n<=m ->m<=bE ->Ng less (arrOf aL) lo (lo+m) ->gy+1<=m ->(∀i,lo+m - (gy+1) <=i ->i<lo+m ->LE less (bf (arrOf aL) i) (bf (arrOf aL) (lo+m - 1))) ->pendingOf aL=pendingOf st ->e9 lo (lo+bE) (arrOf st) (arrOf aL) ->Q (none,m,gy) aL): wpS (model prog w) A E s (md lo n bE) Q st:=by
 unfold md;exact a8 (I:=λx c aL=> ∃gy,wq (c=(none,x,gy)) (SB kd a₀ aL) (Ng less (arrOf aL) lo (lo+x)) (gy+1<=x) (∀i,lo+x - (gy+1) <=i ->i<lo+x ->LE less (bf (arrOf aL) i) (bf (arrOf aL) (lo+x - 1))) (pendingOf aL=pendingOf st) (e9 lo (lo+bE) (arrOf st) (arrOf aL))) ?step ?fin #[0,rfl,B,hs, ∅,λi h1 h2=>by rw[show i=lo+n - 1 by lia];show O.refl _,rfl,e9.refl];case fin=>
  rintro c aL ⟨gy,rfl,B',en,hq,he,hp,ho⟩
  rw[show max n bE=bE by lia] at en hq he ⊢
  show h bE gy aL B' sA (am _) en hq he hp ho
 case step =>
  rintro x c aL Cz EU ⟨gy,rfl,B',en,hq,he,hp,ho⟩
  dsimp only
  have hsz:lo+x<=(arrOf aL).size:=by rw[B'.size];lia
  exact ak (wp_lt L B' ∅ ∅ ?_)
  cases e:less (bf (arrOf aL) (lo+x)) (bf (arrOf aL) (lo+x - 1)) with
  | true =>simp![bg];by_cases pK:gy >0;rw [aj pK];exact ak (wp_rev (ao #[0,rfl,B'.arr (mirror_perm _ _ _ _),?_, ∅,λi h1 h2=>by rw[show i=lo+(x+1) - 1 by lia];show O.refl _,hp,ho.trans (dW hsz ∅ ∅)]));have hm:=eQ O (i:=lo+x - (gy+1)) hsz ∅ en he;intro i j hi dm hj;by_cases c:j<lo+x;show hm i j hi dm c;have:j=lo+x:= ∅;subst this;by_cases c2:i=lo+x;subst c2;show O.refl _;exact O.trans _ _ _ ?_ (hm i (lo+x - 1) hi ∅ ∅);change LE less (bf (mirror (arrOf aL) (lo+x - (gy+1)) (lo+x) ((lo+x - (lo+x - (gy+1))) / 2)) (lo+x)) (bf (mirror (arrOf aL) (lo+x - (gy+1)) (lo+x) ((lo+x - (lo+x - (gy+1))) / 2)) (lo+x - 1));rw[bT hsz,bT hsz,ai ∅,aj ∅];show O.trans _ _ _ (O.le e) (en _ _ ∅ ∅ ∅);rw[ai pK];exact ao #[0,rfl,B',λi j hi dm hj=> ?_, ∅,λi h1 h2=>by rw[show i=lo+(x+1) - 1 by lia];show O.refl _,hp,ho];by_cases c:j<lo+x;show en i j hi dm c;have:j=lo+x:= ∅;subst this;by_cases c2:i=lo+x;subst c2;show O.refl _;show O.trans _ _ _ (O.le e) (en i (lo+x - 1) hi ∅ ∅)
  | false =>
   simp![ap,aO];exact ak (wp_lt L B' ∅ ∅ ?_);cases e2:less (bf (arrOf aL) (lo+x - 1)) (bf (arrOf aL) (lo+x)) with
   | true=>simp![bg];show ao (h x gy aL B' Cz ∅ en hq he hp ho)
   | false=>simp![ap,aO];exact ao #[gy+1,rfl,B',λi j hi dm hj=> ?_, ∅,λi h1 h2=> ?_,hp,ho];by_cases c:j<lo+x;show en i j hi dm c;have:j=lo+x:= ∅;subst this;by_cases c2:i=lo+x;subst c2;show O.refl _;show O.trans _ _ _ e2 (en i (lo+x - 1) hi ∅ ∅);rw[show lo+(x+1) - 1=lo+x by lia];by_cases c:i=lo+x;subst c;show O.refl _;show O.trans _ _ _ (he i ∅ ∅) e
def wp_partL (O:Ord less)(L:cW prog w A E s kd a₀ less){st:Fq}{lo n bE:Nat}(hn:lo+bE<=a₀.size)(sA:n+1<=bE)(B:SB kd a₀ st)(hs:Ng less (arrOf st) lo (lo+(n+1)))(h: ∀m aL,SB kd a₀ aL ->1<=m ->m<=bE ->Sg less (arrOf aL) lo (lo+m) ->pendingOf aL=pendingOf st ->e9 lo (lo+bE) (arrOf st) (arrOf aL) ->Q (some m) aL): wpS (model prog w) A E s (jo lo n bE) Q st:=by
 unfold jo;exact ak (wpS_lift (wpAny_rule #[rfl,?_]));exact ak (wp_descL O L hn ∅ sA B hs λm gy aL B' E9 Ao en hq he hp ho=> ?_);dsimp only;have hsz:lo+m<=(arrOf aL).size:=by rw[B'.size];lia
 by_cases pK:gy >0;rw[aj pK];exact ak (wp_rev (wp_tailL O L hn ∅ Ao (B'.arr (mirror_perm _ _ _ _)) (eQ O hsz ∅ en he) λm2 eL b1 b2 b3 b4 b5 b6=>h m2 eL b1 b2 b3 b4 (b5.trans hp) (ho.trans ((dW hsz ∅ ∅).trans b6))));rw[ai pK];show wp_tailL O L hn ∅ Ao B' en λm2 eL b1 b2 b3 b4 b5 b6=>h m2 eL b1 b2 b3 b4 (b5.trans hp) (ho.trans b6)
def wp_run (O:Ord less)(L:cW prog w A E s kd a₀ less){st:Fq}{lo bE:Nat}(hn:lo+bE<=a₀.size)(h1:1<=bE)(B:SB kd a₀ st)(h: ∀m aL,SB kd a₀ aL ->1<=m ->m<=bE ->Sg less (arrOf aL) lo (lo+m) ->pendingOf aL=pendingOf st ->e9 lo (lo+bE) (arrOf st) (arrOf aL) ->Q (some m) aL): wpS (model prog w) A E s (countRun' lo bE) Q st:=by
 rw[re];exact ak (wp_ascL O L hn (am 1) h1 B (λi j hi dm hj=>by rw[show i=j by lia];show O.refl _) λn DS An yD E6=> ?_);dsimp only;by_cases sA:n=bE;rw[aj ⇑sA];show ao (h n st B DS An yD rfl e9.refl);rw [ai ⇑sA];have iC:=E6.resolve_left sA;have hsz:lo+n<=(arrOf st).size:=by rw[B.size];lia
 by_cases DW:n >1;rw [aj DW];exact ak (wp_lt L B ∅ ∅ ?_);cases e:less (bf (arrOf st) lo) (bf (arrOf st) (lo+n - 1)) with
 | true=>simp![bg];show ao (h n st B DS An yD rfl e9.refl)
 | false=>simp![ap,aO];have DR:Ng less (arrOf st) lo (lo+n):=λi j hi dm hj=>O.trans _ _ _ (O.trans _ _ _ (yD j (lo+n - 1) ∅ ∅ ∅) e) (yD lo i (am _) hi ∅);exact ak (wp_rev (wp_partL O L hn ∅ (B.arr (mirror_perm _ _ _ _)) ?_ λm2 eL b1 b2 b3 b4 b5 b6=>h m2 eL b1 b2 b3 b4 b5 ((dW hsz ∅ ∅).trans b6)));have hm:=eQ O (i:=lo) hsz (am _) DR λk _ _=>yD k (lo+n - 1) ∅ ∅ ∅;intro i j hi dm hj;by_cases c:j<lo+n;show hm i j hi dm c;have:j=lo+n:= ∅;subst this;by_cases c2:i=lo+n;subst c2;show O.refl _;exact O.trans _ _ _ ?_ (hm i (lo+n - 1) hi ∅ ∅);change LE less (bf (mirror (arrOf st) lo (lo+n) ((lo+n - lo) / 2)) (lo+n)) (bf (mirror (arrOf st) lo (lo+n) ((lo+n - lo) / 2)) (lo+n - 1));rw[bT hsz,bT hsz,ai ∅,aj ∅];show O.trans _ _ _ (O.le iC) (DR _ _ ∅ ∅ ∅)
 rw[ai DW];have B_:n=1:= ∅;subst B_;exact wp_partL O L hn ∅ B (λi j hi dm hj=> ?_) h;by_cases c:i=j;subst c;show O.refl _;rw[show i=lo+1 - 1 by lia,show j=lo+1 by lia];show O.le iC
def wp_bin (O:Ord less)(L:cW prog w A E s kd a₀ less){st:Fq}{lo n ok:Nat}(hn:lo+n<=a₀.size)(bX:ok<=n)(B:SB kd a₀ st)(hs:Sg less (arrOf st) lo (lo+ok))(h: ∀aL,SB kd a₀ aL ->Sg less (arrOf aL) lo (lo+n) ->pendingOf aL=pendingOf st ->e9 lo (lo+n) (arrOf st) (arrOf aL) ->Q true aL):wpS (model prog w) A E s (binarySort' lo n ok) Q st:=by
 rw[binarySort'_eq];exact ak (wpS_mono (a8 (I:=λk c aL=>c=(none,()) /\ SB kd a₀ aL /\ Sg less (arrOf aL) lo (lo+min k n) /\ pendingOf aL=pendingOf st /\ e9 lo (lo+n) (arrOf st) (arrOf aL)) (Q:=λc aL=>c=(none,()) /\ SB kd a₀ aL /\ Sg less (arrOf aL) lo (lo+n) /\ pendingOf aL=pendingOf st /\ e9 lo (lo+n) (arrOf st) (arrOf aL)) ?step ?fin ?init) ?post);case post=>
  rintro c aL ⟨rfl,B',en,hp,ho⟩
  show ao (h aL B' en hp ho)
 case init=>
  exact#[rfl,B,λi j hi dm hj=> ?_,rfl,e9.refl]
  by_cases c:ok=0
  rw[show i=j by lia];show O.refl _
  show hs i j hi dm ∅
 case fin=>
  rintro c aL ⟨hc,B',en,hp,ho⟩
  exact#[hc,B',?_,hp,ho]
  rwa [show min (max (max ok 1) n) n=n by lia] at en
 case step=>
  rintro k c aL GZ GU ⟨rfl,B',en,hp,ho⟩
  rw[show min k n=k by lia] at en
  have hk:lo+k<a₀.size:= ∅
  exact ak (wpS_mono (a8 (I:=λx c cy=>cy=aL /\ bH λl r=>gW (c=(none,l,r)) (l<=r) (r<=k) (r - l<=k - x) (∀i,i<l ->LE less (bf (arrOf aL) (lo+i)) (bf (arrOf aL) (lo+k))) (∀i,r<=i ->i<k ->LE less (bf (arrOf aL) (lo+k)) (bf (arrOf aL) (lo+i)))) (Q:=λc cy=>cy=aL /\ bH λl r=>c6 (c=(none,l,r)) (l<=k) (∀i,i<l ->LE less (bf (arrOf aL) (lo+i)) (bf (arrOf aL) (lo+k))) (∀i,l<=i ->i<k ->LE less (bf (arrOf aL) (lo+k)) (bf (arrOf aL) (lo+i)))) ?istep ?ifin ?iinit) ?ipost)
  case iinit=>show#[rfl,0,k,rfl, ∅, ∅, ∅,λi hi=> ∅,λi h1 h2=> ∅]
  case ifin=>
   rintro c cy ⟨rfl,l,r,rfl,E',BX,hm,lX,wN⟩
   have:l=r:= ∅
   subst this
   show#[rfl,l,l,rfl,BX,lX,wN]
  case istep=>
   rintro x c cy _ GO ⟨rfl,l,r,rfl,E',BX,hm,lX,wN⟩
   dsimp only
   by_cases Cr:l≥r
   rw[aj Cr]
   have:l=r:= ∅
   subst this
   show ao #[rfl,l,l,rfl,BX,lX,wN]
   rw[ai Cr]
   exact ak (wp_lt L B' hk ∅ ?_)
   cases e:less (bf (arrOf cy) (lo+k)) (bf (arrOf cy) (lo+(l+r) / 2)) with
   | true=>simp![bg];exact ao #[rfl,l,(l+r) / 2,rfl, ∅, ∅, ∅,lX,λi h1 h2=> ?_];show O.trans _ _ _ (O.le e) (en _ _ ∅ ∅ ∅)
   | false=>simp![ap,aO];exact ao #[rfl,(l+r) / 2+1,r,rfl, ∅, ∅, ∅,λi h1=> ?_,wN];show O.trans _ _ _ (en (lo+i) (lo+(l+r) / 2) ∅ ∅ ∅) e
  case ipost=>
   rintro c cy ⟨rfl,l,r,rfl,GR,lX,wN⟩
   change wpS _ _ _ _ (do moveDown' (lo+k) (lo+l);pure (ForInStep.yield (none,()))) _ _
   rw[moveDown'_eq]
   have Cg:lo+k< (arrOf cy).size:=by rw[B'.size];show hk
   exact ak (wpS_modify (ao #[rfl,B'.arr (bubble_perm _ _ _),?_,hp,ho.trans λj hj=> ?_]))
   .rw[show min (k+1) n=k+1 by lia];intro i j hi dm hj;change LE less (bf (bubble (arrOf cy) (lo+k) (lo+k - (lo+l))) i) (bf (bubble (arrOf cy) (lo+k) (lo+k - (lo+l))) j);rw[d2 Cg ∅,d2 Cg ∅,show lo+k - (lo+k - (lo+l))=lo+l by lia];have Cc: ∀i,lo<=i ->i<lo+l ->LE less (bf (arrOf cy) i) (bf (arrOf cy) (lo+k)):=λi h1 h2=>by have:=lX (i - lo) ∅;rwa [show lo+(i - lo)=i by lia] at this
    have Cp: ∀i,lo+l<=i ->i<lo+k ->LE less (bf (arrOf cy) (lo+k)) (bf (arrOf cy) i):=λi h1 h2=>by have:=wN (i - lo) ∅ ∅;rwa [show lo+(i - lo)=i by lia] at this
    repeat' split
    all_goals first
    | (exfalso;lia)
    | show O.refl _
    | show Cc _ ∅ ∅
    | show Cp _ ∅ ∅
    | show en _ _ ∅ ∅ ∅
   change bf (bubble (arrOf cy) (lo+k) (lo+k - (lo+l))) j=_
   rw[d2 Cg ∅,ai ∅,ai ∅]
def sE:Bool ->Fn ->Fo Fn ->Nat ->Nat ->Nat ->StateT Fq Sem (BP Nat):=sortPriv% PySem.Builtin.gallop
def BD:Fo Fn ->Fo Fn ->StateT Fq Sem (Fo Fn):=sortPriv% PySem.Builtin.mergeLo
def BE:Fo Fn ->Fo Fn ->StateT Fq Sem (Fo Fn):=sortPriv% PySem.Builtin.mergeHi
abbrev bj (st:Fq)(g:Nat):Fq:=SortSt.mk' (kindOf st) (arrOf st) (pendingOf st) g (failedOf st)
def CK (left:Bool)(key:Fn)(arr:Fo Fn)(base i:Nat):StateT Fq Sem (BP Bool):=do
 let x <- elem' arr (base+i)
 if left then lt' x key else return(<- lt' key x).map (!·)
def wp_gal0 {st:Fq}(Bf:Nat ->Bool)(hh:ci<n)(hb: ∀i,i<n -> ∀Q':BP Bool ->Fq ->Prop,Q' (some (Bf i)) st ->wpS (model prog w) A E s (CK left key arr base i) Q' st)(mono: ∀i j,i<=j ->j<n ->Bf j=true ->Bf i=true)(h: ∀k,k<=n ->(∀i,i<k ->Bf i=true) ->(∀i,k<=i ->i<n ->Bf i=false) ->Q (some k) st): wpS (model prog w) A E s (sE left key arr base n ci) Q st:=by
 have lK: ∀i j,i<=j ->j<n ->Bf i=false ->Bf j=false:=λi j dm hj e=>by
  cases e2:Bf j with
  | false=>rfl
  | true=>rw[mono i j dm hj e2] at e;cases e
 exact ak (hb ci hh _ ?_);dsimp only;cases hB:Bf ci with
 | true =>
  simp![bg];exact ak (wpS_mono (a8 (I:=λi c aL=>aL=st /\ bH λla f=>dB (c=(none,la,f)) (i+1<=f) (la<f) (ci+la<n) (Bf (ci+la)=true)) (Q:=λc aL=>aL=st /\ bH λla f=>dB (c=(none,la,f)) (la<f) (ci+la<n) (Bf (ci+la)=true) (n - ci<=f \/ (ci+f<n /\ Bf (ci+f)=false))) ?_ ?_ #[rfl,0,1,rfl,by omega,by omega,by omega,hB]) ?_);rintro i c aL _ hi ⟨rfl,la,f,rfl,h1,h2,h3,h4⟩;dsimp only;by_cases c1:f≥n - ci;rw[aj c1];show ao #[rfl,la,f,rfl,h2,h3,h4, .inl c1];rw[ai c1];exact ak (hb _ (by omega) _ ?_);cases e:Bf (ci+f) with
  | true=>simp![Bool.not_true,ap,aO];show ao #[rfl,f,2*f+1,rfl,by omega,by omega,by omega,e]
  | false=>simp![Bool.not_false,bg];show ao #[rfl,la,f,rfl,h2,h3,h4, .inr #[by omega,e]]
  rintro c aL ⟨rfl,la,f,rfl,h1,h2,h3,h4⟩;show#[rfl,la,f,rfl,h2,h3,h4, .inl (by omega)];rintro c aL ⟨rfl,la,f,rfl,h2,h3,h4,h5⟩;dsimp only;exact ak (wpS_mono (a8 (I:=λi c cy=>cy=aL /\ bH λlo hi=>gW (c=(none,lo,hi)) (lo<=hi) (hi<=n) (hi - lo<=n - i) (∀i,i<lo ->Bf i=true) (∀i,hi<=i ->i<n ->Bf i=false)) (Q:=λc cy=>cy=aL /\ bH λlo hi=>c6 (c=(none,lo,hi)) (hi<=n) (∀i,i<hi ->Bf i=true) (∀i,hi<=i ->i<n ->Bf i=false)) ?_ ?_ #[rfl,_,_,rfl,by omega,by omega,by omega,λi hi=>mono i (ci+la) (by omega) h3 h4,λi hi uu=> ?_]) ?_);rintro i c cy _ hi ⟨rfl,lo,ga,rfl,g1,g2,g3,g4,g5⟩;dsimp only;by_cases c1:lo≥ga;rw[aj c1];have:lo=ga:=by omega
  subst this;show ao #[rfl,_,_,rfl,g2,g4,g5];rw[ai c1];exact ak (hb _ (by omega) _ ?_);cases e:Bf (lo+(ga - lo) / 2) with
  | true=>simp![bg];show ao #[rfl,_,_,rfl,by omega,g2,by omega,λj hj=>mono j _ (by omega) (by omega) e,g5]
  | false=>simp![ap,aO];show ao #[rfl,_,_,rfl,by omega,by omega,by omega,g4,λj hj Co=>lK _ j hj Co e]
  rintro c cy ⟨rfl,lo,ga,rfl,g1,g2,g3,g4,g5⟩;have:lo=ga:=by omega
  subst this;show#[rfl,_,_,rfl,g2,g4,g5];obtain h5 | ⟨h5,h6⟩:=h5;omega;show lK (ci+f) i (by omega) uu h6;rintro c cy ⟨rfl,lo,ga,rfl,g2,g4,g5⟩;show ao (h _ g2 g4 g5)
 | false =>
  simp![ap,aO];exact ak (wpS_mono (a8 (I:=λi c aL=>aL=st /\ bH λla f=>dB (c=(none,la,f)) (i+1<=f) (la<f) (la<=ci) (Bf (ci - la)=false)) (Q:=λc aL=>aL=st /\ bH λla f=>dB (c=(none,la,f)) (la<f) (la<=ci) (Bf (ci - la)=false) (ci+1<=f \/ (f<=ci /\ Bf (ci - f)=true))) ?_ ?_ #[rfl,0,1,rfl,by omega,by omega,by omega,hB]) ?_);rintro i c aL _ hi ⟨rfl,la,f,rfl,h1,h2,h3,h4⟩;dsimp only;by_cases c1:f≥ci+1;rw[aj c1];show ao #[rfl,la,f,rfl,h2,h3,h4, .inl c1];rw[ai c1];exact ak (hb _ (by omega) _ ?_);cases e:Bf (ci - f) with
  | false=>simp![ap,aO];show ao #[rfl,f,2*f+1,rfl,by omega,by omega,by omega,e]
  | true=>simp![bg];show ao #[rfl,la,f,rfl,h2,h3,h4, .inr #[by omega,e]]
  rintro c aL ⟨rfl,la,f,rfl,h1,h2,h3,h4⟩;show#[rfl,la,f,rfl,h2,h3,h4, .inl (by omega)];rintro c aL ⟨rfl,la,f,rfl,h2,h3,h4,h5⟩;dsimp only;exact ak (wpS_mono (a8 (I:=λi c cy=>cy=aL /\ bH λlo hi=>gW (c=(none,lo,hi)) (lo<=hi) (hi<=n) (hi - lo<=n - i) (∀i,i<lo ->Bf i=true) (∀i,hi<=i ->i<n ->Bf i=false)) (Q:=λc cy=>cy=aL /\ bH λlo hi=>c6 (c=(none,lo,hi)) (hi<=n) (∀i,i<hi ->Bf i=true) (∀i,hi<=i ->i<n ->Bf i=false)) ?_ ?_ #[rfl,_,_,rfl,by omega,by omega,by omega,λi hi=> ?_,λi hi uu=>lK (ci - la) i (by omega) uu h4]) ?_);rintro i c cy _ hi ⟨rfl,lo,ga,rfl,g1,g2,g3,g4,g5⟩;dsimp only;by_cases c1:lo≥ga;rw[aj c1];have:lo=ga:=by omega
  subst this;show ao #[rfl,_,_,rfl,g2,g4,g5];rw[ai c1];exact ak (hb _ (by omega) _ ?_);cases e:Bf (lo+(ga - lo) / 2) with
  | true=>simp![bg];show ao #[rfl,_,_,rfl,by omega,g2,by omega,λj hj=>mono j _ (by omega) (by omega) e,g5]
  | false=>simp![ap,aO];show ao #[rfl,_,_,rfl,by omega,by omega,by omega,g4,λj hj Co=>lK _ j hj Co e]
  rintro c cy ⟨rfl,lo,ga,rfl,g1,g2,g3,g4,g5⟩;have:lo=ga:=by omega
  subst this;show#[rfl,_,_,rfl,g2,g4,g5];obtain h5 | ⟨h5,h6⟩:=h5;omega;show mono i (ci - f) (by omega) (by omega) h6;rintro c cy ⟨rfl,lo,ga,rfl,g2,g4,g5⟩;show ao (h _ g2 g4 g5)
def wp_galL (O:Ord less)(L:cW prog w A E s kd a₀ less){st:Fq}(B:kindOf st=kd)(hk:key∈a₀.toList)(hm: ∀i,i<n ->base+i<arr.size /\ bf arr (base+i)∈a₀.toList)(hh:ci<n)(hs:Sg less arr base (base+n))(h: ∀k,k<=n ->(∀i,i<k ->less (bf arr (base+i)) key=true) ->(∀i,k<=i ->i<n ->LE less key (bf arr (base+i))) ->Q (some k) st): wpS (model prog w) A E s (sE true key arr base n ci) Q st:=by exact wp_gal0 (λi=>less (bf arr (base+i)) key) hh (λi hi Q' hq=> ?_) (λi j dm hj e=>O.yn (hs (base+i) (base+j) (by omega) (by omega) (by omega)) e) h;unfold CK;exact ak (wp_elem (hm i hi).1 ?_);simp![bg];show L _ _ _ _ (hm i hi).2 hk B hq
def wp_galR (O:Ord less)(L:cW prog w A E s kd a₀ less){st:Fq}(B:kindOf st=kd)(hk:key∈a₀.toList)(hm: ∀i,i<n ->base+i<arr.size /\ bf arr (base+i)∈a₀.toList)(hh:ci<n)(hs:Sg less arr base (base+n))(h: ∀k,k<=n ->(∀i,i<k ->LE less (bf arr (base+i)) key) ->(∀i,k<=i ->i<n ->less key (bf arr (base+i))=true) ->Q (some k) st): wpS (model prog w) A E s (sE false key arr base n ci) Q st:=by exact wp_gal0 (λi=> !less key (bf arr (base+i))) hh (λi hi Q' hq=> ?_) (λi j dm hj e=> ?_) (λk h1 h2 h3=>h k h1 (λi hi=> ?_) λi h4 h5=> ?_);unfold CK;exact ak (wp_elem (hm i hi).1 ?_);simp![ap,aO];show ak (L _ _ _ _ hk (hm i hi).2 B (ao hq));simp![Bool.not_eq_true'] at e ⊢;show O.trans _ _ _ (hs (base+i) (base+j) (by omega) (by omega) (by omega)) e;have:=h2 i hi;simp![Bool.not_eq_true'] at this;show this;have:=h3 i h4 h5;simpa using this
structure MI (less:Keyed ->Keyed ->Bool)(al bl o:List Keyed)(i j:Nat):Prop where
 pm:o.Perm (al.take i++bl.take j)
 so:o.Pairwise (LE less)
 ba: ∀x∈o, ∀y∈al.drop i,LE less x y
 bb: ∀x∈o, ∀y∈bl.drop j,LE less x y
section
variable {less:Fn ->Fn ->Bool}{al bl o:yr Fn}{i j:Nat}
theorem MI.swap (h:MI less al bl o i j):MI less bl al o j i:=#[h.pm.trans bG,h.so,h.bb,h.ba]
def take_add {α:Type}(l:yr α)(i k:Nat):l.take (i+k)=l.take i++(l.drop i).take k:=by rw[List.take_add]
def MI.sJ (h:MI less al bl o i j)(sa:al.Pairwise (LE less))(k:Nat)(hk: ∀x∈(al.drop i).take k, ∀y∈bl.drop j,LE less x y):MI less al bl (o++(al.drop i).take k) (i+k) j:=by
 have sd:(al.drop i).Pairwise (LE less):=sa.sublist (List.drop_sublist _ _);have e:(al.drop i).take k++al.drop (i+k)=al.drop i:=by rw[<- List.drop_drop,aQ]
 have u4:=sd;rw[<- e,bv] at u4;exact#[?_,?_,?_,?_];rw[take_add,aX];exact(h.pm.append_right _).trans ?_;rw[aX];show List.Perm.append_left _ bG;rw[bv];show#[h.so,u4.1,λx hx y hy=>h.ba x hx y (List.mem_of_mem_take hy)];intro x hx y hy;obtain hx | hx:=bh.mp hx;show h.ba x hx y (by rw[<- e];show aR _ hy);show u4.2.2 x hx y hy;intro x hx y hy;obtain hx | hx:=bh.mp hx;show h.bb x hx y hy;show hk x hx y hy
def MI.fin (h:MI less al bl o i j)(sa:al.Pairwise (LE less))(sb:bl.Pairwise (LE less))(hk: ∀x∈bl.drop j, ∀y∈al.drop i,LE less x y):(o++bl.drop j++al.drop i).Perm (al++bl) /\ (o++bl.drop j++al.drop i).Pairwise (LE less):=by
 symm;rw[aX];exact(h.pm.append_right _).trans ?_;have e1:(al++bl).Perm ((al.take i++al.drop i)++(bl.take j++bl.drop j)):=by rw[aQ,aQ]
 exact List.Perm.trans ?_ e1.symm;rw[aX,aX];exact List.Perm.append_left _ ?_;rw[<- aX];show bG;rw[bv,bv];exact#[#[h.so,sb.sublist (List.drop_sublist _ _),h.bb],sa.sublist (List.drop_sublist _ _),λx hx y hy=> ?_];obtain hx | hx:=bh.mp hx;show h.ba x hx y hy;show hk x hx y hy
structure MH (less:Keyed ->Keyed ->Bool)(al bl t:List Keyed)(i j:Nat):Prop where
 pm:t.Perm (al.drop i++bl.drop j)
 so:t.Pairwise (LE less)
 ba: ∀x∈t, ∀y∈al.take i,LE less y x
 bb: ∀x∈t, ∀y∈bl.take j,LE less y x
theorem MH.swap (h:MH less al bl t i j):MH less bl al t j i:=#[h.pm.trans bG,h.so,h.bb,h.ba]
def MH.sJ (h:MH less al bl t i j)(sa:al.Pairwise (LE less))(Cj:k<=i)(hk: ∀x∈(al.take i).drop k, ∀y∈bl.take j,LE less y x):MH less al bl ((al.take i).drop k++t) k j:=by
 have sd:(al.take i).Pairwise (LE less):=sa.sublist (List.take_sublist _ _);have e0:(al.take i).take k=al.take k:=by rw[List.take_take,Nat.min_eq_left Cj]
 have e:al.take k++(al.take i).drop k=al.take i:=by rw[<- e0,aQ]
 have u4:=sd;rw[<- e,bv] at u4;have e3:al.drop k=(al.take i).drop k++al.drop i:=by
  have:=aQ i al;have e4:al.drop k=(al.take i++al.drop i).drop k:=by rw[this]
  rw[e4];by_cases c:i<=al.length;rw[List.drop_append_of_le_length (by rw[List.length_take];lia)];have z:al.drop i= []:=List.drop_eq_nil_of_le ∅;rw[z,List.append_nil,List.append_nil]
 exact#[?_,?_,?_,?_];rw[e3,aX];show List.Perm.append_left _ h.pm;rw[bv];show#[u4.2.1,h.so,λx hx y hy=>h.ba y hy x (by rw[<- e];show aR _ hx)];intro x hx y hy;obtain hx | hx:=bh.mp hx;show u4.2.2 y hy x hx;show h.ba x hx y (by rw[<- e];show List.mem_append_left _ hy);intro x hx y hy;obtain hx | hx:=bh.mp hx;show hk x hx y hy;show h.bb x hx y hy
def MH.fin (h:MH less al bl t i j)(sa:al.Pairwise (LE less))(sb:bl.Pairwise (LE less))(hk: ∀x∈al.take i, ∀y∈bl.take j,LE less x y):(al.take i++bl.take j++t).Perm (al++bl) /\ (al.take i++bl.take j++t).Pairwise (LE less):=by
 symm;exact(List.Perm.append_left _ h.pm).trans ?_;have e1:(al++bl).Perm ((al.take i++al.drop i)++(bl.take j++bl.drop j)):=by rw[aQ,aQ]
 exact List.Perm.trans ?_ e1.symm;rw[aX,aX];exact List.Perm.append_left _ ?_;rw[<- aX, <- aX];show List.Perm.append_right _ bG;rw[bv,bv];exact#[#[sa.sublist (List.take_sublist _ _),sb.sublist (List.take_sublist _ _),hk],h.so,λx hx y hy=> ?_];obtain hx | hx:=bh.mp hx;show h.ba y hy x hx;show h.bb y hy x hx
end
abbrev R5:=BP (Fo Fn)×Fo Fn×Nat×Nat×Nat
abbrev R6:=BP (Fo Fn)×Fo Fn×Nat×Nat×Nat×Nat
abbrev R7:=BP (Fo Fn)×Fo Fn×Nat×Nat×Nat×Nat×Nat
section
variable (a b:Fo Fn)
abbrev qM (o:Fo Fn)(i j:Nat):Fo Fn:=o++a.extract i a.size++b.extract j b.size
abbrev wK (o:Fo Fn)(i j:Nat):Fo Fn:=o++b.extract j b.size++a.extract i a.size
def vm (mg:Nat)(o:Fo Fn)(i j ac bc:Nat):StateT Fq Sem (ForInStep R6):=do
 let x <- elem' b j
 let y <- elem' a i
 let g <- lt' x y
 match g with
 | some g=>
  if g=true then do
   let x <- elem' b j
   if(j+1==b.size)=true then pure (.done (some (qM a b (o.push x) i (j+1)),o.push x,i,j+1,0,bc+1))
   else if bc+1≥mg then pure (.done (none,o.push x,i,j+1,0,bc+1))
   else pure (.yield (none,o.push x,i,j+1,0,bc+1))
  else do
   let x <- elem' a i
   if(i+1+1==a.size)=true then pure (.done (some (wK a b (o.push x) (i+1) j),o.push x,i+1,j,ac+1,0))
   else if ac+1≥mg then pure (.done (none,o.push x,i+1,j,ac+1,0))
   else pure (.yield (none,o.push x,i+1,j,ac+1,0))
 | _=>pure (.done (some (qM a b o i j),o,i,j,ac,bc))
def z5 (mg ac bc:Nat)(o:Fo Fn)(i j:Nat):StateT Fq Sem (ForInStep R7):=do
 let x <- elem' a i
 if(i+1+1==a.size)=true then pure (.done (some (wK a b (o.push x) (i+1) j),o.push x,i+1,j,mg,ac,bc))
 else if(decide (ac<7) && decide (bc<7))=true then pure (.done (none,o.push x,i+1,j,mg,ac,bc))
 else pure (.yield (none,o.push x,i+1,j,mg,ac,bc))
def z7 (mg ac bc:Nat)(o:Fo Fn)(i j:Nat):StateT Fq Sem (ForInStep R7):=do
 let x <- elem' b j
 if(j+1==b.size)=true then pure (.done (some (qM a b (o.push x) i (j+1)),o.push x,i,j+1,mg,ac,bc))
 else do
  let y <- elem' a i
  let r <- sE true y b (j+1) (b.size - (j+1)) 0
  match r with
  | some k=>
   if k >0 then
    if(j+1+k==b.size)=true then pure (.done (some (qM a b (o.push x++b.extract (j+1) (j+1+k)) i (j+1+k)),o.push x++b.extract (j+1) (j+1+k),i,j+1+k,mg,ac,k))
    else z5 a b mg ac k (o.push x++b.extract (j+1) (j+1+k)) i (j+1+k)
   else z5 a b mg ac k (o.push x) i (j+1)
  | _=>pure (.done (some (qM a b (o.push x) i (j+1)),o.push x,i,j+1,mg,ac,bc))
def z9 (mg ac bc:Nat)(o:Fo Fn)(i j:Nat):StateT Fq Sem (ForInStep R7):=do
 modify λs=>bj s mg
 let x <- elem' b j
 let r <- sE false x a i (a.size - i) 0
 match r with
 | some k=>
  if k >0 then
   if(i+k+1==a.size)=true then pure (.done (some (wK a b (o++a.extract i (i+k)) (i+k) j),o++a.extract i (i+k),i+k,j,mg,k,bc))
   else if(i+k==a.size)=true then pure (.done (some (qM a b (o++a.extract i (i+k)) (i+k) j),o++a.extract i (i+k),i+k,j,mg,k,bc))
   else z7 a b mg k bc (o++a.extract i (i+k)) (i+k) j
  else z7 a b mg k bc o i j
 | _=>pure (.done (some (qM a b o i j),o,i,j,mg,ac,bc))
def xX (c:R5):StateT Fq Sem (ForInStep R5):=do
 let d <- forIn [:a.size+b.size] ((none,c.2.1,c.2.2.1,c.2.2.2.1,0,0):R6) λ_ d=>vm a b c.2.2.2.2 d.2.1 d.2.2.1 d.2.2.2.1 d.2.2.2.2.1 d.2.2.2.2.2
 match d.1 with
 | some r=>pure (.done (some r,d.2.1,d.2.2.1,d.2.2.2.1,c.2.2.2.2))
 | none=>do
  liftM (rule "list.sort.gallop")
  let e <- forIn [:a.size+b.size] ((none,d.2.1,d.2.2.1,d.2.2.2.1,c.2.2.2.2+1,d.2.2.2.2.1,d.2.2.2.2.2):R7) λ_ e=>if e.2.2.2.2.1 >1 then z9 a b (e.2.2.2.2.1 - 1) e.2.2.2.2.2.1 e.2.2.2.2.2.2 e.2.1 e.2.2.1 e.2.2.2.1 else z9 a b e.2.2.2.2.1 e.2.2.2.2.2.1 e.2.2.2.2.2.2 e.2.1 e.2.2.1 e.2.2.2.1
  match e.1 with
  | some r=>pure (.done (some r,e.2.1,e.2.2.1,e.2.2.2.1,e.2.2.2.2.1))
  | none=>do
   modify λs=>bj s (e.2.2.2.2.1+1)
   pure (.yield (none,e.2.1,e.2.2.1,e.2.2.2.1,e.2.2.2.2.1+1))
end
def gQ {f g:α ->StateT σ Sem β}(h: ∀x,f x=g x):(m >>=f)=(m >>=g):=by rw[funext h]
def nF {f g:α ->StateT σ Sem β}(e:m=m')(h: ∀x,f x=g x):(m >>=f)=(m' >>=g):=by rw[e,funext h]
def nk [Decidable c]{x y x' y':α}(h:x=x')(h':y=y'):(if c then x else y)=(if c then x' else y'):=by rw[h,h']
def np {r:Std.Legacy.Range}{f g:Nat ->β ->StateT σ Sem (ForInStep β)}(h: ∀i c,f i c=g i c):forIn r c f=forIn r c g:=by rw[funext λi=>funext (h i)]
section
variable (a b:Fo Fn)
theorem mW:BD a b=(do
  liftM (rule "list.sort.merge-lo")
  let x <- elem' b 0
  if(1==b.size)=true then pure (qM a b #[x] 0 1)
  else if(0+1==a.size)=true then pure (wK a b #[x] 0 1)
  else do
   let g <- get
   let c <- forIn [:a.size+b.size] ((none, #[x],0,1,gallopOf g):R5) λ_ c=>xX a b c
   match c.1 with
   | some r=>pure r
   | none=>unsupported "internal:list.sort.merge-bound"):=by
 exact gQ λ_=>gQ λx=> ?_
 exact nk rfl (nk rfl (gQ λg=>nF (np λ_ c=> ?_) λc=> ?_))
 exact nF (np λ_ d=>rfl) λd=> ?_
 let⟨r,d⟩:=d
 cases r with
 | some r=>rfl
 | none =>
  exact gQ λ_=>nF (np λ_ e=> ?_) λe=> ?_;exact nk ?_ ?_<;>
  .refine gQ λ_=>gQ λx=>gQ λr=> ?_;cases r with
   | none=>rfl
   | some k=>
    exact nk (nk rfl (nk rfl ?_)) ?_<;>
    .exact gQ λy=>nk rfl (gQ λz=>gQ λr=> ?_);cases r<;>rfl
  let⟨r,e⟩:=e;cases r<;>rfl
 let⟨r,c⟩:=c
 cases r<;>rfl
abbrev qN (o:Fo Fn)(i j:Nat):Fo Fn:=a.extract 0 i++b.extract 0 j++o.reverse
abbrev wS (o:Fo Fn)(i j:Nat):Fo Fn:=b.extract 0 j++a.extract 0 i++o.reverse
def uU (mg:Nat)(i j:Nat)(o:Fo Fn)(ac bc:Nat):StateT Fq Sem (ForInStep (BP (Fo Fn)×Nat×Nat×Fo Fn×Nat×Nat)):=do
 let x <- elem' b (j - 1)
 let y <- elem' a (i - 1)
 let g <- lt' x y
 match g with
 | some g=>
  if g=true then do
   let x <- elem' a (i - 1)
   if(i - 1==0)=true then pure (.done (some (qN a b (o.push x) (i - 1) j),i - 1,j,o.push x,ac+1,0))
   else if ac+1≥mg then pure (.done (none,i - 1,j,o.push x,ac+1,0))
   else pure (.yield (none,i - 1,j,o.push x,ac+1,0))
  else do
   let x <- elem' b (j - 1)
   if(j - 1==1)=true then pure (.done (some (wS a b (o.push x) i (j - 1)),i,j - 1,o.push x,0,bc+1))
   else if bc+1≥mg then pure (.done (none,i,j - 1,o.push x,0,bc+1))
   else pure (.yield (none,i,j - 1,o.push x,0,bc+1))
 | _=>pure (.done (some (qN a b o i j),i,j,o,ac,bc))
abbrev S7:=BP (Fo Fn)×Nat×Nat×Fo Fn×Nat×Nat×Nat
def z6 (mg ac bc:Nat)(i j:Nat)(o:Fo Fn):StateT Fq Sem (ForInStep S7):=do
 let x <- elem' a (i - 1)
 if(i - 1==0)=true then pure (.done (some (qN a b (o.push x) (i - 1) j),i - 1,j,o.push x,mg,ac,bc))
 else if(decide (ac<7) && decide (bc<7))=true then pure (.done (none,i - 1,j,o.push x,mg,ac,bc))
 else pure (.yield (none,i - 1,j,o.push x,mg,ac,bc))
def z8 (mg ac bc:Nat)(i j:Nat)(o:Fo Fn):StateT Fq Sem (ForInStep S7):=do
 let x <- elem' b (j - 1)
 if(j - 1==1)=true then pure (.done (some (wS a b (o.push x) i (j - 1)),i,j - 1,o.push x,mg,ac,bc))
 else do
  let y <- elem' a (i - 1)
  let r <- sE true y b 0 (j - 1) (j - 1 - 1)
  match r with
  | some k=>
   if j - 1 - k >0 then
    if(k==1)=true then pure (.done (some (wS a b (o.push x++(b.extract k (j - 1)).reverse) i k),i,k,o.push x++(b.extract k (j - 1)).reverse,mg,ac,j - 1 - k))
    else if(k==0)=true then pure (.done (some (qN a b (o.push x++(b.extract k (j - 1)).reverse) i k),i,k,o.push x++(b.extract k (j - 1)).reverse,mg,ac,j - 1 - k))
    else z6 a b mg ac (j - 1 - k) i k (o.push x++(b.extract k (j - 1)).reverse)
   else z6 a b mg ac (j - 1 - k) i (j - 1) (o.push x)
  | _=>pure (.done (some (qN a b (o.push x) i (j - 1)),i,j - 1,o.push x,mg,ac,bc))
def z_ (mg ac bc:Nat)(i j:Nat)(o:Fo Fn):StateT Fq Sem (ForInStep S7):=do
 modify λs=>bj s mg
 let x <- elem' b (j - 1)
 let r <- sE false x a 0 i (i - 1)
 match r with
 | some k=>
  if i - k >0 then
   if(k==0)=true then pure (.done (some (qN a b (o++(a.extract k i).reverse) k j),k,j,o++(a.extract k i).reverse,mg,i - k,bc))
   else z8 a b mg (i - k) bc k j (o++(a.extract k i).reverse)
  else z8 a b mg (i - k) bc i j o
 | _=>pure (.done (some (qN a b o i j),i,j,o,mg,ac,bc))
abbrev S5:=BP (Fo Fn)×Nat×Nat×Fo Fn×Nat
def xY (c:S5):StateT Fq Sem (ForInStep S5):=do
 let d <- forIn [:a.size+b.size] ((none,c.2.1,c.2.2.1,c.2.2.2.1,0,0):BP (Fo Fn)×Nat×Nat×Fo Fn×Nat×Nat) λ_ d=>uU a b c.2.2.2.2 d.2.1 d.2.2.1 d.2.2.2.1 d.2.2.2.2.1 d.2.2.2.2.2
 match d.1 with
 | some r=>pure (.done (some r,d.2.1,d.2.2.1,d.2.2.2.1,c.2.2.2.2))
 | none=>do
  liftM (rule "list.sort.gallop")
  let e <- forIn [:a.size+b.size] ((none,d.2.1,d.2.2.1,d.2.2.2.1,c.2.2.2.2+1,d.2.2.2.2.1,d.2.2.2.2.2):S7) λ_ e=>if e.2.2.2.2.1 >1 then z_ a b (e.2.2.2.2.1 - 1) e.2.2.2.2.2.1 e.2.2.2.2.2.2 e.2.1 e.2.2.1 e.2.2.2.1 else z_ a b e.2.2.2.2.1 e.2.2.2.2.2.1 e.2.2.2.2.2.2 e.2.1 e.2.2.1 e.2.2.2.1
  match e.1 with
  | some r=>pure (.done (some r,e.2.1,e.2.2.1,e.2.2.2.1,e.2.2.2.2.1))
  | none=>do
   modify λs=>bj s (e.2.2.2.2.1+1)
   pure (.yield (none,e.2.1,e.2.2.1,e.2.2.2.1,e.2.2.2.2.1+1))
theorem mX:BE a b=(do
  liftM (rule "list.sort.merge-hi")
  let x <- elem' a (a.size - 1)
  if(a.size - 1==0)=true then pure (qN a b #[x] (a.size - 1) b.size)
  else if(b.size==1)=true then pure (wS a b #[x] (a.size - 1) b.size)
  else do
   let g <- get
   let c <- forIn [:a.size+b.size] ((none,a.size - 1,b.size, #[x],gallopOf g):S5) λ_ c=>xY a b c
   match c.1 with
   | some r=>pure r
   | none=>unsupported "internal:list.sort.merge-bound"):=by
 exact gQ λ_=>gQ λx=> ?_
 exact nk rfl (nk rfl (gQ λg=>nF (np λ_ c=> ?_) λc=> ?_))
 exact nF (np λ_ d=>rfl) λd=> ?_
 let⟨r,d⟩:=d
 cases r with
 | some r=>rfl
 | none =>
  exact gQ λ_=>nF (np λ_ e=> ?_) λe=> ?_;exact nk ?_ ?_<;>
  .refine gQ λ_=>gQ λx=>gQ λr=> ?_;cases r with
   | none=>rfl
   | some k=>
    exact nk (nk rfl ?_) ?_<;>
    .exact gQ λy=>nk rfl (gQ λz=>gQ λr=> ?_);cases r<;>rfl
  let⟨r,e⟩:=e;cases r<;>rfl
 let⟨r,c⟩:=c
 cases r<;>rfl
end
def cJ (h:i<xs.size):xs.toList[i]? =some (bf xs i):=by rw[<- qf h];simp
def nr (h:i<xs.size):xs.toList.drop i=bf xs i::xs.toList.drop (i+1):=by have h':i<xs.toList.length:= ⇑h;have e:=cJ h;rw[aM h'] at e;rw[List.drop_eq_getElem_cons h',aE e]
def iZ (h:i<xs.size):(xs.toList.drop i).take 1= [bf xs i]:=by rw[nr h];rfl
def cZ (h:y∈xs.toList.drop i): ∃k,b0 (i<=k) (k<xs.size) (y=bf xs k):=by let⟨n,hn⟩:=List.mem_iff_getElem?.mp h;rw[List.getElem?_drop] at hn;have hl:=(aG.mp hn).1;have lY:i+n<xs.size:= ⇑hl;rw[cJ lY] at hn;show#[i+n, ∅,lY,(aE hn).symm]
def hJ (h:y∈(xs.toList.drop i).take k): ∃n,c6 (i<=n) (n<i+k) (n<xs.size) (y=bf xs n):=by let⟨n,hn⟩:=List.mem_iff_getElem?.mp h;rw[List.getElem?_take] at hn;split at hn;rename_i hk;rw[List.getElem?_drop] at hn;have hl:=(aG.mp hn).1;have lY:i+n<xs.size:= ⇑hl;rw[cJ lY] at hn;show#[i+n, ∅, ∅,lY,(aE hn).symm];cases hn
def dP (O:Ord less)(h:xs.toList.Pairwise (LE less))(dm:i<=j)(hj:j<xs.size):LE less (bf xs i) (bf xs j):=by
 by_cases c:i=j;subst c;show O.refl _;rw[List.pairwise_iff_getElem] at h;have ga:i<xs.toList.length:=by simp;lia
 have vQ:j<xs.toList.length:= ⇑hj;have:=h i j ga vQ ∅;have e1:=cJ (xs:=xs) (i:=i) ∅;have e2:=cJ hj;rw[aM ga] at e1;rw[aM vQ] at e2;rwa [aE e1,aE e2] at this
theorem hV (O:Ord less)(h:xs.toList.Pairwise (LE less))(hn:i+n<=xs.size):Sg less xs i (i+n):=λx y _ DK hy=>dP O h DK ∅
def jH (xs:Fo Fn)(i k:Nat):(xs.extract i (i+k)).toList=(xs.toList.drop i).take k:=by rw[Array.toList_extract,List.extract_eq_take_drop];congr 1;lia
def fq (xs:Fo Fn)(i:Nat):(xs.extract i xs.size).toList=xs.toList.drop i:=by rw[Array.toList_extract,List.extract_eq_take_drop];show List.take_of_length_le (by simp)
section
variable {prog:Program}{w:World}{A:Around}{E:yt ->yu ->Prop}{s:yu}{kd:SortKind}{a₀:Fo Fn}{less:Fn ->Fn ->Bool}
structure gZ (less:Keyed ->Keyed ->Bool)(a₀ a b:Array Keyed):Prop where
 sa:a.toList.Pairwise (LE less)
 sb:b.toList.Pairwise (LE less)
 ma: ∀i,i<a.size ->bf a i∈a₀.toList
 mb: ∀i,i<b.size ->bf b i∈a₀.toList
 na:1<=a.size
 nb:1<=b.size
 h0:less (bf b 0) (bf a 0)=true
 hl: ∀j,j<b.size ->less (bf b j) (bf a (a.size - 1))=true
def f' (less:Fn ->Fn ->Bool)(a b r:Fo Fn):Prop:=r.toList.Perm (a.toList++b.toList) /\ r.toList.Pairwise (LE less)
structure JL (less:Keyed ->Keyed ->Bool)(a b o:Array Keyed)(i j:Nat):Prop where
 mi:MI less a.toList b.toList o.toList i j
 hi:i+1<a.size
 hj:j<b.size
variable {a b:Fo Fn}
def h7 (T:gZ less a₀ a b)(h:MI less a.toList b.toList o.toList i j)(hj:b.size<=j \/ a.size<=i):f' less a b (qM a b o i j):=by
 unfold f' qM;rw[a4,a4,fq,fq];have:=h.swap.fin T.sb T.sa λx hx y hy=>by obtain hj | hj:=hj;let⟨k,h1,h2,_⟩:=cZ hy;lia;let⟨k,h1,h2,_⟩:=cZ hx;lia
 show#[this.1.trans bG,this.2]
def hZ (O:Ord less)(T:gZ less a₀ a b)(h:MI less a.toList b.toList o.toList i j)(hi:i+1=a.size):f' less a b (wK a b o i j):=by unfold f' wK;rw[a4,a4,fq,fq];exact h.fin T.sa T.sb λx hx y hy=> ?_;let⟨k,h1,h2,rfl⟩:=cZ hx;let⟨k',D9,wQ,rfl⟩:=cZ hy;rw[show k'=a.size - 1 by lia];show O.le (T.hl k h2)
def ku (O:Ord less)(T:gZ less a₀ a b){o:Fo Fn}(h:MI less a.toList b.toList o.toList i j)(hj:j<b.size)(hc:i<a.size ->LE less (bf b j) (bf a i)):MI less a.toList b.toList (o.push (bf b j)).toList i (j+1):=by have:=(h.swap.sJ T.sb 1 λx hx y hy=>by rw[iZ hj] at hx;rw[bu.mp hx];let⟨k,h1,h2,rfl⟩:=cZ hy;show O.trans _ _ _ (hc ∅) (dP O T.sa h1 h2)).swap;rw[iZ hj] at this;rwa [Array.toList_push]
def oA (O:Ord less)(T:gZ less a₀ a b){o:Fo Fn}(h:MI less a.toList b.toList o.toList i j)(hi:i<a.size)(hc:j<b.size ->LE less (bf a i) (bf b j)):MI less a.toList b.toList (o.push (bf a i)).toList (i+1) j:=by
 have:=h.sJ T.sa 1 λx hx y hy=>by rw[iZ hi] at hx;rw[bu.mp hx];let⟨k,h1,h2,rfl⟩:=cZ hy;show O.trans _ _ _ (hc ∅) (dP O T.sb h1 h2)
 rw[iZ hi] at this;rwa [Array.toList_push]
def wz (less:Fn ->Fn ->Bool)(a b:Fo Fn)(st:Fq)(N:Nat)(r:ForInStep R7)(aL:Fq):Prop:=(∃g,aL=bj st g) /\ ((bH λx c=>r= .done (some x,c) /\ f' less a b x) \/ (d5 λo i j c=>b0 (r= .done (none,o,i,j,c) \/ r= .yield (none,o,i,j,c)) (JL less a b o i j) (N<=i+j)))
def wp_p3L (O:Ord less)(T:gZ less a₀ a b){st aL:Fq}(hg: ∃g,aL=bj st g)(J:JL less a b o i j)(hc:LE less (bf a i) (bf b j))(hN:N<=i+j):wpS (model prog w) A E s (z5 a b mg ac bc o i j) (wz less a b st N) aL:=by
 unfold z5;have hi:=J.hi;exact ak (wp_elem ∅ ?_);have m:=oA O T J.mi ∅ λ_=>hc;by_cases c:i+1+1=a.size;rw[aj ⇑c];show ao #[hg, .inl #[_,_,rfl,hZ O T m c]];rw[ai ⇑c];have J':JL less a b (o.push (bf a i)) (i+1) j:=#[m, ∅,J.hj]
 split;show ao #[hg, .inr #[_,_,_,_, .inl rfl,J', ∅]];show ao #[hg, .inr #[_,_,_,_, .inr rfl,J', ∅]]
def wp_p2L (O:Ord less)(L:cW prog w A E s kd a₀ less)(T:gZ less a₀ a b){st aL:Fq}(hk:kindOf aL=kd)(hg: ∃g,aL=bj st g)(J:JL less a b o i j)(hc:less (bf b j) (bf a i)=true)(hN:N<=i+j):wpS (model prog w) A E s (z7 a b mg ac bc o i j) (wz less a b st N) aL:=by
 unfold z7;have hi:=J.hi;have hj:=J.hj;exact ak (wp_elem hj ?_);have m:=ku O T J.mi hj λ_=>O.le hc;by_cases c:j+1=b.size;rw[aj ⇑c];show ao #[hg, .inl #[_,_,rfl,h7 T m (.inl ∅)]];rw [ai ⇑c];exact ak (wp_elem ∅ ?_);exact ak (wp_galL O L hk (T.ma i ∅) (λk hk=>#[∅,T.mb _ ∅]) ∅ (hV O T.sb ∅) λk h1 h2 h3=> ?_);dsimp only;by_cases ck:k >0;rw[aj ck];have m2:MI less a.toList b.toList (o.push (bf b j)++b.extract (j+1) (j+1+k)).toList i (j+1+k):=by rw[a4,jH];exact(m.swap.sJ T.sb k λx hx y hy=> ?_).swap;let⟨n,n1,n2,n3,rfl⟩:=hJ hx;let⟨k',k1,k2,rfl⟩:=cZ hy;have:=h2 (n - (j+1)) ∅;rw[show j+1+(n - (j+1))=n by lia] at this;show O.trans _ _ _ (O.le this) (dP O T.sa k1 k2)
 by_cases c2:j+1+k=b.size;rw[aj ⇑c2];show ao #[hg, .inl #[_,_,rfl,h7 T m2 (.inl ∅)]];rw[ai ⇑c2];show wp_p3L O T hg #[m2,hi, ∅] (h3 k (am _) ∅) ∅;rw[ai ck];have:k=0:= ∅;subst this;show wp_p3L O T hg #[m,hi, ∅] (h3 0 (am _) ∅) ∅
def wp_p1L (O:Ord less)(L:cW prog w A E s kd a₀ less)(T:gZ less a₀ a b){st aL:Fq}(hk:kindOf st=kd)(hg: ∃g,aL=bj st g)(J:JL less a b o i j)(hN:N<=i+j):wpS (model prog w) A E s (z9 a b mg ac bc o i j) (wz less a b st N) aL:=by
 unfold z9;have hi:=J.hi;have hj:=J.hj;exact ak (wpS_modify ?_);have vT: ∃g,bj aL mg=bj st g:=by let⟨g,rfl⟩:=hg;show#[mg,rfl]
 have lZ:kindOf (bj aL mg)=kd:=by let⟨g,rfl⟩:=hg;show hk
 exact ak (wp_elem hj ?_);exact ak (wp_galR O L lZ (T.mb j hj) (λk hk=>#[∅,T.ma _ ∅]) ∅ (hV O T.sa ∅) λk h1 h2 h3=> ?_);dsimp only;have GV:i+k<a.size:=by by_cases c:i+k<a.size;show c;have:=h2 (a.size - 1 - i) ∅;rw[show i+(a.size - 1 - i)=a.size - 1 by lia] at this;unfold LE at this;rw[T.hl j hj] at this;cases this
 have ur:=h3 k (am _) ∅;by_cases ck:k >0;rw[aj ck];have m2:MI less a.toList b.toList (o++a.extract i (i+k)).toList (i+k) j:=by rw[a4,jH];exact J.mi.sJ T.sa k λx hx y hy=> ?_;let⟨n,n1,n2,n3,rfl⟩:=hJ hx;let⟨k',k1,k2,rfl⟩:=cZ hy;have:=h2 (n - i) ∅;rw[show i+(n - i)=n by lia] at this;show O.trans _ _ _ this (dP O T.sb k1 k2)
 by_cases c2:i+k+1=a.size;rw[aj ⇑c2];show ao #[vT, .inl #[_,_,rfl,hZ O T m2 c2]];rw[ai ⇑c2,ai (by simp;lia)];show wp_p2L O L T lZ vT #[m2, ∅,hj] ur ∅;rw[ai ck];have:k=0:= ∅;subst this;show wp_p2L O L T lZ vT J ur hN
def wp_one1 (O:Ord less)(L:cW prog w A E s kd a₀ less)(T:gZ less a₀ a b)(hk:kindOf aL=kd)(J:JL less a b o i j)(h1: ∀x c,f' less a b x ->Q (.done (some x,c)) aL)(h2: ∀o i' j' c,JL less a b o i' j' ->i'+j'=i+j+1 ->Q (.done (none,o,i',j',c)) aL /\ Q (.yield (none,o,i',j',c)) aL): wpS (model prog w) A E s (vm a b mg o i j ac bc) Q aL:=by
 unfold vm;have hi:=J.hi;have hj:=J.hj;exact ak (wp_elem hj (ak (wp_elem ∅ (ak (L _ _ _ _ (T.mb j hj) (T.ma i ∅) hk ?_)))));dsimp only;cases e:less (bf b j) (bf a i) with
 | true=>simp![bg];exact ak (wp_elem hj ?_);have m:=ku O T J.mi hj λ_=>O.le e;by_cases c:j+1=b.size;rw[aj ⇑c];show ao (h1 _ _ (h7 T m (.inl ∅)));rw[ai ⇑c];have:=h2 _ i (j+1) (0,bc+1) #[m,hi, ∅] ∅;split;show ao this.1;show ao this.2
 | false=>simp![ap,aO];exact ak (wp_elem ∅ ?_);have m:=oA O T J.mi ∅ λ_=>e;by_cases c:i+1+1=a.size;rw[aj ⇑c];show ao (h1 _ _ (hZ O T m c));rw[ai ⇑c];have:=h2 _ (i+1) j (ac+1,0) #[m, ∅,hj] ∅;split;show ao this.1;show ao this.2
def wp_mLo (O:Ord less)(L:cW prog w A E s kd a₀ less)(T:gZ less a₀ a b){st:Fq}(hk:kindOf st=kd)(h: ∀r g,f' less a b r ->Q r (bj st g)):wpS (model prog w) A E s (BD a b) Q st:=by
 rw[mW];have na:=T.na;have nb:=T.nb;exact ak (wpS_lift (wpAny_rule #[rfl,?_]));exact ak (wp_elem ∅ ?_);have h': ∀r,f' less a b r ->Q r st:=λr hr=>h r (gallopOf st) hr;have m:MI less a.toList b.toList (#[bf b 0]:Fo Fn).toList 0 1:=by
  have m0:MI less a.toList b.toList (#[]:Fo Fn).toList 0 0:=#[by simp,by simp,by simp,by simp]
  show ku O T m0 ∅ λ_=>O.le T.h0
 by_cases c:1=b.size;rw[aj ⇑c];show ao (h' _ (h7 T m (.inl ∅)));rw[ai ⇑c];by_cases c2:0+1=a.size;rw[aj ⇑c2];show ao (h' _ (hZ O T m c2));rw[ai ⇑c2];exact ak (wpS_get ?_);exact ak (wpS_mono (a8 (I:=λn c aL=>(∃g,aL=bj st g) /\ d5 λo i j mg=>b0 (c=(none,o,i,j,mg)) (JL less a b o i j) (n+1<=i+j)) (Q:=λc aL=>(∃g,aL=bj st g) /\ bH λx d=>c=(some x,d) /\ f' less a b x) ?_ ?_ #[#[gallopOf st,rfl],_,0,1,_,rfl,#[m, ∅, ∅], ∅]) ?_)
 .rintro n c aL _ hn ⟨hg,o,i,j,mg,rfl,J,hN⟩;unfold xX;dsimp only;have lZ:kindOf aL=kd:=by let⟨g,rfl⟩:=hg;show hk
  exact ak (wpS_mono (a8 (I:=λx c eL=>eL=aL /\ d5 λo' i' j' d=>b0 (c=(none,o',i',j',d)) (JL less a b o' i' j') (i'+j'=i+j+x)) (Q:=λc eL=>eL=aL /\ ((bH λx d=>c=(some x,d) /\ f' less a b x) \/ d5 λo' i' j' d=>b0 (c=(none,o',i',j',d)) (JL less a b o' i' j') (i+j+1<=i'+j'))) ?_ ?_ #[rfl,o,i,j,_,rfl,J,rfl]) ?_);rintro x c eL _ hx ⟨rfl,o',i',j',⟨ac,bc⟩,rfl,J',v0⟩;dsimp only;exact wp_one1 O L T lZ J' (λx c hr=>#[rfl, .inl #[x,c,rfl,hr]]) λo2 i2 j2 c J2 h2=>#[#[rfl, .inr #[o2,i2,j2,c,rfl,J2, ∅]],#[rfl,o2,i2,j2,c,rfl,J2, ∅]]
  rintro c eL ⟨rfl,o',i',j',d,rfl,J',v0⟩;show#[rfl, .inr #[o',i',j',d,rfl,J', ∅]]
  .rintro c eL ⟨rfl,⟨x,d,rfl,hr⟩ | ⟨o',i',j',⟨ac,bc⟩,rfl,J',v0⟩⟩;show ao #[hg,x,_,rfl,hr]
   .dsimp only;exact ak (wpS_lift (wpAny_rule #[rfl,?_]));exact ak (wpS_mono (a8 (I:=λx c f_=>(∃g,f_=bj st g) /\ d5 λo' i' j' d=>b0 (c=(none,o',i',j',d)) (JL less a b o' i' j') (i+j+1<=i'+j')) (Q:=λc f_=>(∃g,f_=bj st g) /\ ((bH λx d=>c=(some x,d) /\ f' less a b x) \/ d5 λo' i' j' d=>b0 (c=(none,o',i',j',d)) (JL less a b o' i' j') (i+j+1<=i'+j'))) ?_ ?_ #[hg,o',i',j',_,rfl,J',v0]) ?_)
    .rintro x c f_ _ hx ⟨fo,o3,i3,j3,⟨BC,CN,CL⟩,rfl,J3,fW⟩;dsimp only;split;all_goals
      exact wpS_mono (wp_p1L O L T hk fo J3 fW) ?_
      rintro r cD ⟨vS,⟨x,c,rfl,hr⟩ | ⟨o,i,j,c,rfl | rfl,J4,h4⟩⟩
      show#[vS, .inl #[x,c,rfl,hr]]
      show#[vS, .inr #[o,i,j,c,rfl,J4,h4]]
      show#[vS,o,i,j,c,rfl,J4,h4]
    rintro c f_ ⟨fo,o3,i3,j3,d,rfl,J3,fW⟩;show#[fo, .inr #[o3,i3,j3,d,rfl,J3,fW]];rintro c f_ ⟨fo,⟨x,d,rfl,hr⟩ | ⟨o3,i3,j3,⟨BC,CN,CL⟩,rfl,J3,fW⟩⟩;show ao #[fo,x,_,rfl,hr];dsimp only;exact ak (wpS_modify (ao #[?_,o3,i3,j3,_,rfl,J3, ∅]));let⟨g,rfl⟩:=fo;show#[_,rfl]
 rintro c aL ⟨hg,o,i,j,mg,rfl,J,hN⟩;have:=J.hi;have:=J.hj;lia;rintro c aL ⟨⟨g,rfl⟩,x,d,rfl,hr⟩;show ao (h x g hr)
end
def gr (h:y∈xs.toList.take i): ∃n,b0 (n<i) (n<xs.size) (y=bf xs n):=by let⟨n,hn⟩:=List.mem_iff_getElem?.mp h;rw[List.getElem?_take] at hn;split at hn;have hl:=(aG.mp hn).1;have lY:n<xs.size:= ⇑hl;rw[cJ lY] at hn;show#[n, ∅,lY,(aE hn).symm];cases hn
def k0 (h:y∈(xs.toList.take i).drop k): ∃n,c6 (k<=n) (n<i) (n<xs.size) (y=bf xs n):=by rw[List.drop_take] at h;let⟨n,h1,h2,h3,e⟩:=hJ h;show#[n,h1, ∅,h3,e]
def zU (h0:1<=i)(h:i<=xs.size):(xs.toList.take i).drop (i - 1)= [bf xs (i - 1)]:=by rw[List.drop_take,show i - (i - 1)=1 by lia,iZ ∅]
def dY (xs:Fo Fn)(k i:Nat):(xs.extract k i).toList=(xs.toList.take i).drop k:=by rw[Array.toList_extract,List.extract_eq_take_drop,List.drop_take]
def l_ (xs:Fo Fn)(i:Nat):(xs.extract 0 i).toList=xs.toList.take i:=by rw[dY,List.drop_zero]
section
variable {prog:Program}{w:World}{A:Around}{E:yt ->yu ->Prop}{s:yu}{kd:SortKind}{a₀:Fo Fn}{less:Fn ->Fn ->Bool}
structure JH (less:Keyed ->Keyed ->Bool)(a b o:Array Keyed)(i j:Nat):Prop where
 mi:MH less a.toList b.toList o.toList.reverse i j
 hi:1<=i
 hj:2<=j
 ia:i<=a.size
 jb:j<=b.size
variable {a b:Fo Fn}
def d8 (T:gZ less a₀ a b)(h:MH less a.toList b.toList o.toList.reverse i j)(hj:i=0 \/ j=0):f' less a b (qN a b o i j):=by unfold f' qN;rw[a4,a4,l_,l_,Array.toList_reverse];exact h.fin T.sa T.sb λx hx y hy=> ?_;obtain hj | hj:=hj;subst hj;simp at hx;subst hj;simp at hy
def fb (O:Ord less)(T:gZ less a₀ a b)(h:MH less a.toList b.toList o.toList.reverse i j)(hj:j=1):f' less a b (wS a b o i j):=by
 unfold f' wS;rw[a4,a4,l_,l_,Array.toList_reverse];have:=h.swap.fin T.sb T.sa λx hx y hy=>by let⟨n,n1,n2,rfl⟩:=gr hx;let⟨k,k1,k2,rfl⟩:=gr hy;rw[show n=0 by lia];show O.trans _ _ _ (O.le T.h0) (dP O T.sa (Nat.zero_le _) k2)
 show#[this.1.trans bG,this.2]
def h9 (O:Ord less)(T:gZ less a₀ a b){o:Fo Fn}(h:MH less a.toList b.toList o.toList.reverse i j)(h1:1<=i)(hi:i<=a.size)(hj:j<=b.size)(hc:1<=j ->LE less (bf b (j - 1)) (bf a (i - 1))):MH less a.toList b.toList (o.push (bf a (i - 1))).toList.reverse (i - 1) j:=by
 have:=h.sJ T.sa (k:=i - 1) ∅ λx hx y hy=>by rw[zU h1 hi] at hx;rw[bu.mp hx];let⟨k,k1,k2,rfl⟩:=gr hy;show O.trans _ _ _ (dP O T.sb (show k<=j - 1 by lia) ∅) (hc ∅)
 rw[zU h1 hi] at this;rw[Array.toList_push,List.reverse_append];show this
def lp (O:Ord less)(T:gZ less a₀ a b){o:Fo Fn}(h:MH less a.toList b.toList o.toList.reverse i j)(h1:1<=j)(hi:i<=a.size)(hj:j<=b.size)(hc:1<=i ->LE less (bf a (i - 1)) (bf b (j - 1))):MH less a.toList b.toList (o.push (bf b (j - 1))).toList.reverse i (j - 1):=by have:=(h.swap.sJ T.sb (k:=j - 1) ∅ λx hx y hy=>by rw[zU h1 hj] at hx;rw[bu.mp hx];let⟨k,k1,k2,rfl⟩:=gr hy;show O.trans _ _ _ (dP O T.sa (show k<=i - 1 by lia) ∅) (hc ∅)).swap;rw[zU h1 hj] at this;rw[Array.toList_push,List.reverse_append];show this
def ll (o x:Fo Fn):(o++x.reverse).toList.reverse=x.toList++o.toList.reverse:=by rw[a4,Array.toList_reverse,List.reverse_append,List.reverse_reverse]
def wy (less:Fn ->Fn ->Bool)(a b:Fo Fn)(st:Fq)(N:Nat)(r:ForInStep S7)(aL:Fq):Prop:=(∃g,aL=bj st g) /\ ((bH λx c=>r= .done (some x,c) /\ f' less a b x) \/ (d5 λi j o c=>b0 (r= .done (none,i,j,o,c) \/ r= .yield (none,i,j,o,c)) (JH less a b o i j) (i+j<=N)))
def wp_p3H (O:Ord less)(T:gZ less a₀ a b){st aL:Fq}(hg: ∃g,aL=bj st g)(J:JH less a b o i j)(hc:LE less (bf b (j - 1)) (bf a (i - 1)))(hN:i+j<=N):wpS (model prog w) A E s (z6 a b mg ac bc i j o) (wy less a b st N) aL:=by
 unfold z6;have hi:=J.hi;have ia:=J.ia;exact ak (wp_elem ∅ ?_);have m:=h9 O T J.mi J.hi J.ia J.jb λ_=>hc;by_cases c:i - 1=0;rw[aj ⇑c];show ao #[hg, .inl #[_,_,rfl,d8 T m (.inl c)]];rw[ai ⇑c];have J':JH less a b (o.push (bf a (i - 1))) (i - 1) j:=#[m, ∅,J.hj, ∅,J.jb]
 split;show ao #[hg, .inr #[_,_,_,_, .inl rfl,J', ∅]];show ao #[hg, .inr #[_,_,_,_, .inr rfl,J', ∅]]
def wp_p2H (O:Ord less)(L:cW prog w A E s kd a₀ less)(T:gZ less a₀ a b){st aL:Fq}(hk:kindOf aL=kd)(hg: ∃g,aL=bj st g)(J:JH less a b o i j)(hc:LE less (bf a (i - 1)) (bf b (j - 1)))(hN:i+j<=N):wpS (model prog w) A E s (z8 a b mg ac bc i j o) (wy less a b st N) aL:=by
 unfold z8;have hi:=J.hi;have hj:=J.hj;have ia:=J.ia;have jb:=J.jb;exact ak (wp_elem ∅ ?_);have m:=lp O T J.mi ∅ ia jb λ_=>hc;by_cases c:j - 1=1;rw[aj ⇑c];show ao #[hg, .inl #[_,_,rfl,fb O T m c]];rw [ai ⇑c];exact ak (wp_elem ∅ ?_);have sg:=hV O T.sb (i:=0) (n:=j - 1) ∅;exact ak (wp_galL O L hk (T.ma (i - 1) ∅) (λk hk=>#[∅,T.mb _ ∅]) ∅ sg λk h1 h2 h3=> ?_);dsimp only;simp![Nat.zero_add] at h2 h3;by_cases ck:j - 1 - k >0;rw[aj ck];have m2:MH less a.toList b.toList (o.push (bf b (j - 1))++(b.extract k (j - 1)).reverse).toList.reverse i k:=by rw[ll,dY];exact(m.swap.sJ T.sb ∅ λx hx y hy=> ?_).swap;let⟨n,n1,n2,n3,rfl⟩:=k0 hx;let⟨k',k1,k2,rfl⟩:=gr hy;show O.trans _ _ _ (dP O T.sa (show k'<=i - 1 by lia) ∅) (h3 n n1 n2)
 by_cases c2:k=1;rw[aj ⇑c2];show ao #[hg, .inl #[_,_,rfl,fb O T m2 c2]];rw[ai ⇑c2];by_cases c3:k=0;rw[aj ⇑c3];show ao #[hg, .inl #[_,_,rfl,d8 T m2 (.inr c3)]];rw[ai ⇑c3];show wp_p3H O T hg #[m2,hi, ∅,ia, ∅] (O.le (h2 (k - 1) ∅)) ∅;rw[ai ck];show wp_p3H O T hg #[m,hi, ∅,ia, ∅] (O.le (h2 (j - 1 - 1) ∅)) ∅
def wp_p1H (O:Ord less)(L:cW prog w A E s kd a₀ less)(T:gZ less a₀ a b){st aL:Fq}(hk:kindOf st=kd)(hg: ∃g,aL=bj st g)(J:JH less a b o i j)(hN:i+j<=N):wpS (model prog w) A E s (z_ a b mg ac bc i j o) (wy less a b st N) aL:=by
 unfold z_;have hi:=J.hi;have hj:=J.hj;have ia:=J.ia;have jb:=J.jb;exact ak (wpS_modify ?_);have vT: ∃g,bj aL mg=bj st g:=by let⟨g,rfl⟩:=hg;show#[mg,rfl]
 have lZ:kindOf (bj aL mg)=kd:=by let⟨g,rfl⟩:=hg;show hk
 exact ak (wp_elem ∅ ?_);have sg:=hV O T.sa (i:=0) (n:=i) ∅;exact ak (wp_galR O L lZ (T.mb (j - 1) ∅) (λk hk=>#[∅,T.ma _ ∅]) ∅ sg λk h1 h2 h3=> ?_);dsimp only;simp![Nat.zero_add] at h2 h3;by_cases ck:i - k >0;rw[aj ck];have m2:MH less a.toList b.toList (o++(a.extract k i).reverse).toList.reverse k j:=by rw[ll,dY];exact J.mi.sJ T.sa ∅ λx hx y hy=> ?_;let⟨n,n1,n2,n3,rfl⟩:=k0 hx;let⟨k',k1,k2,rfl⟩:=gr hy;show O.trans _ _ _ (dP O T.sb (show k'<=j - 1 by lia) ∅) (O.le (h3 n n1 n2))
 by_cases c2:k=0;rw[aj ⇑c2];show ao #[vT, .inl #[_,_,rfl,d8 T m2 (.inl c2)]];rw[ai ⇑c2];show wp_p2H O L T lZ vT #[m2, ∅,hj, ∅,jb] (h2 (k - 1) ∅) ∅;rw[ai ck];show wp_p2H O L T lZ vT J (h2 (i - 1) ∅) hN
def wp_two1 (O:Ord less)(L:cW prog w A E s kd a₀ less)(T:gZ less a₀ a b)(hk:kindOf aL=kd)(J:JH less a b o i j)(h1: ∀x c,f' less a b x ->Q (.done (some x,c)) aL)(h2: ∀i' j' o c,JH less a b o i' j' ->i'+j'+1=i+j ->Q (.done (none,i',j',o,c)) aL /\ Q (.yield (none,i',j',o,c)) aL): wpS (model prog w) A E s (uU a b mg i j o ac bc) Q aL:=by
 unfold uU;have hi:=J.hi;have hj:=J.hj;have ia:=J.ia;have jb:=J.jb;exact ak (wp_elem ∅ (ak (wp_elem ∅ (ak (L _ _ _ _ (T.mb (j - 1) ∅) (T.ma (i - 1) ∅) hk ?_)))));dsimp only;cases e:less (bf b (j - 1)) (bf a (i - 1)) with
 | true=>simp![bg];exact ak (wp_elem ∅ ?_);have m:=h9 O T J.mi hi ia jb λ_=>O.le e;by_cases c:i - 1=0;rw[aj ⇑c];show ao (h1 _ _ (d8 T m (.inl c)));rw[ai ⇑c];have:=h2 (i - 1) j _ (ac+1,0) #[m, ∅,hj, ∅,jb] ∅;split;show ao this.1;show ao this.2
 | false=>simp![ap,aO];exact ak (wp_elem ∅ ?_);have m:=lp O T J.mi ∅ ia jb λ_=>e;by_cases c:j - 1=1;rw[aj ⇑c];show ao (h1 _ _ (fb O T m c));rw[ai ⇑c];have:=h2 i (j - 1) _ (0,bc+1) #[m,hi, ∅,ia, ∅] ∅;split;show ao this.1;show ao this.2
def wp_mHi (O:Ord less)(L:cW prog w A E s kd a₀ less)(T:gZ less a₀ a b){st:Fq}(hk:kindOf st=kd)(h: ∀r g,f' less a b r ->Q r (bj st g)):wpS (model prog w) A E s (BE a b) Q st:=by
 rw[mX];have na:=T.na;have nb:=T.nb;exact ak (wpS_lift (wpAny_rule #[rfl,?_]));exact ak (wp_elem ∅ ?_);have h': ∀r,f' less a b r ->Q r st:=λr hr=>h r (gallopOf st) hr;have m:MH less a.toList b.toList (#[bf a (a.size - 1)]:Fo Fn).toList.reverse (a.size - 1) b.size:=by
  have m0:MH less a.toList b.toList (#[]:Fo Fn).toList.reverse a.size b.size:=#[by simp,by simp,by simp,by simp]
  show h9 O T m0 ∅ (am _) (am _) λ_=>O.le (T.hl _ ∅)
 by_cases c:a.size - 1=0;rw[aj ⇑c];show ao (h' _ (d8 T m (.inl c)));rw[ai ⇑c];by_cases c2:b.size=1;rw[aj ⇑c2];show ao (h' _ (fb O T m c2));rw[ai ⇑c2];exact ak (wpS_get ?_);exact ak (wpS_mono (a8 (I:=λn c aL=>(∃g,aL=bj st g) /\ d5 λi j o mg=>b0 (c=(none,i,j,o,mg)) (JH less a b o i j) (i+j+n<a.size+b.size)) (Q:=λc aL=>(∃g,aL=bj st g) /\ bH λx d=>c=(some x,d) /\ f' less a b x) ?_ ?_ #[#[gallopOf st,rfl],_,_,_,_,rfl,#[m, ∅, ∅, ∅, ∅], ∅]) ?_)
 .rintro n c aL _ hn ⟨hg,i,j,o,mg,rfl,J,hN⟩;unfold xY;dsimp only;have lZ:kindOf aL=kd:=by let⟨g,rfl⟩:=hg;show hk
  exact ak (wpS_mono (a8 (I:=λx c eL=>eL=aL /\ d5 λi' j' o' d=>b0 (c=(none,i',j',o',d)) (JH less a b o' i' j') (i'+j'+x=i+j)) (Q:=λc eL=>eL=aL /\ ((bH λx d=>c=(some x,d) /\ f' less a b x) \/ d5 λi' j' o' d=>b0 (c=(none,i',j',o',d)) (JH less a b o' i' j') (i'+j'+1<=i+j))) ?_ ?_ #[rfl,i,j,o,_,rfl,J,rfl]) ?_);rintro x c eL _ hx ⟨rfl,i',j',o',⟨ac,bc⟩,rfl,J',v0⟩;dsimp only;exact wp_two1 O L T lZ J' (λx c hr=>#[rfl, .inl #[x,c,rfl,hr]]) λi2 j2 o2 c J2 h2=>#[#[rfl, .inr #[i2,j2,o2,c,rfl,J2, ∅]],#[rfl,i2,j2,o2,c,rfl,J2, ∅]]
  rintro c eL ⟨rfl,i',j',o',d,rfl,J',v0⟩;show#[rfl, .inr #[i',j',o',d,rfl,J', ∅]]
  .rintro c eL ⟨rfl,⟨x,d,rfl,hr⟩ | ⟨i',j',o',⟨ac,bc⟩,rfl,J',v0⟩⟩;show ao #[hg,x,_,rfl,hr]
   .dsimp only;exact ak (wpS_lift (wpAny_rule #[rfl,?_]));exact ak (wpS_mono (a8 (I:=λx c f_=>(∃g,f_=bj st g) /\ d5 λi' j' o' d=>b0 (c=(none,i',j',o',d)) (JH less a b o' i' j') (i'+j'+1<=i+j)) (Q:=λc f_=>(∃g,f_=bj st g) /\ ((bH λx d=>c=(some x,d) /\ f' less a b x) \/ d5 λi' j' o' d=>b0 (c=(none,i',j',o',d)) (JH less a b o' i' j') (i'+j'+1<=i+j))) ?_ ?_ #[hg,i',j',o',_,rfl,J',v0]) ?_)
    .rintro x c f_ _ hx ⟨fo,i3,j3,o3,⟨BC,CN,CL⟩,rfl,J3,fW⟩;dsimp only;split;all_goals
      exact wpS_mono (wp_p1H O L T (N:=i+j - 1) hk fo J3 ∅) ?_
      rintro r cD ⟨vS,⟨x,c,rfl,hr⟩ | ⟨i4,j4,o4,c,rfl | rfl,J4,h4⟩⟩
      show#[vS, .inl #[x,c,rfl,hr]]
      show#[vS, .inr #[i4,j4,o4,c,rfl,J4, ∅]]
      show#[vS,i4,j4,o4,c,rfl,J4, ∅]
    rintro c f_ ⟨fo,i3,j3,o3,d,rfl,J3,fW⟩;show#[fo, .inr #[i3,j3,o3,d,rfl,J3,fW]];rintro c f_ ⟨fo,⟨x,d,rfl,hr⟩ | ⟨i3,j3,o3,⟨BC,CN,CL⟩,rfl,J3,fW⟩⟩;show ao #[fo,x,_,rfl,hr];dsimp only;exact ak (wpS_modify (ao #[?_,i3,j3,o3,_,rfl,J3, ∅]));let⟨g,rfl⟩:=fo;show#[_,rfl]
 rintro c aL ⟨hg,i,j,o,mg,rfl,J,hN⟩;have:=J.hi;have:=J.hj;lia;rintro c aL ⟨⟨g,rfl⟩,x,d,rfl,hr⟩;show ao (h x g hr)
end
def kT (xs:Fo Fn)(at_:Nat)(l:yr (Fn×Nat)):Fo Fn:=l.foldl (λa (p,j)=>a.setIfInBounds (at_+j) p) xs
theorem kh (at_ n:Nat): ∀ (ms:yr Fn) (k:Nat) (xs:Fo Fn),at_+k+ms.length<=xs.size ->(kT xs at_ (ms.zipIdx k))[n]? =if at_+k<=n /\ n<at_+k+ms.length then ms[n - (at_+k)]? else xs[n]?
 | [],k,xs,h=>by rw[ai (by simp)];rfl
 | p ::ms,k,xs,h=>by rw[be] at h;change(kT (xs.setIfInBounds (at_+k) p) at_ (ms.zipIdx (k+1)))[n]? =_;rw[kh at_ n ms (k+1) _ (by rw[Array.size_setIfInBounds];lia)];rw[be];by_cases c:n=at_+k;subst c;rw[ai ∅,aj ∅,Array.getElem?_setIfInBounds_self_of_lt ∅];simp;rw[Array.getElem?_setIfInBounds_ne (bq c)];by_cases c2:at_+(k+1) <=n /\ n<at_+(k+1)+ms.length;rw[aj c2,aj ∅,show n - (at_+k)=(n - (at_+(k+1)))+1 by lia,List.getElem?_cons_succ];rw[ai c2,ai ∅]
def nV (h:at_+ms.length<=xs.size):(kT xs at_ ms.zipIdx).toList=xs.toList.take at_++(ms++xs.toList.drop (at_+ms.length)):=by
 apply List.ext_getElem?;intro n;have e:=kh at_ n ms 0 xs ∅;rw[Nat.add_zero] at e;have e':(kT xs at_ ms.zipIdx).toList[n]? =(kT xs at_ ms.zipIdx)[n]? :=by simp
 rw[e',e];have hx: ∀k:Nat,xs.toList[k]? =xs[k]? :=λk=>Array.getElem?_toList ..;by_cases c1:n<at_;rw[ai ∅,aH (by rw[List.length_take];simp;lia),List.getElem?_take,aj c1,hx];have lt:(xs.toList.take at_).length=at_:=by rw[List.length_take];simp;lia
 rw[aB ∅,lt];by_cases c2:n<at_+ms.length;rw[aj ∅,aH ∅];rw[ai ∅,aB ∅,List.getElem?_drop,hx];congr 1;lia
def xl (l:yr Fn)(i j k:Nat)(dm:i<=j)(GW:j<=k)(hk:k<=l.length):l=l.take i++((l.take j).drop i++((l.take k).drop j++l.drop k)):=by
 have e1:(l.take k).drop j++l.drop k=l.drop j:=by rw[List.drop_take];have:=aQ (k - j) (l.drop j);rw[List.drop_drop,show j+(k - j)=k by lia] at this;show this
 have e2:(l.take j).drop i++l.drop j=l.drop i:=by rw[List.drop_take];have:=aQ (j - i) (l.drop i);rw[List.drop_drop,show i+(j - i)=j by lia] at this;show this
 rw[e1,e2,aQ]
def pV (O:Ord less){i j lo hi:Nat}(h:Sg less xs lo hi)(h1:lo<=i)(h2:j<=hi)(h3:hi<=xs.size):(xs.extract i j).toList.Pairwise (LE less):=by
 rw[List.pairwise_iff_getElem];intro x y hx hy DK;have e: ∀n (hn:n< (xs.extract i j).toList.length),(xs.extract i j).toList[n]=bf xs (i+n):=λn hn=>by
  have yH:n< (xs.extract i j).size:=by rw[bD] at hn;show hn
  rw[Array.size_extract] at yH;unfold bf;rw[getElem?_pos xs (i+n) ∅];simp
 rw[e x hx,e y hy];have ET:y< (xs.extract i j).size:=by rw[bD] at hy;show hy
 rw[Array.size_extract] at ET;show h _ _ ∅ ∅ ∅
def dJ (h:n< (xs.extract i j).size):bf (xs.extract i j) n=bf xs (i+n):=by unfold bf;rw[Array.size_extract] at h;rw[Array.getElem?_extract,aj ∅]
abbrev Rn:=Nat×Nat×Nat
theorem vA (i:Nat):mergeAt' i=(do
 let s <- get
 let (some (sa,na,pw),some (sb,nb,_)):=((pendingOf s)[i]?,(pendingOf s)[i+1]?) | unsupported "internal:list.sort.pending"
 set (setPending s (((pendingOf s).setIfInBounds i (sa,na+nb,pw)).eraseIdxIfInBounds (i+1)))
 let some k <- sE false (<- elem' (arrOf s) sb) (arrOf s) sa na 0 | return false
 let (sa,na):=(sa+k,na - k)
 if na==0 then return true
 let some nb <- sE true (<- elem' (arrOf s) (sa+na - 1)) (arrOf s) sb nb (nb - 1) | return false
 if nb==0 then return true
 let x:=(arrOf s).extract sa sb
 let y:=(arrOf s).extract sb (sb+nb)
 let r <- if na<=nb then BD x y else BE x y
 modify λs=>setArr s (kT (arrOf s) sa r.toList.zipIdx)
 return(failedOf (<- get)).isNone):=rfl
def qS {st:σ}(h:Q ⟨⟩ v):wpS M A E s (set v:StateT σ Sem PUnit) Q st:=by unfold wpS;rw[StateT.run_set];show aS #[rfl,h]
def wp_mAt (O:Ord less)(L:cW prog w A E s kd a₀ less){st:Fq}{l1 l2:yr Rn}(B:SB kd a₀ st)(hp:pendingOf st=(l1++(sa,na,pw)::(sb,nb,Bn)::l2).toArray)(hi:i=l1.length)(BV:sb=sa+na)(h1:1<=na)(h2:1<=nb)(hz:sb+nb<=a₀.size)(s1:Sg less (arrOf st) sa sb)(s2:Sg less (arrOf st) sb (sb+nb))(h: ∀aL,SB kd a₀ aL ->pendingOf aL=(l1++(sa,na+nb,pw)::l2).toArray ->Sg less (arrOf aL) sa (sb+nb) ->e9 sa (sb+nb) (arrOf st) (arrOf aL) ->Q true aL):wpS (model prog w) A E s (mergeAt' i) Q st:=by
 subst hi;rw[vA];exact ak (wpS_get ?_);have p1:(pendingOf st)[l1.length]? =some (sa,na,pw):=by rw[hp];simp
 have p2:(pendingOf st)[l1.length+1]? =some (sb,nb,Bn):=by rw[hp];simp[aB]
 rw[p1,p2];dsimp only;exact ak (qS ?_);have E3:((pendingOf st).setIfInBounds l1.length (sa,na+nb,pw)).eraseIdxIfInBounds (l1.length+1)=(l1++(sa,na+nb,pw)::l2).toArray:=by rw[hp];simp![List.setIfInBounds_toArray,List.eraseIdxIfInBounds_toArray];congr 1;rw[List.set_append_right _ _ (am _),Nat.sub_self,List.set_cons_zero];rw[List.eraseIdx_append_of_length_le ∅,show l1.length+1 - l1.length=1 by lia];rfl
 rw[E3];let qy:Fq:=setPending st (l1++(sa,na+nb,pw)::l2).toArray
 have B1:SB kd a₀ qy:=#[B.perm,B.kd,B.fl]
 have hsz:=B.size;change wpS _ _ _ _ _ Q qy;exact ak (wp_elem ∅ ?_);exact ak (wp_galR O L B.kd (B.mem ∅) (λk hk=>#[∅,B.mem ∅]) ∅ (by rw[<- BV];show s1) λk g1 g2 g3=> ?_);dsimp only;by_cases c1:na - k=0;rw [aj ⇑c1];exact ao (h qy B1 rfl (λi j hi dm hj=> ?_) e9.refl);change LE less (bf (arrOf st) i) (bf (arrOf st) j);by_cases c2:j<sb;show s1 i j hi dm c2;by_cases c3:sb<=i;show s2 i j c3 dm hj;have:=g2 (i - sa) ∅;rw[show sa+(i - sa)=i by lia] at this;show O.trans _ _ _ this (s2 sb j (am _) ∅ hj);rw [ai ⇑c1];exact ak (wp_elem ∅ ?_);rw[show sa+k+(na - k) - 1=sb - 1 by lia];exact ak (wp_galL O L B.kd (B.mem ∅) (λk hk=>#[∅,B.mem ∅]) ∅ s2 λm f1 f2 f3=> ?_);dsimp only;by_cases c2:m=0;rw [aj ⇑c2];exact ao (h qy B1 rfl (λi j hi dm hj=> ?_) e9.refl);change LE less (bf (arrOf st) i) (bf (arrOf st) j);by_cases c2:j<sb;show s1 i j hi dm c2;by_cases c3:sb<=i;show s2 i j c3 dm hj;have:=f3 (j - sb) ∅ ∅;rw[show sb+(j - sb)=j by lia] at this;show O.trans _ _ _ (s1 i (sb - 1) hi ∅ ∅) this;rw [ai ⇑c2];have BR:((arrOf st).extract (sa+k) sb).size=na - k:=by rw[Array.size_extract];lia
 have BQ:((arrOf st).extract sb (sb+m)).size=m:=by rw[Array.size_extract];lia
 have T:gZ less a₀ ((arrOf st).extract (sa+k) sb) ((arrOf st).extract sb (sb+m)):=by exact#[pV O s1 ∅ (am _) ∅,pV O s2 (am _) ∅ ∅,λi hi=> ?_,λi hi=> ?_, ∅, ∅,?_,λj hj=> ?_];rw[dJ hi];rw[BR] at hi;show B.mem ∅;rw[dJ hi];rw[BQ] at hi;show B.mem ∅;rw[dJ ∅,dJ ∅];show g3 k (am _) ∅;rw[dJ hj,dJ ∅];rw[BQ] at hj;rw[BR,show sa+k+(na - k - 1)=sb - 1 by lia];show f2 j hj
 have fin : ∀ (r:Fo Fn) (g:Nat),f' less ((arrOf st).extract (sa+k) sb) ((arrOf st).extract sb (sb+m)) r ->wpS (model prog w) A E s (do modify λs=>setArr s (kT (arrOf s) (sa+k) r.toList.zipIdx);return(failedOf (<- get)).isNone) Q (bj qy g):=by
  rintro r g ⟨rp,rs⟩;have rl:r.toList.length=sb+m - (sa+k):=by
   rw[rp.length_eq,aK];have e1:((arrOf st).extract (sa+k) sb).toList.length=na - k:=by rw[bD];show BR
   have e2:((arrOf st).extract sb (sb+m)).toList.length=m:=by rw[bD];show BQ
   rw[e1,e2];lia
  have wl:=nV (xs:=arrOf st) (at_:=sa+k) (ms:=r.toList) (by rw[rl,hsz];lia);rw[rl,show sa+k+(sb+m - (sa+k))=sb+m by lia] at wl;have wa: ∀n,bf (kT (arrOf st) (sa+k) r.toList.zipIdx) n=if sa+k<=n /\ n<sb+m then(r.toList[n - (sa+k)]?).getD (.none, .none) else bf (arrOf st) n:=λn=>by have e:=kh (sa+k) n r.toList 0 (arrOf st) (by rw[rl,hsz];lia);rw[Nat.add_zero,rl,show sa+k+(sb+m - (sa+k))=sb+m by lia] at e;unfold bf;rw[e];split<;>rfl
  have wm: ∀n,sa+k<=n ->n<sb+m -> ∃n',b0 (sa+k<=n') (n'<sb+m) (bf (kT (arrOf st) (sa+k) r.toList.zipIdx) n=bf (arrOf st) n'):=λn n1 n2=>by rw[wa,aj #[n1,n2],aM ∅];have hm:=rp.mem_iff.mp (List.getElem_mem (l:=r.toList) (n:=n - (sa+k)) ∅);obtain hm | hm:=bh.mp hm;rw[dY] at hm;let⟨q,q1,q2,q3,e⟩:=k0 hm;show#[q,q1, ∅,e];rw[dY] at hm;let⟨q,q1,q2,q3,e⟩:=k0 hm;show#[q, ∅,q2,e]
  exact ak (wpS_modify ?_);exact ak (wpS_get (ao ?_));have ef:(failedOf (setArr (bj qy g) (kT (arrOf (bj qy g)) (sa+k) r.toList.zipIdx))).isNone=true:=by change(failedOf st).isNone=true;rw[B.fl];rfl
  rw[ef];exact h _ #[?_,B.kd,B.fl] rfl (λi j hi dm hj=> ?_) (λn hn=> ?_);change(kT (arrOf st) (sa+k) r.toList.zipIdx).Perm a₀;exact Array.Perm.trans ?_ B.perm;rw[Array.perm_iff_toList_perm,wl];have e3:=xl (arrOf st).toList (sa+k) sb (sb+m) ∅ ∅ (by simp;lia);exact List.Perm.trans ?_ (List.Perm.of_eq e3.symm);exact List.Perm.append_left _ ?_;rw[<- aX];exact List.Perm.append_right _ ?_;rw[dY,dY] at rp;show rp;change LE less (bf (kT (arrOf st) (sa+k) r.toList.zipIdx) i) (bf (kT (arrOf st) (sa+k) r.toList.zipIdx) j);have yp: ∀x y,sa<=x ->x<sa+k ->sa+k<=y ->y<sb+nb ->LE less (bf (arrOf st) x) (bf (arrOf st) y):=λx y x1 x2 y1 y2=>by by_cases c:y<sb;show s1 x y x1 ∅ c;have:=g2 (x - sa) ∅;rw[show sa+(x - sa)=x by lia] at this;show O.trans _ _ _ this (s2 sb y (am _) ∅ y2)
  have BJ: ∀x y,sa+k<=x ->x<sb+m ->sb+m<=y ->y<sb+nb ->LE less (bf (arrOf st) x) (bf (arrOf st) y):=λx y x1 x2 y1 y2=>by by_cases c:x<sb;have:=f3 (y - sb) ∅ ∅;rw[show sb+(y - sb)=y by lia] at this;show O.trans _ _ _ (s1 x (sb - 1) ∅ ∅ ∅) this;show s2 x y ∅ ∅ y2
  by_cases i1:i<sa+k;have ei:=wa i;rw[ai ∅] at ei;rw[ei];by_cases j1:j<sa+k;have ej:=wa j;rw[ai ∅] at ej;rw[ej];show s1 i j hi dm ∅;by_cases j2:j<sb+m;let⟨n',n1,n2,e⟩:=wm j ∅ j2;rw[e];show yp i n' hi i1 n1 ∅;have ej:=wa j;rw[ai ∅] at ej;rw[ej];show yp i j hi i1 ∅ hj;by_cases i2:i<sb+m;by_cases j2:j<sb+m;rw[wa i,wa j,aj ∅,aj ∅,aM ∅,aM ∅];by_cases Gy:i=j;subst Gy;show O.refl _;show List.pairwise_iff_getElem.mp rs _ _ ∅ ∅ ∅;let⟨n',n1,n2,e⟩:=wm i ∅ i2;have ej:=wa j;rw[ai ∅] at ej;rw[e,ej];show BJ n' j n1 n2 ∅ hj;have ei:=wa i;have ej:=wa j;rw[ai ∅] at ei ej;rw[ei,ej];show s2 i j ∅ dm hj;change bf (kT (arrOf st) (sa+k) r.toList.zipIdx) n=_;rw[wa n,ai ∅]
 by_cases c3:na - k<=m;rw[aj c3];show ak (wp_mLo O L T B.kd λr g hr=>fin r g hr);rw[ai c3];show ak (wp_mHi O L T B.kd λr g hr=>fin r g hr)
def Runs (less:Fn ->Fn ->Bool)(xs:Fo Fn):yr Rn ->Nat ->Nat ->Prop
 | [],lo,hi=>lo=hi
 | (a,n,_)::r,lo,hi=>a=lo /\ 1<=n /\ Sg less xs lo (lo+n) /\ Runs less xs r (lo+n) hi
theorem Runs.le {less:Fn ->Fn ->Bool}{xs:Fo Fn}: ∀ {l:yr Rn} {lo hi:Nat},Runs less xs l lo hi ->lo+l.length<=hi
 | [],lo,hi,h=>Nat.le_of_eq h
 | (a,n,p)::r,lo,hi,h=>by have:=Runs.le h.2.2.2;have:=h.2.1;rw[be];lia
theorem Runs.app {less:Fn ->Fn ->Bool}{xs:Fo Fn}: ∀ {l1 l2:yr Rn} {lo hi:Nat},Runs less xs (l1++l2) lo hi↔ ∃m,Runs less xs l1 lo m /\ Runs less xs l2 m hi
 | [],l2,lo,hi=>#[λh=>#[lo,rfl,h],λ⟨m,e,h⟩=>by cases e;show h]
 | (a,n,p)::r,l2,lo,hi=>by symm;rintro⟨h1,h2,h3,h4⟩;let⟨m,a1,a2⟩:=Runs.app.mp h4;show#[m,#[h1,h2,h3,a1],a2];rintro⟨m,⟨h1,h2,h3,a1⟩,a2⟩;show#[h1,h2,h3,Runs.app.mpr #[m,a1,a2]]
theorem Runs.out {less:Fn ->Fn ->Bool}{xs ys:Fo Fn}{e1 e2:Nat}(o:e9 e1 e2 xs ys): ∀ {l:yr Rn} {lo hi:Nat},(hi<=e1 \/ e2<=lo) ->Runs less xs l lo hi ->Runs less ys l lo hi
 | [],lo,hi,_,h=>h
 | (a,n,p)::r,lo,hi,hc,⟨h1,h2,h3,h4⟩=>by have:=Runs.le h4;exact#[h1,h2,λi j hi dm hj=> ?_,Runs.out o ∅ h4];rw[o i ∅,o j ∅];show h3 i j hi dm hj
theorem ol {e1 e2 lo hi:Nat}(o:e9 e1 e2 xs ys)(hc:hi<=e1 \/ e2<=lo)(h:Sg less xs lo hi):Sg less ys lo hi:=λi j hi dm hj=>by rw[o i ∅,o j ∅];show h i j hi dm hj
def n8 {l:yr α}(h:2<=l.length):dr λl1 x y=>l=l1++ [x,y]:=by exact#[l.take (l.length - 2),l[l.length - 2],l[l.length - 1],?_];have:=aQ (l.length - 2) l;rw[List.drop_eq_getElem_cons ∅,List.drop_eq_getElem_cons ∅,List.drop_eq_nil_of_le ∅] at this;have e:l.length - 2+1=l.length - 1:= ∅;simp![e] at this;show this.symm
theorem k9 {α:Type}{l:yr α}(h:l≠ []): ∃l1 x,l=l1++ [x]:=#[l.dropLast,l.getLast h,(List.dropLast_concat_getLast h).symm]
def jv (l1:yr Rn)(x:Rn)(f:Rn ->Rn):(l1++ [x]).modify l1.length f=l1++ [f x]:=by
 induction l1 with
 | nil=>rfl
 | cons a l ih=>rw[List.cons_append,be,List.modify_succ_cons,ih];rfl
def wp_mR (O:Ord less)(L:cW prog w A E s kd a₀ less){st:Fq}{x y:Rn}{i lo:Nat}(B:SB kd a₀ st)(hp:pendingOf st=(l1++x::y::l2).toArray)(hi:i=l1.length)(hz:lo<=a₀.size)(R:Runs less (arrOf st) (l1++x::y::l2) 0 lo)(h: ∀aL z,SB kd a₀ aL ->pendingOf aL=(l1++z::l2).toArray ->Runs less (arrOf aL) (l1++z::l2) 0 lo ->e9 0 lo (arrOf st) (arrOf aL) ->Q true aL):wpS (model prog w) A E s (mergeAt' i) Q st:=by let⟨sa,na,pw⟩:=x;let⟨sb,nb,Bn⟩:=y;let⟨m,r1,rfl,h1,s1,rfl,h2,s2,r2⟩:=Runs.app.mp R;have Ce:=r2.le;exact wp_mAt O L B hp hi rfl h1 h2 ∅ s1 s2 λaL B' B0 s' o'=>h aL _ B' B0 ?_ λk hk=>o' k ∅;exact Runs.app.mpr #[_,r1.out o' (.inl (am _)),rfl, ∅,?_,?_];rw[<- Nat.add_assoc];show s';rw[<- Nat.add_assoc];show r2.out o' (.inr (am _))
def jc {a n p q lo hi:Nat}(h:Runs less xs (l1++ [(a,n,p)]) lo hi):Runs less xs (l1++ [(a,n,q)]) lo hi:=by let⟨m,r1,h1,h2,h3,h4⟩:=Runs.app.mp h;show Runs.app.mpr #[m,r1,h1,h2,h3,h4]
def wp_sort (O:Ord less)(L:cW prog w A E s kd a₀ less){st:Fq}(B:SB kd a₀ st)(E5:pendingOf st= #[])(h2:2<=a₀.size)(h: ∀aL,(arrOf aL).Perm a₀ ->failedOf aL=none ->Sg less (arrOf aL) 0 a₀.size ->Q () aL):wpS (model prog w) A E s sortRuns' Q st:=by
 rw[sortRuns'_eq];exact ak (wpS_get ?_);dsimp only;simp![B.size];generalize minRun' a₀.size a₀.size 0=mr;exact ak (wpS_mono (a8 (I:=λx c aL=>bH λlo pl=>gW (c=(none,lo)) (x<=lo) (lo<=a₀.size) (SB kd a₀ aL) (pendingOf aL=pl.toArray) (Runs less (arrOf aL) pl 0 lo)) (Q:=λc aL=> ∃pl,c6 (c=(none,a₀.size)) (SB kd a₀ aL) (pendingOf aL=pl.toArray) (Runs less (arrOf aL) pl 0 a₀.size)) ?step ?fin #[0,[],rfl,am _,Nat.zero_le _,B,E5,rfl]) ?post);case fin=>
  rintro c aL ⟨lo,pl,rfl,h1,wQ,B',hp,R⟩
  have:lo=a₀.size:= ∅
  subst this
  show#[pl,rfl,B',hp,R]
 case step =>
  rintro x c aL _ hx ⟨lo,pl,rfl,h1,wQ,B',hp,R⟩
  dsimp only
  by_cases c1:lo≥a₀.size
  rw[aj c1]
  have:lo=a₀.size:= ∅
  subst this
  show ao #[pl,rfl,B',hp,R]
  rw[ai c1]
  exact ak (wp_run O L ∅ ∅ B' λm eL B2 m1 m2 s2 p2 o2=> ?_)
  dsimp only
  have R2:Runs less (arrOf eL) pl 0 lo:=R.out o2 (.inl (am _))
  by_cases c2:m<mr
  rw [aj c2]
  exact ak (wpS_lift (wpAny_rule #[rfl,?_]))
  exact ak (wp_bin O L ∅ ∅ B2 s2 λf_ B3 s3 p3 o3=> ?_)
  simp![Bool.not_true,ap,aO]
  have R3:=R2.out o3 (.inl (am _))
  have n1:1<=min (a₀.size - lo) mr:= ∅
  have n2:lo+min (a₀.size - lo) mr<=a₀.size:= ∅
  rw[p2,hp] at p3
  clear o3
  revert s3 n1 n2
  generalize min (a₀.size - lo) mr=n
  intro s3 n1 n2
  exact ak (wpS_get ?_)
  cases hb:(pendingOf f_).back? with
  | none=>dsimp only;exact ak (wpS_modify (ao #[lo+n,pl++ [(lo,n,0)],rfl, ∅,n2,#[B3.perm,B3.kd,B3.fl],?_,Runs.app.mpr #[lo,R3,rfl,n1,s3,rfl]]));change(pendingOf f_).push (lo,n,0)=_;rw[p3];simp
  | some q=>
   let⟨s1,vw,p1⟩:=q;dsimp only;have nR:pl≠ []:=λe=>by subst e;rw[p3] at hb;simp at hb
   exact ak (wpS_mono (a8 (I:=λ_ c cD=>c=(none,()) /\ ∃pl,dB (pl≠ []) (SB kd a₀ cD) (Sg less (arrOf cD) lo (lo+n)) (pendingOf cD=pl.toArray) (Runs less (arrOf cD) pl 0 lo)) (Q:=λc cD=>c=(none,()) /\ ∃pl,dB (pl≠ []) (SB kd a₀ cD) (Sg less (arrOf cD) lo (lo+n)) (pendingOf cD=pl.toArray) (Runs less (arrOf cD) pl 0 lo)) ?_ (λc cD h=>h) #[rfl,pl,nR,B3,s3,p3,R3]) ?_);rintro y c cD _ hy ⟨rfl,ik,ne4,B4,s4,p4,R4⟩;exact ak (wpS_get ?_);by_cases c2:(pendingOf cD).size >1;rw[aj c2];have hl:2<=ik.length:=by rw[p4] at c2;simp at c2;lia
   let⟨l1,u,v,e4⟩:=n8 hl;have e5:(pendingOf cD).size - 2=l1.length:=by rw[p4,e4];simp
   have e6:(pendingOf cD)[(pendingOf cD).size - 2]? =some u:=by rw[e5,p4,e4];simp
   rw[e6];let⟨u1,u2,u3⟩:=u;dsimp only;split;show ao #[rfl,ik,ne4,B4,s4,p4,R4];subst e4;exact ak (wp_mR O L (l2:= []) B4 p4 e5 ∅ R4 λwF z B5 p5 R5 o5=> ?_);simp![Bool.not_true,ap,aO];show ao #[rfl,_,by simp,B5,ol o5 (.inr (am _)) s4,p5,R5];rw[ai c2];show ao #[rfl,ik,ne4,B4,s4,p4,R4];rintro c cD ⟨rfl,ik,ne4,B4,s4,p4,R4⟩;dsimp only;exact ak (wpS_modify (ak (wpS_modify (ao ?_))));let⟨l1,⟨u1,u2,u3⟩,rfl⟩:=k9 ne4;exact#[lo+n,(l1++ [(u1,u2,power' a₀.size (2*s1+vw) (2*s1+vw+vw+n) a₀.size)])++ [(lo,n,0)],rfl, ∅,n2,#[B4.perm,B4.kd,B4.fl],?_,Runs.app.mpr #[lo,jc R4,rfl,n1,s4,rfl]];change((pendingOf cD).modify ((pendingOf cD).size - 1) _).push (lo,n,0)=_;rw[p4];simp![List.modify_toArray,List.push_toArray,aq];congr 2;rw[aK,List.length_singleton,Nat.add_sub_cancel];show jv l1 _ _
  rw [ai c2]
  have s3:=s2
  have n1:=m1
  have n2:lo+m<=a₀.size:= ∅
  have p3:pendingOf eL=pl.toArray:=by rw[p2,hp]
  have B3:=B2
  have R3:=R2
  clear p2 o2 B2 R2 s2 m1 m2 c2
  revert s3 n1 n2
  generalize m=n
  intro s3 n1 n2
  revert p3 B3 R3 s3
  generalize eL=f_
  intro p3 B3 R3 s3
  exact ak (wpS_get ?_)
  cases hb:(pendingOf f_).back? with
  | none=>dsimp only;exact ak (wpS_modify (ao #[lo+n,pl++ [(lo,n,0)],rfl, ∅,n2,#[B3.perm,B3.kd,B3.fl],?_,Runs.app.mpr #[lo,R3,rfl,n1,s3,rfl]]));change(pendingOf f_).push (lo,n,0)=_;rw[p3];simp
  | some q=>
   let⟨s1,vw,p1⟩:=q;dsimp only;have nR:pl≠ []:=λe=>by subst e;rw[p3] at hb;simp at hb
   exact ak (wpS_mono (a8 (I:=λ_ c cD=>c=(none,()) /\ ∃pl,dB (pl≠ []) (SB kd a₀ cD) (Sg less (arrOf cD) lo (lo+n)) (pendingOf cD=pl.toArray) (Runs less (arrOf cD) pl 0 lo)) (Q:=λc cD=>c=(none,()) /\ ∃pl,dB (pl≠ []) (SB kd a₀ cD) (Sg less (arrOf cD) lo (lo+n)) (pendingOf cD=pl.toArray) (Runs less (arrOf cD) pl 0 lo)) ?_ (λc cD h=>h) #[rfl,pl,nR,B3,s3,p3,R3]) ?_);rintro y c cD _ hy ⟨rfl,ik,ne4,B4,s4,p4,R4⟩;exact ak (wpS_get ?_);by_cases c2:(pendingOf cD).size >1;rw[aj c2];have hl:2<=ik.length:=by rw[p4] at c2;simp at c2;lia
   let⟨l1,u,v,e4⟩:=n8 hl;have e5:(pendingOf cD).size - 2=l1.length:=by rw[p4,e4];simp
   have e6:(pendingOf cD)[(pendingOf cD).size - 2]? =some u:=by rw[e5,p4,e4];simp
   rw[e6];let⟨u1,u2,u3⟩:=u;dsimp only;split;show ao #[rfl,ik,ne4,B4,s4,p4,R4];subst e4;exact ak (wp_mR O L (l2:= []) B4 p4 e5 ∅ R4 λwF z B5 p5 R5 o5=> ?_);simp![Bool.not_true,ap,aO];show ao #[rfl,_,by simp,B5,ol o5 (.inr (am _)) s4,p5,R5];rw[ai c2];show ao #[rfl,ik,ne4,B4,s4,p4,R4];rintro c cD ⟨rfl,ik,ne4,B4,s4,p4,R4⟩;dsimp only;exact ak (wpS_modify (ak (wpS_modify (ao ?_))));let⟨l1,⟨u1,u2,u3⟩,rfl⟩:=k9 ne4;exact#[lo+n,(l1++ [(u1,u2,power' a₀.size (2*s1+vw) (2*s1+vw+vw+n) a₀.size)])++ [(lo,n,0)],rfl, ∅,n2,#[B4.perm,B4.kd,B4.fl],?_,Runs.app.mpr #[lo,jc R4,rfl,n1,s4,rfl]];change((pendingOf cD).modify ((pendingOf cD).size - 1) _).push (lo,n,0)=_;rw[p4];simp![List.modify_toArray,List.push_toArray,aq];congr 2;rw[aK,List.length_singleton,Nat.add_sub_cancel];show jv l1 _ _
 case post =>
  rintro c aL ⟨pl,rfl,B',hp,R⟩
  dsimp only
  have Ce:=R.le
  exact ak (wpS_mono (a8 (I:=λx c cD=>c=(none,()) /\ ∃pl,c6 (SB kd a₀ cD) (pendingOf cD=pl.toArray) (Runs less (arrOf cD) pl 0 a₀.size) (pl.length<=1 \/ pl.length+x<=a₀.size)) (Q:=λc cD=>c=(none,()) /\ ∃pl,b0 (SB kd a₀ cD) (Runs less (arrOf cD) pl 0 a₀.size) (pl.length<=1)) ?_ ?_ #[rfl,pl,B',hp,R, .inr ∅]) ?_)
  rintro x c cD _ hx ⟨rfl,ik,B4,p4,R4,hl⟩
  exact ak (wpS_get ?_)
  have G3:(pendingOf cD).size=ik.length:=by rw[p4];simp
  by_cases c1:(pendingOf cD).size<=1
  rw[aj c1]
  show ao #[rfl,ik,B4,R4, ∅]
  rw [ai c1]
  generalize DZ:Option.any _ _=Gv
  have mk: ∀k,k+2<=ik.length -> ∀ (Q':ForInStep (BP Unit×Unit) ->Fq ->Prop),(∀aL pl,SB kd a₀ aL ->pendingOf aL=pl.toArray ->Runs less (arrOf aL) pl 0 a₀.size ->(pl.length<=1 \/ pl.length+(x+1) <=a₀.size) ->Q' (.yield (none,())) aL) ->wpS (model prog w) A E s (do
    let b <- mergeAt' k
    if(!b)=true then pure (ForInStep.done ((some (),()):BP Unit×Unit)) else pure (ForInStep.yield (none,()))) Q' cD:=by
   intro k hk Q' hQ
   have e:=aQ k ik
   rw[List.drop_eq_getElem_cons ∅,List.drop_eq_getElem_cons ∅] at e
   have lZ:(ik.take k).length=k:=by rw[List.length_take];lia
   rw[<- e] at p4 R4
   exact ak (wp_mR O L B4 p4 lZ.symm (am _) R4 λwF z B5 p5 R5 o5=> ?_)
   simp![Bool.not_true,ap,aO]
   exact ao (hQ _ _ B5 p5 R5 (.inr ?_))
   rw[aK,lZ,be,List.length_drop]
   lia
  cases Gv with
  | true=>simp![bg];show mk ((pendingOf cD).size - 2 - 1) ∅ _ λaL pl b1 b2 b3 b4=>#[rfl,pl,b1,b2,b3,b4]
  | false=>simp![ap,aO];show mk ((pendingOf cD).size - 2) ∅ _ λaL pl b1 b2 b3 b4=>#[rfl,pl,b1,b2,b3,b4]
  rintro c cD ⟨rfl,ik,B4,p4,R4,hl⟩
  show#[rfl,ik,B4,R4, ∅]
  rintro c cD ⟨rfl,ik,B4,R4,hl⟩
  exact ao (h _ B4.perm B4.fl ?_)
  match ik,R4,hl with
  | [],R4,_=>show absurd R4 (by change ¬(0=a₀.size);lia)
  | [(u1,u2,u3)],⟨_,_,h3,h4⟩,_=>have h4:0+u2=a₀.size:=h4;rw[h4] at h3;show h3
  | _::_::_,_,hl=>simp at hl
def mV (h:Heap)(a:Fm)(vs:yr yt):Heap:=((h.update a (Obj.mapSeq λ_=> #[])).push (seqObj "tuple" vs.toArray 0)).push (seqObj "list" #[] 0)
def rS (ho:h.get? a=some (seqObj "list" vs.toArray n)):(mV h a vs).get? a=some (seqObj "list" #[] (if((#[]:Fo yt)).size==vs.toArray.size then n else n+1)):=by have ha:=ax ho;unfold mV;rw[Heap.get?_push_ne _ _ _ (by rw[size_push',Heap.size_update];show aZ (Nat.lt_succ_of_lt ha)),Heap.get?_push_ne _ _ _ (by rw[Heap.size_update];show aZ ha)];show get?_update_seq ho (λ_=> #[])
def oj (O:Ord less)(ho:s.heap.get? a=some (seqObj "list" vs.toArray n))(hsz:vs.length<=sizeLine)(hk:2<=vs.length -> ∀ (Q:SortKind ->yu ->Prop),Q kd {s with heap:=mV s.heap a vs} ->wpAny (model prog w) A (keyKind' vs.toArray) Q E {s with heap:=mV s.heap a vs})(L:cW prog w A E {s with heap:=mV s.heap a vs} kd (pairsOf vs) less)(h: ∀ (us:yr yt),us.Perm vs ->us.Pairwise (λx y=>less (y,y) (x,x)=false) ->P (.done (.ret .none)) {s with heap:=sortedHeap s.heap a vs us.toArray}): wpAny (model prog w) A (Builtin.«list.sort» #[[.ref a],[]]) P E s:=by
 rw[list_sort_plain];exact ar (listItems_at ho rfl ?_);exact ar (listUpdate_at ho rfl ?_ (hsz:= ⇑hsz));exact ar (seqEpoch_at (get?_update_seq ho (λ_=> #[])) rfl ?_);exact ar (wpAny_newTuple ?_);exact ar (wpAny_newList ?_);exact wpAny_holding ?_;have Am:=rS ho;change wpAny (model prog w) A _ P E {s with heap:=mV s.heap a vs};dsimp only;have fin: ∀xs:Fo Fn,xs.Perm (pairsOf vs) ->Sg less xs 0 (pairsOf vs).size ->P (.done (.ret .none)) {s with heap:=sortedHeap s.heap a vs (xs.map (·.2))}:=by
  intro xs hp hs;have hl:xs.toList.Perm (vs.zip vs):=by rw[<- pairsOf_toList];show Array.perm_iff_toList_perm.mp hp
  have yI: ∀p,p∈xs.toList ->p.1=p.2 /\ p.1∈vs:=λp B0=>mem_zip_self (hl.mem_iff.mp B0);have:=h (xs.toList.map (·.2)) ?_ ?_;have e:(xs.toList.map (·.2)).toArray=xs.map (·.2):=by apply Array.toList_inj.mp;simp
  rwa [e] at this;have h1:=hl.map (λp:Fn=>p.2);rwa [List.map_snd_zip (am _)] at h1;rw[List.pairwise_iff_getElem];intro i j hi hj dm;have ga:i<xs.size:= ⇑hi;have vQ:j<xs.size:= ⇑hj;have h1:=hs i j (Nat.zero_le _) (Nat.le_of_lt dm) (by rw[<- hp.size_eq];show vQ);have e1:bf xs i=((xs.toList.map (·.2))[i],(xs.toList.map (·.2))[i]):=by rw[List.getElem_map];have hm:=iJ ga;have e:=cJ ga;rw[aM ⇑ga] at e;have e:=aE e;rw[e];show Prod.ext (yI _ hm).1 rfl
  have e2:bf xs j=((xs.toList.map (·.2))[j],(xs.toList.map (·.2))[j]):=by rw[List.getElem_map];have hm:=iJ vQ;have e:=cJ vQ;rw[aM ⇑vQ] at e;have e:=aE e;rw[e];show Prod.ext (yI _ hm).1 rfl
  rw[e1,e2] at h1;show h1
 have EY:vs.toArray.size=vs.length:=by simp
 by_cases h2:vs.toArray.size<2;rw[aj h2,aj h2];exact ar (aS ?_);rw[StateT.run_pure];exact ar (aS ?_);dsimp only;exact ar (seqEpoch_at Am rfl ?_);exact ar (listUpdate_at Am rfl ?_ (hsz2:=by rw[Array.size_map];change(pairsOf vs).size<=_;rw[pairsOf_size];lia));simp![bne_self_eq_false,ap,aO];exact aS (fin (pairsOf vs) (Array.Perm.refl _) ?_);intro i j _ dm hj;have:i=j:=by rw[pairsOf_size] at hj;lia
 subst this;show O.refl _;rw[ai h2,ai h2];exact ar (hk ∅ _ ?_);exact ar (wpAny_mono (wp_sort O L (st:=SortSt.mk' kd (vs.toArray.zip vs.toArray) #[] 7 none) (Q:=λ_ aL=>(arrOf aL).Perm (pairsOf vs) /\ failedOf aL=none /\ Sg less (arrOf aL) 0 (pairsOf vs).size) #[Array.Perm.refl _,rfl,rfl] rfl (by rw[pairsOf_size];lia) λaL a1 a2 a3=>#[a1,a2,a3]) ?_ λ_ _ e=>e);rintro⟨⟨⟩,aL⟩ s' ⟨rfl,hp,hf,hs⟩;dsimp only;exact ar (seqEpoch_at Am rfl ?_);exact ar (listUpdate_at Am rfl ?_ (hsz2:=by exact a0 (Nat.le_of_eq ((Array.size_map ..).trans (hp.size_eq.trans (pairsOf_size _)))) ?_;lia));rw[hf];simp![bne_self_eq_false,ap,aO];show aS (fin _ hp hs)
def fS (x y:Fn):Bool:=decide (numOf x.1<numOf y.1)
def Br:Ord fS:=by exact#[λx y h=> ?_,λx y z h1 h2=> ?_];unfold fS at*;rw[decide_eq_true_eq] at h;show a9 ∅;unfold LE fS at*;rw[decide_eq_false_iff_not] at*;lia
def EO {a₀:Fo Fn}(h0:IntKeys a₀):cW prog w A E s oneType' a₀ fS:=by
 intro x y st Q hx hy hk hq;let⟨n,t,e1⟩:=h0 x hx;let⟨m,u,e2⟩:=h0 y hy;rw[lt'_eq];exact ak (wpS_get ?_);rw[hk,keyLt'_oneType,e1,e2];exact ak (wpS_lift (wpAny_attempt (oneLt_int #[rfl,?_])));have e:fS x y=decide (n<m):=by unfold fS;rw[e1,e2];rfl
 rw[e] at hq;show ao hq
def mJ (ho:s.heap.get? a=some (seqObj "list" vs.toArray n))(hI:IntsAre vs ns)(hsz:vs.length<=sizeLine)(h: ∀ (out:Fo yt) (wG:yr Int),IntsAre out.toList wG ->wG.Perm ns ->wG.Pairwise (· <= ·) ->P (.done (.ret .none)) {s with heap:=sortedHeap s.heap a vs out}): wpAny (model prog w) A (Builtin.«list.sort» #[[.ref a],[]]) P E s:=by
 exact oj Br ho hsz (kd:=oneType') (λh2 Q hq=> ?_) (EO hI.intKeys) λus hp hs=> ?_;let⟨v₁,v₂,cF,rfl⟩:dr λv₁ v₂ cF=>vs=v₁::v₂::cF:=by
  match vs,h2 with
  | [],h2=>simp at h2
  | [_],h2=>simp at h2
  | v₁::v₂::cF,_=>show#[v₁,v₂,cF,rfl]
 rw[keyKind_ints hI];show aS hq;have vY: ∀v,v∈us -> ∃n t,v= .int n t:=λv hv=>hI.all v (hp.mem_iff.mp hv);exact h us.toArray (us.map numOf) ⇑(intsAre_map us vY) ?_ ?_;have:=hp.map numOf;rwa [hI.nums] at this;rw[List.pairwise_map];exact hs.imp λ{x y} e=> ?_;unfold fS at e;rw[decide_eq_false_iff_not] at e;simp only at e;lia
end TS
namespace L2
open PySem PySem.Spec PyProof.Rows
abbrev bM:=Sum Int Str
def eY:bM ->yt ->Bool
 | .inl k,v=>Value.isInt k v
 | .inr x,v=>Value.isStrOf x v
def yo (w:World):bM ->Int
 | .inl k=>hashInt k
 | .inr x=>hashStr w x
theorem aY: ∀ {k:bM} {v:yt},eY k v=true ->(bH λi t=>k=Sum.inl i /\ v=Value.int i t) \/ (bH λx t=>k=Sum.inr x /\ v=Value.str x t)
 | .inl i,v,h=>by let⟨t,e⟩:=Value.isInt_shape (k:=i) (v:=v) h;show .inl #[i,t,rfl,e]
 | .inr x,v,h=>by let⟨t,e⟩:=Value.isStrOf_shape (x:=x) (v:=v) h;show .inr #[x,t,rfl,e]
def nc (i:Int)(t:Tok):eY (.inl i) (.int i t)=true:=by simp[eY,Value.isInt]
def m_ (x:Str)(t:Tok):eY (.inr x) (.str x t)=true:=by simp[eY,Value.isStrOf]
def vH (a b:Int):decide ((Sum.inl a:bM)=Sum.inl b)=(a==b):=by by_cases e:a=b;subst e;simp;have h:¬(Sum.inl a:bM)=Sum.inl b:=λq=>e (Sum.inl.inj q);rw[a9 h];show(beq_eq_false_iff_ne.mpr e).symm
def vE (a b:Str):decide ((Sum.inr a:bM)=Sum.inr b)=decide (a=b):=by by_cases e:a=b;subst e;simp;have h:¬(Sum.inr a:bM)=Sum.inr b:=λq=>e (Sum.inr.inj q);rw[a9 h,a9 e]
theorem vG (a:Int)(b:Str):decide ((Sum.inl a:bM)=Sum.inr b)=false:=a9 (λq=>nomatch q)
theorem vF (a:Str)(b:Int):decide ((Sum.inr a:bM)=Sum.inl b)=false:=a9 (λq=>nomatch q)
def bI (prog:Program)(w:World):PySem.KeyKind prog w bM where
 is:=eY
 hash:=yo w
 inj :=λv a b ha hb=>by
  rcases aY ha with⟨i,t,rfl,rfl⟩ | ⟨x,t,rfl,rfl⟩
  rcases aY hb with⟨j,u,rfl,e⟩ | ⟨y,u,rfl,e⟩
  injection e with e1 _;rw[e1];show nomatch e
  rcases aY hb with⟨j,u,rfl,e⟩ | ⟨y,u,rfl,e⟩
  show nomatch e
  injection e with e1 _;rw[e1]
 byValue:=λk v h=>by rcases aY h with⟨i,t,rfl,rfl⟩ | ⟨x,t,rfl,rfl⟩ <;>rfl
 pyHash:=λhv h=>by
  rcases aY hv with⟨i,t,rfl,rfl⟩ | ⟨x,t,rfl,rfl⟩
  show wpAny_pyHash_int h;show wpAny_pyHash_str h
 eqBool:=λhu hv h=>by
  rcases aY hu with⟨i,t,rfl,rfl⟩ | ⟨x,t,rfl,rfl⟩
  rcases aY hv with⟨j,u,rfl,rfl⟩ | ⟨y,u,rfl,rfl⟩
  rw[vH] at h;show wpAny_eqBool_int h;rw[vG] at h;show SeqAt.EqAt.int_str i t y u _ _ _ _ h;rcases aY hv with⟨j,u,rfl,rfl⟩ | ⟨y,u,rfl,rfl⟩
  rw[vF] at h;show SeqAt.EqAt.str_int x t j u _ _ _ _ h;rw[vE] at h;show wpAny_eqBool_str h
 «strs» :=λk x t v h=>by
  rcases aY h with⟨i,u,rfl,e⟩ | ⟨y,u,rfl,e⟩
  show nomatch e
  injection e with e1 _;subst e1;cases v<;>rfl
theorem jx (prog:Program)(w:World)(i:Int)(t:Tok):(bI prog w).is (.inl i) (.int i t)=true:=nc i t
theorem jw (prog:Program)(w:World)(x:Str)(t:Tok):(bI prog w).is (.inr x) (.str x t)=true:=m_ x t
set_option genInjectivity true in
inductive V where
  | dy | bl (b:Bool) | int (i:Int) | str (x:Str) | nT (b:Array UInt8) | ux (b:UInt64) | ref (a:Addr) | ty (n:String)
 deriving DecidableEq
def RelV:V ->yt ->Prop
 | .dy,u=>u=Value.none
 | .bl b,u=>u=Value.bool b
 | .int i,u=> ∃t,u=Value.int i t
 | .str x,u=> ∃t,u=Value.str x t
 | .nT b,u=> ∃t,u=Value.bytes b t
 | .ux b,u=> ∃t,u=Value.float b t
 | .ref a,u=>u=Value.ref a
 | .ty n,u=>u=Value.type n
abbrev bo:yr V ->yr yt ->Prop:=Paired RelV
theorem bo.length (r:bo xs us):xs.length=us.length:=Paired.length r
theorem bo.get: ∀ {xs:yr V} {us:yr yt} {i:Nat} {x:V},bo xs us ->xs[i]? =some x -> ∃u,us[i]? =some u /\ RelV x u
 | _,_,_,_, .nil,e=>by simp at e
 | _,_,0,_, .cons r _,e=>by simp at e;subst e;show#[_,rfl,r]
 | _,_,i+1,x, .cons _ t,e=>by let⟨u,h1,h2⟩:=bo.get (i:=i) (x:=x) t ⇑e;show#[u, ⇑h1,h2]
theorem bo.set {x:V}{u:yt}(r:RelV x u): ∀ {xs:yr V} {us:yr yt} (i:Nat),bo xs us ->bo (xs.set i x) (us.set i u)
 | _,_,_, .nil=> .nil
 | _,_,0, .cons _ t=> .cons r t
 | _,_,i+1, .cons q t=> .cons q (bo.set r i t)
theorem bo.append: ∀ {xs ys:yr V} {us ws:yr yt},bo xs us ->bo ys ws ->bo (xs++ys) (us++ws)
 | _,_,_,_, .nil,s=>s
 | _,_,_,_, .cons r t,s=> .cons r (bo.append t s)
theorem bo.take: ∀ {xs:yr V} {us:yr yt} (n:Nat),bo xs us ->bo (xs.take n) (us.take n)
 | _,_,0,_=> .nil
 | _,_,_+1, .nil=> .nil
 | _,_,n+1, .cons r t=> .cons r (bo.take n t)
theorem bo.drop: ∀ {xs:yr V} {us:yr yt} (n:Nat),bo xs us ->bo (xs.drop n) (us.drop n)
 | _,_,0,r=>r
 | _,_,_+1, .nil=> .nil
 | _,_,n+1, .cons _ t=>bo.drop n t
def d3:BP V ->BP yt ->Prop
 | some v,some u=>RelV v u
 | none,none=>True
 | _,_=>False
def KV {κ:Type}:yr (κ×V) ->yr (κ×yt) ->Prop:=Paired λ(p:κ×V) (q:κ×yt)=>p.1=q.1 /\ RelV p.2 q.2
def kV:bM ->V
 | .inl i=> .int i
 | .inr x=> .str x
def dO (h:Heap)(a:Fm)(aU:Fo yt):Prop:= ∃o,h.get? a=some o /\ o.cls= .type "tuple" /\ ∃n,o.data= .seq aU n /\ o.dict=none
theorem dO.t (x:dO h a aU):IsTup h a aU:=let ⟨o,e,c,n,d,_⟩:=x;#[o,e,c,n,d]
theorem dO.lt (x:dO h a aU):a<h.objs.size:=let ⟨_,e,_⟩:=x;ax e
theorem dO.new (h:Heap)(aU:Fo yt):dO (h.push {cls:= .type "tuple",data:= .seq aU}) h.objs.size aU:=#[_,a5 _ rfl,rfl,_,rfl,rfl]
inductive NK where
 | key (k:bM) | seq (l:List NK)
noncomputable instance:DecidableEq NK:=λa b=>Classical.propDecidable (a=b)
mutual
def cg (h:Heap):NK ->yt ->Prop
 | .key k,v=>eY k v=true
 | .seq l,v=>bH λa aU=>b0 (v= .ref a) (dO h a aU) (bB h l aU.toList)
def bB (h:Heap):yr NK ->yr yt ->Prop
 | [],vs=>vs= []
 | k::r,vs=>bH λv t=>b0 (vs=v::t) (cg h k v) (bB h r t)
end
mutual
def bZ:NK ->Nat
 | .key _=>0
 | .seq l=>c_ l+1
def c_:yr NK ->Nat
 | []=>0
 | k::r=>max (bZ k) (c_ r)
end
mutual
def kD (w:World):NK ->Int
 | .key k=>yo w k
 | .seq l=>reduceHash (Builtin.Tuple.tupleHashOf (cQ w l))
def cQ (w:World):yr NK ->yr Int
 | []=> []
 | k::r=>kD w k::cQ w r
end
mutual
def fi:NK ->Nat
 | .key _=>1
 | .seq l=>cB l+1
def cB:yr NK ->Nat
 | []=>0
 | k::r=>fi k+cB r
end
def dO.uniq (p:dO h a x)(q:dO h a y):x=y:=by let⟨o,e,_,n,d,_⟩:=p;let⟨o',e',_,n',d',_⟩:=q;rw[e] at e';cases e';rw[d] at d';cases d';rfl
def dO.keeps (p:dO h a aU)(e:h.get? d=some o)(ed:o.data= .dict es ep)(sb:Heap.SameBut d h h'):dO h' a aU:=by
 let⟨o',e',c,n,dd,z⟩:=p;have ne:a≠d:=λx=>by subst x;rw[e] at e';cases e';rw[ed] at dd;cases dd
 show#[o',by rw[sb.2 a ne];show e',c,n,dd,z]
mutual
theorem cg.inj {h:Heap}: ∀ (k m:NK) (v:yt),cg h k v ->cg h m v ->k=m
 | .key a, .key b,v,h1,h2=>by
  simp![cg] at h1 h2;rcases aY h1 with⟨i,t,rfl,rfl⟩ | ⟨x,t,rfl,rfl⟩
  rcases aY h2 with⟨j,u,rfl,e⟩ | ⟨y,u,rfl,e⟩
  injection e with e1 _;rw[e1];show nomatch e
  rcases aY h2 with⟨j,u,rfl,e⟩ | ⟨y,u,rfl,e⟩
  show nomatch e
  injection e with e1 _;rw[e1]
 | .key a, .seq m,v,h1,h2=>by simp![cg] at h1 h2;let⟨b,aU,rfl,_⟩:=h2;rcases aY h1 with⟨i,t,rfl,e⟩ | ⟨x,t,rfl,e⟩ <;>cases e
 | .seq l, .key b,v,h1,h2=>by simp![cg] at h1 h2;let⟨a,aU,rfl,_⟩:=h1;rcases aY h2 with⟨i,t,rfl,e⟩ | ⟨x,t,rfl,e⟩ <;>cases e
 | .seq l, .seq m,v,h1,h2=>by simp![cg] at h1 h2;let⟨a,aU,rfl,t1,r1⟩:=h1;let⟨b,its',e,t2,r2⟩:=h2;cases e;cases t1.uniq t2;rw[bB.inj l m _ r1 r2]
theorem bB.inj {h:Heap}: ∀ (l m:yr NK) (vs:yr yt),bB h l vs ->bB h m vs ->l=m
 | [],[],_,_,_=>rfl
 | [],k::r,vs,h1,h2=>by simp![bB] at h1 h2;subst h1;let⟨_,_,e,_⟩:=h2;cases e
 | k::r,[],vs,h1,h2=>by simp![bB] at h1 h2;subst h2;let⟨_,_,e,_⟩:=h1;cases e
 | k::r,k'::r',vs,h1,h2=>by simp![bB] at h1 h2;let⟨v,t,rfl,a,b⟩:=h1;let⟨_,_,e,a',b'⟩:=h2;cases e;rw[cg.inj k k' _ a a',bB.inj r r' _ b b']
end
mutual
theorem cg.keeps {h h':Heap}{d:Fm}{o:Obj}{es:Fo DictEntry}{ep:Nat}(e:h.get? d=some o)(ed:o.data= .dict es ep)(sb:Heap.SameBut d h h'): ∀ (k:NK) (v:yt),cg h k v ->cg h' k v
 | .key k,v,h1=>h1
 | .seq l,v,h1=>by simp![cg] at h1 ⊢;let⟨a,aU,rfl,t1,r1⟩:=h1;show#[a,aU,rfl,t1.keeps e ed sb,bB.keeps e ed sb l _ r1]
theorem bB.keeps {h h':Heap}{d:Fm}{o:Obj}{es:Fo DictEntry}{ep:Nat}(e:h.get? d=some o)(ed:o.data= .dict es ep)(sb:Heap.SameBut d h h'): ∀ (l:yr NK) (vs:yr yt),bB h l vs ->bB h' l vs
 | [],_,h1=>h1
 | k::r,vs,h1=>by simp![bB] at h1 ⊢;let⟨v,t,rfl,a,b⟩:=h1;show#[v,t,rfl,cg.keeps e ed sb k v a,bB.keeps e ed sb r t b]
end
theorem bB.len {h:Heap}: ∀ {l:yr NK} {vs:yr yt},bB h l vs ->l.length=vs.length
 | [],_,h1=>by simp![bB] at h1;subst h1;rfl
 | k::r,vs,h1=>by simp![bB] at h1;let⟨v,t,rfl,a,b⟩:=h1;simp[bB.len b]
theorem dH: ∀ {l:yr NK} {k:NK},k∈l ->bZ k<=c_ l
 | k'::r,k,h=>by simp![c_];obtain rfl | h:=aD.mp h;show Nat.le_max_left _ _;show a0 (dH h) (Nat.le_max_right _ _)
theorem eg {w:World}: ∀ (a b:yr NK),cQ w (a++b)=cQ w a++cQ w b
 | [],_=>rfl
 | k::r,b=>by simp![List.cons_append,cQ,eg r b]
theorem eh: ∀ (a b:yr NK),cB (a++b)=cB a+cB b
 | [],_=>by simp[cB]
 | k::r,b=>by simp![List.cons_append,cB,eh r b];omega
theorem lI {prog:Program}{w:World}: ∀ (n:Nat) (k:NK) (v:yt) (A:Around) (E:yt ->yu ->Prop) (s:yu) (Q:Int ->yu ->Prop),bZ k<=n ->A.units+n<cLine ->cg s.heap k v ->Q (kD w k) {s with toks:=s.toks+fi k} ->wpAny (model prog w) A (pyHash v) Q E s
 | n, .key k,v,A,E,s,Q,hn,hu,hk,h=>(bI prog w).pyHash (k:=k) hk h
 | 0, .seq l,v,A,E,s,Q,hn,hu,hk,h=>by simp![bZ] at hn;omega
 | n + 1, .seq l,v,A,E,s,Q,hn,hu,hk,h=>by
  simp![cg] at hk;let⟨a,aU,rfl,tu,hl⟩:=hk;simp![bZ] at hn;have hT:s.TypeIs (.ref a) "tuple" :=by let⟨o,e,c,m,d,z⟩:=tu;show#[o,e,c]
  change wpAny (model prog w) A (pyHashByItsType (.ref a)) Q E s;exact W.pyHash_slot hT F.slot_tuple_hash F.entry_tuple_hash (F.args_tuple_hash_1 _) rfl (.inr (by omega)) ?_;let⟨o,e,c,m,d,z⟩:=tu;change wpAny (model prog w) A.in1 (Builtin.Tuple.tupleItemsOf (.ref a) >>=λaU=>(forIn aU (#[]:Fo Int) λx hs=>pyHash x >>=λy=>pure (ForInStep.yield (hs.push y))) >>=λhs=>retInt (Builtin.Tuple.tupleHashOf hs.toList)) _ E s;exact ar (wpAny_tupleItemsOf e d (ar ?_));rw[<- Array.forIn_toList];exact wpAny_forIn_list _ (λcF b s'=>bH λdone left=>c6 (l=done++left) (bB s.heap left cF) (b.toList=cQ w done) (s'= {s with toks:=s.toks+cB done})) _ ?_ ?_ aU.toList #[] #[[],l,rfl,hl,rfl,rfl]
  .rintro x cF b s' ⟨done,left,rfl,fV,hb,rfl⟩;cases left with
   | nil=>simp![bB] at fV;cases fV
   | cons k left=>
    simp![bB] at fV;let⟨v,t,e2,hk,hr⟩:=fV;cases e2;have hd:=dH (l:=done++k::left) (k:=k) (by simp);exact ar (lI n k x A.in1 E _ _ (by omega) (by change A.units+1+n<cLine;omega) hk ?_);exact aS #[done++ [k],left,by simp,hr,?_,?_];rw[Array.toList_push,hb,eg];rfl
    .rw[eh];change _=({s with toks:=s.toks+(cB done+(fi k+0))}:yu)
     rw[Nat.add_zero,Nat.add_assoc]
  .rintro b s' ⟨done,left,rfl,fV,hb,rfl⟩;cases left with
   | cons k left=>simp![bB] at fV;let⟨_,_,e2,_⟩:=fV;cases e2
   | nil=>exact ar (wpAny_mkInt (aS #[_,_,rfl,?_]));rw[List.append_nil] at h;rw[hb];show h
theorem bB.at {h:Heap}: ∀ {l:yr NK} {vs:yr yt},bB h l vs -> ∀ (j:Nat) (hj:j<vs.length),l.getD j (.key (.inl 0))∈l /\ cg h (l.getD j (.key (.inl 0))) vs[j]
 | [],vs,h1,j,hj=>by simp![bB] at h1;subst h1;simp at hj
 | k ::r,vs,h1,j,hj=>by
  simp![bB] at h1;let⟨v,t,rfl,a,b⟩:=h1;cases j with
  | zero=>show#[by simp, ⇑a]
  | succ j=>let⟨q1,q2⟩:=bB.at b j ⇑hj;show#[List.mem_cons_of_mem _ ⇑q1, ⇑q2]
def vv (l m:yr NK):decide (NK.seq l=NK.seq m)=((List.range (min l.length m.length)).all (λj=>decide (l.getD j (.key (.inl 0))=m.getD j (.key (.inl 0)))) && l.length==m.length):=by
 by_cases e:l=m;subst e;simp;have e1:decide (NK.seq l=NK.seq m)=false:=a9 λx=>e (by cases x;rfl);rw[e1];by_cases hl:l.length=m.length;symm;rw[Bool.and_eq_false_iff];exact .inl ?_;cases hh:(List.range (min l.length m.length)).all (λj=>decide (l.getD j (.key (.inl 0))=m.getD j (.key (.inl 0)))) with
 | false=>rfl
 | true=>exact absurd ?_ e;rw[List.all_eq_true] at hh;exact List.ext_getElem hl λj h1 h2=> ?_;have:=hh j (List.mem_range.mpr (by omega));have:=of_decide_eq_true this;simpa [List.getD,h1,h2] using this
 symm;rw[Bool.and_eq_false_iff];show .inr ⇑hl
theorem ud {s:yu}: ∀ (n:Nat) (A:Around) (k m:NK) (u v:yt),bZ k<=n ->A.units+n<cLine ->cg s.heap k u ->cg s.heap m v ->SeqAt.EqAt A s u v (decide (k=m))
 | n,A, .key a, .key b,u,v,hn,hu,h1,h2=>by
  have e:decide (NK.key a=NK.key b)=decide (a=b):=by by_cases c:a=b;subst c;simp;rw[a9 c];show a9 λx=>c (by cases x;rfl)
  rw[e];show λprog w E Q q=>(bI prog w).eqBool (a:=a) (b:=b) h1 h2 q
 | n,A, .key a, .seq m,u,v,hn,hu,h1,h2=>by
  simp![cg] at h1 h2;let⟨b,aU,rfl,tu,_⟩:=h2;rw[a9 (by intro x;cases x)];rcases aY h1 with⟨i,t,rfl,rfl⟩ | ⟨x,t,rfl,rfl⟩
  show SeqAt.EqAt.int_tuple i t tu.t (by omega);show SeqAt.EqAt.str_tuple x t tu.t (by omega)
 | n,A, .seq l, .key b,u,v,hn,hu,h1,h2=>by
  simp![cg] at h1 h2;let⟨a,aU,rfl,tu,_⟩:=h1;rw[a9 (by intro x;cases x)];rcases aY h2 with⟨i,t,rfl,rfl⟩ | ⟨x,t,rfl,rfl⟩
  show SeqAt.EqAt.tuple_int i t tu.t (by omega);show SeqAt.EqAt.tuple_str x t tu.t (by omega)
 | 0,A, .seq l, .seq m,u,v,hn,hu,h1,h2=>by simp![bZ] at hn;omega
 | n + 1,A, .seq l, .seq m,u,v,hn,hu,h1,h2=>by
  have D9:=h1;have wQ:=h2;simp![cg] at h1 h2;let⟨a,aU,rfl,tu,r1⟩:=h1;let⟨b,its',rfl,EA,r2⟩:=h2;simp![bZ] at hn;by_cases yT:a=b;subst yT;rw[cg.inj _ _ _ D9 wQ,decide_eq_true rfl];show SeqAt.EqAt.same _;exact SeqAt.EqAt.of_refs yT ?_;have z:=SeqAt.RcAt.tuples (A:=A) (s:=s) (e:=λj=>decide (l.getD j (.key (.inl 0))=m.getD j (.key (.inl 0)))) tu.t EA.t (by omega) λj g1 g2=>by let⟨q1,q2⟩:=r1.at j ⇑g1;let⟨q3,q4⟩:=r2.at j ⇑g2;have:=dH q1;show ud n A.in1 _ _ _ _ (by omega) (by change A.units+1+n<cLine;omega) ⇑q2 ⇑q4
  rw[vv,r1.len,r2.len];simpa using z
theorem jt {prog:Program}{w:World}: ∀ (n:Nat) (k:NK) (v:yt) (A:Around) (E:yt ->yu ->Prop) (s:yu) (Q:Bool ->yu ->Prop),bZ k<=n ->cg s.heap k v ->Q true s ->wpAny (model prog w) A (eqIsQuiet n v) Q E s
 | n, .key k,v,A,E,s,Q,hn,hk,h=>by rw[eqIsQuiet_byValue n ((bI prog w).byValue k v hk)];show aS h
 | 0, .seq l,v,A,E,s,Q,hn,hk,h=>by simp![bZ] at hn;omega
 | n + 1, .seq l,v,A,E,s,Q,hn,hk,h=>by
  simp![cg] at hk;let⟨a,aU,rfl,tu,hl⟩:=hk;simp![bZ] at hn;let⟨o,e,c,m,d,z⟩:=tu;have hT:s.TypeIs (.ref a) "tuple" :=#[o,e,c]
  rw[eqIsQuiet.eq_2];exact ar (wpAny_specialOf hT F.slot_tuple_eq.lookup ?_);exact ar (wpAny_isInstance hT isSubtype_tuple_tuple ?_);simp![Bool.not_true,ap,aO];exact ar (wpAny_seqItems e d (ar ?_));change wpAny _ _ (forIn aU ((none,()):BP Bool×Unit) _) _ _ _;rw[<- Array.forIn_toList];exact wpAny_forIn_list _ (λcF r s'=>r.1=none /\ s'=s /\ ∃left,bB s.heap left cF /\ ∀k∈left,bZ k<=n) _ ?_ ?_ aU.toList (none,()) #[rfl,rfl,l,hl,λk hk=>by have:=dH hk;omega];rintro x cF r s' ⟨hr,rfl,left,h1,h2⟩;cases left with
  | nil=>simp![bB] at h1;cases h1
  | cons k left=>simp![bB] at h1;let⟨v,t,e2,hk,ht⟩:=h1;cases e2;exact ar (jt n k x A E s' _ (h2 k (by simp)) hk ?_);show aS #[rfl,rfl,left,ht,λk hk=>h2 k (by simp[hk])]
  rintro⟨r,u⟩ s' ⟨hr,rfl,_⟩;cases hr;show aS h
noncomputable def cC (prog:Program) (w:World):HeapKind prog w NK where
 is h k a:=cg h k (.ref a) /\ bZ k<=7
 hash:=kD w
 draws:=fi
 room A:=A.units+7<cLine
 inj h1 h2:=cg.inj _ _ _ h1.1 h2.1
 keeps h1 e ed sb:=#[cg.keeps e ed sb _ _ h1.1,h1.2]
 pyHash hu h1 h:=lI 7 _ _ _ _ _ _ h1.2 hu h1.1 h
 eqBool hu h1 h2 h:=ud 7 _ _ _ _ _ h1.2 hu h1.1 h2.1 _ _ _ _ h
 quiet h1 h:=jt 8 _ _ _ _ _ _ (Nat.le_succ_of_le h1.2) h1.1 h
set_option genInjectivity true in
inductive HO where
 /-- a list -/
 | lst (xs:List V)
 /-- a tuple (never changes) -/
 | tup (xs:List V)
 /-- a dict sX keys are ints and texts;one sX keys are tuples of ints and texts (wE empty one is both) -/
 | dK (kvs:List (bM×V)) | dT (kvs:List (List bM×V))
 /-- a dict sX keys are nested tuples:key,aU address,value -/
 | dN (kvs:List (NK×Addr×V))
 /-- a set of ints:aU members,aU size -/
 | set (S:Int ->Bool) (n:Nat)
 /-- an instance of wE class at C,aU dict at dx,aU attributes -/
 | ins (C dx:Addr) (fs:List (Str×V))
 /-- wE dict of wE instance at x -/
 | own (x:Addr)
 /-- wE dict of an exception -/
 | xd (fs:List (Str×V))
 /-- a bound method,f of x -/
 | met (f x:Addr)
 /-- a range object lo,lo+1, .. below hi -/
 | Bk (lo hi:Int)
 /-- a xm EC is known to wE object (wE Bd;a dict while a loop walks it):read,never written while it is so -/
 | kc (o:Obj) (u:HO)
 /-- a code yd table -/
 | uY (ps:Array Value)
 /-- any oQ xm,by Et is true of aU one object (a def of Du own:GC a S n:=HO.ext λh=> ..) -/
 | ext (φ:Heap ->Prop)
abbrev Hp:=Fm ->BP HO
def b8 (H:Hp)(a:Fm)(o:HO):Hp:=λb=>if b=a then some o else H b
def bw:b8 H a o a=some o:=by unfold b8;rw[aj rfl]
def bR (h:b≠a):b8 H a o b=H b:=by unfold b8;rw[ai h]
def yg {H:Hp}(h:H a=some o)(h':H b=some u)(d:o≠u):a≠b:=by intro e;subst e;rw[h] at h';show d (aE h')
def cr {H:Hp}(h:H a=some o)(h':H b=none):a≠b:=by intro e;subst e;rw[h] at h';cases h'
section
variable (P:Program)(w:World)
def bQ (H:Hp)(h:Heap)(a:Fm):HO ->Prop
 | .lst xs=>xs.length<=sizeLine /\ bH λ(aU:yr yt) (n:Nat)=>bo xs aU /\ h.get? a=some {cls:= .type "list",data:= .seq aU.toArray n}
 | .tup xs=>xs.length<=sizeLine /\ ∃aU:yr yt,bo xs aU /\ dO h a aU.toArray
 | .dK kvs=>kvs.length<=sizeLine /\ (a==sysModules)=false /\ ∃vs,KV kvs vs /\ h.DictOf (bI P w) a vs
 | .dT kvs=>kvs.length<=sizeLine /\ (a==sysModules)=false /\ ∃xs:yr (yr bM×Fm×yt),Paired (λ(p:yr bM×V) (q:yr bM×Fm×yt)=>p.1=q.1 /\ H q.2.1=some (.tup (p.1.map kV)) /\ RelV p.2 q.2.2) kvs xs /\∃o es ep,h.get? a=some o /\ o.ExactDict /\ o.data= .dict es ep /\ es.toList=xs.map (entryOfKey (tupleKind (bI P w))) /\ (xs.map (·.1)).Nodup
 | .dN kvs=>kvs.length<=sizeLine /\ (a==sysModules)=false /\ ∃xs:yr (NK×Fm×yt),Paired (λ(p:NK×Fm×V) (q:NK×Fm×yt)=>p.1=q.1 /\ p.2.1=q.2.1 /\ RelV p.2.2 q.2.2) kvs xs /\dr λo es ep=>dB (h.get? a=some o) o.ExactDict (o.data= .dict es ep) (es.toList=xs.map (entryOfKey (cC P w))) ((xs.map (·.1)).Nodup)
 | .set S n=>h.SetOf (intKind P w) a S n
 | .ins C dx fs=>H dx=some (.own a) /\ fs.length<=1000 /\ dx≠a /\ h.get? a=some (W.instObj C dx) /\∃mA,h.Ns1 dx mA /\ (∀f,d3 (fs.lookup f) (mA f)) /\ PySem.Within mA (fs.map (·.1))
 | .own _=> ∃o,h.get? a=some o
 | .xd fs=> ∃mA,h.Ns1 a mA /\ ∀f,d3 (fs.lookup f) (mA f)
 | .Bk lo hi=>dr λt u v=>h.get? a=some {cls:= .type "range",data:= .fields (List.toArray [.int lo t, .int hi u, .int 1 v])}
 | .kc o u=>h.get? a=some o /\ bQ H h a u
 | .uY ps=>h.get? a=some {cls:= .none,data:= .fields ps}
 | .met f x=>h.get? a=some (W.methodObj (.ref f) (.ref x))
 | .ext φ=>φ h /\ (∃o,h.get? a=some o) /\ ∀h1 h2:Heap,φ h1 ->(∀o,h1.get? a=some o ->h2.get? a=some o) ->φ h2
def d4 (H:Hp)(h:Heap):Prop:= ∀a o,H a=some o ->bQ P w H h a o
end
def bQ.lt (x:bQ P w H h a o):a<h.objs.size:=by
 cases o with
 | lst xs=>let⟨_,_,_,_,e⟩:=x;show ax e
 | tup xs=>let⟨_,_,_,p⟩:=x;show p.lt
 | dK kvs=>let⟨_,_,_,_,o,_,_,e,_⟩:=x;show ax e
 | dT kvs=>let⟨_,_,_,_,o,_,_,e,_⟩:=x;show ax e
 | dN kvs=>let⟨_,_,_,_,o,_,_,e,_⟩:=x;show ax e
 | set S n=>let⟨o,_,_,_,e,_⟩:=x;show ax e
 | ins C dx fs=>let⟨_,_,_,e,_⟩:=x;show ax e
 | own y=>let⟨_,e⟩:=x;show ax e
 | xd fs=>let⟨_,⟨_,_,_,e,_⟩,_⟩:=x;show ax e
 | Bk lo hi=>let⟨_,_,_,e⟩:=x;show ax e
 | kc ob u=>let⟨e,_⟩:=x;show ax e
 | uY ps=>show ax (show h.get? a=some _ from x)
 | met f y=>show ax (show h.get? a=some _ from x)
 | ext φ=>let⟨_,⟨_,e⟩,_⟩:=x;show ax e
theorem Paired.vy {α β:Type}{F G:α ->β ->Prop}: ∀ {l₁:yr α} {l₂:yr β},Paired F l₁ l₂ ->(∀a b,F a b ->G a b) ->Paired G l₁ l₂
 | _,_, .nil,_=> .nil
 | _,_, .cons r t,f=> .cons (f _ _ r) (Paired.vy t f)
def bQ.oi (x:bQ P w H h a o)(k: ∀b u,(b=a \/ H b=some (.own a)) ->h.get? b=some u ->h'.get? b=some u)(ho: ∀b,H b=some (.own a) ->H' b=some (.own a))(ht: ∀b xs,H b=some (.tup xs) ->H' b=some (.tup xs)):bQ P w H' h' a o:=by
 induction o with
 | lst xs=>let⟨z,aU,n,r,e⟩:=x;show#[z,aU,n,r,k _ _ (.inl rfl) e]
 | tup xs=>let⟨z,aU,r,ob,e,c⟩:=x;show#[z,aU,r,ob,k _ _ (.inl rfl) e,c]
 | dK kvs=>let⟨z,y,vs,r,ob,es,ep,e,c⟩:=x;show#[z,y,vs,r,ob,es,ep,k _ _ (.inl rfl) e,c]
 | dT kvs=>let⟨z,y,xs,r,ob,es,ep,e,c⟩:=x;show#[z,y,xs,Paired.vy r λp q z=>#[z.1,ht _ _ z.2.1,z.2.2],ob,es,ep,k _ _ (.inl rfl) e,c]
 | dN kvs=>let⟨z,y,xs,r,ob,es,ep,e,c1,c2,c3,c4⟩:=x;show#[z,y,xs,r,ob,es,ep,k _ _ (.inl rfl) e,c1,c2,c3,c4]
 | set S n=>let⟨ob,es,ep,t,e,c⟩:=x;show#[ob,es,ep,t,k _ _ (.inl rfl) e,c]
 | ins C dx fs=>let⟨d,z,ne,e,mA,⟨od,es,ep,e2,c⟩,r⟩:=x;show#[ho _ d,z,ne,k _ _ (.inl rfl) e,mA,#[od,es,ep,k _ _ (.inr d) e2,c],r]
 | own y=>let⟨ob,e⟩:=x;show#[ob,k _ _ (.inl rfl) e]
 | xd fs=>let⟨mA,⟨od,es,ep,e,c⟩,r⟩:=x;show#[mA,#[od,es,ep,k _ _ (.inl rfl) e,c],r]
 | Bk lo hi=>let⟨t,u,v,e⟩:=x;show#[t,u,v,k _ _ (.inl rfl) e]
 | kc ob u ih=>let⟨e,q⟩:=x;show#[k _ _ (.inl rfl) e,ih q]
 | uY ps=>have e:h.get? a=some {cls:= .none,data:= .fields ps}:=x;change h'.get? a=some {cls:= .none,data:= .fields ps};show k a _ (.inl rfl) e
 | met f y=>have e:h.get? a=some (W.methodObj (.ref f) (.ref y)):=x;change h'.get? a=some (W.methodObj (.ref f) (.ref y));show k a _ (.inl rfl) e
 | ext φ=>let⟨p,⟨o,e⟩,st⟩:=x;show#[st _ _ p λo q=>k _ _ (.inl rfl) q,#[o,k _ _ (.inl rfl) e],st]
theorem d4.lt (x:d4 P w H h)(e:H a=some o):a<h.objs.size:=(x a o e).lt
def d4.fresh {a:Fm}(x:d4 P w H h)(e:h.objs.size<=a):H a=none:=by
 cases q:H a with
 | none=>rfl
 | some u=>show absurd (aJ (x.lt q) e) (Nat.lt_irrefl _)
theorem d4.kept (x:d4 P w H h)(k: ∀b u,h.get? b=some u ->h'.get? b=some u):d4 P w H h':=λa o e=>(x a o e).oi (λb u _ q=>k b u q) (λ_ q=>q) λ_ _ q=>q
theorem d4.laid {a:Fm}(x:d4 P w H h)(k: ∀b u,h.get? b=some u ->h'.get? b=some u)(hp:h.objs.size<=a)(new:bQ P w (b8 H a o) h' a o):d4 P w (b8 H a o) h':=λb u e=>by have hn:=x.fresh hp;by_cases hb:b=a;subst hb;rw[bw] at e;cases e;show new;rw[bR hb] at e;show(x b u e).oi (λc v _ q=>k c v q) (λc q=>by rw[bR (cr q hn)];show q) λc xs q=>by rw[bR (cr q hn)];show q
def Rd (H:Hp)(a:Fm)(u:HO):Prop:=H a=some u \/ ∃o,H a=some (.kc o u)
def Rd.ok (r:Rd H a u)(x:d4 P w H h):bQ P w H h a u:=by obtain r | ⟨o,r⟩:=r;show x a u r;let⟨_,q⟩:=x a _ r;show q
def ze:BP HO ->Prop
 | some (.lst _)=>True
 | some (.dK _)=>True
 | some (.dT _)=>True
 | some (.dN _)=>True
 | some (.set _ _)=>True
 | some (.ins _ _ _)=>True
 | some (.ext _)=>True
 | _=>False
theorem d4.write (ok:d4 P w H h)(mu:ze (H x))(he:e=x \/ H e=some (.own x))(k: ∀b u,b≠e ->h.get? b=some u ->h'.get? b=some u)(wP: ∃u,h'.get? e=some u)(new:bQ P w (b8 H x o') h' x o'):d4 P w (b8 H x o') h':=λb u q=>by
 have ye: ∀c y,H c=some (.own y) ->c≠x:=λc y r z=>by subst z;rw[r] at mu;show mu
 have Bu: ∀c xs,H c=some (.tup xs) ->c≠x:=λc xs r z=>by subst z;rw[r] at mu;show mu
 by_cases hb:b=x;subst hb;rw[bw] at q;cases q;show new;rw [bR hb] at q;by_cases vX:b=e;have q':H b=some (.own x):=by obtain z | z:=he;show absurd (vX.trans z) hb;rw[vX];show z
 rw[q] at q';cases q';let⟨v,hv⟩:=wP;show#[v,by rw[vX];show hv];exact(ok b u q).oi (λc v hc r=>k c v ?_ r) (λc r=>by rw[bR (ye c b r)];show r) λc xs r=>by rw[bR (Bu c xs r)];show r
 obtain rfl | hc:=hc;show vX;rintro rfl;obtain z | z:=he;show ye c b hc z;rw[hc] at z;cases z;show hb rfl
structure Un (fs ex:List Addr)(H H':Hp)(h h':Heap):Prop where
 keep: ∀b o,h.get? b=some o ->H b=none ->b∉fs ->b∉ex ->h'.get? b=some o
 slot: ∀b o,h.get? b=some o ->H b=none ->b∈fs ->b∉ex -> ∃sl,h'.get? b=some {o with slots:=sl}
 free: ∀b o,h.get? b=some o ->H b=none ->b∉ex ->H' b=none
 there: ∀b o,h.get? b=some o ->b∉ex -> ∃o',h'.get? b=some o'
 iW: ∀b xs,H b=some (.tup xs) ->H' b=some (.tup xs)
 iE: ∀b o u,H b=some (.kc o u) ->H' b=some (.kc o u)
 iY: ∀b ps,H b=some (.uY ps) -> ∃more,H' b=some (.uY (ps++more))
section
variable {fs Gp ex G2:yr Fm}{H H1 H2:Hp}{h h1 h2 h':Heap}{a x e:Fm}{o:HO}
def Un.any (u:Un fs ex H H1 h h1)(q:h.get? b=some ob)(n:H b=none)(hx:b∉ex): ∃sl,h1.get? b=some {ob with slots:=sl}:=by by_cases hb:b∈fs;show u.slot b ob q n hb hx;show#[ob.slots,u.keep b ob q n hb hx]
theorem Un.kept (k: ∀b u,h.get? b=some u ->h'.get? b=some u):Un fs ex H H h h':=#[λb ob q _ _ _=>k b ob q,λb ob q _ _ _=>#[ob.slots,k b ob q],λ_ _ _ n _=>n,λb ob q _=>#[ob,k b ob q],λ_ _ q=>q,λ_ _ _ q=>q,λ_ ps q=>#[#[],by rw[q];simp]]
theorem Un.refl:Un fs ex H H h h:=Un.kept λ_ _ q=>q
theorem Un.laid (k: ∀b u,h.get? b=some u ->h'.get? b=some u)(hp:h.objs.size<=a)(hn:H a=none):Un fs ex H (b8 H a o) h h' where
 keep:=λb u q _ _ _=>k b u q
 slot:=λb u q _ _ _=>#[u.slots,k b u q]
 free:=λb u q n _=>by rw[bR (aZ (aJ (ax q) hp))];show n
 there:=λb u q _=>#[u,k b u q]
 iW:=λb xs q=>by rw[bR (cr q hn)];show q
 iE:=λb u xs q=>by rw[bR (cr q hn)];show q
 iY:=λb ps q=>#[#[],by rw[bR (cr q hn),q];simp]
def Un.write (mu:ze (H x))(he:e=x \/ H e=some (.own x))(k: ∀b u,b≠e ->h.get? b=some u ->h'.get? b=some u)(wP: ∃u,h'.get? e=some u):Un fs ex H (b8 H x o) h h':=by
 have hx: ∀b,H b=none ->b≠x:=λb n z=>by subst z;rw[n] at mu;show mu
 have hb: ∀b,H b=none ->b≠e:=λb n z=>by subst z;obtain r | r:=he;show hx b n r;rw[n] at r;cases r
 have hm: ∀b u,H b=some u ->¬ze (some u) ->b≠x:=λb u q nm z=>by subst z;rw[q] at mu;show nm mu
 exact#[λb u q n _ _=>k b u (hb b n) q,λb u q n _ _=>#[u.slots,k b u (hb b n) q],λb u q n _=>by rw[bR (hx b n)];show n,λb u q _=> ?_,λb xs q=>by rw[bR (hm b _ q λz=>z)];show q,λb u xs q=>by rw[bR (hm b _ q λz=>z)];show q,λb ps q=>#[#[],by rw[bR (hm b _ q λz=>z),q];simp]];by_cases vX:b=e;subst vX;show wP;show#[u,k b u vX q]
end
def zS (h:Heap)(H:Hp):yr Fm:=(List.range h.objs.size).filter λa=>(H a).isSome
def iD (h:Heap)(H:Hp):Heap:=W.hideAll h (zS h H)
theorem nl (h:Heap)(H:Hp):(iD h H).objs.size=h.objs.size:=W.hideAll_size _ _
theorem pQ (e:h.get? b=some o)(n:H b=none):(iD h H).get? b=some o:=W.hideAll_get _ e λhm=>by have q:(H b).isSome=true:=(List.mem_filter.mp hm).2;rw[n] at q;simp at q
def rO (e:(iD h H).get? b=some o):h.get? b=some o /\ H b=none:=by
 have e':h.get? b=some o:=W.of_hideAll (zS h H) e;exact#[e',?_];cases q:H b with
 | none=>rfl
 | some x=>have hm:b∈zS h H:=List.mem_filter.mpr #[List.mem_range.mpr (ax e'),by simp[q]];have z:(iD h H).get? b=none:=W.hideAll_none (zS h H) hm;rw[z] at e;cases e
def sN (g h:Heap)(L:Fm):yr (Fm×Obj):=(List.range h.objs.size).filterMap λa=>if a=L \/ (g.get? a).isSome=true then none else(h.get? a).map λo=>(a,o)
def cF (g h:Heap)(L d:Fm):yr (Fm×Obj):=(sN g h L).filter λp=>decide (p.1≠d)
end L2
namespace L2
open PySem PySem.Spec PyProof.Rows
structure Mod (K:PySem.W.Frag)(mg:Str ->Option Value)(base:Heap):Prop where
 BH:K.In base
 glob:base.Ns mainGlobals mg
 blt: ∃mb,base.Ns builtinsNs mb /\ ∀x:Str,x≠ "__name__" ->mb x=bootBuiltins x
 nolimit:base.NoLimit
structure Cx where
 prog:Program
 w:World
 K:PySem.W.Frag
 mg:Str ->Option Value
 base:Heap
 A:Around
 N:List Str
 s₀:Shared
 H₀:Hp
 env:Env
 outer:List Env
 stack:List Env
 ex:List Addr
 fn:Str ->Bool
 calm:Bool
 pn:List (Addr×Obj)
 xe:Value ->Shared ->Prop
def pU (l:yr Env):yr Fm:=l.filterMap (·.frame)
abbrev Cx.fs (X:Cx):yr Fm:=pU X.outer
def zb (sc:Scope)(x:Str):Prop:=sc.names.lookup x=some .local \/ sc.names.lookup x=some .cell \/ sc.names.lookup x=some .free
def Loc (sc:Scope)(x:Str):Prop:=sc.names.lookup x=some .local \/ sc.names.lookup x=some .cell
def Look (env:Env)(h:Heap)(m:Str ->BP yt)(x:Str)(u:yt):Prop:=(env.kindOf x=some .local /\ m x=some u) \/ ((env.kindOf x=some .cell \/ env.kindOf x=some .free) /\ ∃c,env.cells.lookup x=some c /\ h.IsCell c (some u))
structure Cx.Ok (X:Cx):Prop where
 mod:Mod X.K X.mg X.base
 kind:X.env.scope.kind= .function
 glob:X.env.globals=mainGlobals
 blt:X.env.builtins=builtinsNs
 above:X.s₀.heap.objs.size<=X.env.locals
 inj: ∀x y c,X.env.cells.lookup x=some c ->X.env.cells.lookup y=some c ->x=y
 has: ∀x,(X.env.kindOf x=some .cell \/ X.env.kindOf x=some .free) -> ∃c,X.env.cells.lookup x=some c
 y9: ∀x c,X.fn x=true ->X.env.cells.lookup x=some c ->X.s₀.heap.objs.size<=c
 hd:X.calm=true ->X.A.handled=none
 frames:X.A.frames=some X.stack
 zW:X.stack=X.outer \/ (X.stack=X.env::X.outer /\ X.env.frame=some X.env.locals)
 Eb: ∀b∈X.ex,b≠X.env.locals /\ ∀x c,X.env.cells.lookup x=some c ->c≠b
 bs: ∀b o,X.base.get? b=some o ->X.s₀.heap.get? b=some o /\ X.H₀ b=none
 sI:X.base.objs.size<=X.s₀.heap.objs.size
 oW: ∀b o,X.base.get? b=some o ->b∉X.ex
 pW: ∀b∈X.ex,b∉X.fs
 fY:X.s₀.heap.FunFrames X.base X.outer
 wR: ∀b∈X.fs,X.H₀ b=none
structure Inv (X:Cx)(aa:List (Addr×Obj))(σ:List (Option V))(H:Hp)(s:Shared):Prop where
 ok:X.Ok
 os:s.os=X.s₀.os
 bare:AllBare s.gens
 base:Un X.fs X.ex X.H₀ H X.s₀.heap s.heap
 loc: ∃m,s.heap.Ns X.env.locals m /\ ∀ (i:Nat) (x:Str) (v:V),X.N[i]? =some x ->σ[i]? =some (some v) ->zb X.env.scope x -> ∃u,RelV v u /\ Look X.env s.heap m x u
 cell: ∀x c,X.env.cells.lookup x=some c -> ∃v,s.heap.IsCell c v
 free:H X.env.locals=none
 dA: ∀x c,X.env.cells.lookup x=some c ->H c=none
 pin: ∀p∈X.pn++aa,s.heap.get? p.1=some p.2 /\ H p.1=none /\ p.1≠X.env.locals /\ p.1∉X.fs /\ ∀v,p.2.data≠ .cell v
 bX:d4 X.prog X.w H s.heap
 len:σ.length=X.N.length
theorem Cx.Ok.Bx {X:Cx}(ok:X.Ok)(e:X.base.get? b=some o):b∉X.fs:=λhb=>by have:=(ok.fY.mem hb).1;rw[e] at this;cases this
theorem Inv.bs (I:Inv X aa σ H s): ∀b o,X.base.get? b=some o ->s.heap.get? b=some o /\ H b=none:=λb o e=>#[I.base.keep b o (I.ok.bs b o e).1 (I.ok.bs b o e).2 (I.ok.Bx e) (I.ok.oW b o e),I.base.free b o (I.ok.bs b o e).1 (I.ok.bs b o e).2 (I.ok.oW b o e)]
theorem Inv.bk (I:Inv X aa σ H s): ∀b o,X.base.get? b=some o ->s.heap.get? b=some o:=λb o e=>(I.bs b o e).1
theorem Inv.mod (I:Inv X aa σ H s):Mod X.K X.mg X.base:=I.ok.mod
theorem Inv.gD (I:Inv X aa σ H s):X.K.In s.heap:=I.ok.mod.BH.keeps I.bk
theorem Inv.fr (I:Inv X aa σ H s): ∃m,Fr X.base X.env.locals s.heap m:=
 let ⟨m,hn,_⟩:=I.loc
 #[m,hn,I.bk,a0 I.ok.sI I.ok.above]
theorem Inv.lt (I:Inv X aa σ H s):X.env.locals<s.heap.objs.size:=let ⟨_,hn,_⟩:=I.loc;hn.lt
theorem Inv.sz (I:Inv X aa σ H s):X.s₀.heap.objs.size<=s.heap.objs.size:=a0 I.ok.above (Nat.le_of_lt I.lt)
theorem Inv.Bw (I:Inv X aa σ H s){a:Fm}(h:s.heap.objs.size<=a):a∉X.fs:=λhb=>by let⟨_,o,ho,_⟩:=I.ok.fY.mem hb;show absurd (aJ (ax ho) (a0 I.sz h)) (Nat.lt_irrefl _)
theorem Inv.we (I:Inv X aa σ H s): ∀x c,X.env.cells.lookup x=some c ->c≠X.env.locals:=λx c e z=>by let⟨v,o,ho,hd⟩:=I.cell x c e;let⟨m,⟨o',es,ep,vO,Fg,_⟩,_⟩:=I.loc;rw[z,vO] at ho;cases ho;rw[Fg] at hd;cases hd
def Inv.fY (I:Inv X aa σ H s):s.heap.FunFrames X.base X.outer:=by
 have all: ∀ (l:yr Env),(∀b∈pU l,b∈X.fs) ->X.s₀.heap.FunFrames X.base l ->s.heap.FunFrames X.base l:=by
  intro l;induction l with
  | nil=>intro _ _;trivial
  | cons env r ih=>intro hs hl;let⟨hk,⟨L,o,hf,hn,ho,hd⟩,hr⟩:=hl;have hL:L∈X.fs:=hs L (by unfold pU;rw[List.filterMap_cons,hf];show List.mem_cons_self);let⟨sl,e⟩:=I.base.slot L o ho (I.ok.wR L hL) hL λz=>I.ok.pW L z hL;show#[hk,#[L,_,hf,hn,e,hd],ih (λb hb=>hs b (by unfold pU;rw[List.filterMap_cons,hf];show List.mem_cons_of_mem _ hb)) hr]
 show all X.outer (λ_ hb=>hb) I.ok.fY
def Inv.stack (I:Inv X aa σ H s):s.heap.FunFrames X.base X.stack:=by obtain e | ⟨e,hf⟩:=I.ok.zW;rw[e];show I.fY;rw[e];let⟨m,hn,_⟩:=I.loc;exact .cons (by rw[I.ok.kind];decide) hf hn ?_ I.fY;show Heap.get?_none_of_le (a0 I.ok.sI I.ok.above)
theorem Inv.ko (I:Inv X aa σ H s): ∀b∈pU X.stack,b∈X.env.locals::X.fs:=λb hb=>by obtain e | ⟨e,hf⟩:=I.ok.zW;rw[e] at hb;show List.mem_cons_of_mem _ hb;rw[e] at hb;unfold pU at hb;rw[List.filterMap_cons,hf] at hb;show hb
theorem Inv.k7 (I:Inv X aa σ H s): ∀b∈pU X.stack,H b=none:=λb hb=>by obtain e | hb:=aD.mp (I.ko b hb);rw[e];show I.free;let⟨_,o,ho,_⟩:=I.ok.fY.mem hb;show I.base.free b o ho (I.ok.wR b hb) λz=>I.ok.pW b z hb
def Inv.step {ch:yr Fm}(I:Inv X aa σ H s)(qJ: ∀b∈ch,(b∈X.ex \/ X.s₀.heap.objs.size<=b) /\ b≠X.env.locals /\ (∀x c,X.env.cells.lookup x=some c ->c≠b) /\ ∀p∈X.pn++aa,p.1≠b)(keep: ∀b o,b≠X.env.locals ->b∉X.fs ->b∉ch ->s.heap.get? b=some o ->H b=none ->h'.get? b=some o)(slot: ∀b o,b≠X.env.locals ->b∈X.fs ->b∉ch ->s.heap.get? b=some o ->H b=none -> ∃sl,h'.get? b=some {o with slots:=sl})(free: ∀b o,b∉ch ->s.heap.get? b=some o ->H b=none ->H' b=none)(there: ∀b o,b∉ch ->s.heap.get? b=some o -> ∃o',h'.get? b=some o')(iW: ∀b xs,H b=some (.tup xs) ->H' b=some (.tup xs))(iE: ∀b o u,H b=some (.kc o u) ->H' b=some (.kc o u))(iY: ∀b ps,H b=some (.uY ps) -> ∃more,H' b=some (.uY (ps++more)))(ns: ∀m,s.heap.Ns X.env.locals m ->h'.Ns X.env.locals m)(bX:d4 X.prog X.w H' h')(hg:AllBare g'): Inv X aa σ H' {s with heap:=h',gens:=g',drawn:=d',toks:=t'}:=by
 have Dx: ∀b o,X.s₀.heap.get? b=some o ->b≠X.env.locals:=λb o e=>aZ (aJ (ax e) I.ok.above);have Ae: ∀b o,X.s₀.heap.get? b=some o ->b∉X.ex ->b∉ch:=λb o e hx hb=>by obtain z | z:=(qJ b hb).1;show hx z;show absurd (aJ (ax e) z) (Nat.lt_irrefl _)
 have cellK: ∀x c,X.env.cells.lookup x=some c -> ∀v,s.heap.IsCell c v ->h'.IsCell c v:=λx c e v ⟨o,ho,hd⟩=>by have yh:c∉ch:=λz=>(qJ c z).2.2.1 x c e rfl;by_cases hc:c∈X.fs;let⟨sl,q⟩:=slot c o (I.we x c e) hc yh ho (I.dA x c e);show#[_,q,hd];show#[o,keep c o (I.we x c e) hc yh ho (I.dA x c e),hd]
 exact#[I.ok,I.os,hg,#[λb o e n hb hx=> ?_,λb o e n hb hx=> ?_,λb o e n hx=> ?_,λb o e hx=> ?_,λb xs e=>iW b xs (I.base.iW b xs e),λb o xs e=>iE b o xs (I.base.iE b o xs e),λb ps e=> ?_],?_,λx c e=> ?_,?_,λx c e=> ?_,λp hp=> ?_,bX,I.len];show keep b o (Dx b o e) hb (Ae b o e hx) (I.base.keep b o e n hb hx) (I.base.free b o e n hx);let⟨sl,e1⟩:=I.base.slot b o e n hb hx;let⟨EF,e2⟩:=slot b _ (Dx b o e) hb (Ae b o e hx) e1 (I.base.free b o e n hx);show#[EF,e2];let⟨o',e1⟩:=I.base.there b o e hx;show free b o' (Ae b o e hx) e1 (I.base.free b o e n hx);let⟨o',e1⟩:=I.base.there b o e hx;show there b o' (Ae b o e hx) e1;let⟨m1,e1⟩:=I.base.iY b ps e;let⟨m2,e2⟩:=iY b _ e1;show#[m1++m2,by rw[e2,Array.append_assoc]];let⟨m,hn,hl⟩:=I.loc;exact#[m,ns m hn,λi x v e1 e2 e3=> ?_];let⟨u,r,l⟩:=hl i x v e1 e2 e3;exact#[u,r,?_];obtain l | ⟨k,c,e,z⟩:=l;show .inl l;show .inr #[k,c,e,cellK x c e _ z];let⟨v,z⟩:=I.cell x c e;show#[v,cellK x c e v z];let⟨m,⟨o,_,_,ho,_⟩,_⟩:=I.loc;show free _ o (λz=>(qJ _ z).2.1 rfl) ho I.free;let⟨v,o,ho,hd⟩:=I.cell x c e;show free c o (λz=>(qJ c z).2.2.1 x c e rfl) ho (I.dA x c e);let⟨e,n,ne,nf,d⟩:=I.pin p hp;have yh:p.1∉ch:=λz=>(qJ p.1 z).2.2.2 p hp rfl;show#[keep p.1 p.2 ne nf yh e n,free p.1 p.2 yh e n,ne,nf,d]
def Inv.un (I:Inv X aa σ H s)(u:Un X.fs [] H H' s.heap h')(bX:d4 X.prog X.w H' h'):Inv X aa σ H' {s with heap:=h',toks:=t'}:=by let⟨m,⟨o,es,ep,ho,r⟩,_⟩:=id I.loc;let⟨sl,hL⟩:=u.any ho I.free (by simp);show I.step (g':=s.gens) (d':=s.drawn) (ch:= []) (λ_ z=>nomatch z) (λb o _ hb _ e n=>u.keep b o e n hb (by simp)) (λb o _ hb _ e n=>u.slot b o e n hb (by simp)) (λb o _ e n=>u.free b o e n (by simp)) (λb o _ e=>u.there b o e (by simp)) u.iW u.iE u.iY (λm' hm=>by let⟨o',CG,CH,vO,r'⟩:=hm;rw[ho] at vO;cases vO;show#[_,CG,CH,hL,r']) bX I.bare
def Inv.call (I:Inv X aa σ H s)(u:Un (pU X.stack) ch H H' s.heap h')(bX:d4 X.prog X.w H' h')(hg:AllBare g')(qJ: ∀b∈ch,(b∈X.ex \/ X.s₀.heap.objs.size<=b) /\ b≠X.env.locals /\ (∀x c,X.env.cells.lookup x=some c ->c≠b) /\ ∀p∈X.pn++aa,p.1≠b): Inv X aa σ H' {s with heap:=h',gens:=g',drawn:=d',toks:=t'}:=by let⟨m,⟨o,es,ep,ho,r⟩,_⟩:=id I.loc;let⟨sl,hL⟩:=u.any ho I.free λz=>(qJ _ z).2.1 rfl;show I.step (ch:=ch) qJ (λb o hL hb hc e n=>u.keep b o e n (λz=>(aD.mp (I.ko b z)).elim hL hb) hc) (λb o _ _ hc e n=>u.any e n hc) (λb o hc e n=>u.free b o e n hc) (λb o hc e=>u.there b o e hc) u.iW u.iE u.iY (λm' hm=>by let⟨o',CG,CH,vO,r'⟩:=hm;rw[ho] at vO;cases vO;show#[_,CG,CH,hL,r']) bX hg
def Inv.turned (I:Inv X aa σ H s)(k: ∀b o,b≠it ->s.heap.get? b=some o ->h'.get? b=some o)(hn:H it=none)(hL:it≠X.env.locals)(h1:it∈X.ex \/ X.s₀.heap.objs.size<=it)(h2: ∀x c,X.env.cells.lookup x=some c ->c≠it)(h3: ∀p∈X.pn++aa,p.1≠it):Inv X aa σ H {s with heap:=h',toks:=t'}:=by
 have Dv: ∀b u,H b=some u ->b≠it:=λb u e z=>by rw[z,hn] at e;cases e
 exact I.step (g':=s.gens) (d':=s.drawn) (ch:= [it]) (λb hb=> ?_) (λb o _ _ hc e _=>k b o (λz=>hc (by simp[z])) e) (λb o _ _ hc e _=>#[o.slots,k b o (λz=>hc (by simp[z])) e]) (λ_ _ _ _ n=>n) (λb o hc e=>#[o,k b o (λz=>hc (by simp[z])) e]) (λ_ _ e=>e) (λ_ _ _ e=>e) (λb ps e=>#[#[],by rw[e];simp]) (λm hm=> ?_) (λb u e=> ?_) I.bare;have e:b=it:=by simpa using hb
 subst e;show#[h1,hL,h2,h3];let⟨o,es,ep,ho,r⟩:=hm;show#[o,es,ep,k _ o (bq hL) ho,r];exact(I.bX b u e).oi (λc v hc q=>k c v ?_ q) (λ_ q=>q) λ_ _ q=>q;obtain z | z:=hc;rw[z];show Dv b u e;show Dv c _ z
theorem Inv.tok (I:Inv X aa σ H s)(t:Nat):Inv X aa σ H {s with toks:=t}:=I.un (h':=s.heap) (t':=t) Un.refl I.bX
theorem Inv.kept (I:Inv X aa σ H s)(k: ∀b u,s.heap.get? b=some u ->h'.get? b=some u):Inv X aa σ H {s with heap:=h',toks:=t'}:=I.un (Un.kept k) (I.bX.kept k)
theorem Inv.laid {a:Fm}(I:Inv X aa σ H s)(k: ∀b u,s.heap.get? b=some u ->h'.get? b=some u)(hp:s.heap.objs.size<=a)(new:bQ X.prog X.w (b8 H a o) h' a o): Inv X aa σ (b8 H a o) {s with heap:=h',toks:=t'}:=I.un (Un.laid k hp (I.bX.fresh hp)) (I.bX.laid k hp new)
theorem Inv.write (I:Inv X aa σ H s)(mu:ze (H x))(he:e=x \/ H e=some (.own x))(k: ∀b u,b≠e ->s.heap.get? b=some u ->h'.get? b=some u)(wP: ∃u,h'.get? e=some u)(new:bQ X.prog X.w (b8 H x o) h' x o):Inv X aa σ (b8 H x o) {s with heap:=h',toks:=t'}:=I.un (Un.write mu he k wP) (I.bX.write mu he k wP new)
theorem Inv.weak (I:Inv X aa σ H s)(hl:σ'.length=σ.length)(w: ∀ (i:Nat) v,σ'[i]? =some (some v) ->σ[i]? =some (some v)):Inv X aa σ' H s:=#[I.ok,I.os,I.bare,I.base,let ⟨m,hn,lY⟩:=I.loc;#[m,hn,λi x v e1 e2 e3=>lY i x v e1 (w i v e2) e3],I.cell,I.free,I.dA,I.pin,I.bX,hl.trans I.len]
theorem Inv.lx (I:Inv X aa σ H s)(h: ∀p∈lz,s.heap.get? p.1=some p.2 /\ H p.1=none /\ p.1≠X.env.locals /\ p.1∉X.fs /\ ∀v,p.2.data≠ .cell v):Inv X lz σ H s:=#[I.ok,I.os,I.bare,I.base,I.loc,I.cell,I.free,I.dA,λp hp=>(bh.mp hp).elim (λz=>I.pin p (List.mem_append_left _ z)) (h p),I.bX,I.len]
def jr {N:yr Str}(hN:N.Nodup){i j:Nat}(a:N[i]? =some x)(b:N[j]? =some x):i=j:=by let⟨h1,e1⟩:=aG.mp a;let⟨h2,e2⟩:=aG.mp b;show(List.getElem_inj hN).mp (e1.trans e2.symm)
def mI (I:Inv X aa σ H s)(hN:X.N.Nodup)(hi:X.N[i]? =some x)(hx:Loc X.env.scope x)(r:RelV v u)(h: ∀s',Inv X aa (σ.set i (some v)) H s' ->(∃a,Heap.SameBut a s.heap s'.heap /\ (a=X.env.locals \/ X.env.cells.lookup x=some a)) ->Q () s')(hf:X.fn x=true \/ X.env.scope.names.lookup x=some .local:=by first | show .inl rfl | show .inr rfl | assumption):wpAny M A (storeName X.env x u) Q E s:=by
 let⟨m,hn,hl⟩:=id I.loc;have Cw:(X.env.scope.kind== .class || (X.env.scope.kind== .module && X.env.locals !=X.env.globals))=false:=by rw[I.ok.kind];rfl
 have DV:i<σ.length:=by rw[I.len];show(aG.mp hi).1
 have we:=I.we;have tracked: ∀ {a:Fm} {h':Heap},(∃o,s.heap.get? a=some o /\ H a=none) ->Heap.SameBut a s.heap h' ->d4 X.prog X.w H h':=λ{a h'} ha hs b ob e=>by let⟨_,_,uw⟩:=ha;exact(I.bX b ob e).oi (λc w' hc q=>(hs.2 c ?_).trans q) (λ_ q=>q) λ_ _ q=>q;rintro rfl;obtain rfl | hc:=hc;rw[uw] at e;cases e;rw[uw] at hc;cases hc
 obtain hk | hk:=hx;exact wpAny_storeName_local hk hn (λh' yH hs=> ?_) Cw;let⟨oL,_,_,E7,_⟩:=id hn;exact h _ #[I.ok,I.os,I.bare,#[λb o e n hb hx=> ?_,λb o e n hb hx=> ?_,I.base.free,λb o e hx=> ?_,I.base.iW,I.base.iE,I.base.iY],#[_,yH,λj y v' e1 e2 e3=> ?_],λy c e=> ?_,I.free,I.dA,λp hp=> ?_,tracked #[oL,E7,I.free] hs, ⇑I.len] #[_,hs, .inl rfl];show(hs.2 b (aZ (aJ (ax e) I.ok.above))).trans (I.base.keep b o e n hb hx);let⟨sl,e1⟩:=I.base.slot b o e n hb hx;show#[sl,(hs.2 b (aZ (aJ (ax e) I.ok.above))).trans e1];let⟨o',e1⟩:=I.base.there b o e hx;show#[o',(hs.2 b (aZ (aJ (ax e) I.ok.above))).trans e1];by_cases hj:j=i;subst hj;rw[hi] at e1;cases e1;rw[List.getElem?_set_self DV] at e2;cases e2;show#[u,r, .inl #[hk,by simp]];rw[List.getElem?_set_ne (bq hj)] at e2;let⟨u',r',q⟩:=hl j y v' e1 e2 e3;exact#[u',r',?_];rcases q with⟨k,e⟩ | ⟨k,c,e,z⟩
 exact .inl #[k,?_];have:y≠x:=λe=>hj (jr hN e1 (e▸hi));simp[this,e];show .inr #[k,c,e,z.sameBut hs (we y c e)];let⟨w',z⟩:=I.cell y c e;show#[w',z.sameBut hs (we y c e)];let⟨e,n,ne,nf,d⟩:=I.pin p hp;show#[(hs.2 p.1 ne).trans e,n,ne,nf,d];have Cs:X.fn x=true:=by obtain z | z:=hf;show z;rw[z] at hk;cases hk
 let⟨c,hc⟩:=I.ok.has x (.inl hk);let⟨w',z⟩:=I.cell x c hc;exact wpAny_storeName_cell I.ok.kind hk hc z (λh' D4 hs=> ?_);let⟨oc,DQ,B7⟩:=id z;exact h {s with heap:=h'} #[I.ok,I.os,I.bare,#[λb o e n hb hx=> ?_,λb o e n hb hx=> ?_,I.base.free,λb o e hx=> ?_,I.base.iW,I.base.iE,I.base.iY],#[m,hn.sameBut hs (bq (we x c hc)),λj y v' e1 e2 e3=> ?_],λy c' e=> ?_,I.free,I.dA,λp hp=> ?_,tracked #[oc,DQ,I.dA x c hc] hs, ⇑I.len] #[c,hs, .inr hc];show(hs.2 b (aZ (aJ (ax e) (I.ok.y9 x c Cs hc)))).trans (I.base.keep b o e n hb hx);let⟨sl,e1⟩:=I.base.slot b o e n hb hx;show#[sl,(hs.2 b (aZ (aJ (ax e) (I.ok.y9 x c Cs hc)))).trans e1];let⟨o',e1⟩:=I.base.there b o e hx;show#[o',(hs.2 b (aZ (aJ (ax e) (I.ok.y9 x c Cs hc)))).trans e1];by_cases hj:j=i;subst hj;rw[hi] at e1;cases e1;rw[List.getElem?_set_self DV] at e2;cases e2;show#[u,r, .inr #[.inl hk,c,hc,D4]];rw[List.getElem?_set_ne (bq hj)] at e2;let⟨u',r',q⟩:=hl j y v' e1 e2 e3;exact#[u',r',?_];obtain q | ⟨k,c',e,z'⟩:=q;show .inl q;exact .inr #[k,c',e,z'.sameBut hs ?_];rintro rfl;show hj (jr hN e1 (I.ok.inj _ _ _ e hc▸hi));by_cases D0:c'=c;subst D0;show#[_,D4];let⟨w2,z2⟩:=I.cell y c' e;show#[w2,z2.sameBut hs D0];let⟨e,n,ne,nf,d⟩:=I.pin p hp;exact#[(hs.2 p.1 ?_).trans e,n,ne,nf,d];intro q;rw[q,DQ] at e;have q':oc=p.2:=aE e;show d w' (by rw[<- q'];show B7)
theorem fD (I:Inv X aa σ H s)(hN:X.N.Nodup)(hi:X.N[i]? =some x)(hx:Loc X.env.scope x)(r:RelV v u)(h: ∀s',Inv X aa (σ.set i (some v)) H s' ->Q () s')(hf:X.fn x=true \/ X.env.scope.names.lookup x=some .local:=by first | show .inl rfl | show .inr rfl | assumption):wpAny M A (storeName X.env x u) Q E s:=mI I hN hi hx r (λs' I' _=>h s' I') hf
def Inv.y8 (I:Inv X aa σ H s)(ho:s'.os=s.os)(u:Un (pU X.stack) ch H H' s.heap s'.heap)(bX:d4 X.prog X.w H' s'.heap)(hg:AllBare s'.gens)(qJ: ∀b∈ch,(b∈X.ex \/ X.s₀.heap.objs.size<=b) /\ b≠X.env.locals /\ (∀x c,X.env.cells.lookup x=some c ->c≠b) /\ ∀p∈X.pn++aa,p.1≠b):Inv X aa σ H' s':=by let⟨h',g',d',t',o'⟩:=s';have e:o'=s.os:=ho;subst e;show I.call (g':=g') (t':=t') (d':=d') u bX hg qJ
abbrev XK:=yt ->BP Fm ->Hp ->Prop
abbrev St:=yr (BP V)
abbrev VK:=V ->Hp ->Prop
abbrev TE:=St ->Hp ->VK ->Prop
abbrev TT:=St ->Hp ->(Bool ->Hp ->Prop) ->Prop
abbrev TA:=St ->Hp ->(yr V ->Hp ->Prop) ->Prop
structure j8 where
 nx:St ->Hp ->Prop
 rt:VK
 bk:St ->Hp ->Prop:=λ_ _=>False
 ct:St ->Hp ->Prop:=λ_ _=>False
abbrev TS:=j8 ->St ->Hp ->Prop
def EP (X:Cx)(aa:yr (Fm×Obj))(σ:St)(Q:VK)(u:yt)(s':yu):Prop:=bH λv H'=>b0 (Inv X aa σ H' s') (RelV v u) (Q v H')
def TP (X:Cx)(aa:yr (Fm×Obj))(σ:St)(Q:Bool ->Hp ->Prop)(b:Bool)(s':yu):Prop:= ∃H',Inv X aa σ H' s' /\ Q b H'
def AP (X:Cx)(aa:yr (Fm×Obj))(σ:St)(Q:yr V ->Hp ->Prop)(us:yr yt)(s':yu):Prop:=bH λvs H'=>b0 (Inv X aa σ H' s') (bo vs us) (Q vs H')
def SP (X:Cx)(aa:yr (Fm×Obj))(D:j8)(f:Flow)(s':yu):Prop:=
 match f with
 | .next=>bH λσ' H'=>Inv X aa σ' H' s' /\ D.nx σ' H'
 | .brk=>bH λσ' H'=>Inv X aa σ' H' s' /\ D.bk σ' H'
 | .cont=>bH λσ' H'=>Inv X aa σ' H' s' /\ D.ct σ' H'
 | .ret u=>dr λv σ' H'=>b0 (Inv X aa σ' H' s') (RelV v u) (D.rt v H')
def PE (X:Cx)(e:Expr)(t:TE):Prop:=∀ (aa:yr (Fm×Obj)) (s:yu) (σ:St) (H:Hp) (Q:VK),Inv X aa σ H s ->t σ H Q ->wpAny (model X.prog X.w) X.A (eval e X.env) (EP X aa σ Q) X.xe s
def PT (X:Cx)(e:Expr)(t:TT):Prop:=∀ (aa:yr (Fm×Obj)) (s:yu) (σ:St) (H:Hp) (Q:Bool ->Hp ->Prop),Inv X aa σ H s ->t σ H Q ->wpAny (model X.prog X.w) X.A (isTrue e X.env (eval e X.env)) (TP X aa σ Q) X.xe s
def PW (X:Cx)(e:Expr)(t:TT):Prop:=∀ (kU:Sem yt) (aa:yr (Fm×Obj)) (s:yu) (σ:St) (H:Hp) (Q:Bool ->Hp ->Prop),Inv X aa σ H s ->t σ H Q ->wpAny (model X.prog X.w) X.A (isTrue e X.env kU) (TP X aa σ Q) X.xe s
theorem PW.pt (h:PW X e t):PT X e t:=h _
def PA (X:Cx)(es:yr Expr)(t:TA):Prop:=∀ (pos:Pos) (aa:yr (Fm×Obj)) (s:yu) (σ:St) (H:Hp) (Q:yr V ->Hp ->Prop),Inv X aa σ H s ->t σ H Q ->wpAny (model X.prog X.w) X.A (spliced (backTo pos (starEach es X.env))) (AP X aa σ Q) X.xe s
def PS (X:Cx)(st:Stmt)(t:TS):Prop:=∀ (aa:yr (Fm×Obj)) (s:yu) (σ:St) (H:Hp) (D:j8),Inv X aa σ H s ->t D σ H ->wpAny (model X.prog X.w) X.A (exec st X.env) (SP X aa D) X.xe s
def kR (X:Cx)(st:yr Stmt)(t:TS):Prop:=∀ (aa:yr (Fm×Obj)) (s:yu) (σ:St) (H:Hp) (D:j8),Inv X aa σ H s ->t D σ H ->wpAny (model X.prog X.w) X.A (execs st X.env) (SP X aa D) X.xe s
theorem bP {Q Q':α ->yu ->Prop}(h:wpAny M A t Q E s)(hQ: ∀a s,Q a s ->Q' a s):wpAny M A t Q' E s:=wpAny_mono h hQ λ_ _ x=>x
section
variable {X:Cx}
def bin (ha:PE X a ta)(hb:PE X b tb){σ:St}{R:V ->V ->Hp ->Prop}(I:Inv X aa σ H s)(h:ta σ H λx H1=>tb σ H1 λy H2=>R x y H2){f:yt ->yt ->Sem α}(hf: ∀v u s2 x y H2,Inv X aa σ H2 s2 ->RelV x v ->RelV y u ->R x y H2 ->wpAny (model X.prog X.w) X.A (f v u) Q X.xe s2): wpAny (model X.prog X.w) X.A (eval a X.env) (λv s₁=>wpAny (model X.prog X.w) X.A (eval b X.env) (λu s₂=>wpAny (model X.prog X.w) X.A (f v u) Q X.xe s₂) X.xe s₁) X.xe s:=by exact bP (ha aa s σ H _ I h) λv s1 ⟨x,H1,I1,r1,q1⟩=> ?_;exact bP (hb aa s1 σ H1 _ I1 q1) λu s2 ⟨y,H2,I2,r2,q2⟩=> ?_;show hf v u s2 x y H2 I2 r1 r2 q2
def qY (i:Nat):TE:=λσ H Q=> ∃v,σ[i]? =some (some v) /\ Q v H
def tC (v:V):TE:=λ_ H Q=>Q v H
def vc {pos:Pos}(hN:X.N[i]? =some x)(hv:zb X.env.scope x)(hd:(x==("__debug__" :Str))=false:=by decide)(nS:(x==("__classdict__" :Str))=false:=by decide):PE X (.Name x pos) (qY i):=by
 intro aa s σ H Q I h;let⟨v,e,h⟩:=h;let⟨m,hn,hl⟩:=I.loc;let⟨u,r,l⟩:=hl i x v hN e hv;have fin:EP X aa σ Q u s:=#[v,H,I,r,h]
 rcases l with⟨hk,hm⟩ | ⟨hk,c,hc,l3⟩
 show wpAny_Name (wpAny_loadName_local I.ok.kind hk hn hm fin) hd;obtain hk | hk:=hk;show wpAny_Name (wpAny_loadName_cell I.ok.kind hk hc l3 fin) hd;show wpAny_Name (wpAny_loadName_free I.ok.kind hk hc l3 fin nS) hd
theorem au {i j pos}:PE X (.Constant (.int i) j pos) (tC (.int i)):=λ_ _ _ H _ I h=>wpAny_Constant_int #[.int i,H,I.tok _,#[_,rfl],h]
theorem oK {b j pos}:PE X (.Constant (.bool b) j pos) (tC (.bl b)):=λ_ _ _ H _ I h=>Constant_bool #[.bl b,H,I,rfl,h]
def Gl (X:Cx)(x:Str):Prop:=X.env.kindOf x=some .globalImplicit
theorem rZ {σ:St}(I:Inv X aa σ H s)(hg:Gl X x)(hm:X.mg x=some u)(h:Q u s)(hd:(x==("__debug__" :Str))=false:=by decide):wpAny (model X.prog X.w) X.A (eval (.Name x pos) X.env) Q E s:=Calls.Name_function_global I.ok.kind hg (Calls.loadGlobal_global (by rw[I.ok.glob];show I.mod.glob.keeps I.bk) hm h) hd
def fT {E:yt ->yu ->Prop}{σ:St}{pos:Pos}(I:Inv X aa σ H s)(hg:Gl X x)(hm:X.mg x=none)(hv:bootBuiltins x=some u)(h:Q u s)(hn:x≠ "__name__" :=by decide)(hd:(x==("__debug__" :Str))=false:=by decide):wpAny (model X.prog X.w) X.A (eval (.Name x pos) X.env) Q E s:=by let⟨mb,h1,h2⟩:=I.mod.blt;show Calls.Name_function_global I.ok.kind hg (Calls.loadGlobal_builtin (by rw[I.ok.glob];show I.mod.glob.keeps I.bk) hm (by rw[I.ok.blt];show h1.keeps I.bk) ((h2 x hn).trans hv) h) hd
theorem lD {pos:Pos}(hg:Gl X x)(hm:X.mg x=none)(hv:bootBuiltins x=some u)(r:RelV v u)(hn:x≠ "__name__" :=by decide)(hd:(x==("__debug__" :Str))=false:=by decide):PE X (.Name x pos) (tC v):=λ_ _ _ H _ I h=>fT I hg hm hv #[v,H,I,r,h] hn hd
variable {a b:Expr}{ta tb:TE}{pos:Pos}
def PC (X:Cx)(op:CmpOp)(a b:Expr)(t:TE):Prop:=∀ (aa:yr (Fm×Obj)) (s:yu) (σ:St) (H:Hp) (Q:VK),Inv X aa σ H s ->t σ H Q ->wpAny (model X.prog X.w) X.A (eval a X.env) (λv s₁=>wpAny (model X.prog X.w) X.A (eval b X.env) (λu s₂=>wpAny (model X.prog X.w) X.A (compareOp op v u) (EP X aa σ Q) X.xe s₂) X.xe s₁) X.xe s
def oX (b:Expr)(h:op≠ .In)(h2:op≠ .NotIn):behindInMarks op b=false:=by
 have e1:(op==CmpOp.In)=false:=by cases op<;>first | rfl | show absurd rfl h
 have e2:(op==CmpOp.NotIn)=false:=by cases op<;>first | rfl | show absurd rfl h2
 cases b<;>simp[behindInMarks,e1,e2]
def tB (t:TE):TT:=λσ H Q=>t σ H λx H1=> ∃c,x= .bl c /\ Q c H1
def oB (h:PC X op a b t)(h1:behindInMarks op b=false:=by first | show oX _ ⋯ ⋯ | rfl):PT X (.Compare a [op] [b] pos) (tB t):=by intro aa s σ H Q I hw;exact wpAny_isTrue_Compare1 (bP (h aa s σ H _ I hw) λv s1 h1=>bP h1 λu s2 h2=>bP h2 λc s3 ⟨x,H1,I1,r1,q1⟩=> ?_) h1;let⟨d,rfl,q⟩:=q1;cases r1;show wpAny_truthy_bool #[H1,I1,q]
def u9 (h:PE X e t)(he: ∀kU,isTrue e X.env kU=(do let v <- kU;standAt e.pos;holding [v] (truthy v)):=by intro _;rfl):PT X e (tB t):=by intro aa s σ H Q I hw;exact isTrue_plain (bP (h aa s σ H _ I hw) λv s1 ⟨x,H1,I1,r1,q1⟩=> ?_) (he _);let⟨d,rfl,q⟩:=q1;cases r1;show wpAny_truthy_bool #[H1,I1,q]
variable {tA zV:TT}{cF:yr Expr}
def xy (t u:TT):TT:=λσ H Q=>t σ H λc H1=>if c=true then u σ H1 Q else Q false H1
def Dj (t u:TT):TT:=λσ H Q=>t σ H λc H1=>if c=true then Q true H1 else u σ H1 Q
def xt (t:TT):TT:=λσ H Q=>t σ H λc H1=>Q (!c) H1
def rk (ha:PT X a tA):PW X (.BoolOp .And [a] pos) tA:=by
 intro wh aa s σ H Q I h;exact isTrue_and (bP (ha aa s σ H Q I h) λc s1 e=> ?_);cases c with
 | true=>show isTrue_and_nil e
 | false=>show e
def u7 (ha:PT X a tA):PW X (.BoolOp .Or [a] pos) tA:=by
 intro wh aa s σ H Q I h;exact isTrue_or (bP (ha aa s σ H Q I h) λc s1 e=> ?_);cases c with
 | false=>show isTrue_or_nil e
 | true=>show e
def u8 (ha:PT X a tA)(hb:PW X (.BoolOp .And (b::cF) pos) zV):PW X (.BoolOp .And (a::b::cF) pos) (xy tA zV):=by
 intro wh aa s σ H Q I h;exact isTrue_and (bP (ha aa s σ H _ I h) λc s1 ⟨H1,I1,q1⟩=> ?_);cases c with
 | true=>show hb wh aa s1 σ H1 Q I1 q1
 | false=>show#[H1,I1,q1]
def xQ (ha:PT X a tA)(hb:PW X (.BoolOp .Or (b::cF) pos) zV):PW X (.BoolOp .Or (a::b::cF) pos) (Dj tA zV):=by
 intro wh aa s σ H Q I h;exact isTrue_or (bP (ha aa s σ H _ I h) λc s1 ⟨H1,I1,q1⟩=> ?_);cases c with
 | true=>show#[H1,I1,q1]
 | false=>show hb wh aa s1 σ H1 Q I1 q1
def u_ (ha:PT X a tA):PT X (.UnaryOp .Not a pos) (xt tA):=by intro aa s σ H Q I h;show isTrue_not (ha aa s σ H (λc H1=>Q (!c) H1) I h)
def tS (ta tb:TE):TE:=λσ H Q=>ta σ H λx H1=> ∃c,x= .bl c /\ if c=true then tb σ H1 Q else Q (.bl false) H1
def tJ (ta:TE):TE:=λσ H Q=>ta σ H λx H1=> ∃c,x= .bl c /\ Q (.bl (!c)) H1
theorem oF {op}(h:PE X a t):PE X (.BoolOp op [a] pos) t:=λaa s σ H Q I hw=>BoolOp_one (h aa s σ H Q I hw)
def oM (ha:PE X a ta)(hb:PE X (.BoolOp .And (b::cF) pos) tb):PE X (.BoolOp .And (a::b::cF) pos) (tS ta tb):=by
 intro aa s σ H Q I h;exact BoolOp_and (bP (ha aa s σ H _ I h) λv s1 ⟨x,H1,I1,r1,q1⟩=> ?_);let⟨c,rfl,q1⟩:=q1;cases r1;exact wpAny_truthy_bool ?_;cases c with
 | true=>show hb aa s1 σ H1 Q I1 q1
 | false=>show#[.bl false,H1,I1,rfl,q1]
def vd (ha:PE X a ta):PE X (.UnaryOp .Not a pos) (tJ ta):=by intro aa s σ H Q I h;exact UnaryOp_ (bP (ha aa s σ H _ I h) λv s1 ⟨x,H1,I1,r1,q1⟩=> ?_);let⟨c,rfl,q1⟩:=q1;cases r1;show not_of (wpAny_truthy_bool #[.bl (!c),H1,I1,rfl,q1])
def Dk (t:TT)(ta tb:TE):TE:=λσ H Q=>t σ H λc H1=>if c=true then ta σ H1 Q else tb σ H1 Q
def oH (hc:PT X c tA)(ha:PE X a ta)(hb:PE X b tb):PE X (.IfExp c a b pos) (Dk tA ta tb):=by
 intro aa s σ H Q I h;exact wpAny_IfExp (bP (hc aa s σ H _ I h) λd s1 ⟨H1,I1,q1⟩=> ?_);cases d with
 | true=>show ha aa s1 σ H1 Q I1 q1
 | false=>show hb aa s1 σ H1 Q I1 q1
end
def dD (K:Fp)(H:Hp)(a:Fm)(xs:yr V):Prop:=Rd H a (.lst xs) \/dr λ(o:Obj) (aU:Fo yt) (n:Nat)=>gW (K.lookup a=some o) (o.cls= .type "list") (o.dict=none) (o.data= .seq aU n) (aU.size<=sizeLine) (bo xs aU.toList)
def eW (K:Fp)(H:Hp)(a:Fm)(xs:yr V):Prop:=Rd H a (.tup xs) \/dr λ(o:Obj) (aU:Fo yt) (n:Nat)=>gW (K.lookup a=some o) (o.cls= .type "tuple") (o.dict=none) (o.data= .seq aU n) (aU.size<=sizeLine) (bo xs aU.toList)
def CO:yt ->BP V
 | .none=>some .dy
 | .bool b=>some (.bl b)
 | .int i _=>some (.int i)
 | .str x _=>some (.str x)
 | .bytes b _=>some (.nT b)
 | .float b _=>some (.ux b)
 | .ref a=>some (.ref a)
 | .type n=>some (.ty n)
 | _=>none
def RelV.abs (r:RelV x u):CO u=some x:=by
 cases x with
 | dy=>cases r;rfl
 | bl _=>cases r;rfl
 | int _=>let⟨t,rfl⟩:=r;rfl
 | str _=>let⟨t,rfl⟩:=r;rfl
 | nT _=>let⟨t,rfl⟩:=r;rfl
 | ux _=>let⟨t,rfl⟩:=r;rfl
 | ref _=>cases r;rfl
 | ty _=>cases r;rfl
theorem RelV.inj {x y:V}{u:yt}(r:RelV x u)(q:RelV y u):x=y:=aE (r.abs.symm.trans q.abs)
theorem bo.inj: ∀ {xs ys:yr V} {us:yr yt},bo xs us ->bo ys us ->xs=ys
 | _,_,_, .nil, .nil=>rfl
 | _,_,_, .cons r t, .cons r' t'=>by rw[r.inj r',bo.inj t t']
theorem dD.of {K:Fp}(h:H a=some (.lst xs)):dD K H a xs:= .inl (.inl h)
theorem eW.of {K:Fp}(h:H a=some (.tup xs)):eW K H a xs:= .inl (.inl h)
def Inv.list {σ:St}(I:Inv X aa σ H s)(h:dD X.K H a xs): ∃aU:yr yt,b0 (bo xs aU) (PlainL s.heap a aU.toArray) (xs.length<=sizeLine):=by obtain h | ⟨o,aU,n,hk,hc,hd,hs,hz,r⟩:=h;let⟨z,aU,n,r,e⟩:=h.ok I.bX;show#[aU,r,#[_,n,e,rfl,rfl,rfl],z];exact#[aU.toList,r,#[o,n,I.gD a o hk,hc,hd, ⇑hs],?_];have e:=r.length;simp![bD] at e;lia
def Inv.tuple {σ:St}(I:Inv X aa σ H s)(h:eW X.K H a xs): ∃aU:yr yt,b0 (bo xs aU) (IsTup s.heap a aU.toArray) (xs.length<=sizeLine):=by obtain h | ⟨o,aU,n,hk,hc,_,hs,hz,r⟩:=h;let⟨z,aU,r,p⟩:=h.ok I.bX;show#[aU,r,p.t,z];exact#[aU.toList,r,#[o,I.gD a o hk,hc,n, ⇑hs],?_];have e:=r.length;simp![bD] at e;lia
def Inv.uV {σ:St}(I:Inv X aa σ H s)(h:eW X.K H a xs): ∃aU:yr yt,b0 (bo xs aU) (dO s.heap a aU.toArray) (xs.length<=sizeLine):=by obtain h | ⟨o,aU,n,hk,hc,hd,hs,hz,r⟩:=h;let⟨z,aU,r,p⟩:=h.ok I.bX;show#[aU,r,p,z];exact#[aU.toList,r,#[o,I.gD a o hk,hc,n, ⇑hs,hd],?_];have e:=r.length;simp![bD] at e;lia
def Inv.list_inj {σ:St}(I:Inv X aa σ H s)(h:dD X.K H a xs)(h':dD X.K H a ys):xs=ys:=by let⟨aU,r,⟨o,n,e,_,_,d⟩,_⟩:=I.list h;let⟨its',r',⟨o',n',e',_,_,d'⟩,_⟩:=I.list h';rw[e] at e';cases e';rw[d] at d';injection d' with d1 _;have:aU=its':= ⇑(congrArg Array.toList d1);subst this;show r.inj r'
def Inv.mG {σ:St}(I:Inv X aa σ H s)(h:eW X.K H a xs)(h':eW X.K H a ys):xs=ys:=by let⟨aU,r,⟨o,e,_,n,d⟩,_⟩:=I.tuple h;let⟨its',r',⟨o',e',_,n',d'⟩,_⟩:=I.tuple h';rw[e] at e';cases e';rw[d] at d';injection d' with d1 _;have:aU=its':= ⇑(congrArg Array.toList d1);subst this;show r.inj r'
abbrev Cx.gc (X:Cx)(E:yt ->yu ->Prop):Cx:= {X with xe:=E}
abbrev Cx.vq (X:Cx):Cx:=X.gc λ_ _=>False
theorem Cx.Ok.gc {X:Cx}(ok:X.Ok)(E:yt ->yu ->Prop):(X.gc E).Ok:=#[ok.mod,ok.kind,ok.glob,ok.blt,ok.above,ok.inj,ok.has,ok.y9,ok.hd,ok.frames,ok.zW,ok.Eb,ok.bs,ok.sI,ok.oW,ok.pW,ok.fY,ok.wR]
theorem Cx.Ok.du {X:Cx}(ok:(X.gc E).Ok):X.Ok:=#[ok.mod,ok.kind,ok.glob,ok.blt,ok.above,ok.inj,ok.has,ok.y9,ok.hd,ok.frames,ok.zW,ok.Eb,ok.bs,ok.sI,ok.oW,ok.pW,ok.fY,ok.wR]
theorem Inv.gc {σ:St}(I:Inv X aa σ H s)(E:yt ->yu ->Prop):Inv (X.gc E) aa σ H s:=#[I.ok.gc E,I.os,I.bare,I.base,I.loc,I.cell,I.free,I.dA,I.pin,I.bX,I.len]
theorem Inv.du {σ:St}(I:Inv (X.gc E) aa σ H s):Inv X aa σ H s:=#[I.ok.du,I.os,I.bare,I.base,I.loc,I.cell,I.free,I.dA,I.pin,I.bX,I.len]
def SP.du (h:SP (X.gc E) aa D f s'):SP X aa D f s':=by
 cases f with
 | next=>let⟨σ',H',I,q⟩:=h;show#[σ',H',I.du,q]
 | brk=>let⟨σ',H',I,q⟩:=h;show#[σ',H',I.du,q]
 | cont=>let⟨σ',H',I,q⟩:=h;show#[σ',H',I.du,q]
 | ret u=>let⟨v,σ',H',I,r,q⟩:=h;show#[v,σ',H',I.du,r,q]
theorem kR.vq {st:yr Stmt}(h:kR X.vq st t):kR X st t:=λaa s σ H D I hw=>wpAny_mono (h aa s σ H D (I.gc _) hw) (λ_ _ q=>q.du) λ_ _ z=>False.elim z
section
variable {X:Cx}{st:Stmt}{cF:yr Stmt}{t u:TS}{e:Expr}{te:TE}{pos:Pos}
def tK:TS:=λD σ H=>D.nx σ H
def uZ (t u:TS):TS:=λD σ H=>t {D with nx:=u D} σ H
theorem cX:kR X [] tK:=λ_ _ σ H _ I h=>wpAny_execs_nil #[σ,H,I,h]
def aA (h1:PS X st t)(h2:kR X cF u):kR X (st::cF) (uZ t u):=by
 intro aa s σ H D I h;exact wpAny_execs_cons (bP (h1 aa s σ H {D with nx:=u D} I h) λf s1 q=> ?_);cases f with
 | next=>let⟨σ',H',I',q⟩:=q;show h2 aa s1 σ' H' D I' q
 | ret v=>show q
 | brk=>show q
 | cont=>show q
def aN (h1:PS X st t):kR X [st] t:=by
 intro aa s σ H D I h;exact wpAny_execs_cons (bP (h1 aa s σ H D I h) λf s1 q=> ?_);cases f with
 | next=>show wpAny_execs_nil q
 | ret v=>show q
 | brk=>show q
 | cont=>show q
def tP:TS:=λD σ H=>D.ct σ H
theorem jk:PS X (.Continue pos) tP:=λ_ _ σ H _ I h=>wpAny_Continue #[σ,H,I,h]
def Inv.quiet {σ:St}(I:Inv X aa σ H s):interactive X.env=false:=by simp[interactive,I.ok.kind]
def tN (te:TE):TS:=λD σ H=>te σ H λ_ H1=>D.nx σ H1
def rA (he:PE X e te)(hs:swapsWith e none pos.line X.env=pure false:=by rfl):PS X (.Expr e pos) (tN te):=by intro aa s σ H D I h;show wpAny_Expr_any (bP (he aa s σ H _ I h) λv s1 ⟨x,H1,I1,r1,q1⟩=>#[σ,H1,I1,q1]) I.quiet hs
def xp (te:TE):TS:=λD σ H=>te σ H D.rt
def ca (he:PE X e te):PS X (.Return (some e) pos) (xp te):=by intro aa s σ H D I h;show wpAny_Return_some (bP (he aa s σ H _ I h) λv s1 ⟨x,H1,I1,r1,q1⟩=>#[x,σ,H1,I1,r1,q1])
def xv (c:TT)(t u:TS):TS:=λD σ H=>c σ H λb H1=>if b=true then t D σ H1 else u D σ H1
def d9 (hc:PT X c tc)(ha:kR X a t)(hb:kR X b u):PS X (.If c a b pos) (xv tc t u):=by
 intro aa s σ H D I h;exact wpAny_If (bP (hc aa s σ H _ I h) λd s1 ⟨H1,I1,q1⟩=> ?_);cases d with
 | true=>show ha aa s1 σ H1 D I1 q1
 | false=>show hb aa s1 σ H1 D I1 q1
end
abbrev TG:=V ->St ->Hp ->(St ->Hp ->Prop) ->Prop
abbrev qP:=yr V ->St ->Hp ->(St ->Hp ->Prop) ->Prop
def PG (X:Cx)(eK:Expr)(t:TG):Prop:=∀ (aa:yr (Fm×Obj)) (s:yu) (σ:St) (H:Hp) (v:V) (u:yt) (Q:St ->Hp ->Prop),Inv X aa σ H s ->RelV v u ->t v σ H Q ->wpAny (model X.prog X.w) X.A (assign eK X.env u) (λ_ s'=>bH λσ' H'=>Inv X aa σ' H' s' /\ Q σ' H') X.xe s
def Ay (X:Cx)(ts:yr Expr)(t:qP):Prop:=∀ (aa:yr (Fm×Obj)) (s:yu) (σ:St) (H:Hp) (vs:yr V) (us:yr yt) (Q:St ->Hp ->Prop),Inv X aa σ H s ->bo vs us ->t vs σ H Q ->wpAny (model X.prog X.w) X.A (assignInOrder ((assignEach ts X.env).map (·.2)) us) (λ_ s'=>bH λσ' H'=>Inv X aa σ' H' s' /\ Q σ' H') X.xe s
abbrev j6:=V ->V ->V ->Hp ->(Hp ->Prop) ->Prop
def wt (X:Cx)(t:j6):Prop:=∀ (aa:yr (Fm×Obj)) (s:yu) (σ:St) (H:Hp) (o i v:V) (ov iv u:yt) (Q:Hp ->Prop),Inv X aa σ H s ->RelV o ov ->RelV i iv ->RelV v u ->t o i v H Q ->wpAny (model X.prog X.w) X.A (setItem ov iv u) (λ_ s'=> ∃H',Inv X aa σ H' s' /\ Q H') X.xe s
abbrev sP:=V ->V ->Hp ->VK ->Prop
def CS (X:Cx)(op:Operator)(t:sP):Prop:=∀ (aa:yr (Fm×Obj)) (s:yu) (σ:St) (H:Hp) (x y:V) (v u:yt) (Q:VK),Inv X aa σ H s ->RelV x v ->RelV y u ->t x y H Q ->wpAny (model X.prog X.w) X.A (inplaceOp op v u) (EP X aa σ Q) X.xe s
section
variable {X:Cx}{pos:Pos}
def fX (i:Nat):TG:=λv σ H Q=>Q (σ.set i (some v)) H
def bF (hN:X.N.Nodup)(hi:X.N[i]? =some x)(hx:Loc X.env.scope x)(hf:X.fn x=true \/ X.env.scope.names.lookup x=some .local:=by first | show .inl rfl | show .inr rfl | assumption):PG X (.Name x pos) (fX i):=by intro aa s σ H v u Q I r h;show wpAny_assign_Name (fD I hN hi hx r (λs' I'=>#[_,H,I',h]) hf)
def v7:qP:=λvs σ H Q=>vs= [] /\ Q σ H
def l6 (t:TG)(u:qP):qP:=λvs σ H Q=>bH λv r=>vs=v::r /\ t v σ H λσ' H'=>u r σ' H' Q
def lA:Ay X [] v7:=by intro aa s σ H vs us Q I r h;let⟨e,h⟩:=h;subst e;cases r;show assignInOrder_nil #[σ,H,I,h]
def d_ (h1:PG X e t)(h2:Ay X es u)(hs:(assignEach (e::es) X.env).map (·.2)=assign e X.env::(assignEach es X.env).map (·.2):=by rfl):Ay X (e::es) (l6 t u):=by
 intro aa s σ H vs us Q I r h;let⟨v,vr,e1,h⟩:=h;subst e1;cases r with
 | cons r rr=>rw[hs];exact assignInOrder_cons (bP (h1 aa s σ H _ _ _ I r h) λ_ s1 ⟨σ1,H1,I1,q1⟩=> ?_);show h2 aa s1 σ1 H1 _ _ Q I1 rr q1
def v6 (K:Fp)(n:Nat)(t:qP):TG:=λv σ H Q=>bH λa xs=>c6 (v= .ref a) (eW K H a xs) (xs.length=n) (t xs σ H Q)
def oD {k:Nat}(hc:X.calm=true)(h:Ay X es t)(hn:(assignEach es X.env).length=n:=by rfl)(Ak:(assignEach es X.env).findIdx? (·.1)=none:=by rfl):PG X (.Tuple es k pos) (v6 X.K n t):=by intro aa s σ H v u Q I r hw;let⟨a,xs,e1,hq,hl,hw⟩:=hw;subst e1;cases r;let⟨aU,rv,ht,hz⟩:=I.tuple hq;exact assign_Tuple_tuple (I.ok.hd hc) ht (by simp[hn, <- hl,rv.length]) Ak λh' hx=> ?_;have I1:Inv X aa σ H {s with heap:=h'}:=I.kept (t':=s.toks) λb o e=>hx b o (aZ (ax e)) e;show h aa _ σ H xs _ Q I1 ⇑rv hw
def yW (to ti:TE)(t:j6):TG:=λv σ H Q=>to σ H λo H1=>ti σ H1 λi H2=>t o i v H2 λH3=>Q σ H3
theorem dU (ho:PE X o to)(hi:PE X i ti)(hs:wt X t)(ha: ∀v,assign (.Subscript o i pos) X.env v=(do
  let ov <- holding [v] (eval o X.env)
  let iv <- holding [v,ov] (eval i X.env)
  standAt pos
  holding [v,ov,iv] (setItem ov iv v)
  release [v,ov,iv] []):=by intro _;rfl):PG X (.Subscript o i pos) (yW to ti t):=by
 intro aa s σ H v u Q I r h
 rw[ha]
 exact ar (wpAny_holding (bP (ho aa s σ H _ I h) λov s1 ⟨x,H1,I1,r1,q1⟩=> ?_))
 exact ar (wpAny_holding (bP (hi aa s1 σ H1 _ I1 q1) λiv s2 ⟨y,H2,I2,r2,q2⟩=> ?_))
 exact ar (wpAny_standAt (ar (wpAny_holding (bP (hs aa s2 σ H2 x y v ov iv u _ I2 r1 r2 r q2) λ_ s3 ⟨H3,I3,q3⟩=> ?_))))
 show wpAny_release #[σ,H3,I3,q3]
def q0 (te:TE)(g:TG):TS:=λD σ H=>te σ H λx H1=>g x σ H1 D.nx
def dS (he:PE X e te)(hg:PG X tg g)(hs:swapsWithSole [tg] e pos.line X.env=pure false:=by rfl)(hw:swappedStores [tg] e X.env=pure none:=by rfl)(h1:(assignEach [tg] X.env).map (·.2)= [assign tg X.env]:=by rfl):PS X (.Assign [tg] e pos) (q0 te g):=by intro aa s σ H D I h;exact wpAny_Assign_stores (bP (he aa s σ H _ I h) λv s1 ⟨x,H1,I1,r1,q1⟩=> ?_) hs hw;rw[h1];show bP (hg aa s1 σ H1 x v _ I1 r1 q1) λ_ s2 q=>q
def bm (hN:X.N.Nodup)(hi:X.N[i]? =some x)(hx:Loc X.env.scope x)(he:PE X e te)(hs:swapsWith e (some (.Name x gf)) pos.line X.env=pure false:=by rfl)(hf:X.fn x=true \/ X.env.scope.names.lookup x=some .local:=by first | show .inl rfl | show .inr rfl | assumption): PS X (.Assign [.Name x gf] e pos) (q0 te (fX i)):=by intro aa s σ H D I h;exact wpAny_Assign_Name (bP (he aa s σ H _ I h) λv s1 ⟨y,H1,I1,r1,q1⟩=> ?_) hs;show fD I1 hN hi hx r1 (λs2 I2=>#[_,H1,I2,q1]) hf
def xx (i:Nat)(te:TE)(ti:sP):TS:=λD σ H=> ∃x,σ[i]? =some (some x) /\ te σ H λy H1=>ti x y H1 λz H2=>D.nx (σ.set i (some z)) H2
def va (hN:X.N.Nodup)(hi:X.N[i]? =some x)(hx:Loc X.env.scope x)(he:PE X e te)(ho:CS X op ti)(hf:X.fn x=true \/ X.env.scope.names.lookup x=some .local:=by first | show .inl rfl | show .inr rfl | assumption): PS X (.AugAssign (.Name x gf) op e pos) (xx i te ti):=by
 intro aa s σ H D I h;let⟨v,e1,h⟩:=h;let⟨m,hn,hl⟩:=I.loc;have A3:zb X.env.scope x:=by obtain k | k:=hx;show .inl k;show .inr (.inl k)
 let⟨u,r,l⟩:=hl i x v hi e1 A3;exact wpAny_AugAssign_Name ?_;have go:wpAny (model X.prog X.w) X.A (eval e X.env) (λw s₂=>wpAny (model X.prog X.w) X.A (inplaceOp op u w) (λr s₃=>wpAny (model X.prog X.w) X.A (storeName X.env x r) (λ_=>SP X aa D .next) X.xe s₃) X.xe s₂) X.xe s:=by exact bP (he aa s σ H _ I h) λw s1 ⟨y,H1,I1,r1,q1⟩=> ?_;exact bP (ho aa s1 σ H1 v y u w _ I1 r r1 q1) λz s2 ⟨zv,H2,I2,r2,q2⟩=> ?_;show fD I2 hN hi hx r2 (λs3 I3=>#[_,H2,I3,q2]) hf
 rcases l with⟨hk,hm⟩ | ⟨hk,c,hc,l3⟩
 show wpAny_loadName_local I.ok.kind hk hn hm go;obtain hk | hk:=hk;show wpAny_loadName_cell I.ok.kind hk hc l3 go;obtain k | k:=hx;have:X.env.scope.names.lookup x=some .free:=hk;rw[k] at this;cases this;have:X.env.scope.names.lookup x=some .free:=hk;rw[k] at this;cases this
def tR (to ti te:TE)(qX:V ->V ->Hp ->VK ->Prop)(zT:sP)(qW:j6):TS:=λD σ H=>to σ H λo H1=>ti σ H1 λi H2=>qX o i H2 λx H3=>te σ H3 λy H4=>zT x y H4 λz H5=>qW o i z H5 λH6=>D.nx σ H6
def zd (X:Cx)(t:V ->V ->Hp ->VK ->Prop):Prop:=∀ (aa:yr (Fm×Obj)) (s:yu) (σ:St) (H:Hp) (o i:V) (ov iv:yt) (Q:VK),Inv X aa σ H s ->RelV o ov ->RelV i iv ->t o i H Q ->wpAny (model X.prog X.w) X.A (getItem ov iv) (EP X aa σ Q) X.xe s
def rC (ho:PE X o to)(hi:PE X i ti)(hg:zd X qX)(he:PE X e te)(hp:CS X op zT)(hs:wt X qW)(ha: ∀ov iv new,augStore i ov iv new=(do holding [new,ov,iv] (setItem ov iv new);release [new,ov,iv] [];pure .next):=by intros;rfl):PS X (.AugAssign (.Subscript o i uW) op e pos) (tR to ti te qX zT qW):=by intro aa s σ H D I h;exact wpAny_AugAssign_SubscriptAny (bP (ho aa s σ H _ I h) λov s1 ⟨x1,H1,I1,r1,q1⟩=> ?_) ha;exact bP (hi aa s1 σ H1 _ I1 q1) λiv s2 ⟨x2,H2,I2,r2,q2⟩=> ?_;exact bP (hg aa s2 σ H2 x1 x2 ov iv _ I2 r1 r2 q2) λold s3 ⟨x3,H3,I3,r3,q3⟩=> ?_;exact bP (he aa s3 σ H3 _ I3 q3) λv s4 ⟨x4,H4,I4,r4,q4⟩=> ?_;exact bP (hp aa s4 σ H4 x3 x4 old v _ I4 r3 r4 q4) λnew s5 ⟨x5,H5,I5,r5,q5⟩=> ?_;show bP (hs aa s5 σ H5 x1 x2 x5 ov iv new _ I5 r1 r2 r5 q5) λ_ s6 ⟨H6,I6,q6⟩=>#[σ,H6,I6,q6]
def DI (f:Int ->Int ->Int):sP:=λx y H Q=>bH λi j=>b0 (x= .int i) (y= .int j) (Q (.int (f i j)) H)
def pG:CS X .Add (DI λi j=>i+j):=by intro aa s σ H x y v u Q I r1 r2 h;let⟨i,j,e1,e2,q⟩:=h;subst e1;subst e2;let⟨t,rfl⟩:=r1;let⟨t',rfl⟩:=r2;show iadd_int #[.int _,H,I.tok _,#[_,rfl],q]
end
structure It where
 go:Nat ->Hp ->Prop
 zm:Nat ->Hp ->V ->Hp ->Prop
 stop:Nat ->Hp ->Prop
def e_ (X:Cx)(aa:yr (Fm×Obj))(H:Hp)(b:Fm):Prop:=H b=none /\ b≠X.env.locals /\ b∉X.fs /\ (b∈X.ex \/ X.s₀.heap.objs.size<=b) /\ (∀x c,X.env.cells.lookup x=some c ->c≠b) /\ ∀p∈X.pn++aa,p.1≠b
def Inv.v8 {σ:St}{b:Fm}(I:Inv X aa σ H s)(hb:s.heap.objs.size<=b)(hn:H' b=none):e_ X aa H' b:=by exact#[hn,Nat.ne_of_gt (aJ I.lt hb),I.Bw hb, .inr (a0 I.sz hb),λx c e z=> ?_,λp hp z=> ?_];let⟨v,q⟩:=I.cell x c e;show absurd (aJ q.lt (by rw[z];show hb)) (Nat.lt_irrefl _);show absurd (aJ (ax (I.pin p hp).1) (by rw[z];show hb)) (Nat.lt_irrefl _)
structure qh (P:Program)(w:World)(K:PySem.W.Frag)(tg:Expr)(J:It)(fp:List Addr)(it:Addr)(tn:Nat ->Heap ->Prop):Prop where
 mem:it∈fp
 obj: ∀i h,tn i h -> ∀b∈fp, ∃o,h.get? b=some o /\ ∀v,o.data≠ .cell v
 keep: ∀i h h',tn i h ->(∀b∈fp, ∀o,h.get? b=some o ->h'.get? b=some o) ->tn i h'
 item: ∀ (X:Cx),X.prog=P ->X.w=w ->X.K=K ->X.calm=true -> ∀ (i:Nat) (aa:List (Addr×Obj)) (s:Shared) (σ:St) (H:Hp) (E:Value ->Shared ->Prop),Inv X aa σ H s ->(∀b∈fp,e_ X aa H b) ->tn i s.heap ->J.go i H ->wpAny (model P w) X.A (pyNext (.ref it)) (λr s1=> ∃u,r=some u /\wpAny (model P w) X.A (letOwnedTupleGo tg (.ref it) u) (λ_ s2=>bH λx H'=>dB (Inv X aa σ H' s2) (RelV x u) (J.zm i H x H') (tn (i+1) s2.heap) (∀b∈fp,H' b=none)) E s1) E s
 done: ∀ (X:Cx),X.prog=P ->X.w=w ->X.K=K ->X.calm=true -> ∀ (i:Nat) (aa:List (Addr×Obj)) (s:Shared) (σ:St) (H:Hp) (E:Value ->Shared ->Prop),Inv X aa σ H s ->(∀b∈fp,e_ X aa H b) ->tn i s.heap ->J.stop i H ->wpAny (model P w) X.A (pyNext (.ref it)) (λr s1=>r=none /\ Inv X aa σ H s1) E s
 self: ∀ (A:Around) (i:Nat) (s:Shared) (Q:Value ->Shared ->Prop) (E:Value ->Shared ->Prop),tn i s.heap ->Q (.ref it) s ->wpAny (model P w) A (pyIter (.ref it)) Q E s
abbrev TI:=St ->Hp ->(It ->Hp ->Prop) ->Prop
def El (X:Cx)(aa:yr (Fm×Obj))(σ:St)(tg:Expr)(R:It ->Hp ->Prop)(BL:yt)(s2:yu):Prop:=wT λ(it:Fm) (fp:yr Fm) (tn:Nat ->Heap ->Prop) (J:It) (H':Hp)=>gW (BL= .ref it) (Inv X aa σ H' s2) (qh X.prog X.w X.K tg J fp it tn) (tn 0 s2.heap) (∀b∈fp,e_ X aa H' b) (R J H')
def PI (X:Cx)(tg iter:Expr)(wi:TI):Prop:=∀ (aa:yr (Fm×Obj)) (s:yu) (σ:St) (H:Hp) (R:It ->Hp ->Prop),Inv X aa σ H s ->wi σ H R ->wpAny (model X.prog X.w) X.A (eval iter X.env) (λv s1=>wpAny (model X.prog X.w) X.A (pyIter v) (El X aa σ tg R) X.xe s1) X.xe s
def pS (ho:s.heap.get? it=some o)(hc:o.cls= .type n)(hd:o.data= .fields vs)(hn: ["enumerate","zip","dict_itemiterator","dict_reverseitemiterator","odict_iterator","itertools.zip_longest","itertools.pairwise"].contains n=false)(hQ:Q () s):wpAny M A (letOwnedTupleGo tg (.ref it) u) Q E s:=by
 unfold letOwnedTupleGo;cases tg <;>first
 | show aS hQ
 | (cases u<;>first
  | show aS hQ
  | (exact ar (wpAny_load ho ?_)
     rw[hc,hd]
     change wpAny M A (if(["enumerate","zip","dict_itemiterator","dict_reverseitemiterator","odict_iterator","itertools.zip_longest","itertools.pairwise"].contains n && vs[0]? ==some (rawInt _))=true then _ else _) Q E s
     rw[ai (by intro h;rw[hn,Bool.false_and] at h;cases h)]
     show aS hQ))
def CV (K:Fp)(a:Fm):It:=#[λi H=>bH λxs x=>dD K H a xs /\ xs[i]? =some x,λi H x H'=>H'=H /\ ∀xs,dD K H a xs ->xs[i]? =some x,λi H=> ∃xs,dD K H a xs /\ xs.length<=i]
def CU (K:Fp)(a:Fm):It:=#[λi H=>bH λxs x=>eW K H a xs /\ xs[i]? =some x,λi H x H'=>H'=H /\ ∀xs,eW K H a xs ->xs[i]? =some x,λi H=> ∃xs,eW K H a xs /\ xs.length<=i]
def zf (lo:Int)(n:Nat):It:=#[λi _=>i<n,λi H x H'=>H'=H /\ x= .int (lo+i),λi _=>n<=i]
def mF {P:Program}{w:World}{K:Fp}{tg:Expr}(a it:Fm):qh P w K tg (CV K a) [it] it (λi h=>h.IsListIter it a i) where
 mem:=by simp
 obj:=λi h st b hb=>by have e:b=it:= ⇑hb;subst e;let⟨o,e,c,d⟩:=st;show#[o,e,λv z=>by rw[d] at z;cases z]
 keep:=λi h h' st k=>st.at λo e=>k it (by simp) o e
 item:=by intro X hP hw hK hc i aa s σ H E I hf st hg;subst hP hw hK;let⟨xs,x,hq,hx⟩:=hg;let⟨aU,rv,p,hz⟩:=I.list hq;let⟨u,hu,ru⟩:=rv.get hx;let⟨f0,f1,f2,f3,f4,f5⟩:=hf it (by simp);exact wpAny_pyNext_list_item st p.isList (x:=u) ⇑hu λh' aL sb=> ?_;have I1:Inv X aa σ H {s with heap:=h'}:=I.turned (t':=s.toks) (λb o hb e=>(sb.2 b hb).trans e) f0 f1 f3 f4 f5;let⟨o,e,c,d⟩:=id aL;show#[u,rfl,pS (s:= {s with heap:=h'}) e c d ⋯ #[x,H,I1,ru,#[rfl,λys hy=>by rw[I.list_inj hy hq];show hx],aL,λb hb=>(hf b hb).1]]
 done:=by intro X hP hw hK hc i aa s σ H E I hf st hg;subst hP hw hK;let⟨xs,hq,hx⟩:=hg;let⟨aU,rv,p,hz⟩:=I.list hq;let⟨f0,f1,f2,f3,f4,f5⟩:=hf it (by simp);have hl:=rv.length;show wpAny_pyNext_list_end (I.ok.hd hc) st p.isList (by simp;lia) λh' eb=>#[rfl,I.turned (t':=s.toks) (λb o hb e=>eb b o hb e) f0 f1 f3 f4 f5]
 self:=λ_ _ _ _ _ st h=>wpAny_pyIter_listiter st h
def kl {P:Program}{w:World}{K:Fp}{tg:Expr}(a it:Fm):qh P w K tg (CU K a) [it] it (λi h=>h.IsTupleIter it a i) where
 mem:=by simp
 obj:=λi h st b hb=>by have e:b=it:= ⇑hb;subst e;let⟨o,e,c,d⟩:=st;show#[o,e,λv z=>by rw[d] at z;cases z]
 keep:=λi h h' st k=>st.at λo e=>k it (by simp) o e
 item:=by intro X hP hw hK hc i aa s σ H E I hf st hg;subst hP hw hK;let⟨xs,x,hq,hx⟩:=hg;let⟨aU,rv,p,hz⟩:=I.tuple hq;let⟨u,hu,ru⟩:=rv.get hx;let⟨f0,f1,f2,f3,f4,f5⟩:=hf it (by simp);exact wpAny_pyNext_tuple_item st (show s.heap.IsTuple a aU.toArray from p) (x:=u) ⇑hu λh' aL sb=> ?_;have I1:Inv X aa σ H {s with heap:=h'}:=I.turned (t':=s.toks) (λb o hb e=>(sb.2 b hb).trans e) f0 f1 f3 f4 f5;let⟨o,e,c,d⟩:=id aL;show#[u,rfl,pS (s:= {s with heap:=h'}) e c d ⋯ #[x,H,I1,ru,#[rfl,λys hy=>by rw[I.mG hy hq];show hx],aL,λb hb=>(hf b hb).1]]
 done:=by intro X hP hw hK hc i aa s σ H E I hf st hg;subst hP hw hK;let⟨xs,hq,hx⟩:=hg;let⟨aU,rv,p,hz⟩:=I.tuple hq;let⟨f0,f1,f2,f3,f4,f5⟩:=hf it (by simp);have hl:=rv.length;show wpAny_pyNext_tuple_end (I.ok.hd hc) st (show s.heap.IsTuple a aU.toArray from p) (by simp;lia) λh' eb=>#[rfl,I.turned (t':=s.toks) (λb o hb e=>eb b o hb e) f0 f1 f3 f4 f5]
 self:=λ_ _ _ _ _ st h=>wpAny_pyIter_tupleiter st h
def km {P:Program}{w:World}{K:Fp}{tg:Expr}(it:Fm)(lo:Int)(n:Nat):qh P w K tg (zf lo n) [it] it (λi h=>IsRangeIter h it (lo+(i:Nat)*1) ((n:Int) - (i:Nat)) 1) where
 mem:=by simp
 obj :=λi h st b hb=>by have e:b=it:= ⇑hb;subst e;show#[_,st,λv z=>by have z':Data.fields _=Data.cell v:=z;cases z']
 keep:=λi h h' st k=>k it (by simp) _ st
 item:=by intro X hP hw hK hc i aa s σ H E I hf st hg;subst hP hw hK;let⟨f0,f1,f2,f3,f4,f5⟩:=hf it (by simp);have W:=Walks.range (prog:=X.prog) (w:=X.w) (I.ok.hd hc) it lo 1 n;exact W.item i s _ _ hg st λv h' tk hv aL kk=> ?_;let⟨t,rfl⟩:=hv;have I1:Inv X aa σ H {s with heap:=h',toks:=tk}:=I.turned (λb o hb e=>kk b o ⇑hb e) f0 f1 f3 f4 f5;exact#[_,rfl,pS (s:= {s with heap:=h',toks:=tk}) (n:= "range_iterator") aL rfl rfl ⋯ #[.int (lo+i),H,I1,#[t,?_],#[rfl,rfl],aL,λb hb=>(hf b hb).1]];rw[Int.mul_one]
 done:=by intro X hP hw hK hc i aa s σ H E I hf st hg;subst hP hw hK;let⟨f0,f1,f2,f3,f4,f5⟩:=hf it (by simp);show wpAny_pyNext_range_end (I.ok.hd hc) st (by have:n<=i:=hg;lia) λh' eb=>#[rfl,I.turned (t':=s.toks) (λb o hb e=>eb b o hb e) f0 f1 f3 f4 f5]
 self:=λ_ _ _ _ _ st h=>wpAny_pyIter_rangeiter st h
def uo (K:Fp)(tl:TE):TI:=λσ H R=>tl σ H λx H1=> ∃a,b0 (x= .ref a) (∃xs,dD K H1 a xs) (R (CV K a) H1)
def yw (K:Fp)(tl:TE):TI:=λσ H R=>tl σ H λx H1=> ∃a,b0 (x= .ref a) (∃xs,eW K H1 a xs) (R (CU K a) H1)
def fe (hl:PE X l tl):PI X tg l (uo X.K tl):=by intro aa s σ H R I h;exact bP (hl aa s σ H _ I h) λv s1 ⟨x,H1,I1,r1,q1⟩=> ?_;let⟨a,e,⟨xs,hq⟩,q⟩:=q1;subst e;cases r1;let⟨aU,rv,p,hz⟩:=I1.list hq;exact wpAny_pyIter_list p.isList ?_;exact#[s1.heap.objs.size,[s1.heap.objs.size],_,_,H1,rfl,I1.kept (t':=s1.toks) λb o e=>ay _ e,mF a _,#[_,a5 _ rfl,rfl,rfl],λb hb=> ?_,q];have e:b=s1.heap.objs.size:= ⇑hb;subst e;show I1.v8 (am _) (I1.bX.fresh (am _))
def vb (hl:PE X l tl):PI X tg l (yw X.K tl):=by intro aa s σ H R I h;exact bP (hl aa s σ H _ I h) λv s1 ⟨x,H1,I1,r1,q1⟩=> ?_;let⟨a,e,⟨xs,hq⟩,q⟩:=q1;subst e;cases r1;let⟨aU,rv,p,hz⟩:=I1.tuple hq;exact wpAny_pyIter_tuple (show s1.heap.IsTuple a aU.toArray from p) ?_;exact#[s1.heap.objs.size,[s1.heap.objs.size],_,_,H1,rfl,I1.kept (t':=s1.toks) λb o e=>ay _ e,kl a _,#[_,a5 _ rfl,rfl,rfl],λb hb=> ?_,q];have e:b=s1.heap.objs.size:= ⇑hb;subst e;show I1.v8 (am _) (I1.bX.fresh (am _))
def jf {σ:St}{lo hi:Int}(I:Inv X aa σ H s)(h1: -(2 ^ 62) <=lo)(h2:lo<2 ^ 62)(h3: -(2 ^ 62) <=hi)(h4:hi<2 ^ 62)(q:R (zf lo (hi - lo).toNat) H):wpAny (model X.prog X.w) X.A (pyIter (.ref s.heap.objs.size)) (El X aa σ tg R) E {s with heap:=s.heap.push {cls:= .type "range",data:= .fields (List.toArray [.int lo t, .int hi u, .int 1 v])},toks:=tk}:=by
 exact wpAny_pyIter_range (IsRange.new ..) (small_one h1 h2 h3 h4) ?_;have I1:Inv X aa σ H {s with heap:=s.heap.push {cls:= .type "range",data:= .fields (List.toArray [.int lo t, .int hi u, .int 1 v])},toks:=tk}:=I.kept λb o e=>ay _ e;exact#[(s.heap.push {cls:= .type "range",data:= .fields (List.toArray [.int lo t, .int hi u, .int 1 v])}).objs.size,[(s.heap.push {cls:= .type "range",data:= .fields (List.toArray [.int lo t, .int hi u, .int 1 v])}).objs.size],_,_,H,rfl,I1.kept (t':=tk) λb o e=>ay _ e,km _ lo (hi - lo).toNat,?_,λb hb=> ?_,q];have e1:lo+((0:Nat):Int)*1=lo:=by simp
 have e2:(((hi - lo).toNat:Nat):Int) - ((0:Nat):Int)=Builtin.Range.rangeSize lo hi 1:=by rw[rangeSize_one];split<;>lia
 change IsRangeIter _ _ (lo+((0:Nat):Int)*1) ((((hi - lo).toNat:Nat):Int) - ((0:Nat):Int)) 1;rw[e1,e2];show a5 _ rfl;have e:b=(s.heap.push {cls:= .type "range",data:= .fields (List.toArray [.int lo t, .int hi u, .int 1 v])}).objs.size:=by simpa using hb
 subst e;show I1.v8 (am _) (I1.bX.fresh (am _))
def ul (ta:TA):TI:=λσ H R=>ta σ H λvs H1=> ∃j:Int,c6 (vs= [.int j]) (-(2 ^ 62) <=j) (j<2 ^ 62) (R (zf 0 j.toNat) H1)
def uk (ta:TA):TI:=λσ H R=>ta σ H λvs H1=>bH λ(i j:Int)=>b0 (vs= [.int i, .int j]) (-(2 ^ 62) <=i /\ i<2 ^ 62 /\ -(2 ^ 62) <=j /\ j<2 ^ 62) (R (zf i (j - i).toNat) H1)
def cN (hg:Gl X "range")(hm:X.mg "range" =none)(ha:PA X [a] ta)(hs:starEach [a] X.env= [(false,eval a X.env)]:=by rfl):PI X tg (.Call (.Name "range" p) [a] [] pos) (ul ta):=by
 intro aa s σ H R I h;exact Call_ (fT I hg hm boot_range (PyProof.Rows.callWith_type1 (bP (ha pos aa s σ H _ I h) λus s1 ⟨vs,H1,I1,r1,q1⟩=> ?_) hs rfl));let⟨j,e,q1,q2,q⟩:=q1;subst e;cases r1 with
 | cons r rr=>cases rr;let⟨t,rfl⟩:=r;show call_range_1 (jf I1 ∅ ∅ q1 q2 ⇑q)
def cG {tg:Expr}{p pos:Pos}(hg:Gl X "range")(hm:X.mg "range" =none)(ha:PA X [a,b] ta)(hs:starEach [a,b] X.env= [(false,eval a X.env),(false,eval b X.env)]:=by rfl)(sw:starEach [b] X.env= [(false,eval b X.env)]:=by rfl): PI X tg (.Call (.Name "range" p) [a,b] [] pos) (uk ta):=by
 intro aa s σ H R I h;exact Call_ (fT I hg hm boot_range (PyProof.Rows.callWith_type1 (bP (ha pos aa s σ H _ I h) λus s1 ⟨vs,H1,I1,r1,q1⟩=> ?_) (by rw[hs,sw]) (by rw[sw];rfl)));let⟨i,j,e,⟨q1,q2,q3,q4⟩,q⟩:=q1;subst e;cases r1 with
 | cons r rr=>
  cases rr with
  | cons r' rr=>cases rr;let⟨t,rfl⟩:=r;let⟨t',rfl⟩:=r';show call_range_2 (jf I1 q1 q2 q3 q4 q)
def xw (wi:TI)(g:TG)(tb:TS):TS:=λD σ H=>wi σ H λJ H1=> ∃W:Nat ->Nat ->St ->Hp ->Prop,(∃m,W 0 m σ H1) /\ ∀i m σ H,W i m σ H ->(J.stop i H /\ D.nx σ H) \/ (J.go i H /\ ∃N:St ->Hp ->Prop,(∀σ' H',N σ' H' -> ∃m',m'<m /\ W (i+1) m' σ' H') /\ ∀x H',J.zm i H x H' ->g x σ H' λσ2 H2=>tb {D with nx:=N,ct:=N,bk:=D.nx} σ2 H2)
def fK (fp:yr Fm)(h:Heap):yr (Fm×Obj):=fp.filterMap λb=>(h.get? b).map λo=>(b,o)
theorem dg (hb:b∈fp)(e:h.get? b=some o):(b,o)∈fK fp h:=List.mem_filterMap.mpr #[b,hb,by rw[e];rfl]
def mS (hp:p∈fK fp h):p.1∈fp /\ h.get? p.1=some p.2:=by
 let⟨b,hb,e⟩:=List.mem_filterMap.mp hp;cases q:h.get? b with
 | none=>rw[q] at e;cases e
 | some o=>rw[q] at e;have e':(b,o)=p:=aE e;subst e';show#[hb,q]
theorem Inv.pinned {σ:St}(I:Inv X aa σ H s)(hf: ∀b∈fp,e_ X aa H b)(ho: ∀b∈fp, ∃o,s.heap.get? b=some o /\ ∀v,o.data≠ .cell v):Inv X (aa++fK fp s.heap) σ H s:=I.lx λp hp=>(bh.mp hp).elim (λz=>I.pin p (aR _ z)) λz=>by let⟨hb,e⟩:=mS z;let⟨f0,f1,f2,_⟩:=hf p.1 hb;let⟨o,e',d⟩:=ho p.1 hb;rw[e] at e';cases e';show#[e,f0,f1,f2,d]
theorem Inv.d6 {σ:St}(I:Inv X (aa++pl) σ H s):Inv X aa σ H s:=I.lx λp hp=>I.pin p (aR _ (List.mem_append_left _ hp))
def ce (hp:PassesOwn (model X.prog X.w) X.A X.env X.xe)(hc:X.calm=true)(hi:PI X tg iter wi)(hg:PG X tg g)(hb:kR X body tb)(hs: ∀x,foldedSetIterable iter X.env x=pure x:=by intro _;rfl):PS X (.For tg iter body [] pos) (xw wi g tb):=by
 intro aa s σ H D I h;exact wpAny_For (bP (hi aa s σ H _ I h) λv s1 h1=>bP h1 λBL s2 h2=> ?_) hs;let⟨it,fp,tn,J,H2,e,I2,T,eL,f2,W,⟨m0,w0⟩,turn⟩:=h2;subst e;have kq: ∀ {H':Hp},(∀b∈fp,H' b=none) -> ∀b∈fp,e_ X aa H' b:=λhn b hb=>#[hn b hb,(f2 b hb).2]
 exact codeAny_forLoop_any (λn s'=>dr λi σ' H'=>c6 (Inv X aa σ' H' s') (tn i s'.heap) (∀b∈fp,H' b=none) (W i n σ' H')) ?_ m0 #[0,σ,H2,I2,eL,λb hb=>(f2 b hb).1,w0];rintro n s3 ⟨i,σ3,H3,I3,f_,Ea,w3⟩;rcases turn i n σ3 H3 w3 with⟨stop,qn⟩ | ⟨go,N,hN,step⟩
 .exact wpAny_passesOwn hp (bP (T.done X rfl rfl rfl hc i aa s3 σ3 H3 X.xe I3 (kq Ea) f_ stop) λr s4 ⟨hr,I4⟩=> ?_);subst hr;show wpAny_execs_nil #[σ3,H3,I4,qn]
 .exact wpAny_passesOwn hp (bP (T.item X rfl rfl rfl hc i aa s3 σ3 H3 X.xe I3 (kq Ea) f_ go) λr s4 ⟨u,hr,h4⟩=> ?_);subst hr;exact wpAny_passesOwn hp (bP h4 λ_ s5 ⟨x,H5,I5,r5,y5,wF,Gr⟩=> ?_);have GF:=I5.pinned (kq Gr) (T.obj _ _ wF);exact wpAny_passesOwn hp (bP (hg _ s5 σ3 H5 x u _ GF r5 (step x H5 y5)) λ_ s6 ⟨σ6,H6,I6,q6⟩=> ?_);exact wpAny_passesOwn hp (bP (hb _ s6 σ6 H6 _ I6 q6) λf s7 q7=> ?_);have again: ∀ {σ7:St} {H7:Hp},Inv X (aa++fK fp s5.heap) σ7 H7 s7 ->N σ7 H7 -> ∃m,m<n /\ dr λi σ' H'=>c6 (Inv X aa σ' H' s7) (tn i s7.heap) (∀b∈fp,H' b=none) (W i m σ' H'):=λ{σ7 H7} I7 n7=>by let⟨m',hm,w7⟩:=hN σ7 H7 n7;exact#[m',hm,i+1,σ7,H7,I7.d6,T.keep _ _ _ wF λb hb o e=>(I7.pin (b,o) (aR _ (aR _ (dg hb e)))).1,λb hb=> ?_,w7];let⟨o,e,d⟩:=T.obj _ _ wF b hb;show(I7.pin (b,o) (aR _ (aR _ (dg hb e)))).2.1
  cases f with
  | next=>let⟨σ7,H7,I7,n7⟩:=q7;show again I7 n7
  | cont=>let⟨σ7,H7,I7,n7⟩:=q7;show again I7 n7
  | brk=>let⟨σ7,H7,I7,q7⟩:=q7;show#[σ7,H7,I7.d6,q7]
  | ret v=>let⟨x7,σ7,H7,I7,r7,q7⟩:=q7;show#[x7,σ7,H7,I7.d6,r7,q7]
abbrev R2:=V ->V ->Hp ->VK ->Prop
def g0 (X:Cx)(f:yt ->yt ->Sem yt)(r:R2):Prop:=∀ (aa:yr (Fm×Obj)) (s:yu) (σ:St) (H:Hp) (x y:V) (v u:yt) (Q:VK),Inv X aa σ H s ->RelV x v ->RelV y u ->r x y H Q ->wpAny (model X.prog X.w) X.A (f v u) (EP X aa σ Q) X.xe s
def CP (X:Cx)(f:yt ->Sem yt)(r:V ->Hp ->VK ->Prop):Prop:=∀ (aa:yr (Fm×Obj)) (s:yu) (σ:St) (H:Hp) (x:V) (v:yt) (Q:VK),Inv X aa σ H s ->RelV x v ->r x H Q ->wpAny (model X.prog X.w) X.A (f v) (EP X aa σ Q) X.xe s
def cE (X:Cx)(f:yt)(r:yr V ->Hp ->VK ->Prop):Prop:=∀ (aa:yr (Fm×Obj)) (s:yu) (σ:St) (H:Hp) (xs:yr V) (us:yr yt) (Q:VK),Inv X aa σ H s ->bo xs us ->r xs H Q ->wpAny (model X.prog X.w) X.A (call f us) (EP X aa σ Q) X.xe s
def xr (r:R2)(ta tb:TE):TE:=λσ H Q=>ta σ H λx H1=>tb σ H1 λy H2=>r x y H2 Q
def Di (r:V ->Hp ->VK ->Prop)(ta:TE):TE:=λσ H Q=>ta σ H λx H1=>r x H1 Q
def rI (C:Int ->Int ->Prop)(g:Int ->Int ->V):R2:=λx y H Q=>bH λi j=>c6 (x= .int i) (y= .int j) (C i j) (Q (g i j) H)
def rh (g:Int ->Int ->V):R2:=λx y H Q=>bH λi j=>b0 (x= .int i) (y= .int j) (Q (g i j) H)
def rU (g:Int ->V):V ->Hp ->VK ->Prop:=λx H Q=> ∃i,x= .int i /\ Q (g i) H
def wg (ha:PE X a ta)(hb:PE X b tb){σ:St}{R:V ->V ->Hp ->Prop}(I:Inv X aa σ H s)(h:ta σ H λx H1=>tb σ H1 λy H2=>R x y H2){f:yt ->yt ->Sem yt}(hf: ∀v u s2 x y H2,Inv X aa σ H2 s2 ->RelV x v ->RelV y u ->R x y H2 ->wpAny (model X.prog X.w) X.A (f v u) Q X.xe s2): wpAny (model X.prog X.w) X.A (eval a X.env) (λv s₁=>wpAny (model X.prog X.w) X.A (eval b X.env) (λu s₂=>wpAny (model X.prog X.w) X.A (f v u) Q X.xe s₂) X.xe s₁) X.xe s:=by exact bP (ha aa s σ H _ I h) λv s1 ⟨x,H1,I1,r1,q1⟩=> ?_;exact bP (hb aa s1 σ H1 _ I1 q1) λu s2 ⟨y,H2,I2,r2,q2⟩=> ?_;show hf v u s2 x y H2 I2 r1 r2 q2
def aT (ho:g0 X (binaryOp op) r)(ha:PE X a ta)(hb:PE X b tb):PE X (.BinOp a op b pos) (xr r ta tb):=by intro aa s σ H Q I h;show wpAny_BinOp (wg ha hb I h λv u s2 x y H2 I2 rx ry q=>ho aa s2 σ H2 x y v u Q I2 rx ry q)
def jl (ho:CP X (unaryOp op) r)(ha:PE X a ta):PE X (.UnaryOp op a pos) (Di r ta):=by intro aa s σ H Q I h;show UnaryOp_ (bP (ha aa s σ H _ I h) λv s1 ⟨x,H1,I1,r1,q1⟩=>ho aa s1 σ H1 x v Q I1 r1 q1)
def Aa {g:Int ->Int ->Int}(rule: ∀ (i j:Int) (t u:Tok) (s:yu) (Q:yt ->yu ->Prop) (E:yt ->yu ->Prop),C i j ->Q (.int (g i j) s.toks) {s with toks:=s.toks+1} ->wpAny (model X.prog X.w) X.A (f (.int i t) (.int j u)) Q E s): g0 X f (rI C λi j=> .int (g i j)):=by intro aa s σ H x y v u Q I rx ry h;let⟨i,j,rfl,rfl,hc,q⟩:=h;let⟨t,rfl⟩:=rx;let⟨t',rfl⟩:=ry;show rule i j t t' s _ _ hc #[.int (g i j),H,I.tok _,#[_,rfl],q]
def yb {g:Int ->Int ->Int}(rule: ∀ (i j:Int) (t u:Tok) (s:yu) (Q:yt ->yu ->Prop) (E:yt ->yu ->Prop),Q (.int (g i j) s.toks) {s with toks:=s.toks+1} ->wpAny (model X.prog X.w) X.A (f (.int i t) (.int j u)) Q E s): g0 X f (rh λi j=> .int (g i j)):=by intro aa s σ H x y v u Q I rx ry h;let⟨i,j,rfl,rfl,q⟩:=h;let⟨t,rfl⟩:=rx;let⟨t',rfl⟩:=ry;show rule i j t t' s _ _ #[.int (g i j),H,I.tok _,#[_,rfl],q]
def rN {g:Int ->Int ->Bool}(rule: ∀ (i j:Int) (t u:Tok) (s:yu) (Q:yt ->yu ->Prop) (E:yt ->yu ->Prop),Q (.bool (g i j)) s ->wpAny (model X.prog X.w) X.A (f (.int i t) (.int j u)) Q E s): g0 X f (rh λi j=> .bl (g i j)):=by intro aa s σ H x y v u Q I rx ry h;let⟨i,j,rfl,rfl,q⟩:=h;let⟨t,rfl⟩:=rx;let⟨t',rfl⟩:=ry;show rule i j t t' s _ _ #[.bl (g i j),H,I,rfl,q]
def qv (i j:Int):Prop:=0<j /\ j<1073741824
def wA (i j:Int):Prop:=0<=j /\ j<=1000000 /\ i.natAbs<2 ^ 64
def eF (i j:Int):Prop:=(-(2 ^ 64) <i /\ i<2 ^ 64) \/ (-(2 ^ 64) <j /\ j<2 ^ 64)
def eF.ok (h:eF i j):IntMulOk i j:=by
 rcases h with⟨h1,h2⟩ | ⟨h1,h2⟩
 show .of_left (intBits_le_64 h1 h2);show .of_right (intBits_le_64 h1 h2)
theorem bA:g0 X (binaryOp .Add) (rh λi j=> .int (i+j)):=yb λ_ _ _ _ _ _ _ q=>add_int q
theorem cK:g0 X (binaryOp .Sub) (rh λi j=> .int (i - j)):=yb λ_ _ _ _ _ _ _ q=>sub_int q
theorem eO:g0 X (binaryOp .Mult) (rI eF λi j=> .int (i*j)):=Aa λ_ _ _ _ _ _ _ hc q=>mul_int q hc.ok
theorem lG:g0 X (binaryOp .FloorDiv) (rI qv λi j=> .int (i / j)):=Aa λi j _ _ _ _ _ hc q=>by have h1:(0:Int) <j:=hc.1;have h2:j<1073741824:=hc.2;show floordiv_int ∅ (by rw[Int.fdiv_eq_ediv_of_nonneg i ∅];show q) (.inl (PyProof.noPylong_small ∅))
theorem dw:g0 X (binaryOp .Mod) (rI (λ_ j=>0<j) λi j=> .int (i % j)):=Aa λi j _ _ _ _ _ hc q=>by have h1:(0:Int) <j:=hc;show mod_int' ∅ (by rw[Int.fmod_eq_emod_of_nonneg i ∅];show q)
theorem vj:g0 X (binaryOp .Pow) (rI wA λi j=> .int (i ^ j.toNat)):=Aa λ_ _ _ _ _ _ _ hc q=>pow_int_small hc.1 hc.2.1 hc.2.2 q
def Ez {g:Int ->Int}(rule: ∀ (i:Int) (t:Tok) (s:yu) (Q:yt ->yu ->Prop) (E:yt ->yu ->Prop),Q (.int (g i) s.toks) {s with toks:=s.toks+1} ->wpAny (model X.prog X.w) X.A (f (.int i t)) Q E s): CP X f (rU λi=> .int (g i)):=by intro aa s σ H x v Q I rx h;let⟨i,rfl,q⟩:=h;let⟨t,rfl⟩:=rx;show rule i t s _ _ #[.int (g i),H,I.tok _,#[_,rfl],q]
theorem fB:CP X (unaryOp .USub) (rU λi=> .int (-i)):=Ez λ_ _ _ _ _ q=>neg_int q
def rb:V ->V ->Bool
 | .dy, .dy=>true | .dy, .int _=>true | .int _, .dy=>true | .dy, .bl _=>true | .bl _, .dy=>true | .dy, .str _=>true | .str _, .dy=>true
 | .int _, .int _=>true | .bl _, .bl _=>true | .str _, .str _=>true | .nT _, .nT _=>true
 | .int _, .str _=>true | .str _, .int _=>true | .bl _, .str _=>true | .str _, .bl _=>true
 | _,_=>false
def Dt:R2:=λx y H Q=>rb x y=true /\ Q (.bl (decide (x=y))) H
def Ds:R2:=λx y H Q=>rb x y=true /\ Q (.bl (!decide (x=y))) H
def mf:decide (V.int i=V.int j)=(i==j):=by rw[Bool.eq_iff_iff];simp
def p6:decide (V.bl i=V.bl j)=(i==j):=by rw[Bool.eq_iff_iff];simp
def me:decide (V.str i=V.str j)=(i==j):=by rw[Bool.eq_iff_iff];simp
def mh:decide (V.nT i=V.nT j)=(i.toList==j.toList):=by rw[Bool.eq_iff_iff];cases i;cases j;simp
def bp {σ:St}(I:Inv X aa σ H s)(q:Q (.bl k) H)(e:k=k'):EP X aa σ Q (.bool k') s:=by subst e;show#[.bl k,H,I,rfl,q]
def ya:g0 X (compareOp .Eq) Dt:=by
 intro aa s σ H x y v u Q I rx ry h;let⟨hs,q⟩:=h;cases x with
 | dy=>
  cases rx;cases y with
  | dy=>cases ry;show PySem.EqNone.eq_none_none (bp I q (by simp))
  | bl j=>cases ry;show PySem.EqNone.eq_none_bool (bp I q (by simp))
  | int j=>let⟨t',rfl⟩:=ry;show PySem.EqNone.eq_none_int (bp I q (by simp))
  | str j=>let⟨t',rfl⟩:=ry;show PySem.EqNone.eq_none_str (bp I q (by simp))
  | _=>show absurd (show false=true from hs) aF
 | bl i=>
  cases rx;cases y with
  | dy=>cases ry;show PySem.EqNone.eq_bool_none (bp I q (by simp))
  | bl j=>cases ry;show eq_bool (bp I q p6)
  | str j=>let⟨t',rfl⟩:=ry;show PySem.EqMixed.eq_bool_str (bp I q (by simp))
  | _=>show absurd (show false=true from hs) aF
 | int i=>
  let⟨t,rfl⟩:=rx;cases y with
  | dy=>cases ry;show PySem.EqNone.eq_int_none (bp I q (by simp))
  | int j=>let⟨t',rfl⟩:=ry;show eq_int (bp I q mf)
  | str j=>let⟨t',rfl⟩:=ry;show PySem.EqMixed.eq_int_str (bp I q (by simp))
  | _=>show absurd (show false=true from hs) aF
 | str i=>
  let⟨t,rfl⟩:=rx;cases y with
  | dy=>cases ry;show PySem.EqNone.eq_str_none (bp I q (by simp))
  | bl j=>cases ry;show PySem.EqMixed.eq_str_bool (bp I q (by simp))
  | int j=>let⟨t',rfl⟩:=ry;show PySem.EqMixed.eq_str_int (bp I q (by simp))
  | str j=>let⟨t',rfl⟩:=ry;show eq_str (bp I q me)
  | _=>show absurd (show false=true from hs) aF
 | nT i=>
  let⟨t,rfl⟩:=rx;cases y with
  | nT j=>let⟨t',rfl⟩:=ry;show W.eq_bytes (bp I q mh)
  | _=>show absurd (show false=true from hs) aF
 | _=>cases y<;>show absurd (show false=true from hs) aF
def xZ:g0 X (compareOp .NotEq) Ds:=by
 intro aa s σ H x y v u Q I rx ry h;let⟨hs,q⟩:=h;cases x with
 | dy=>
  cases rx;cases y with
  | dy=>cases ry;show PySem.EqNone.ne_none_none (bp I q (by simp))
  | bl j=>cases ry;show PySem.EqNone.ne_none_bool (bp I q (by simp))
  | int j=>let⟨t',rfl⟩:=ry;show PySem.EqNone.ne_none_int (bp I q (by simp))
  | str j=>let⟨t',rfl⟩:=ry;show PySem.EqNone.ne_none_str (bp I q (by simp))
  | _=>show absurd (show false=true from hs) aF
 | bl i=>
  cases rx;cases y with
  | dy=>cases ry;show PySem.EqNone.ne_bool_none (bp I q (by simp))
  | bl j=>cases ry;show ne_bool (bp I q (congrArg not p6))
  | str j=>let⟨t',rfl⟩:=ry;show PySem.EqMixed.ne_bool_str (bp I q (by simp))
  | _=>show absurd (show false=true from hs) aF
 | int i=>
  let⟨t,rfl⟩:=rx;cases y with
  | dy=>cases ry;show PySem.EqNone.ne_int_none (bp I q (by simp))
  | int j=>let⟨t',rfl⟩:=ry;show ne_int (bp I q (congrArg not mf))
  | str j=>let⟨t',rfl⟩:=ry;show PySem.EqMixed.ne_int_str (bp I q (by simp))
  | _=>show absurd (show false=true from hs) aF
 | str i=>
  let⟨t,rfl⟩:=rx;cases y with
  | dy=>cases ry;show PySem.EqNone.ne_str_none (bp I q (by simp))
  | bl j=>cases ry;show PySem.EqMixed.ne_str_bool (bp I q (by simp))
  | int j=>let⟨t',rfl⟩:=ry;show PySem.EqMixed.ne_str_int (bp I q (by simp))
  | str j=>let⟨t',rfl⟩:=ry;show ne_str (bp I q (congrArg not me))
  | _=>show absurd (show false=true from hs) aF
 | nT i=>
  let⟨t,rfl⟩:=rx;cases y with
  | nT j=>let⟨t',rfl⟩:=ry;show W.ne_bytes (bp I q (congrArg not mh))
  | _=>show absurd (show false=true from hs) aF
 | _=>cases y<;>show absurd (show false=true from hs) aF
theorem fL:g0 X (compareOp .Lt) (rh λi j=> .bl (decide (i<j))):=rN λ_ _ _ _ _ _ _ q=>lt_int q
theorem x_:g0 X (compareOp .LtE) (rh λi j=> .bl (decide (i<=j))):=rN λ_ _ _ _ _ _ _ q=>le_int q
theorem oS:g0 X (compareOp .Gt) (rh λi j=> .bl (decide (j<i))):=rN λ_ _ _ _ _ _ _ q=>gt_int q
theorem oT:g0 X (compareOp .GtE) (rh λi j=> .bl (decide (j<=i))):=rN λ_ _ _ _ _ _ _ q=>ge_int q
def cf (b:Expr)(h:op≠ .In:=by decide)(h2:op≠ .NotIn:=by decide):behindInMarks op b=false:=by
 have e1:(op==CmpOp.In)=false:=by cases op<;>first | rfl | show absurd rfl h
 have e2:(op==CmpOp.NotIn)=false:=by cases op<;>first | rfl | show absurd rfl h2
 cases b<;>simp[behindInMarks,e1,e2]
def dG (ho:g0 X (compareOp op) r)(ha:PE X a ta)(hb:PE X b tb)(hm:behindInMarks op b=false):PE X (.Compare a [op] [b] pos) (xr r ta tb):=by intro aa s σ H Q I h;show wpAny_Compare1 (wg ha hb I h λv u s2 x y H2 I2 rx ry q=>ho aa s2 σ H2 x y v u Q I2 rx ry q) hm
def tI (t:TE):TT:=λσ H Q=>t σ H λx H'=> ∃k,x= .bl k /\ Q k H'
def cH (ho:g0 X (compareOp op) r)(ha:PE X a ta)(hb:PE X b tb)(hm:behindInMarks op b=false):PT X (.Compare a [op] [b] pos) (tI (xr r ta tb)):=by intro aa s σ H Q I h;exact wpAny_isTrue_Compare1 (bP (ha aa s σ H _ I h) λv s1 ⟨x,H1,I1,r1,q1⟩=>bP (hb aa s1 σ H1 _ I1 q1) λu s2 ⟨y,H2,I2,r2,q2⟩=>bP (ho aa s2 σ H2 x y v u _ I2 r1 r2 q2) λc s3 ⟨z,H3,I3,r3,k,e,q3⟩=> ?_) hm;subst e;cases r3;show wpAny_truthy_bool #[H3,I3,q3]
def fR:(sizeLine:Nat) <2 ^ 63:=by rw[sizeLine_eq];decide
def vals1 (r:bo [x] us): ∃u,us= [u] /\ RelV x u:=by
 cases r with
 | cons r1 r2=>cases r2;show#[_,rfl,r1]
def vals2 (r:bo [x,y] us):bH λu w'=>b0 (us= [u,w']) (RelV x u) (RelV y w'):=by
 cases r with
 | cons r1 r2=>
  cases r2 with
  | cons r3 r4=>cases r4;show#[_,_,rfl,r1,r3]
def qc:cE X (.builtin "abs") (λxs H Q=> ∃i,xs= [.int i] /\ Q (.int (if i<0 then -i else i)) H):=by intro aa s σ H xs us Q I r h;let⟨i,rfl,q⟩:=h;let⟨u,rfl,t,rfl⟩:=vals1 r;show call_abs_int λu tk=>#[.int (if i<0 then -i else i),H,I.tok _,#[_,rfl],q]
def nD (hc:X.calm=true):cE X (.builtin "max") (λxs H Q=>bH λi j=>xs= [.int i, .int j] /\ Q (.int (if j >i then j else i)) H):=by
 intro aa s σ H xs us Q I r h;let⟨i,j,rfl,q⟩:=h;let⟨u,w',rfl,⟨t,rfl⟩,⟨t',rfl⟩⟩:=vals2 r;exact max_two_ints (I.ok.hd hc) λh' tk k=>#[_,H,I.kept k,?_,q]
 by_cases hj:j >i;rw[aj hj,aj hj];show#[_,rfl];rw[ai hj,ai hj];show#[_,rfl]
def nC (hc:X.calm=true):cE X (.builtin "min") (λxs H Q=>bH λi j=>xs= [.int i, .int j] /\ Q (.int (if j<i then j else i)) H):=by
 intro aa s σ H xs us Q I r h;let⟨i,j,rfl,q⟩:=h;let⟨u,w',rfl,⟨t,rfl⟩,⟨t',rfl⟩⟩:=vals2 r;exact min_two_ints (I.ok.hd hc) λh' tk k=>#[_,H,I.kept k,?_,q]
 by_cases hj:j<i;rw[aj hj,aj hj];show#[_,rfl];rw[ai hj,ai hj];show#[_,rfl]
def nE:cE X (.type "int") (λxs H Q=>(∃i,xs= [.int i] /\ Q (.int i) H) \/ ∃k,xs= [.bl k] /\ Q (.int (if k then 1 else 0)) H):=by
 intro aa s σ H xs us Q I r h;rcases h with⟨i,rfl,q⟩ | ⟨k,rfl,q⟩
 let⟨u,rfl,t,rfl⟩:=vals1 r;show call_int_int #[.int i,H,I,#[_,rfl],q];let⟨u,rfl,r1⟩:=vals1 r;cases r1;show call_int_bool #[.int (if k then 1 else 0),H,I.tok _,#[_,rfl],q]
structure wv (h:Heap)(x dx C:Addr)(mA:Str ->Option Value):Prop where
 obj:h.get? x=some (PySem.W.instObj C dx)
 ns:h.Ns1 dx mA
 ne:dx≠x
def m7 {h:Heap}(n:h.Ns1 dx mA): ∃od,h.get? dx=some od /\ ∀name,W.lookIn name od=some (mA name):=by
 let⟨o,es,ep,ho,hd,hk,_,hm⟩:=n;exact#[o,ho,λname=> ?_];have e:=hm name;unfold nsFind findBy at e;rw[<- Array.find?_toList] at e;unfold W.lookIn;rw[hd];dsimp only;split;rename_i y q;rw[q] at e;show congrArg some e;rename_i q;rw[q] at e;have a:es.toList.any (·.refKey)=false:=by rw[List.any_eq_false];intro y hy;let⟨z,t,Ck⟩:=hk y (Array.mem_toList_iff.mp hy);simp[DictEntry.refKey,Ck]
 have a':¬es.toList.any (·.refKey)=true:=by rw[a];show aF
 rw[ai a'];show congrArg some e
theorem wv.look (I:wv h x dx C mA): ∃od,W.InstAt h x (W.instObj C dx) C (some od) /\ ∀name,W.lookIn name od=some (mA name):=
 let ⟨od,ho,hl⟩:=m7 I.ns
 #[od,#[I.obj,rfl,rfl,ho],hl]
def d3.some_of (r:d3 (some v) o): ∃u,o=some u /\ RelV v u:=by
 cases o with
 | none=>show(show False from r).elim
 | some u=>show#[u,rfl,r]
def su (bX:d4 P w H h)(e:H a=some (.ins C dx fs)): ∃mA,dB (wv h a dx C mA) (∀f,d3 (fs.lookup f) (mA f)) (PySem.Within mA (fs.map (·.1))) (fs.length<=1000) (H dx=some (.own a)):=by
 let⟨d,z,ne,ob,mA,n,r,q⟩:=(show bQ P w H h a (.ins C dx fs) from bX a _ e)
 show#[mA,#[ob,n,ne],r,q,z,d]
structure CZ (K:PySem.W.Frag)(C:Addr):Prop where
 pg:PySem.W.plainGet K C Str.empty=true
 hd:PySem.W.hasDictIn K C=true
 po:PySem.W.plainOver K C=true
 sa:PySem.W.findIn K (.ref C) "__setattr__" =some (some (.builtin "object.__setattr__"))
theorem CZ.get {K:Fp}{C:Fm}(c:CZ K C)(f:Str):W.plainGet K C f=true:=c.pg
section
variable {X:Cx}{aa:yr (Fm×Obj)}{σ:St}{H:Hp}{s:yu}{A:Around}{E:yt ->yu ->Prop}{Q:yt ->yu ->Prop}{c:yt}{b:Bool}
inductive eV (K:PySem.W.Frag)(H:Hp):V ->Value ->Prop where
 | dy:eV K H .dy (.type "NoneType")
 | bl (x:Bool):eV K H (.bl x) (.type "bool")
 | int (i:Int):eV K H (.int i) (.type "int")
 | str (x:Str):eV K H (.str x) (.type "str")
 | ux (x:UInt64):eV K H (.ux x) (.type "float")
 | lst {a:Addr} {xs:List V} (e:H a=some (.lst xs)):eV K H (.ref a) (.type "list")
 | kc {a:Addr} {o:Obj} {xs:List V} (e:H a=some (.kc o (.lst xs))):eV K H (.ref a) (.type "list")
 | tup {a:Addr} {xs:List V} (e:H a=some (.tup xs)):eV K H (.ref a) (.type "tuple")
 | dK {a:Addr} {kvs:List (bM×V)} (e:H a=some (.dK kvs)):eV K H (.ref a) (.type "dict")
 | dT {a:Addr} {kvs:List (List bM×V)} (e:H a=some (.dT kvs)):eV K H (.ref a) (.type "dict")
 | ins {a C dx:Addr} {fs:List (Str×V)} (e:H a=some (.ins C dx fs)) (cl:CZ K C) (ha:PySem.W.findIn K (.ref C) "__class__" =some (some (.builtin "object.__class__"))) (hn:PySem.W.specialIn K (.builtin "object.__class__") "__get__" =some (some (.builtin "getset_descriptor.__get__"))) (DM:PySem.W.takesIn K (.builtin "object.__class__")=some true) (hm:PySem.W.mroIn K C (.type "object")=some true):eV K H (.ref a) (.ref C)
def nh (I:Inv X aa σ H s)(rx:RelV x u)(ty:eV X.K H x t)(e:W.kitOne X.K t c=some b)(h: ∀tk,Q (.bool b) {s with toks:=tk}): wpAny (model X.prog X.w) A (call (.builtin "isinstance") [u,c]) Q E s:=by
 cases ty with
 | dy=>cases (show u=Value.none from rx);show a_ W.kitx_none I.gD True.intro e (λz=>nomatch z) h
 | bl y=>cases (show u=Value.bool y from rx);show a_ W.kitx_bool I.gD True.intro e (λz=>nomatch z) h
 | int i=>let⟨t,q⟩:=(show ∃t,u=Value.int i t from rx);cases q;show a_ W.kitx_int I.gD True.intro e (λz=>nomatch z) h
 | str y=>let⟨t,q⟩:=(show ∃t,u=Value.str y t from rx);cases q;show a_ W.kitx_str I.gD True.intro e (λz=>nomatch z) h
 | ux y=>let⟨t,q⟩:=(show ∃t,u=Value.float y t from rx);cases q;show a_ W.kitx_float I.gD True.intro e (λz=>nomatch z) h
 | @lst a xs ea=>
  cases (show u=Value.ref a from rx);let⟨_,_,n,_,h1⟩:=(show bQ X.prog X.w H s.heap a (.lst xs) from I.bX a _ ea)
  show a_ W.kitx_list I.gD #[_,h1,rfl] e (λz=>nomatch z) h
 | @kc a ob xs ea=>
  cases (show u=Value.ref a from rx);let⟨_,_,_,n,_,h1⟩:=(show bQ X.prog X.w H s.heap a (.kc ob (.lst xs)) from I.bX a _ ea)
  show a_ W.kitx_list I.gD #[_,h1,rfl] e (λz=>nomatch z) h
 | @tup a xs ea=>
  cases (show u=Value.ref a from rx);let⟨_,_,_,p⟩:=(show bQ X.prog X.w H s.heap a (.tup xs) from I.bX a _ ea)
  let⟨o,h1,h2,_⟩:=p;show a_ W.kitx_tuple I.gD #[o,h1,h2] e (λz=>nomatch z) h
 | @dK a kvs ea=>
  cases (show u=Value.ref a from rx);let⟨_,_,vs,_,p⟩:=(show bQ X.prog X.w H s.heap a (.dK kvs) from I.bX a _ ea)
  let⟨o,es,ep,h1,h2,_⟩:=p;show a_ W.kitx_dict I.gD #[o,h1,h2.1] e (λz=>nomatch z) h
 | @dT a kvs ea=>
  cases (show u=Value.ref a from rx);let⟨_,_,xs,_,o,es,ep,h1,h2,_⟩:=(show bQ X.prog X.w H s.heap a (.dT kvs) from I.bX a _ ea)
  show a_ W.kitx_dict I.gD #[o,h1,h2.1] e (λz=>nomatch z) h
 | @ins a C dx fs ea cl ha hn DM hm=>cases (show u=Value.ref a from rx);let⟨mA,O,_⟩:=su I.bX ea;let⟨od,J,_⟩:=O.look;show a_ (W.kitx_own (cl.get _) cl.hd ha hn DM hm) I.gD J e (λz=>nomatch z) h
end
structure cU (k:Nat)(A:Around):Prop where
 hd:A.handled=none
 dp:A.depth+3*k+5<recursionLimit
 un:A.units+16*k+200<cLine
theorem cU.mono (r:cU k A)(h:j<=k):cU j A:=#[r.hd,by have:=r.dp;lia,by have:=r.un;lia]
theorem cU.deeper (r:cU (k+1) A)(env:Env):cU k (A.deeper env):=#[r.hd,by have:=r.dp;change A.depth+1+3*k+5<_;lia,by have:=r.un;change A.units+3+16*k+200<_;lia]
def cU.depth (r:cU k A):A.depth<recursionLimit:=by have:=r.dp;lia
def cU.units (r:cU k A):A.units+64<cLine:=by have:=r.un;lia
def u0:TA:=λ_ H Q=>Q [] H
def oh (ta:TE)(tr:TA):TA:=λσ H Q=>ta σ H λx H1=>tr σ H1 λxs H2=>Q (x::xs) H2
section
variable {X:Cx}{e:Expr}{es:yr Expr}{te:TE}{t:TA}{pos:Pos}
theorem aw:PA X [] u0:=λ_ _ _ _ H Q I h=>Calls.spliced_nil #[[],H,I, .nil,h]
def ag (ha:PE X e te)(hr:PA X es t)(hs:starEach (e::es) X.env=(false,eval e X.env)::starEach es X.env:=by rfl):PA X (e::es) (oh te t):=by intro pos aa s σ H Q I h;rw[hs];change wpAny _ _ (spliced ((false,eval e X.env)::backTo pos (starEach es X.env))) _ _ s;exact Calls.spliced_cons (bP (ha aa s σ H _ I h) λu s1 ⟨x,H1,I1,r1,q1⟩=> ?_);show bP (hr pos aa s1 σ H1 _ I1 q1) λus s2 ⟨xs,H2,I2,r2,q2⟩=>#[x::xs,H2,I2, .cons r1 r2,q2]
def xo (t:TA):TE:=λσ H Q=>t σ H λxs H1=>xs.length<=sizeLine /\ ∀p,H1 p=none ->Q (.ref p) (b8 H1 p (.tup xs))
def xu (t:TA):TE:=λσ H Q=>t σ H λxs H1=>xs.length<=sizeLine /\ ∀p,H1 p=none ->Q (.ref p) (b8 H1 p (.lst xs))
def bS {x1}(h:PA X es t):PE X (.Tuple es x1 pos) (xo t):=by intro aa s σ H Q I hq;exact wpAny_Tuple_spliced (bP (h pos aa s σ H _ I hq) λus s1 ⟨xs,H1,I1,r,z,q⟩=>#[by rw[<- r.length];show z,?_]);have hf:H1 s1.heap.objs.size=none:=I1.bX.fresh (am _);exact#[.ref s1.heap.objs.size,b8 H1 s1.heap.objs.size (.tup xs),I1.laid (t':=s1.toks) (λb u e=>ay _ e) (am _) ?_,rfl,q _ hf];show#[z,us,r,#[_,a5 _ rfl,rfl,_,rfl,rfl]]
def c9 (h:PA X es t):PE X (.List es pos) (xu t):=by intro aa s σ H Q I hq;exact wpAny_List_spliced (bP (h pos aa s σ H _ I hq) λus s1 ⟨xs,H1,I1,r,z,q⟩=>#[by rw[<- r.length];show z,?_]);have hf:H1 s1.heap.objs.size=none:=I1.bX.fresh (am _);exact#[.ref s1.heap.objs.size,b8 H1 s1.heap.objs.size (.lst xs),I1.laid (t':=s1.toks) (λb u e=>ay _ e) (am _) ?_,rfl,q _ hf];show#[z,us,0,r,a5 _ rfl]
end
abbrev Sp:=yr V ->Hp ->VK ->XK ->Prop
abbrev qu:=yr Env ->Hp ->yu ->XK ->yt ->yu ->Prop
structure sV (P:Program)(w:World)(K:PySem.W.Frag)(mg:Str ->Option Value)(base:Heap)(A:Around)(outer:List Env)(s:Shared)(H:Hp):Prop where
 frames:A.frames=some outer
 mod:Mod K mg base
 bs: ∀b o,base.get? b=some o ->s.heap.get? b=some o /\ H b=none
 sI:base.objs.size<=s.heap.objs.size
 fY:s.heap.FunFrames base outer
 wR: ∀b∈pU outer,H b=none
 bX:d4 P w H s.heap
 bare:AllBare s.gens
def CE (outer:yr Env)(P:Program)(w:World)(H:Hp)(s:yu)(Q:VK)(u:yt)(s':yu):Prop:=bH λv H'=>gW (s'.os=s.os) (AllBare s'.gens) (Un (pU outer) [] H H' s.heap s'.heap) (d4 P w H' s'.heap) (RelV v u) (Q v H')
def CR (CX:qu)(outer:yr Env)(P:Program)(w:World)(H:Hp)(s:yu)(Q:VK)(E:XK)(r:Result)(s':yu):Prop:=
 match r with
 | .ok (.ret u)=>CE outer P w H s Q u s'
 | .ok _=>False
 | .error e=>CX outer H s E e s'
structure cz (P:Program)(w:World)(K:PySem.W.Frag)(mg:Str ->Option Value)(base:Heap)(CX:qu)(k:Nat)(f:Addr)(fd:FuncData)(ps:List Str)(sp:Sp):Prop where
 len: ∀vs H Q E,sp vs H Q E ->vs.length=ps.length
 run: ∀ (A:Around) (outer:List Env) (s:Shared) (H:Hp) (args:Args) (us:List Value) (vs:List V) (Q:VK) (E:XK),cU k A ->sV P w K mg base A outer s H ->BindsTo s fd args (ps.zip us) ->bo vs us ->sp vs H Q E ->codeAny (model P w) A (.call (.ref f) args) (CR CX outer P w H s Q E) s
theorem cz.imp {K:Fp}(F:cz P w K mg base CX k f fd ps sp)(h: ∀vs H Q E,Dp vs H Q E ->sp vs H Q E):cz P w K mg base CX k f fd ps Dp:=#[λvs H Q E q=>F.len vs H Q E (h _ _ _ _ q),λA outer s H args us vs Q E hr he hb hv hs=>F.run A outer s H args us vs Q E hr he hb hv (h _ _ _ _ hs)]
theorem Inv.CI {σ:St}(I:Inv X aa σ H s):sV X.prog X.w X.K X.mg X.base X.A X.stack s H:=#[I.ok.frames,I.ok.mod,I.bs,a0 I.ok.sI I.sz,I.stack,I.k7,I.bX,I.bare]
def Inv.after {σ:St}(I:Inv X aa σ H s)(h:CE X.stack X.prog X.w H s Q u s'):EP X aa σ Q u s':=by let⟨v,H',os,bare,un,bX,r,q⟩:=h;let⟨hh,g,d,t,EG⟩:=s';obtain rfl:EG=s.os:=os;show#[v,H',I.call (h':=hh) (g':=g) (d':=d) (t':=t) (ch:= []) un bX bare (λb z=>absurd z (by simp)),r,q]
def k5 (sp:Sp)(uB:yr V)(E:XK)(t:TA):TE:=λσ H Q=>t σ H λvs H1=>sp (vs++uB) H1 Q E
def Binds (K:Fp)(fd:FuncData)(ps:yr Str)(ds:yr yt):Prop:=∀ (s:yu) (us:yr yt),K.In s.heap ->(us++ds).length=ps.length ->BindsTo s fd #[us,[]] (ps.zip (us++ds))
theorem Binds.all {K:Fp}(h: ∀us:yr yt,us.length=ps.length ->bindArgs fd #[us,[]]=pure (ps.zip us)):Binds K fd ps []:=λs us _ hl=>by rw[List.append_nil] at hl ⊢;show .of_eq (h us hl)
def kQ (CX:qu)(X:Cx)(E:XK):Prop:= ∀ (aa:yr (Fm×Obj)) (σ:St) (H:Hp) (s:yu) (e:yt) (s':yu),Inv X aa σ H s ->CX X.stack H s E e s' ->X.xe e s'
def u5 {σ:St}(F:cz X.prog X.w X.K X.mg X.base CX k f fd ps sp)(hr:cU k X.A)(hb:Binds X.K fd ps ds)(hd:bo uB ds)(hx:kQ CX X E)(I:Inv X aa σ H s)(r:bo vs us)(h:sp (vs++uB) H Q E):wpAny (model X.prog X.w) X.A (call (.ref f) us) (EP X aa σ Q) X.xe s:=by
 have r2:bo (vs++uB) (us++ds):=r.append hd;have hl:(us++ds).length=ps.length:=by rw[<- r2.length];show F.len _ _ _ _ h
 exact wpAny_call (codeAny_mono (F.run X.A X.stack s H #[us,[]] (us++ds) (vs++uB) Q E hr I.CI (hb s us I.gD hl) r2 h) λr s' hq=> ?_);cases r with
 | error e=>show hx aa σ H s e s' I hq
 | ok fl=>
  cases fl with
  | ret u=>show I.after hq
  | next=>show False.elim hq
  | brk=>show False.elim hq
  | cont=>show False.elim hq
def rK {p pos:Pos}(F:cz X.prog X.w X.K X.mg X.base CX k f fd ps sp)(hr:cU k X.A)(hg:Gl X x)(hm:X.mg x=some (.ref f))(hk:W.keepIn X.K (.ref f)=true)(hb:Binds X.K fd ps ds)(hd:bo uB ds)(hx:kQ CX X E)(ha:PA X (e::es) t)(vW:(x==("__debug__" :Str))=false:=by decide)(he:starEach (e::es) X.env=(false,eval e X.env)::starEach es X.env:=by rfl)(uq:(backTo pos (starEach es X.env)).any (·.1)=false:=by rfl): PE X (.Call (.Name x p) (e::es) [] pos) (k5 sp uB E t):=by intro aa s σ H Q I h;exact wpAny_Call_Name_kw (rZ I hg hm ?_ vW);exact W.callWith_K (h₀:=X.base) I.ok.mod.BH hk (bP (ha pos aa s σ H _ I h) λus s1 ⟨vs,H1,I1,r,q⟩=>#[I1.gD,?_]) he uq;show u5 F hr hb hd hx I1 r q
structure c7 (N P:List Str)(sc:Scope):Prop where
 kind:sc.kind= .function
 co:sc.isCoroutine=false
 gen:sc.isGenerator=false
 nd:N.Nodup
 pre:N.take P.length=P
 par: ∀x∈P,sc.names.lookup x=some .local \/ sc.names.lookup x=some .cell
 vt: ∀y∈sc.names,y.2≠ .free
theorem gR {kindOf:Str ->BP NameKind}{x:Str}: ∀ {binds:yr (Str×yt)} {m:Str ->BP yt},(∀v,(x,v)∉binds) ->bindL kindOf binds m x=m x
 | [],_,_=>rfl
 | (n,v)::r,m,h=>by
  unfold bindL;rw[gR λw hw=>h w (List.mem_cons_of_mem _ hw)];split;have:x≠n:=by rintro rfl;show h v List.mem_cons_self
  simp[this];rfl
theorem gT {kindOf:Str ->BP NameKind}{x:Str}: ∀ {binds:yr (Str×yt)} {m:Str ->BP yt},(∀v,(x,v)∉binds) ->bindC kindOf binds m x=m x
 | [],_,_=>rfl
 | (n,v)::r,m,h=>by
  unfold bindC;rw[gT λw hw=>h w (List.mem_cons_of_mem _ hw)];split;rfl;have:x≠n:=by rintro rfl;show h v List.mem_cons_self
  simp[this]
theorem gS {kindOf:Str ->BP NameKind}{x:Str}{v:yt}: ∀ {P:yr Str} {vs:yr yt} {i:Nat} {m:Str ->BP yt},P.Nodup ->P[i]? =some x ->vs[i]? =some v ->kindOf x=some .local ->bindL kindOf (P.zip vs) m x=some v
 | [],_,_,_,_,h,_,_=>by simp at h
 | _::_,[],_,_,_,_,h,_=>by simp at h
 | p::P,w::vs,0,m,nd,h1,h2,hk=>by simp at h1 h2;subst h1;subst h2;change bindL kindOf ((p,w)::P.zip vs) m p=_;unfold bindL;rw[gR λv hv=>(List.nodup_cons.mp nd).1 (List.of_mem_zip hv).1,aj hk];simp
 | p::P,w::vs,i+1,m,nd,h1,h2,hk=>by change bindL kindOf ((p,w)::P.zip vs) m x=_;unfold bindL;show gS (i:=i) (List.nodup_cons.mp nd).2 ⇑h1 ⇑h2 hk
theorem gU {kindOf:Str ->BP NameKind}{x:Str}{v:yt}: ∀ {P:yr Str} {vs:yr yt} {i:Nat} {m:Str ->BP yt},P.Nodup ->P[i]? =some x ->vs[i]? =some v ->kindOf x≠some .local ->bindC kindOf (P.zip vs) m x=some v
 | [],_,_,_,_,h,_,_=>by simp at h
 | _::_,[],_,_,_,_,h,_=>by simp at h
 | p::P,w::vs,0,m,nd,h1,h2,hk=>by simp at h1 h2;subst h1;subst h2;change bindC kindOf ((p,w)::P.zip vs) m p=_;unfold bindC;rw[gT λv hv=>(List.nodup_cons.mp nd).1 (List.of_mem_zip hv).1,ai hk];simp
 | p::P,w::vs,i+1,m,nd,h1,h2,hk=>by change bindC kindOf ((p,w)::P.zip vs) m x=_;unfold bindC;show gU (i:=i) (List.nodup_cons.mp nd).2 ⇑h1 ⇑h2 hk
def start (N:yr Str)(vs:yr V):St:=vs.map some++List.replicate (N.length - vs.length) none
def fZ (CX:qu)(P:Program)(w:World)(K:Fp)(mg:Str ->BP yt)(base:Heap)(N:yr Str)(qual:Str)(scope:Scope)(f:Fm)(cd:yt)(A:Around)(outer:yr Env)(s:yu)(H:Hp)(E:XK):Cx where
 prog:=P
 w:=w
 K:=K
 mg:=mg
 base:=base
 A:=A.deeper (envOfC qual scope s.heap.objs.size f cd)
 N:=N
 s₀:=s
 H₀:=H
 env:=envOfC qual scope s.heap.objs.size f cd
 outer:=outer
 stack:=envOfC qual scope s.heap.objs.size f cd::outer
 ex:= []
 calm:=true
 fn:=λ_=>true
 pn:= []
 xe:=λe s'=>wpAny (model P w) (A.deeper (envOfC qual scope s.heap.objs.size f cd)) (leaving (envOfC qual scope s.heap.objs.size f cd) e) (λ_ Bj=>CX outer H s E e Bj) (λe' Bj=>CX outer H s E e' Bj) s'
def jW {sc:Scope}(h:sc.names.lookup x=some .cell): ∃c,(cellsFrom n sc.names []).lookup x=some c:=by have q:=W.cellsFrom_some sc.names n [] (.inl h);show Option.isSome_iff_exists.mp q
def ni {K:Fp}(S:c7 N ps scope)(hd:A.handled=none)(e0:sV P w K mg base A outer s H)(hl:vs.length=ps.length)(r:bo vs us)(x:InCallC s s.heap.objs.size (bindL (envOfC qual scope s.heap.objs.size f cd).kindOf (ps.zip us) λ_=>none) (cellsFrom (s.heap.objs.size+1) scope.names []) (bindC (envOfC qual scope s.heap.objs.size f cd).kindOf (ps.zip us) λ_=>none) s1): Inv (fZ CX P w K mg base N qual scope f cd A outer s H E) [] (start N vs) H s1:=by
 have uq:ps.length<=N.length:=by have:=congrArg List.length S.pre;rw[List.length_take] at this;lia
 let⟨h1,tk,rfl,hk⟩:=x.done;have yf: ∀b:Fm,b∉(fZ CX P w K mg base N qual scope f cd A outer s H E).ex:=λb z=>absurd (show b∈([]:yr Fm) from z) (by simp);exact#[#[e0.mod,S.kind,rfl,rfl,am _,λy z c h1 h2=> ?_,λy hy=> ?_,λy c _ h=> ?_,λ_=>hd,Around.frames_deeper e0.frames, .inr #[rfl,rfl],λb z=>absurd z (yf b),e0.bs,e0.sI,λb _ _=>yf b,λb z=>absurd z (yf b),e0.fY,e0.wR],
  rfl,e0.bare,Un.kept hk,#[_,x.toInCall.ns,λi y v h1 h2 h3=> ?_],λy c h=>#[_,x.cell y c h],e0.bX.fresh (am _),λy c h=> ?_,λp hp=>absurd (show p∈([]:yr (Fm×Obj)) from hp) (by simp),e0.bX.kept hk,?_]
 show name_of_addr x.apart (bC h1) (bC h2);have hy:scope.names.lookup y=some .cell \/ scope.names.lookup y=some .free:=hy;obtain hy | hy:=hy;show jW hy;show absurd rfl (S.vt _ (bC hy));show Nat.le_of_lt (x.above y c (bC h));have hi:i<vs.length:=by unfold start at h2;by_cases hi:i<vs.length;show hi;rw[aB ⇑hi] at h2;rw[List.getElem?_replicate] at h2;split at h2<;>cases h2
 have ha:vs[i]? =some v:=by
  unfold start at h2;rw[aH ⇑hi,aP] at h2;cases e:vs[i]? with
  | none=>rw[e] at h2;cases h2
  | some a=>rw[e] at h2;cases h2;rfl
 let⟨u,hu,rv⟩:=r.get ha;have hp:ps[i]? =some y:=by rw[<- S.pre,List.getElem?_take_of_lt ∅];show h1
 have Dy:ps.Nodup:=by rw[<- S.pre];show S.nd.sublist (List.take_sublist _ _)
 exact#[u,rv,?_];obtain k | k:=S.par y (List.mem_of_getElem? hp);show .inl #[k,gS Dy hp hu k];let⟨c,e⟩:=jW (n:=s.heap.objs.size+1) k;exact .inr #[.inl k,c,e,?_];have q:=x.cell y c e;rw[gU Dy hp hu (by change scope.names.lookup y≠_;rw[k];decide)] at q;show q;show e0.bX.fresh (Nat.le_of_lt (x.above y c (bC h)));unfold start;change _=N.length;rw[aK,av,List.length_replicate];lia
def yY {K:Fp}{dV kV eB pm cdv ct oc:yt}(lk:K.lookup f=some #[oc,od, .func (W.fnOf name qual params body scope dV kV eB pm an cdv ct),oR])(nS:W.codeIn K cdv qual=true)(S:c7 N ps scope)(len: ∀vs H Q E,sp vs H Q E ->vs.length=ps.length)(eo: ∀ (A:Around) (outer:yr Env) (s:yu) (H:Hp) (vs:yr V) (Q:VK) (E:XK),cU k (A.deeper (envOfC qual scope s.heap.objs.size f cdv)) ->sp vs H Q E ->∃t,kR (fZ CX P w K mg base N qual scope f cdv A outer s H E) body t /\ t {nx:=λ_ H'=>Q .dy H',rt:=Q} (start N vs) H): cz P w K mg base CX (k+1) f (W.fnOf name qual params body scope dV kV eB pm an cdv ct) ps sp:=by
 exact#[len,λA outer s H args us vs Q E hr e0 hb r pJ=> ?_];have hl:=len _ _ _ _ pJ;have KX:K.In s.heap:=e0.mod.BH.keeps λb o e=>(e0.bs b o e).1;have lim:s.heap.NoLimit:=e0.mod.nolimit.keeps λb o e=>(e0.bs b o e).1;have yM: ∀y∈ps.zip us,scope.names.lookup y.1=some .local \/ (scope.names.lookup y.1=some .cell /\ ((cellsFrom (s.heap.objs.size+1) scope.names []).lookup y.1).isSome=true):=λ⟨n,v⟩ hy=>by obtain q | q:=S.par n (List.of_mem_zip hy).1;show .inl q;show .inr #[q,W.cellsFrom_some _ _ _ (.inl q)]
 exact codeAny_call_function hr.depth (KX _ _ lk) rfl S.co S.gen rfl (W.codeRec_of KX nS) (hb _ _ _ _ ?_);exact wpAny_newFunctionEnv_cells S.kind yM λenv he s1 x=> ?_;subst he;exact#[lim.keeps x.toInCall.keep,codeAny_func ?_];let⟨t,ht,hq⟩:=eo A outer s H vs Q E (hr.deeper _) pJ;have I:Inv (fZ CX P w K mg base N qual scope f cdv A outer s H E) [] (start N vs) H s1:=ni S hr.hd e0 hl r x;exact wpAny_mono (ht [] s1 (start N vs) H _ I hq) (λfl s' hs=> ?_) λe s' hs=>hs;have fin: ∀ {σ':St} {H':Hp} {v:V} {u:yt},Inv (fZ CX P w K mg base N qual scope f cdv A outer s H E) [] σ' H' s' ->RelV v u ->Q v H' ->CE outer P w H s Q u s':=λ{σ' H' v u} J rv q=>#[v,H',J.os,J.bare,J.base,J.bX,rv,q]
 cases fl with
 | ret u=>let⟨v,σ',H',J,rv,q⟩:=hs;show fin J rv q
 | next=>let⟨σ',H',J,q⟩:=hs;show fin (v:=V.dy) (u:=Value.none) J rfl q
 | brk=>let⟨_,_,_,q⟩:=hs;show False.elim q
 | cont=>let⟨_,_,_,q⟩:=hs;show False.elim q
section
variable {X:Cx}{x:Str}{p pos:Pos}{e:Expr}{es:yr Expr}{t:TA}{id T:String}{r:yr V ->Hp ->VK ->Prop}
def A_ (r:yr V ->Hp ->VK ->Prop)(t:TA):TE:=λσ H Q=>t σ H λvs H1=>r vs H1 Q
def bJ (hc:cE X (.builtin id) r)(hg:Gl X x)(hm:X.mg x=none)(hv:bootBuiltins x=some (.builtin id))(ha:PA X (e::es) t)(hn:x≠ "__name__" :=by decide)(vW:(x==("__debug__" :Str))=false:=by decide) (he:starEach (e::es) X.env=(false,eval e X.env)::starEach es X.env:=by rfl) (uq:(backTo pos (starEach es X.env)).any (·.1)=false:=by rfl):PE X (.Call (.Name x p) (e::es) [] pos) (A_ r t):=by intro aa s σ H Q I h;exact wpAny_Call_Name_kw (fT I hg hm hv ?_ hn vW);show PyProof.Rows.callWith_builtin1 (bP (ha pos aa s σ H _ I h) λus s1 ⟨vs,H1,I1,r1,q1⟩=>hc aa s1 σ H1 vs us Q I1 r1 q1) he uq
def cx (hc:cE X (.type T) r)(hg:Gl X x)(hm:X.mg x=none)(hv:bootBuiltins x=some (.type T))(ha:PA X (e::es) t)(hn:x≠ "__name__" :=by decide)(vW:(x==("__debug__" :Str))=false:=by decide) (he:starEach (e::es) X.env=(false,eval e X.env)::starEach es X.env:=by rfl) (uq:(backTo pos (starEach es X.env)).any (·.1)=false:=by rfl):PE X (.Call (.Name x p) (e::es) [] pos) (A_ r t):=by intro aa s σ H Q I h;exact wpAny_Call_Name_kw (fT I hg hm hv ?_ hn vW);show PyProof.Rows.callWith_type1 (bP (ha pos aa s σ H _ I h) λus s1 ⟨vs,H1,I1,r1,q1⟩=>hc aa s1 σ H1 vs us Q I1 r1 q1) he uq
end
end L2
namespace HT
open PySem PyProof.Rows
def iQ (n d:Nat):BP Int ->Nat
 | none=>d
 | some v=>if v<0 then(v+(n:Int)).toNat else min v.toNat n
end HT
namespace L2
open PySem PySem.Spec PyProof.Rows
abbrev TO:=St ->Hp ->(BP Int ->Hp ->Prop) ->Prop
def PO (X:Cx)(e:BP Expr)(t:TO):Prop:=∀ (aa:yr (Fm×Obj)) (s:yu) (σ:St) (H:Hp) (Q:BP Int ->Hp ->Prop),Inv X aa σ H s ->t σ H Q ->wpAny (model X.prog X.w) X.A (evalPart e X.env) (λu s'=>bH λo H'=>b0 (Inv X aa σ H' s') (IsPart u o) (Q o H')) X.xe s
def qZ:TO:=λ_ H Q=>Q none H
def xq (t:TE):TO:=λσ H Q=>t σ H λx H1=> ∃i,x= .int i /\ Q (some i) H1
section
variable {X:Cx}{e:Expr}{te:TE}{lo hi:BP Expr}{tl th:TO}{pos p2:Pos}
def rG:PO X none qZ:=by intro aa s σ H Q I h;rw[evalPart_none];show aS #[none,H,I, .none,h]
def rF (h:PE X e te):PO X (some e) (xq te):=by intro aa s σ H Q I hw;rw[evalPart_some];exact bP (h aa s σ H _ I hw) λu s1 ⟨x,H1,I1,r1,q1⟩=> ?_;let⟨i,rfl,q⟩:=q1;let⟨t,rfl⟩:=r1;show#[some i,H1,I1, .int i t,q]
def Ek (X:Cx)(r:V ->BP Int ->BP Int ->Hp ->VK ->Prop):Prop:=∀ (aa:yr (Fm×Obj)) (s:yu) (σ:St) (H:Hp) (x:V) (v vl vu:yt) (lo hi:BP Int) (sl:Fm) (Q:VK),Inv X aa σ H s ->RelV x v ->s.heap.IsSliceOf sl vl vu .none ->IsPart vl lo ->IsPart vu hi ->r x lo hi H Q ->bH λT id=>b0 (typeLookup (.type T) "__getitem__" =pure (some (.builtin id))) (s.TypeIs v T) (wpAny (model X.prog X.w) X.A (getItem v (.ref sl)) (EP X aa σ Q) X.xe s)
def ED (r:V ->BP Int ->BP Int ->Hp ->VK ->Prop)(te:TE)(tl th:TO):TE:=λσ H Q=>te σ H λx H1=>tl σ H1 λl H2=>th σ H2 λu H3=>r x l u H3 Q
def oE (hr:Ek X r)(he:PE X e te)(hl:PO X lo tl)(hu:PO X hi th):PE X (.Subscript e (.Slice lo hi none p2) pos) (ED r te tl th):=by intro aa s σ H Q I h;exact Subscript_ (bP (he aa s σ H _ I h) λv s1 ⟨x,H1,I1,r1,q1⟩=> ?_);exact wpAny_Slice (bP (hl aa s1 σ H1 _ I1 q1) λvl s2 ⟨l,H2,I2,pl,q2⟩=>bP (hu aa s2 σ H2 _ I2 q2) λvu s3 ⟨u,H3,I3,pu,q3⟩=> ?_);rw[evalPart_none];exact aS ?_;have I4:Inv X aa σ H3 {s3 with heap:=s3.heap.push {cls:= .type "slice",data:= .fields (List.toArray [vl,vu, .none])}}:=I3.kept (t':=s3.toks) λb ob q=>ay _ q;let⟨T,id,hT,ht,hg⟩:=hr aa {s3 with heap:=s3.heap.push {cls:= .type "slice",data:= .fields (List.toArray [vl,vu, .none])}} σ H3 x v vl vu l u s3.heap.objs.size Q I4 r1 (Heap.IsSliceOf.new ..) pl pu q3;change wpAny (model X.prog X.w) X.A (subscriptTail e (.Slice lo hi none p2) v (.ref s3.heap.objs.size)) (EP X aa σ Q) X.xe {s3 with heap:=s3.heap.push {cls:= .type "slice",data:= .fields (List.toArray [vl,vu, .none])}};show tail_any (ops:= [.ref s3.heap.objs.size,v]) ht hT hg (by with_unfolding_all rfl)
def nv (xs:yr V)(lo hi:BP Int):yr V:=(xs.drop (HT.iQ xs.length 0 lo)).take (HT.iQ xs.length xs.length hi - HT.iQ xs.length 0 lo)
def jS (xs:yr V)(lo hi:BP Int):(nv xs lo hi).length<=xs.length:=by unfold nv;rw[List.length_take,List.length_drop];lia
end
def iB (n:Nat)(i:Int):BP Nat:=if 0<=i then(if i<n then some i.toNat else none) else if -(n:Int) <=i then some (i+n).toNat else none
def f9 {α:Type}(xs:yr α)(i:Int):BP α:=(iB xs.length i).bind λj=>xs[j]?
def lT (h:iB n i=some j): seqIndex? i n=some j /\ j<n /\ -(n:Int) <=i /\ i<n:=by unfold iB at h;by_cases h0:0<=i;rw[aj h0] at h;by_cases h1:i<n;rw[aj h1] at h;have e:i.toNat=j:=aE h;show#[by rw[seqIndex_of h0 h1,e], ∅, ∅,h1];rw[ai h1] at h;cases h;rw[ai h0] at h;by_cases h1: -(n:Int) <=i;rw[aj h1] at h;have e:(i+n).toNat=j:=aE h;show#[by rw[seqIndex_neg ∅ h1,e], ∅,h1, ∅];rw[ai h1] at h;cases h
def iK {v:α}(h:f9 xs i=some v): ∃j,dB (seqIndex? i xs.length=some j) (xs[j]? =some v) (j<xs.length) (-(xs.length:Int) <=i) (i<xs.length):=by
 unfold f9 at h;cases e:iB xs.length i with
 | none=>rw[e] at h;cases h
 | some j=>rw[e] at h;let⟨h1,h2,h3,h4⟩:=lT e;show#[j,h1,h,h2,h3,h4]
def eE {j:Nat}{v:α}(h:xs[j]? =some v):f9 xs (j:Int)=some v:=by
 have hj:j<xs.length:=(aG.mp h).1;have e:iB xs.length (j:Int)=some j:=by unfold iB;rw[aj ∅,aj ∅];simp
 unfold f9;rw[e];show h
def sQ (b:Expr):Prop:= ∀o i,subscripted b false o i=operate [o,i] (getItem o i)
def CT (X:Cx)(r:R2):Prop:=∀ (value slice:Expr) (aa:yr (Fm×Obj)) (s:yu) (σ:St) (H:Hp) (x y:V) (v u:yt) (Q:VK),Inv X aa σ H s ->RelV x v ->RelV y u ->r x y H Q ->subscripted slice false v u=operate [v,u] (getItem v u) ->wpAny (model X.prog X.w) X.A (subscriptTail value slice v u) (EP X aa σ Q) X.xe s
def Em (X:Cx)(id:String)(r:V ->yr V ->Hp ->VK ->Prop):Prop:=∀ (aa:yr (Fm×Obj)) (s:yu) (σ:St) (H:Hp) (x:V) (xs:yr V) (v:yt) (us:yr yt) (Q:VK),Inv X aa σ H s ->RelV x v ->bo xs us ->r x xs H Q ->wpAny (model X.prog X.w) X.A (call (.builtin id) (v::us)) (EP X aa σ Q) X.xe s
section
variable {X:Cx}{a b:Expr}{ta tb:TE}{pos:Pos}
def b7 (hr:CT X r)(ha:PE X a ta)(hb:PE X b tb)(hs:sQ b):PE X (.Subscript a b pos) (xr r ta tb):=by intro aa s σ H Q I h;show Subscript_ (wg ha hb I h λv u s2 x y H2 I2 rx ry q=>hr a b aa s2 σ H2 x y v u Q I2 rx ry q (hs _ _))
def u6 (K:Fp):R2:=λx y H Q=>d5 λp xs i v=>dB (x= .ref p) (y= .int i) (dD K H p xs) (f9 xs i=some v) (Q v H)
def xM (K:Fp):R2:=λx y H Q=>d5 λp xs i v=>dB (x= .ref p) (y= .int i) (eW K H p xs) (f9 xs i=some v) (Q v H)
def bK:CT X (u6 X.K):=by
 intro value slice aa s σ H x y v u Q I rx ry h hs;let⟨p,xs,i,z,rfl,rfl,hq,he,q⟩:=h;cases rx;let⟨t,rfl⟩:=ry;let⟨aU,r,pl,hz⟩:=I.list hq;let⟨j,h1,h2,h3,h4,h5⟩:=iK he;let⟨w,ew,hX⟩:=r.get h2;have hl:=r.length;have hn:=fR;have fin:EP X aa σ Q w s:=#[z,H,I,hX,q]
 by_cases h0:0<=i;have hj:i.toNat=j:=by rw[seqIndex_of h0 h5] at h1;show aE h1
 show item_listR pl.isList h0 ∅ (by rw[hj];simpa using ew) fin hs;have hj:(i+(aU.toArray.size:Int)).toNat=j:=by rw[seqIndex_neg ∅ h4] at h1;rw[aq, <- hl];show aE h1
 show subscriptTail_builtinR (x:=w) pl.isList.typeIs slot_list_getitem.lookup (wpAny_getItem_list_neg (Q:=λr s'=>r=w /\ EP X aa σ Q r s') pl.isList ∅ (by rw[aq] <;>lia) ∅ (by rw[hj];simpa using ew) #[rfl,fin]) hs
def eS:CT X (xM X.K):=by
 intro value slice aa s σ H x y v u Q I rx ry h hs;let⟨p,xs,i,z,rfl,rfl,hq,he,q⟩:=h;cases rx;let⟨t,rfl⟩:=ry;let⟨aU,r,pl,hz⟩:=I.tuple hq;let⟨j,h1,h2,h3,h4,h5⟩:=iK he;let⟨w,ew,hX⟩:=r.get h2;have hl:=r.length;have hn:=fR;have fin:EP X aa σ Q w s:=#[z,H,I,hX,q]
 show subscriptTail_builtinR (x:=w) pl.typeIs slot_tuple_getitem.lookup (getItem_tuple (j:=j) (Q:=λr s'=>r=w /\ EP X aa σ Q r s') pl ∅ ∅ (by rw[aq, <- hl];show h1) ⇑ew #[rfl,fin]) hs
def kG (aU:yr yt)(n j:Nat)(u:yt):Obj.mapSeq (·.setIfInBounds j u) {cls:= .type "list",data:= .seq aU.toArray n}= {cls:= .type "list",data:= .seq (aU.set j u).toArray n}:=by simp[Obj.mapSeq]
def Inv.lst {aa:yr (Fm×Obj)}{σ:St}{H:Hp}{s:yu}{p:Fm}{xs:yr V}(I:Inv X aa σ H s)(h:H p=some (.lst xs)): bH λ(aU:yr yt) (n:Nat)=>b0 (bo xs aU) (s.heap.get? p=some {cls:= .type "list",data:= .seq aU.toArray n}) (xs.length<=sizeLine):=by let⟨z,aU,n,r,e⟩:=I.bX p _ h;show#[aU,n,r,e,z]
def Inv.vC {σ:St}{aU its':yr yt}(I:Inv X aa σ H s)(h:H p=some (.lst xs))(ho:s.heap.get? p=some {cls:= .type "list",data:= .seq aU.toArray n})(hf:f {cls:= .type "list",data:= .seq aU.toArray n}= {cls:= .type "list",data:= .seq its'.toArray n'})(r:bo ys its')(hz:ys.length<=sizeLine)(t:Nat): Inv X aa σ (b8 H p (.lst ys)) {s with heap:=s.heap.update p f,toks:=t}:=by
 have e:(s.heap.update p f).get? p=some {cls:= .type "list",data:= .seq its'.toArray n'}:=by rw[Heap.get?_update_self f ho (by rw[hf] <;>rfl),hf]
 exact I.write (x:=p) (e:=p) (by rw[h];trivial) (.inl rfl) (λb u hb q=>(Heap.get?_update_other _ _ (bq hb)).trans q) #[_,e] ?_;show#[hz,its',n',r,e]
def t_:V ->V ->V ->Hp ->(Hp ->Prop) ->Prop:=λo i v H Q=>d5 λp xs k j=>dB (o= .ref p) (i= .int k) (H p=some (.lst xs)) (iB xs.length k=some j) (Q (b8 H p (.lst (xs.set j v))))
def cI:wt X t_:=by
 intro aa s σ H o i v ov iv u Q I ro ri rv h;let⟨p,xs,k,j,rfl,rfl,hp,hj,q⟩:=h;cases ro;let⟨t,rfl⟩:=ri;let⟨aU,n,r,ho,hz⟩:=I.lst hp;let⟨h1,h2,h3,h4⟩:=lT hj;have hl:=r.length;have hn:=fR;have I':Inv X aa σ (b8 H p (.lst (xs.set j v))) {s with heap:=s.heap.update p (Obj.mapSeq (·.setIfInBounds j u))}:=I.vC hp ho (kG aU n j u) (r.set rv j) (by rw[List.length_set];show hz) s.toks;by_cases h0:0<=k;have hk:k.toNat=j:=by rw[seqIndex_of h0 h4] at h1;show aE h1
 show W.ki_setAt ho h0 ∅ (by rw[aq, <- hl];show h4) (by rw[hk];show#[_,I',q]);have hk:(k+(aU.toArray.size:Int)).toNat=j:=by rw[seqIndex_neg ∅ h3] at h1;rw[aq, <- hl];show aE h1
 show W.ki_setBack ho ∅ (by rw[aq, <- hl];show h3) ∅ (by rw[hk];show#[_,I',q])
def hR (lo hi:BP Int)(n:Nat):(sliceBounds lo hi none n).1=((HT.iQ n 0 lo:Nat):Int) /\ (sliceBounds lo hi none n).2.1=((HT.iQ n n hi:Nat):Int) /\ (sliceBounds lo hi none n).2.2=1:=by
 exact#[?_,?_,rfl];cases lo with
 | none=>simp[sliceBounds,HT.iQ]
 | some i=>simp![sliceBounds,HT.iQ,Option.getD_none,show(1:Int) >0 by decide,bg];by_cases h:i<0;simp![h,bg] <;>lia;simp![h,aO] <;>lia
 cases hi with
 | none=>simp[sliceBounds,HT.iQ]
 | some i=>simp![sliceBounds,HT.iQ,Option.getD_none,show(1:Int) >0 by decide,bg];by_cases h:i<0;simp![h,bg] <;>lia;simp![h,aO] <;>lia
def gd (aU:yr yt)(lo hi:BP Int):slicePick aU.toArray lo hi none=((aU.drop (HT.iQ aU.length 0 lo)).take (HT.iQ aU.length aU.length hi - HT.iQ aU.length 0 lo)).toArray:=by let⟨h1,h2,h3⟩:=hR lo hi aU.toArray.size;unfold slicePick;rw[h1,h2,h3];simp![sliceRange_one,pick_run,aq] <;>rfl
def Bm (K:Fp):V ->BP Int ->BP Int ->Hp ->VK ->Prop:=λx lo hi H Q=>bH λa xs=>b0 (x= .ref a) (dD K H a xs) (∀p,H p=none ->Q (.ref p) (b8 H p (.lst (nv xs lo hi))))
def q_:Ek X (Bm X.K):=by intro aa s σ H x v vl vu lo hi sl Q I rx hs pl pu h;let⟨a,xs,rfl,hx,q⟩:=h;cases rx;let⟨aU,r,ht,hz⟩:=I.list hx;have dh:=r.length;exact#["list",_,slot_list_getitem.lookup,ht.isList.typeIs,?_];exact wpAny_getItem_list_slice ht.isList hs pl pu .none (by simp) ?_ (by rw[aq] <;>lia);rw[gd, <- dh];exact#[.ref s.heap.objs.size,_,I.laid (t':=s.toks) (o:= .lst (nv xs lo hi)) (λb ob q=>ay _ q) (am _) ?_,rfl,q _ (I.bX.fresh (am _))];show#[a0 (jS xs lo hi) hz,_,0,(r.drop (HT.iQ xs.length 0 lo)).take (HT.iQ xs.length xs.length hi - HT.iQ xs.length 0 lo),a5 _ rfl]
def iI:cE X (.builtin "len") (λxs H Q=>bH λp ys=>b0 (xs= [.ref p]) (dD X.K H p ys \/ eW X.K H p ys) (Q (.int ys.length) H)):=by intro aa s σ H xs us Q I r h;let⟨p,ys,rfl,hq,q⟩:=h;let⟨u,rfl,rx⟩:=vals1 r;cases rx;have hn:=fR;obtain hq | hq:=hq;let⟨aU,r',pl,hz⟩:=I.list hq;have dh:=r'.length;show Calls.call_len_list pl.isList (by simp![aq] <;>lia) #[.int ys.length,H,I.tok _,#[s.toks+1,by rw[aq,dh]],q];let⟨aU,r',pl,hz⟩:=I.tuple hq;have dh:=r'.length;show len_tuple pl (by simp![aq] <;>lia) #[.int ys.length,H,I.tok _,#[s.toks+1,by rw[aq,dh]],q]
def iH:cE X (.type "list") (λxs H Q=>bH λp ys=>b0 (xs= [.ref p]) (dD X.K H p ys \/ eW X.K H p ys) (∀l,H l=none ->Q (.ref l) (b8 H l (.lst ys)))):=by
 intro aa s σ H xs us Q I r h;let⟨p,ys,rfl,hq,q⟩:=h;let⟨u,rfl,rx⟩:=vals1 r;cases rx;have fin: ∀ (aU:yr yt),bo ys aU ->ys.length<=sizeLine -> ∀ (h':Heap) (c':Nat),(∀b o',s.heap.get? b=some o' ->h'.get? b=some o') ->h'.get? s.heap.objs.size=some {cls:= .type "list",dict:=none,data:= .seq aU.toArray c',slots:= #[]} ->EP X aa σ Q (.ref s.heap.objs.size) {s with heap:=h'}:=λaU r' hz h' c' kp e=>#[.ref s.heap.objs.size,_,I.laid (t':=s.toks) kp (am _) (show bQ X.prog X.w _ h' _ (.lst ys) from#[hz,aU,c',r',e]),rfl,q _ (I.bX.fresh (am _))]
 obtain hq | hq:=hq;let⟨aU,r',pl,hz⟩:=I.list hq;have dh:=r'.length;let⟨o,ho,hc,n,hd⟩:=pl.isList;show call_list_seq p (.inl rfl) ho hc hd (λh' c' kp e=>fin aU r' hz h' c' kp e) (by simp![aq] <;>lia);let⟨aU,r',pl,hz⟩:=I.tuple hq;have dh:=r'.length;let⟨o,ho,hc,n,hd⟩:=pl;show call_list_seq p (.inr rfl) ho hc hd (λh' c' kp e=>fin aU r' hz h' c' kp e) (by simp![aq] <;>lia)
def gm:cE X (.type "tuple") (λxs H Q=>bH λp ys=>xs= [.ref p] /\ ((dD X.K H p ys /\ ∀l,H l=none ->Q (.ref l) (b8 H l (.tup ys))) \/ (eW X.K H p ys /\ Q (.ref p) H))):=by
 intro aa s σ H xs us Q I r h;let⟨p,ys,rfl,h⟩:=h;let⟨u,rfl,rx⟩:=vals1 r;cases rx;rcases h with⟨hq,q⟩ | ⟨hq,q⟩
 let⟨aU,r',pl,hz⟩:=I.list hq;have dh:=r'.length;exact call_tuple_list pl.isList (λh' kp=> ?_) (by simp![aq] <;>lia);have I1:Inv X aa σ H {s with heap:=h'}:=I.kept (t':=s.toks) kp;have I2:Inv X aa σ (b8 H h'.objs.size (.tup ys)) {s with heap:=h'.push {cls:= .type "tuple",data:= .seq aU.toArray}}:=I1.laid (t':=s.toks) (λb o e=>ay _ e) (am _) (show bQ X.prog X.w _ _ _ (.tup ys) from#[hz,aU,r',dO.new _ _]);show#[.ref h'.objs.size,_,I2,rfl,q _ (I1.bX.fresh (am _))];let⟨aU,r',pl,hz⟩:=I.tuple hq;show call_tuple_same pl #[.ref p,H,I,rfl,q]
def A7 (K:Fp)(T:String)(x:V)(H:Hp):Prop:=match x with
 | .str _=>T= "str"
 | .int _=>T= "int"
 | .ref p=>(T= "list" /\ ∃xs,dD K H p xs) \/ (T= "tuple" /\ ∃o,b0 (K.lookup p=some o) (o.cls= .type "tuple") (o.dict=none)) \/(T= "dict" /\ ((∃kvs,H p=some (.dK kvs)) \/ ∃kvs,H p=some (.dT kvs))) \/ (T= "set" /\ ∃S n,H p=some (.set S n))
 | _=>False
def uS {σ:St}(I:Inv X aa σ H s)(r:RelV x v)(ty:A7 X.K T x H): s.TypeIs v T /\ ∀a,v= .ref a -> ∃ob,s.heap.get? a=some ob /\ ob.dict=none:=by
 cases x with
 | str z=>let⟨t,rfl⟩:=r;cases (show T= "str" from ty);show#[typeIs_str s z t,λ_ e=>nomatch e]
 | int i=>let⟨t,rfl⟩:=r;cases (show T= "int" from ty);show#[typeIs_int s i t,λ_ e=>nomatch e]
 | ref p =>
  cases r;rcases ty with⟨rfl,xs,hq⟩ | ⟨rfl,o,hk,hc,hd⟩ | ⟨rfl,hk⟩ | ⟨rfl,S,n,hk⟩
  let⟨aU,_,pl,_⟩:=I.list hq;exact#[pl.isList.typeIs,λa e=> ?_];cases e;let⟨o,n,e,c,hd,_⟩:=pl;show#[o,e,hd];exact#[#[o,I.gD p o hk,hc],λa e=> ?_];cases e;show#[o,I.gD _ o hk,hd];have z: ∃o,s.heap.get? p=some o /\ o.ExactDict:=by
   rcases hk with⟨kvs,hk⟩ | ⟨kvs,hk⟩
   let⟨_,_,_,_,o,_,_,e,ex,_⟩:=I.bX p _ hk;show#[o,e,ex];let⟨_,_,_,_,o,_,_,e,ex,_⟩:=I.bX p _ hk;show#[o,e,ex]
  let⟨o,e,ex⟩:=z;exact#[#[o,e,ex.1],λa e2=> ?_];cases e2;show#[o,e,ex.2.1];let⟨o,_,_,_,e,ex,_⟩:=I.bX p _ hk;exact#[#[o,e,ex.1],λa e2=> ?_];cases e2;show#[o,e,ex.2.1]
 | _=>show False.elim ty
def Dl (K:Fp)(T:String)(r:V ->yr V ->Hp ->VK ->Prop)(to:TE)(t:TA):TE:=λσ H Q=>to σ H λx H1=>A7 K T x H1 /\ t σ H1 λxs H2=>r x xs H2 Q
variable {o e:Expr}{es:yr Expr}{to:TE}{t:TA}{name:Str}{gn db:Pos}{T id:String}{r:V ->yr V ->Hp ->VK ->Prop}
def xR (pa:PlainAttrs T)(slot:Slot T name id)(EW:typeOf (.builtin id)=pure (.type "method_descriptor"))(hm:Em X id r)(ho:PE X o to)(ha:PA X (e::es) t) (yS:attributeBase o name X.env (eval o X.env)=eval o X.env:=by rfl) (Cu:((backTo db (starEach (e::es) X.env)).all (λx=> !x.1) && (backToKw db (keywordEach [] X.env)).all (λx=>x.1.isSome) && decide ((e::es).length+([]:yr Keyword).length+(if([]:yr Keyword).isEmpty then 0 else 1) <30))=true:=by rfl) (yK:(gn.endLine==db.line)=true:=by rfl) (hs:starEach (e::es) X.env=(false,eval e X.env)::starEach es X.env:=by rfl) (vM:(backTo db (starEach es X.env)).any (·.1)=false:=by rfl): PE X (.Call (.Attribute o name gn) (e::es) [] db) (Dl X.K T r to t):=by intro aa s σ H Q I h;exact wpAny_Call_method_late yS Cu yK rfl (bP (ho aa s σ H _ I h) λv s1 ⟨x,H1,I1,r1,ty,q1⟩=> ?_);let⟨h1,h2⟩:=uS I1 r1 ty;exact#[T,id,pa,slot,EW,h1,h2,?_];have hA:=ha db aa s1 σ H1 _ I1 q1;rw[hs] at hA ⊢;exact Calls.callWith_builtin (by change(false || (backTo db (starEach es X.env)).any (·.1))=false;rw[vM] <;>rfl) (Calls.evalArgs_plain ?_);show bP hA λus s2 ⟨vs,H2,I2,r2,q2⟩=>hm aa s2 σ H2 x vs v us Q I2 r1 r2 q2
end
def En (X:Cx)(id:String)(r:V ->yr V ->Hp ->VK ->Prop):Prop:=∀ (aa:yr (Fm×Obj)) (s:yu) (σ:St) (H:Hp) (x:V) (xs:yr V) (v:yt) (us:yr yt) (Q:VK),Inv X aa σ H s ->RelV x v ->bo xs us ->r x xs H Q ->wpAny (model X.prog X.w) X.A (call (.builtin id) (v::us)) (EP X aa σ Q) X.xe s
def bo.one: ∀ {x:V} {us:yr yt},bo [x] us -> ∃u,us= [u] /\ RelV x u :=by intro x us h;cases h with | cons r t=>cases t;show#[_,rfl,r]
theorem bo.rep {xs:yr V}{us:yr yt}(h:bo xs us): ∀k:Nat,bo (List.replicate k xs).flatten (List.replicate k us).flatten
 | 0=> .nil
 | k+1=>by rw[bn,bn,List.flatten_cons,List.flatten_cons];show bo.append h (bo.rep h k)
theorem foldl_rep (aU:yr yt): ∀ (k:Nat) (dL:yr yt),List.foldl (λx1 x2=>x1++x2) dL.toArray (List.replicate k aU.toArray)=(dL++(List.replicate k aU).flatten).toArray
 | 0,dL=>by simp
 | k +1,dL=>by
  have e:dL.toArray++aU.toArray=(dL++aU).toArray:=by simp
  have e2:(dL++aU)++(List.replicate k aU).flatten=dL++(List.replicate (k+1) aU).flatten:=by rw[bn,List.flatten_cons,aX]
  rw[<- e2, <- foldl_rep aU k (dL++aU), <- e,bn,List.foldl_cons]
def Inv.yl {σ:St}{aU its':yr yt}(I:Inv X aa σ H s)(hH:H l=some (.lst xs))(e:s.heap.get? l=some {cls:= .type "list",data:= .seq aU.toArray n})(hf:f aU.toArray=its'.toArray)(hv:bo ys its')(hz:ys.length<=sizeLine): Inv X aa σ (b8 H l (.lst ys)) {s with heap:=s.heap.update l (Obj.mapSeq f),toks:=t'}:=by have q:=PySem.IsL.update e f;rw[hf] at q;exact I.write (x:=l) (e:=l) (by rw[hH];show trivial) (.inl rfl) (λb' u hb hu=>(Heap.get?_update_other s.heap (Obj.mapSeq f) (bq hb)).trans hu) #[_,q] ?_;show#[hz,its',_,hv,q]
theorem Inv.ym {σ:St}(I:Inv X aa σ H s)(hv:bo ys aU)(hz:ys.length<=sizeLine): Inv X aa σ (b8 H s.heap.objs.size (.lst ys)) {s with heap:=s.heap.push {cls:= .type "list",data:= .seq aU.toArray},toks:=t'}:=I.laid (λ_ _ q=>ay _ q) (am _) #[hz,aU,0,hv,a5 _ rfl]
theorem Inv.fresh {σ:St}(I:Inv X aa σ H s):H s.heap.objs.size=none:=I.bX.fresh (am _)
def Inv.mY {σ:St}(I:Inv X aa σ H s)(hH:H l=some (.lst xs)):xs.length<=sizeLine /\ bH λ(aU:yr yt) (n:Nat)=>b0 (bo xs aU) (xs.length=aU.length) (s.heap.get? l=some {cls:= .type "list",data:= .seq aU.toArray n}):=by let⟨z,aU,n,r,e⟩:=I.bX l _ hH;show#[z,aU,n,r,r.length,e]
def jq (h:n<=sizeLine):Builtin.List.listTooLong n=false:=by unfold Builtin.List.listTooLong;show a9 ∅
def ln:V ->yr V ->Hp ->VK ->Prop:=λx vs H Q=>dr λl xs y=>dB (x= .ref l) (vs= [y]) (H l=some (.lst xs)) (xs.length<sizeLine) (Q .dy (b8 H l (.lst (xs++ [y]))))
def gz:En X "list.append" ln:=by intro aa s σ H x vs v us Q I rx rv h;let⟨l,xs,y,rfl,rfl,hH,hz,q⟩:=h;cases rx;let⟨u,rfl,ru⟩:=rv.one;let⟨z,aU,n,r,hl,e⟩:=I.mY hH;exact call_meets F.slot_list_append #[_,e,rfl] F.entry_list_append (F.args_list_append_2 _ _) (PySem.list_append l aU.toArray n u (by rw[aq];lia)) #[e,?_];exact#[.dy,_,I.yl (its':=aU++ [u]) hH e (by simp) (r.append (.cons ru .nil)) ?_,rfl,q];rw[aK,List.length_singleton];lia
def rj:V ->yr V ->Hp ->VK ->Prop:=λx vs H Q=>d5 λl b xs zs=>gW (x= .ref l) (vs= [.ref b]) (H l=some (.lst xs)) (H b=some (.lst zs)) (xs.length+zs.length<=sizeLine) (Q .dy (b8 H l (.lst (xs++zs))))
def wH:En X "list.extend" rj:=by
 intro aa s σ H x vs v us Q I rx rv h;let⟨l,b,xs,zs,rfl,rfl,hH,hB,hz,q⟩:=h;cases rx;let⟨u,rfl,ru⟩:=rv.one;cases ru;let⟨z,aU,n,r,hl,e⟩:=I.mY hH;let⟨z2,kL,n2,r2,Ap,e2⟩:=I.mY hB;have hsz:aU.toArray.size+kL.toArray.size<=sizeLine:=by rw[aq,aq];lia
 have pL:¬(!aU.toArray.isEmpty && Builtin.List.listTooLong (aU.toArray.size+kL.toArray.size))=true:=by rw[jq hsz,Bool.and_false];show aF
 exact call_meets F.slot_list_extend #[_,e,rfl] F.entry_list_extend (F.args_list_extend_2 _ _) (AutoSeq1.list_extend_list_list_0 l aU.toArray n b kL.toArray n2 pL (by rw[aq];lia) ∅) #[e,e2,?_];exact#[.dy,_,I.yl (its':=aU++kL) hH e (by simp) (r.append r2) ?_,rfl,q];rw[aK];lia
def xO:R2:=λx y H Q=>d5 λl b xs zs=>gW (x= .ref l) (y= .ref b) (H l=some (.lst xs)) (H b=some (.lst zs)) (xs.length+zs.length<=sizeLine) (∀p,H p=none ->Q (.ref p) (b8 H p (.lst (xs++zs))))
def kx:g0 X (binaryOp .Add) xO:=by
 intro aa s σ H x y v u Q I rx ry h;let⟨l,b,xs,zs,rfl,rfl,hH,hB,hz,q⟩:=h;cases rx;cases ry;let⟨z,aU,n,r,hl,e⟩:=I.mY hH;let⟨z2,kL,n2,r2,Ap,e2⟩:=I.mY hB;exact PySem.P.add_list e e2 ?_ (by rw[aq,aq];lia);have ea:aU.toArray++kL.toArray=(aU++kL).toArray:=by simp
 rw[ea];show#[.ref _,_,I.ym (t':=s.toks) (r.append r2) (by rw[aK];lia),rfl,q _ I.fresh]
def xK:R2:=λx y H Q=>dr λl k xs=>wq (x= .ref l) (y= .int k) (H l=some (.lst xs)) (-(2 ^ 63) <=k) (k<2 ^ 63) (xs.length*k.toNat<=sizeLine) (∀p,H p=none ->Q (.ref p) (b8 H p (.lst (List.replicate k.toNat xs).flatten)))
def rY {α:Type}(xs:yr α)(k:Nat):(List.replicate k xs).flatten.length=k*xs.length:=by
 induction k with
 | zero=>simp
 | succ k ih=>rw[bn,List.flatten_cons,aK,ih,Nat.succ_mul,Nat.add_comm]
def il:g0 X (binaryOp .Mult) xK:=by
 intro aa s σ H x y v u Q I rx ry h;let⟨l,k,xs,rfl,rfl,hH,h1,h2,hz,q⟩:=h;cases rx;let⟨t,rfl⟩:=ry;let⟨z,aU,n,r,hl,e⟩:=I.mY hH;have dh:aU.toArray.size*k.toNat<=sizeLine:=by rw[aq, <- hl];show hz
 have Cy:¬aU.toArray.size*k.toNat >(2 ^ 63 - 1) / 8:=by
  have:(sizeLine:Nat) <=(2 ^ 63 - 1) / 8:=⋯
  lia
 have Ct:¬(!Builtin.List.listFitsIndex k)=true:=by rw[fitsIndex_both h1 h2];show aF
 have pL:¬Builtin.List.listTooLong (aU.toArray.size*k.toNat)=true:=by rw[jq dh];show aF
 have B9:List.foldl (λx1 x2=>x1++x2) #[] (List.replicate (if aU.toArray.isEmpty=true then 0 else k.toNat) aU.toArray)=(List.replicate k.toNat aU).flatten.toArray:=by
  have f0: ∀m:Nat,List.foldl (λx1 x2=>x1++x2) #[] (List.replicate m aU.toArray)=(List.replicate m aU).flatten.toArray:=λm=>by have:=foldl_rep aU m [];rw[List.nil_append] at this;show this
  rw[f0];cases aU with
  | nil=>simp
  | cons a r'=>rw[ai (by simp)]
 exact wpAny_binaryOp_repeat_ref (T:= "list") (U:= "int") ⋯ #[_,e,rfl] (λs'=>typeIs_int s' k t) noFill_list_mul F.fills_int_mul F.slot_int_rmul repeat_list F.slot_int_index.lookup (call_meets F.slot_int_rmul (typeIs_int s k t) F.entry_int_rmul (F.args_int_rmul_2 _ _) (int___rmul___int_list k t l aU.toArray n) #[e,rfl,#[_,e,rfl],call_meets F.slot_list_mul #[_,e,rfl] F.entry_list_mul (F.args_list_mul_2 _ _) (AutoListH.list___mul___list_int_3 l aU.toArray n k t Ct Cy pL) #[e,?_]]);rw[B9];show#[.ref _,_,I.ym (t':=s.toks) (r.rep k.toNat) (by rw[rY,Nat.mul_comm];show hz),rfl,q _ I.fresh]
section
variable {κ:Type} [DecidableEq κ]
def dR (kvs:yr (κ×V))(k:κ):BP V:=(kvs.find? λkv=>decide (kv.1=k)).map (·.2)
def dM (kvs:yr (κ×V))(k:κ)(v:V):yr (κ×V):=if(kvs.any λkv=>decide (kv.1=k))=true then kvs.map (λkv=>if kv.1=k then(kv.1,v) else kv) else kvs++ [(k,v)]
def fy {k:κ}(e:p.1=k):dR (p::r) k=some p.2:=by simp[dR,aC,e]
def fA {k:κ}(e:¬p.1=k):dR (p::r) k=dR r k:=by simp[dR,aC,e]
theorem iU (k:κ): ∀kvs:yr (κ×V),(kvs.any λkv=>decide (kv.1=k))=(dR kvs k).isSome
 | []=>rfl
 | p::r=>by rw[List.any_cons];by_cases e:p.1=k;simp![fy e,decide_eq_true e,Bool.true_or,Option.isSome_some];rw[fA e,a9 e,Bool.false_or];show iU k r
def eX (kvs:yr (κ×V))(k:κ)(v:V):(dM kvs k v).length<=kvs.length+1:=by unfold dM;split;rw[av];lia;rw[aK,be,List.length_nil];lia
def d3.eT (r:d3 o u):o.isSome=u.isSome:=by
 cases o with
 | none=>cases u with
  | none=>rfl
  | some _=>show(show False from r).elim
 | some _=>cases u with
  | none=>show(show False from r).elim
  | some _=>rfl
def d3.getD (r:d3 o u)(rd:RelV d d'):RelV (o.getD d) (u.getD d'):=by
 cases o with
 | none=>cases u with
  | none=>show rd
  | some _=>show(show False from r).elim
 | some _=>cases u with
  | none=>show(show False from r).elim
  | some _=>show r
def KV.val (r:KV kvs vs)(k:κ):d3 (dR kvs k) (valueAt vs k):=by
 unfold KV at r;induction r with
 | nil=>show True.intro
 | @cons p q ps qs h t ih=>
  let⟨h1,h2⟩:=h;by_cases e:p.1=k;have e':q.1=k:=h1.symm.trans e;have b:valueAt (q::qs) k=some q.2:=by simp[valueAt,aC,e']
  rw[fy e,b];show h2;have e':¬q.1=k:=λz=>e (h1.trans z);have b:valueAt (q::qs) k=valueAt qs k:=by simp[valueAt,aC,e']
  rw[fA e,b];show ih
def KV.any (r:KV kvs vs)(k:κ):(kvs.any λkv=>decide (kv.1=k))=vs.any λkv=>decide (kv.1=k):=by
 unfold KV at r;induction r with
 | nil=>rfl
 | cons h t ih=>rw[List.any_cons,List.any_cons,ih,h.1]
def KV.ox (r:KV kvs vs)(k:κ)(ry:RelV y u): KV (kvs.map λkv=>if kv.1=k then(kv.1,y) else kv) (vs.map λkv=>if kv.1=k then(kv.1,u) else kv):=by
 unfold KV at r ⊢;induction r with
 | nil=>show .nil
 | @cons p q ps qs h t ih=>rw[az,az];exact .cons ?_ ih;let⟨h1,h2⟩:=h;by_cases e:p.1=k;rw[aj e,aj (h1.symm.trans e)];show#[h1,ry];rw[ai e,ai (λz=>e (h1.trans z))];show#[h1,h2]
def KV.put (r:KV kvs vs)(k:κ)(ry:RelV y u):KV (dM kvs k y) (stored vs k u):=by unfold dM stored;rw[r.any k];by_cases e:(vs.any λkv=>decide (kv.1=k))=true;rw[aj e,aj e];show r.ox k ry;rw[ai e,ai e];show Paired.snoc r #[rfl,ry]
def KV.keys {vs:yr (κ×yt)}(r:KV kvs vs):kvs.map (·.1)=vs.map (·.1):=by
 unfold KV at r;induction r with
 | nil=>rfl
 | cons h t ih=>rw[az,az,ih,h.1]
theorem KV.length {vs:yr (κ×yt)}(r:KV kvs vs):kvs.length=vs.length:=Paired.length r
end
def lS (r:RelV (kV k) u):(bI P w).is k u=true:=by
 cases k with
 | inl i=>let⟨t,e⟩:=(show ∃t,u=Value.int i t from r);subst e;show jx P w i t
 | inr x=>let⟨t,e⟩:=(show ∃t,u=Value.str x t from r);subst e;show jw P w x t
theorem gE {P:Program}{w:World}: ∀ {ks:yr bM} {us:yr yt},bo (ks.map kV) us ->ItemsAre (bI P w) ks us
 | [],_,r=>by rw[List.map_nil] at r;cases r;show .nil
 | k::ks,_,r=>by
  rw[az] at r;cases r with
  | cons h t=>show .cons (lS h) (gE t)
abbrev KT (H:Hp):yr (yr bM×V) ->yr (yr bM×Fm×yt) ->Prop:=Paired λp q=>p.1=q.1 /\ H q.2.1=some (.tup (p.1.map kV)) /\ RelV p.2 q.2.2
def KT.val (r:KT H kvs xs)(k:yr bM):d3 (dR kvs k) ((atKey xs k).map (·.2)):=by
 induction r with
 | nil=>show True.intro
 | @cons p q ps qs h t ih=>
  let⟨h1,_,h2⟩:=h;by_cases e:p.1=k;have e':q.1=k:=h1.symm.trans e;have b:atKey (q::qs) k=some q.2:=by simp[atKey,aC,e']
  rw[fy e,b];show h2;have e':¬q.1=k:=λz=>e (h1.trans z);have b:atKey (q::qs) k=atKey qs k:=by simp[atKey,aC,e']
  rw[fA e,b];show ih
def KT.ox (r:KT H kvs xs)(k:yr bM)(ry:RelV y u): KT H (kvs.map λkv=>if kv.1=k then(kv.1,y) else kv) (xs.map (putAt k u)):=by
 induction r with
 | nil=>show .nil
 | @cons p q ps qs h t ih=>rw[az,az];exact .cons ?_ ih;let⟨h1,h2,h3⟩:=h;unfold putAt;by_cases e:p.1=k;rw[aj e,aj (h1.symm.trans e)];show#[h1,h2,ry];rw[ai e,ai (λz=>e (h1.trans z))];show#[h1,h2,h3]
def KT.put (r:KT H kvs xs)(k:yr bM)(hb:H b=some (.tup (k.map kV)))(ry:RelV y u): KT H (dM kvs k y) (storedH xs k b u):=by
 have e:(kvs.any λkv=>decide (kv.1=k))=(atKey xs k).isSome:=by rw[iU,(r.val k).eT,Option.isSome_map]
 unfold dM storedH;rw[e];by_cases q:(atKey xs k).isSome=true;rw[aj q,aj q];show r.ox k ry;rw[ai q,ai q];show Paired.snoc r #[rfl,hb,ry]
theorem KT.keeps (r:KT H kvs xs)(ht: ∀b ys,H b=some (.tup ys) ->H' b=some (.tup ys)):KT H' kvs xs:=Paired.vy r λ_ _ z=>#[z.1,ht _ _ z.2.1,z.2.2]
theorem t9 (ok:d4 P w H h)(e:Rd H a u):bQ P w H h a u:=e.ok ok
theorem jL (ok:d4 P w H h)(e:Rd H a (.dK kvs)):kvs.length<=sizeLine /\ (a==sysModules)=false /\ ∃vs,KV kvs vs /\ h.DictOf (bI P w) a vs:=
 show bQ P w H h a (.dK kvs) from t9 ok e
theorem uC (ok:d4 P w H h)(e:H a=some (.dK kvs)):kvs.length<=sizeLine /\ (a==sysModules)=false /\ ∃vs,KV kvs vs /\ h.DictOf (bI P w) a vs:=jL ok (.inl e)
def iy (ok:d4 P w H h)(e:H a=some (.tup (ks.map kV))):(tupleKind (bI P w)).is h ks a:=by
 let⟨_,aU,r,o,h1,h2,n,h3,_⟩:=(show bQ P w H h a (.tup (ks.map kV)) from ok a _ e)
 show#[o,aU.toArray,n,h1,h2,h3, ⇑(gE r)]
def jI (ok:d4 P w H h)(e:Rd H a (.dT kvs)):kvs.length<=sizeLine /\ (a==sysModules)=false /\∃xs,KT H kvs xs /\ h.DictOfH (tupleKind (bI P w)) a xs:=by
 let⟨z,y,xs,r,o,es,ep,h1,h2,h3,h4,h5⟩:=(show bQ P w H h a (.dT kvs) from t9 ok e)
 exact#[z,y,xs,r,o,es,ep,h1,h2,h3,h4,λx hx=> ?_,h5];have all: ∀ {l:yr (yr bM×V)} {m:yr (yr bM×Fm×yt)},KT H l m -> ∀x∈m,(tupleKind (bI P w)).is h x.1 x.2.1:=by
  intro l m q;induction q with
  | nil=>intro x hx;show nomatch hx
  | @cons p q ps qs hq t ih=>intro x hx;obtain e | hx:=aD.mp hx;subst e;show iy ok (by rw[<- hq.1];show hq.2.1);show ih x hx
 show all r x hx
theorem yZ (ok:d4 P w H h)(e:H a=some (.dT kvs)):kvs.length<=sizeLine /\ (a==sysModules)=false /\∃xs,KT H kvs xs /\ h.DictOfH (tupleKind (bI P w)) a xs:=jI ok (.inl e)
def iO (H:Hp)(a:Fm)(y:V)(r:BP V):Prop:=(bH λkvs k=>b0 (Rd H a (.dK kvs)) (y=kV k) (r=dR kvs k)) \/ dr λkvs k b=>c6 (Rd H a (.dT kvs)) (y= .ref b) (H b=some (.tup (k.map kV))) (r=dR kvs k)
def qt (H:Hp)(a:Fm)(y v:V)(H':Hp):Prop:=(bH λkvs k=>c6 (H a=some (.dK kvs)) (y=kV k) (kvs.length<sizeLine) (H'=b8 H a (.dK (dM kvs k v)))) \/dr λkvs k b=>dB (H a=some (.dT kvs)) (y= .ref b) (H b=some (.tup (k.map kV))) (kvs.length<sizeLine) (H'=b8 H a (.dT (dM kvs k v)))
theorem iO.k {k:bM}(e:H a=some (.dK kvs)):iO H a (kV k) (dR kvs k):= .inl #[kvs,k, .inl e,rfl,rfl]
theorem qt.k {k:bM}(e:H a=some (.dK kvs))(hl:kvs.length<sizeLine):qt H a (kV k) v (b8 H a (.dK (dM kvs k v))):= .inl #[kvs,k,e,rfl,hl,rfl]
def Inv.big {σ:St}(I:Inv X aa σ H s):sysModules<s.heap.objs.size:=by have h:mainGlobals<s.heap.objs.size:=(I.mod.glob.keeps I.bk).lt;show Nat.lt_trans ⋯ h
def nu {σ:St}(hu:A.units+1<cLine)(I:Inv X aa σ H s)(g:iO H a y (some v))(ry:RelV y u)(h: ∀w' s',Inv X aa σ H s' ->RelV v w' ->Q w' s'): wpAny (model X.prog X.w) A (getItem (.ref a) u) Q E s:=by
 rcases g with⟨kvs,k,e,ey,l⟩ | ⟨kvs,k,b,e,ey,eb,l⟩
 subst ey;let⟨z,hd,vs,eG,dd⟩:=jL I.bX e;let⟨w',hw,hX⟩:=d3.some_of (v:=v) (o:=valueAt vs k) (by rw[l];show eG.val k);show wpAny_getItem_of (lS ry) dd.mapOf hw (h w' _ (I.tok _) hX);subst ey;cases (show u=Value.ref b from ry);let⟨z,hd,xs,eG,dd⟩:=jI I.bX e;let⟨w',hw,hX⟩:=d3.some_of (v:=v) (o:=(atKey xs k).map (·.2)) (by rw[l];show eG.val k);let⟨p,hp,BZ⟩:=Option.map_eq_some_iff.mp hw;exact wpAny_getItem_heap (tupleKind_room_in1 hu) (iy I.bX eb) dd hp ?_;rw[BZ];show h w' _ (I.tok _) hX
theorem ft {σ:St}(I:Inv X aa σ H s)(mu:ze (H a))(hs:Heap.SameBut a s.heap h')(he: ∃q,h'.get? a=some q)(new:bQ X.prog X.w (b8 H a ob) h' a ob): Inv X aa σ (b8 H a ob) {s with heap:=h',toks:=t'}:=I.write (x:=a) (e:=a) mu (.inl rfl) (λb q hb z=>(hs.2 b hb).trans z) he new
theorem v9 (z:kvs.length<=sizeLine)(hd:(a==sysModules)=false)(eG:KV kvs vs)(dd:h'.DictOf (bI P w) a vs): bQ P w H' h' a (.dK kvs):=#[z,hd,vs,eG,dd]
def nt {σ:St}(hu:A.units+1<cLine)(I:Inv X aa σ H s)(g:qt H a y v H')(ry:RelV y u)(rv:RelV v r)(h: ∀s',Inv X aa σ H' s' ->Q () s'): wpAny (model X.prog X.w) A (setItem (.ref a) u r) Q E s:=by
 rcases g with⟨kvs,k,e,ey,l,eH⟩ | ⟨kvs,k,b,e,ey,eb,l,eH⟩
 subst ey eH;let⟨z,hd,vs,eG,dd⟩:=uC I.bX e;have hz:vs.length<=sizeLine:=by rw[<- eG.length];show z
 have hl:(dM kvs k v).length<=sizeLine:=by have:=eX kvs k v;lia
 exact wpAny_setItem_pairs (hsz:=hz) (lS ry) dd λh' uD hs=>h _ ?_;have he: ∃q,h'.get? a=some q:=let ⟨q,_,_,hq,_⟩:=uD;#[q,hq]
 show ft I (by rw[e];show True.intro) hs he (v9 hl hd (eG.put k rv) uD);subst ey eH;cases (show u=Value.ref b from ry);let⟨z,hd,xs,eG,dd⟩:=yZ I.bX e;have hz:xs.length<=sizeLine:=by rw[<- Paired.length eG];show z
 have hl:(dM kvs k v).length<=sizeLine:=by have:=eX kvs k v;lia
 exact wpAny_setItem_heap (hsz:=hz) (tupleKind_room_in1 hu) (iy I.bX eb) dd λh' uD hs=>h _ ?_;let⟨q,es,ep,hq,h2,h3,h4,_,h5⟩:=uD;exact ft I (by rw[e];show True.intro) hs #[q,hq] #[hl,hd,_,(eG.put k eb rv).keeps λc ys ec=> ?_,q,es,ep,hq,h2,h3,h4,h5];rw[bR (yg ec e (λz=>nomatch z))];show ec
def ww (i:Expr):Prop:= ∀ov iv,subscripted i false ov iv=operate [ov,iv] (getItem ov iv)
def k6 {T id:String}(hl:typeLookup (.type T) "__getitem__" =pure (some (.builtin id)))(hs:ww slice)(h:wpAny (model prog w) A (eval value env) (λo s₁=>wpAny (model prog w) A (eval slice env) (λi s₂=>s₂.TypeIs o T /\ wpAny (model prog w) A (getItem o i) Q E s₂) E s₁) E s): wpAny (model prog w) A (eval (.Subscript value slice pos) env) Q E s:=by
 exact Subscript_ (wpAny_mono h (λo s₁ h₁=>wpAny_mono h₁ (λi s₂ h₂=> ?_) λ_ _ x=>x) λ_ _ x=>x);let⟨hT,h₂⟩:=h₂;unfold subscriptTail;exact ar ?_;rw[getitemInPython_of_ne hT.not_modules];exact ar (wpAny_specialOf hT hl ?_);have fin:wpAny (model prog w) A (subscripted slice false o i) (λr s₃=>wpAny (model prog w) A (letTemporaryGo value o r >>=λ_=>pure r) Q E s₃) E s₂:=by rw[hs o i];show wpAny_operating (wpAny_mono h₂ (λr s₃ h₃=>ar (wpAny_letTemporaryGo (aS h₃))) λ_ _ x=>x)
 first
 | show aS (ar fin)
 | show ar (aS (ar fin))
 | show ar fin
def jM {σ:St}(I:Inv X aa σ H s)(g:iO H a y o):s.TypeIs (.ref a) "dict" :=by
 rcases g with⟨kvs,k,e,_,_⟩ | ⟨kvs,k,b,e,_,_,_⟩
 let⟨_,_,vs,_,dd⟩:=jL I.bX e;show dd.typeIs;let⟨_,_,xs,_,dd⟩:=jI I.bX e;show dd.typeIs
def tO (td ty:TE):TE:=λσ H Q=>td σ H λx H1=>ty σ H1 λy H2=>bH λa v=>b0 (x= .ref a) (iO H2 a y (some v)) (Q v H2)
def tZ (td ty tv:TE):TS:=λD σ H=>tv σ H λv H1=>td σ H1 λx H2=>ty σ H2 λy H3=>bH λa H4=>b0 (x= .ref a) (qt H3 a y v H4) (D.nx σ H4)
def lB (hu:X.A.units+1<cLine)(ho:PE X o td)(hi:PE X i ty)(hs:ww i):PE X (.Subscript o i pos) (tO td ty):=by intro aa s σ H Q I h;exact k6 PySem.F.slot_dict_getitem.lookup hs (bP (ho aa s σ H _ I h) λu s1 ⟨x,H1,I1,rx,q1⟩=>bP (hi aa s1 σ H1 _ I1 q1) λiv s2 ⟨y,H2,I2,ry,a,v,ex,g,q2⟩=> ?_);subst ex;obtain rfl:u=Value.ref a:=rx;show#[jM I2 g,nu hu I2 g ry λw' s3 I3 hX=>#[v,H2,I3,hX,q2]]
def rB (hu:X.A.units+1<cLine)(ho:PE X o td)(hi:PE X i ty)(hv:PE X value tv)(hs:swapsWith value (some (.Subscript o i gf)) pos.line X.env=pure false): PS X (.Assign [.Subscript o i gf] value pos) (tZ td ty tv):=by intro aa s σ H D I h;exact wpAny_Assign_Subscript (bP (hv aa s σ H _ I h) λr s1 ⟨v,H1,I1,rv,q1⟩=>bP (ho aa s1 σ H1 _ I1 q1) λu s2 ⟨x,H2,I2,rx,q2⟩=>bP (hi aa s2 σ H2 _ I2 q2) λiv s3 ⟨y,H3,I3,ry,a,H4,ex,g,q3⟩=> ?_) hs;subst ex;obtain rfl:u=Value.ref a:=rx;show nt hu I3 g ry rv λs4 I4=>#[σ,H4,I4,q3]
theorem pZ (h:Heap)(hb:sysModules<h.objs.size):bQ P w H (h.push {cls:= .type "dict",data:= .dict #[]}) h.objs.size (.dK []):=#[Nat.zero_le _,beq_eq_false_iff_ne.mpr (bq (aZ hb)),[], .nil,Heap.DictOf.new h]
def oe:TE:=λ_ H Q=> ∀p,H p=none ->Q (.ref p) (b8 H p (.dK []))
theorem oI:PE X (.Dict [] [] pos) oe:=λaa s σ H Q I h=>wpAny_Dict_empty #[.ref s.heap.objs.size,_,I.laid (a:=s.heap.objs.size) (o:= .dK []) (t':=s.toks) (λ_ _ q=>ay _ q) (am _) (pZ s.heap I.big),rfl,h _ (I.bX.fresh (am _))]
structure M1 (X:Cx)(o:Expr)(m:Str)(gn:Pos)(e:Expr)(db:Pos):Prop where
 base:attributeBase o m X.env (eval o X.env)=eval o X.env
 Av:((backTo db (starEach [e] X.env)).all (λx=> !x.1) && (backToKw db (keywordEach [] X.env)).all (λx=>x.1.isSome) && decide (([e]:List Expr).length+([]:List Keyword).length+(if([]:List Keyword).isEmpty then 0 else 1) <30))=true
 line:(gn.endLine==db.line)=true
 trees:backTo db (starEach [e] X.env)= [(false,eval e X.env)]
structure M2 (X:Cx)(o:Expr)(m:Str)(gn:Pos)(e f:Expr)(db:Pos):Prop where
 base:attributeBase o m X.env (eval o X.env)=eval o X.env
 Av:((backTo db (starEach [e,f] X.env)).all (λx=> !x.1) && (backToKw db (keywordEach [] X.env)).all (λx=>x.1.isSome) && decide (([e,f]:List Expr).length+([]:List Keyword).length+(if([]:List Keyword).isEmpty then 0 else 1) <30))=true
 line:(gn.endLine==db.line)=true
 trees:backTo db (starEach [e,f] X.env)= [(false,eval e X.env),(false,eval f X.env)]
def Ep (H:Hp)(a:Fm):Prop:=(∃kvs,Rd H a (.dK kvs)) \/ ∃kvs,Rd H a (.dT kvs)
def vK {σ:St}(I:Inv X aa σ H s)(d:Ep H a): s.TypeIs (.ref a) "dict" /\ (∀b,Value.ref a= .ref b -> ∃ob,s.heap.get? b=some ob /\ ob.dict=none) /\ (a==sysModules)=false:=by
 rcases d with⟨kvs,e⟩ | ⟨kvs,e⟩
 let⟨_,hd,vs,_,dd⟩:=jL I.bX e;exact#[dd.typeIs,λb q=> ?_,hd];cases q;let⟨ob,_,_,h1,h2,_⟩:=dd;show#[ob,h1,h2.2.1];let⟨_,hd,xs,_,dd⟩:=jI I.bX e;exact#[dd.typeIs,λb q=> ?_,hd];cases q;let⟨ob,_,_,h1,h2,_⟩:=dd;show#[ob,h1,h2.2.1]
def v_ {σ:St}(hu:A.units+1<cLine)(I:Inv X aa σ H s)(g:iO H a y o)(ry:RelV y u)(rd:RelV d r)(h: ∀w' s',Inv X aa σ H s' ->RelV (o.getD d) w' ->Q w' s'): wpAny (model X.prog X.w) A (call (.builtin "dict.get") [.ref a,u,r]) Q E s:=by
 rcases g with⟨kvs,k,e,ey,l⟩ | ⟨kvs,k,b,e,ey,eb,l⟩
 subst ey;let⟨z,hd,vs,eG,dd⟩:=jL I.bX e;exact call_meetsIn PySem.F.slot_dict_get dd.typeIs PySem.F.entry_dict_get (PySem.F.args_dict_get_3 _ _ _) (meets_dict_get_default (bI X.prog X.w) a (lS ry) hd r) #[_,dd.mapOf,h _ _ (I.tok _) ?_];rw[l];show(eG.val k).getD rd;subst ey;cases (show u=Value.ref b from ry);let⟨z,hd,xs,eG,dd⟩:=jI I.bX e;exact call_meetsIn PySem.F.slot_dict_get dd.typeIs PySem.F.entry_dict_get (PySem.F.args_dict_get_3 _ _ _) (meetsH_dict_get_default (tupleKind (bI X.prog X.w)) a b hd r) #[tupleKind_room_in1 hu,k,xs,iy I.bX eb,dd,h _ _ (I.tok _) ?_];rw[l];show(eG.val k).getD rd
def og (td ty tx:TE):TE:=λσ H Q=>td σ H λx H1=> ∃a,b0 (x= .ref a) (Ep H1 a) (ty σ H1 λy H2=>tx σ H2 λz H3=> ∃o,iO H3 a y o /\ Q (o.getD z) H3)
def oJ (hu:X.A.units+1<cLine)(ho:PE X o td)(he:PE X e ty)(hf:PE X f tx)(m:M2 X o "get" gn e f db):PE X (.Call (.Attribute o "get" gn) [e,f] [] db) (og td ty tx):=by intro aa s σ H Q I h;exact wpAny_Call_method m.base m.Av m.line PySem.F.plainAttrs_dict PySem.F.slot_dict_get PySem.F.type_dict_get (bP (ho aa s σ H _ I h) λu s1 ⟨x,H1,I1,rx,a,ex,d,q1⟩=> ?_);subst ex;obtain rfl:u=Value.ref a:=rx;let⟨t1,t2,_⟩:=vK I1 d;exact#[t1,t2,?_];rw[m.trees];exact Calls.callWith_builtin rfl (Calls.evalArgs_plain (Calls.spliced_cons (bP (he aa s1 σ H1 _ I1 q1) λiv s2 ⟨y,H2,I2,ry,q2⟩=>Calls.spliced_cons (bP (hf aa s2 σ H2 _ I2 q2) λfv s3 ⟨z,H3,I3,rz,ov,g,q3⟩=>Calls.spliced_nil ?_))));show v_ hu I3 g ry rz λw' s4 I4 hX=>#[_,H3,I4,hX,q3]
end L2
namespace Er
open PySem PySem.W PySem.Calls PyProof.Rows
def e8: ∀ (ns:yr Int) (vs:yr yt),WellAll P h vs (ns.map WData.int) ->IntsAre vs ns:=by
 intro ns;induction ns with
 | nil=>intro vs w;rw[List.map_nil] at w;cases w;show .nil
 | cons n ns ih=>
  intro vs w;rw[az] at w;cases w with
  | cons a b=>cases a;show .cons _ _ (ih _ b)
def mK {l:OpenLaw}(hn:l.most=some n)(sx:l.row.toRowW.claim.pre args=true)(BS:WellAll P h uO args): dr λa vs ns=>dB (uO= [Value.ref a]) (args= [WData.list (ns.map WData.int)]) (h.get? a=some {cls:= .type "list",data:= .seq vs.toArray}) (IntsAre vs ns) (ns.length<=n):=by
 have E1:WShape.hasAll [] args [.list .int]=true:=(pre_splitW sx).1;have hc:l.pre.holds [] {args:=args}=true:=(pre_splitW sx).2;let⟨d,r,rfl,h1,h2⟩:=hasAllW_cons E1;obtain rfl:=hasAllW_nil h2;let⟨xs,rfl,h3⟩:=hasW_list h1;let⟨ns,rfl⟩:=items_int h3;have dh:ns.length<=n:=by
  unfold OpenLaw.pre at hc;have h4:(WTm.not (.lt (.lit (.int (n:Int))) (.len (.arg 0)))).holds [] {args:= [.list (ns.map .int)]}=true:=by have h4:=(holds_andW hc).1;rw[hn] at h4;show h4
  have h5:=condW_of h4 (w_not (w_lt w_lit (w_len_list (w_arg rfl))));rw[av] at h5;exact Nat.le_of_not_lt λq=> ?_;have q':(n:Int) < ((ns.length:Nat):Int):= ∅;first
  | (rw[decide_eq_true q'] at h5;show absurd h5 ⋯)
  | (simp at h5;lia)
 cases BS with
 | cons w1 w2=>
  cases w2;cases w1 with
  | list ho vY=>show#[_,_,ns,rfl,rfl,ho,e8 ns _ vY,dh]
theorem mM (l:OpenLaw)(args:yr WData):l.row.toRowW.claim.post args (.bool true) args=true:=postW_of (r:=l.row.toRowW) (X:=(true==true)) (show WShape.has [] (.bool true) .bool=true by first | rfl | decide | simp[WShape.has,WShape.arms,WShape.armsAll]) (show(WTm.eq .res (.lit (.bool true))).value [] {args:=args,res:=some (.bool true),after:=args}=some (.bool (true==true)) from w_eq_bool (w_res rfl) w_lit) rfl
def j0 {l:OpenLaw}(hn:l.most=some n)(yP:d.params.defaults= [])(call: ∀ (w:World) (s₀ s₁:yu) (mg mb:Str ->BP yt) (fa:Fm) (o:Obj) (pm cd eB:yt) (a:Fm) (vs:yr yt) (ns:yr Int),Ground q gB [] XP w s₀ mg mb s₁.heap ->YP w s₁.heap ->s₁.heap.get? fa=some o ->o.data= .func (docDef d.name d.params d.body d.scope pm cd eB) ->s₁.heap.CodeRec cd d.name ->mg d.name=some (.ref fa) ->s₁.heap.get? a=some {cls:= .type "list",data:= .seq vs.toArray} ->IntsAre vs ns ->ns.length<=n ->s₁.gens= #[] ->codeAny (model l.prog w) callerA (.call (.ref fa) #[[.ref a],[]]) (λr s'=>r= .ok (.ret (.bool true)) /\ OldK s₁.heap s'.heap /\ s'.os=s₁.os /\ AllBare s'.gens) s₁): WalkO q gB XP YP l.row.toRowW d [] (λf vs=>PySem.call f vs):=by intro w s₀ s₁ mg mb G Y fa o pm cd eB dV kV ho hd nS hD Cb hg args uO as sx E_ GP BS lX;obtain rfl:dV= .none:=Dflts.none hD yP;obtain rfl:kV= .none:=Dflts.noKw hD;let⟨a,vs,ns,rfl,rfl,vN,pO,dh⟩:=mK hn sx BS;exact enter_call (codeAny_mono (call w s₀ s₁ mg mb fa o pm cd eB a vs ns G Y ho (fd_plain hd) nS Cb vN pO dh hg) λr s' hq=> ?_);let⟨rfl,h2,h3,h4⟩:=hq;show#[.inl #[.bool true, .bool true,[],rfl,λ_=>rfl, .bool true,mM l _,λ_=>#[List.Pairwise.nil,λ_ hm=>(nomatch hm)]],h2,h3,h4]
end Er
namespace L2
open PySem PySem.Spec PyProof.Rows
theorem eJ: ∀ {vs:yr yt} {ns:yr Int},IntsAre vs ns ->bo (ns.map V.int) vs
 | _,_, .nil=> .nil
 | _,_, .cons n t h=> .cons #[t,rfl] (eJ h)
def wu (H:Hp):Prop:= ∀b,H b=none \/ ∃o xs,H b=some (.kc o (.lst xs))
def pj {K:Fp}(KX:K.In s₁.heap)(wL:s₁.heap.Ns mainGlobals mg)(hb:s₁.heap.Ns builtinsNs mb)(Fi: ∀x:Str,x≠ "__name__" ->mb x=bootBuiltins x)(Cd:s₁.heap.NoLimit)(hg:s₁.gens= #[])(ha:s₁.heap.get? a=some {cls:= .type "list",data:= .seq vs.toArray})(hi:IntsAre vs ns)(hl:ns.length<=sizeLine)(hr:cU k callerA)(F: ∀base:Heap,K.In base ->base.Ns mainGlobals mg ->cz P w K mg base CX k fa fd [x] sp)(yR: ∀ (s:yu) (u:yt),BindsTo s fd #[[u],[]] [(x,u)])(pJ: ∀H:Hp,wu H ->dD K H a (ns.map V.int) ->sp [.ref a] H (λv _=>v= .bl true) λ_ _ _=>False)(CD: ∀H e s',CX [] H s₁ (λ_ _ _=>False) e s' ->False): codeAny (model P w) callerA (.call (.ref fa) #[[.ref a],[]]) (λr s'=>r= .ok (.ret (.bool true)) /\ OldK s₁.heap s'.heap /\ s'.os=s₁.os /\ AllBare s'.gens) s₁:=by
 have rv:=eJ hi;have BG:=hi.length;have core : ∀H:Hp,wu H ->dD K H a (ns.map V.int) ->d4 P w H s₁.heap ->(∀b,H b≠none ->b=a) ->(H a≠none ->K.lookup a=none) ->codeAny (model P w) callerA (.call (.ref fa) #[[.ref a],[]]) (λr s'=>r= .ok (.ret (.bool true)) /\ OldK s₁.heap s'.heap /\ s'.os=s₁.os /\ AllBare s'.gens) s₁:=by
  intro H hO hS bX hA hK;have mx: ∀ {b:Fm} {o:Obj},s₁.heap.get? b=some o ->H b=none ->(iD s₁.heap H).get? b=some o:=λe n=>pQ e n;have yf: ∀ {b:Fm} {o:Obj} {es:Fo DictEntry} {ep:Nat},s₁.heap.get? b=some o ->o.data= .dict es ep ->H b=none:=λ{b o es ep} e d=>by
   cases q:H b with
   | none=>rfl
   | some u=>have e':b=a:=hA b (by rw[q];simp);subst e';rw[ha] at e;cases e;have d':Data.seq vs.toArray _=Data.dict es ep:=d;cases d'
  have Ad: ∀ {b:Fm} {m:Str ->BP yt},s₁.heap.Ns b m ->(iD s₁.heap H).Ns b m:=λ{b m} ⟨o,es,ep,e,d,r⟩=>#[o,es,ep,mx e (yf e d),d,r]
  have D8:K.In (iD s₁.heap H):=λb o e=>mx (KX b o e) (by
   cases q:H b with
   | none=>rfl
   | some u=>have e':b=a:=hA b (by rw[q];simp);subst e';rw[hK (by rw[q];simp)] at e;cases e)
  have hM:Mod K mg (iD s₁.heap H):=#[D8,Ad wL,#[mb,Ad hb,Fi],let ⟨mc,h1,h2⟩:=Cd;#[mc,Ad h1,h2]]
  have e0:sV P w K mg (iD s₁.heap H) callerA [] s₁ H:=#[rfl,hM,λb o e=>rO e,Nat.le_of_eq (nl _ _),trivial,λb hb=>absurd (show b∈([]:yr Fm) from hb) (by simp),bX, .of_eq hg]
  exact codeAny_mono ((F _ D8 (Ad wL)).run callerA [] s₁ H #[[.ref a],[]] [.ref a] [.ref a] _ _ hr e0 (yR s₁ (.ref a)) (.cons rfl .nil) (pJ H hO hS)) λr s' h=> ?_;cases r with
  | error e=>show(CD H e s' h).elim
  | ok fl =>
   cases fl with
   | next=>show False.elim h
   | brk=>show False.elim h
   | cont=>show False.elim h
   | ret u=>
    let⟨v,H',os,bare,un,B6,r',q⟩:=h;have q':v= .bl true:=q;subst q';obtain rfl:u=Value.bool true:=r';exact#[rfl,OldK.of_keep λb o e=> ?_,os,bare];cases q:H b with
    | none=>show un.keep b o e q (by intro z;show absurd (show b∈([]:yr Fm) from z) (by simp)) (by simp)
    | some u=>obtain z | ⟨ob,xs,z⟩:=hO b;rw[q] at z;cases z;have z2:=un.iE b ob _ z;let⟨e1,_⟩:=bX b _ z;let⟨e2,_⟩:=B6 b _ z2;rw[e] at e1;cases e1;show e2
 cases hk:K.lookup a with
 | some o=>have e:=KX a o hk;rw[ha] at e;cases e;exact core (λ_=>none) (λ_=> .inl rfl) (.inr #[_,vs.toArray,_,hk,rfl,rfl,rfl,by rw[aq,BG];show hl, ⇑rv]) (λb u z=>by have z':(none:BP HO)=some u:=z;cases z') (λb z=>absurd rfl z) λz=>absurd rfl z
 | none=>exact core (λb=>if b=a then some (.kc {cls:= .type "list",data:= .seq vs.toArray} (.lst (ns.map V.int))) else none) (λb=> ?_) (.inl (.inr #[{cls:= .type "list",data:= .seq vs.toArray},aj rfl])) (λb u z=> ?_) (λb z=> ?_) λ_=>hk;by_cases hb:b=a;show .inr #[_,_,aj hb];show .inl (ai hb);by_cases hb:b=a;have z':=(aj hb).symm.trans z;cases z';subst hb;show#[ha,by rw[av];show hl,vs,_,rv,ha];have z':=(ai hb).symm.trans z;cases z';by_cases hb:b=a;show hb;show absurd (ai hb) z
def qT {l:W.OpenLaw}{K:Params ->Fp}{CX:World ->qu}{sp:World ->Sp}(hn:l.most=some n)(An:n<=sizeLine)(yP:d.params.defaults= [])(hr:cU k callerA)(hY: ∀ (w:World) (h:Heap),YP w h ->(K w.params).In h)(F : ∀ (w:World) (mg:Str ->BP yt) (fa:Fm) (h:Heap),(K w.params).In h ->h.Ns mainGlobals mg ->mg d.name=some (.ref fa) ->∃ fd:FuncData,(∀ (s:yu) (u:yt),BindsTo s fd #[[u],[]] [(x,u)]) /\∀base:Heap,(K w.params).In base ->base.Ns mainGlobals mg ->cz l.prog w (K w.params) mg base (CX w) k fa fd [x] (sp w))(pJ: ∀ (w:World) (H:Hp) (a:Fm) (ns:yr Int),ns.length<=n ->wu H ->dD (K w.params) H a (ns.map V.int) ->sp w [.ref a] H (λv _=>v= .bl true) λ_ _ _=>False)(CD: ∀ (w:World) (H:Hp) (s:yu) (e:yt) (s':yu),CX w [] H s (λ_ _ _=>False) e s' ->False): W.WalkO q gB XP YP l.row.toRowW d [] (λf vs=>PySem.call f vs):=by exact Er.j0 hn yP λw s₀ s₁ mg mb fa o pm cd eB a vs ns G Y ho hd nS Cb vN pO dh hg=> ?_;have KX:=hY w _ Y;let⟨fd,hb,hF⟩:=F w mg fa _ KX G.T.g Cb;show pj KX G.T.g G.T.b G.T.builtins G.T.nolimit hg vN pO (a0 dh An) hr hF hb (λH hO hS=>pJ w H a ns dh hO hS) λH e s'=>CD w H s₁ e s'
def c5 (s:Stmt):Arguments:=match s with
 | .FunctionDef _ a _ _ _ _ _ _ _ _=>a
 | _=> {posonlyargs:= [],args:= [],vararg:=none,kwonlyargs:= [],kw_defaults:= [],kwarg:=none,defaults:= []}
def cj (s:Stmt):yr Stmt:=match s with
 | .FunctionDef _ _ b _ _ _ _ _ _ _=>b
 | _=> []
def a7 (s:Stmt):Scope:=match s with
 | .FunctionDef _ _ _ _ _ _ sc _ _ _=>sc
 | _=> {kind:= .function,names:= [],isGenerator:=false,isCoroutine:=false}
abbrev eI:qu:=λ_ _ _ _ _ _=>False
abbrev E0:XK:=λ_ _ _=>False
theorem xS:kQ eI X E0:=λ_ _ _ _ _ _ _ h=>h.elim
structure qj (K:PySem.W.Frag)(x qual:Str)(st:Stmt)(f:Addr)(fd:FuncData):Prop where
 ex:Ei λ(oc:Value) (od:Option Addr) (kV eB pm:Value) (an:Option Addr) (cdv ct:Value)=> ∃ (oR:Array (Option Value)),b0 (fd=PySem.W.fnOf x qual (c5 st) (cj st) (a7 st) .none kV eB pm an cdv ct) (K.lookup f=some #[oc,od, .func fd,oR]) (PySem.W.codeIn K cdv qual=true)
 kp:PySem.W.keepIn K (.ref f)=true
def qj.ok {K:Fp}{st:Stmt}(F:qj K x qual st f fd)(S:c7 N ps (a7 st))(len: ∀vs H Q E,sp vs H Q E ->vs.length=ps.length)(eo: ∀ (cdv:yt) (A:Around) (outer:yr Env) (s:yu) (H:Hp) (vs:yr V) (Q:VK) (E:XK),cU k (A.deeper (envOfC qual (a7 st) s.heap.objs.size f cdv)) ->sp vs H Q E ->∃t,kR (fZ eI P w K mg base N qual (a7 st) f cdv A outer s H E).vq (cj st) t /\ t {nx:=λ_ H'=>Q .dy H',rt:=Q} (start N vs) H):cz P w K mg base eI (k+1) f fd ps sp:=by let⟨oc,od,kV,eB,pm,an,cdv,ct,oR,rfl,lk,nS⟩:=F.ex;exact yY lk nS S len λA outer s H vs Q E hr pJ=> ?_;let⟨t,h,q⟩:=eo cdv A outer s H vs Q E hr pJ;show#[t,h.vq,q]
def qj.binds {K:Fp}{st:Stmt}(F:qj K x qual st f fd)(h: ∀ (kV eB pm:yt) (an:BP Fm) (cdv ct:yt) (us:yr yt),us.length=ps.length ->bindArgs (W.fnOf x qual (c5 st) (cj st) (a7 st) .none kV eB pm an cdv ct) #[us,[]]=pure (ps.zip us)):Binds K fd ps []:=by let⟨oc,od,kV,eB,pm,an,cdv,ct,oR,rfl,lk,nS⟩:=F.ex;show .all (h kV eB pm an cdv ct)
theorem pT {K:Fp}{st:Stmt}{kV eB pm cdv ct:yt}(l:K.lookup f=some #[oc,od, .func (W.fnOf x qual (c5 st) (cj st) (a7 st) .none kV eB pm an cdv ct),oR])(c:W.codeIn K cdv qual=true)(k:W.keepIn K (.ref f)=true):qj K x qual st f (W.fnOf x qual (c5 st) (cj st) (a7 st) .none kV eB pm an cdv ct):=#[#[oc,od,kV,eB,pm,an,cdv,ct,oR,rfl,l,c],k]
theorem lW (hr:cU k A):A.units+1<cLine:=Nat.lt_of_le_of_lt (Nat.add_le_add_left (by decide:1<=64) _) hr.units
theorem pv {X:Cx}(i:Nat){pos:Pos}(hN:X.N[i]? =some x:=by rfl)(hv:zb X.env.scope x:=by first | show Or.inl rfl | show Or.inr (Or.inl rfl) | show Or.inr (Or.inr rfl))(hd:(x==("__debug__" :Str))=false:=by decide)(nS:(x==("__classdict__" :Str))=false:=by decide):PE X (.Name x pos) (qY i):=vc hN hv hd nS
def cV (H H':Hp):Prop:= ∀b o,H b=some o ->H' b=some o
section
variable {κ:Type} [DecidableEq κ]
theorem lJ: ∀ {l:yr κ} {k:κ},l.Nodup ->¬k∈l ->(l++ [k]).Nodup
 | [],k,_,_=>by simp
 | a::r,k,h,hk=>by let⟨h1,h2⟩:=List.nodup_cons.mp h;change(a::(r++ [k])).Nodup;exact List.nodup_cons.mpr #[λm=> ?_,lJ h2 λm=>hk (aD.mpr (Or.inr m))];obtain q | q:=bh.mp m;show h1 q;show hk (aD.mpr (Or.inl (bu.mp q).symm))
end
def bi {α:Type}{c:α}{l:yr (Str×α)}:((y,c)::l).lookup x=if x=y then some c else l.lookup x:=by by_cases h:x=y;subst h;simp[List.lookup_cons];rw[ai h,List.lookup_cons];have:(x==y)=false:= ⇑h;rw[this]
theorem di {env:Env}: ∀ (names:yr (Str×NameKind)) (dL:yr (Str×Fm)),(∀y∈names,y.2= .free -> ∃c,env.cells.lookup y.1=some c) ->(∀x c,dL.lookup x=some c ->env.cells.lookup x=some c) ->∃cl,c6 ((forIn names dL λx s=>if(x.snd==NameKind.free)=true then(do let c <- cellOf env x.fst;pure (ForInStep.yield ((x.fst,c)::s)):Sem _) else pure (ForInStep.yield s))=(pure cl:Sem (yr (Str×Fm)))) (∀x c,cl.lookup x=some c ->env.cells.lookup x=some c) (∀x,(dL.lookup x).isSome=true ->(cl.lookup x).isSome=true) (∀y∈names,y.2= .free ->(cl.lookup y.1).isSome=true)
 | [],dL,_,h2=>#[dL,rfl,h2,λ_ h=>h,λ_ h=>absurd h (by simp)]
 | (n, k)::r,dL,h1,h2=>by
  by_cases hk:k=NameKind.free;subst hk;let⟨c,hc⟩:=h1 (n, .free) List.mem_cons_self rfl;have wQ: ∀x c',((n,c)::dL).lookup x=some c' ->env.cells.lookup x=some c':=λx c' e=>by rw[bi] at e;by_cases hx:x=n;rw[aj hx] at e;cases e;rw[hx];show hc;rw[ai hx] at e;show h2 x c' e
  let⟨cl,e1,e2,e3,e4⟩:=di r ((n,c)::dL) (λy hy=>h1 y (List.mem_cons_of_mem _ hy)) wQ;exact#[cl,?_,e2,λx hx=>e3 x ?_,λy hy hf=> ?_];rw[List.forIn_cons];have:cellOf env n=pure c:=by unfold cellOf;rw[hc]
  simp![beq_self_eq_true,bg,this,pure_bind];show e1;rw[bi];by_cases Aj:x=n;rw[aj Aj];rfl;rw[ai Aj];show hx;obtain rfl | hy:=aD.mp hy;exact e3 n ?_;rw[bi,aj rfl];rfl;show e4 y hy hf;let⟨cl,e1,e2,e3,e4⟩:=di r dL (λy hy=>h1 y (List.mem_cons_of_mem _ hy)) h2;exact#[cl,?_,e2,e3,λy hy hf=> ?_];rw[List.forIn_cons];have:(k==NameKind.free)=false:= ⇑hk;simp![this,ap,aO,pure_bind];show e1;obtain rfl | hy:=aD.mp hy;show absurd hf hk;show e4 y hy hf
def kP (h: ∀y∈scope.names,y.2= .free -> ∃c,env.cells.lookup y.1=some c): ∃cl,b0 (closureFor scope env=pure cl) (∀x c,cl.lookup x=some c ->env.cells.lookup x=some c) (∀y∈scope.names,y.2= .free ->(cl.lookup y.1).isSome=true):=by let⟨cl,e1,e2,_,e4⟩:=di scope.names [] h (λ_ _ e=>by simp at e);exact#[cl,?_,e2,e4];simp![closureFor];rw[e1,pure_bind]
theorem cP {env:Env}: ∀ {names:yr (Str×NameKind)} {x:Str} {k:NameKind},(names.map λ(n,k)=>if(k==NameKind.free && env.scope.kind== .function && env.kindOf n==some .cell) then(n,NameKind.cell) else(n,k)).lookup x=some k ->names.lookup x=some k \/ (k= .cell /\ names.lookup x=some .free)
 | [],_,_,h=>by simp at h
 | (n, j)::r,x,k,h=>by
  have ih:= @cP env r x k;rw[az] at h;by_cases hc:(j==NameKind.free && env.scope.kind== .function && env.kindOf n==some .cell)=true;simp![hc,bg] at h;rw[bi] at h;rw[bi];by_cases hx:x=n;rw[aj hx] at h ⊢;cases h;have hj:j=NameKind.free:=by rw[Bool.and_eq_true,Bool.and_eq_true] at hc;show eq_of_beq hc.1.1
  show .inr #[rfl,by rw[hj]];rw[ai hx] at h ⊢;show ih h;simp![hc,ap,aO] at h;rw[bi] at h;rw[bi];by_cases hx:x=n;rw[aj hx] at h ⊢;show .inl h;rw[ai hx] at h ⊢;show ih h
theorem cL {env:Env}: ∀ {names:yr (Str×NameKind)} {x:Str},names.lookup x=some .free ->(names.map λ(n,k)=>if(k==NameKind.free && env.scope.kind== .function && env.kindOf n==some .cell) then(n,NameKind.cell) else(n,k)).lookup x=some .cell \/(names.map λ(n,k)=>if(k==NameKind.free && env.scope.kind== .function && env.kindOf n==some .cell) then(n,NameKind.cell) else(n,k)).lookup x=some .free
 | [],_,h=>by simp at h
 | (n,j)::r,x,h=>by have ih:= @cL env r x;rw[az];rw[bi] at h;by_cases hc:(j==NameKind.free && env.scope.kind== .function && env.kindOf n==some .cell)=true;simp![hc,bg];rw[bi];by_cases hx:x=n;rw[aj hx];show .inl rfl;rw[ai hx] at h ⊢;show ih h;simp![hc,ap,aO];rw[bi];by_cases hx:x=n;rw[aj hx] at h ⊢;cases h;show .inr rfl;rw[ai hx] at h ⊢;show ih h
abbrev cw (X:Cx)(N':yr Str)(scope:Scope)(cl:yr (Str×Fm))(fp:yr Fm)(s3:yu)(H3:Hp):Cx:={X with N:=N',s₀:=s3,H₀:=H3,env:=compEnvC scope cl s3.heap.objs.size X.env,outer:=X.stack,stack:=X.stack,ex:=fp,fn:=λ_=>false,pn:= [],xe:=λ_ _=>False}
def gl (own:Nat)(fr:yr Nat)(σ:St):St:=List.replicate own none++fr.map λj=>(σ[j]?).join
structure dE (X:Cx)(own:List Str)(fr:List Nat)(N':List Str)(scope:Scope):Prop where
 kind:scope.kind= .function
 names:N'=own++fr.filterMap (λj=>X.N[j]?)
 len:N'.length=own.length+fr.length
 nd:N'.Nodup
 im: ∀y∈scope.names,y.2≠ .cell
 loc: ∀y∈scope.names,y.2= .local ->scope.names.lookup y.1=some .local
 y4: ∀x∈fr.filterMap (λj=>X.N[j]?),scope.names.lookup x=some .free
 free: ∀y∈scope.names,y.2= .free ->X.env.kindOf y.1=some .cell \/ X.env.kindOf y.1=some .free
theorem eu {N:yr Str}: ∀ {fr:yr Nat} {k:Nat} {x:Str},(fr.filterMap (λj=>N[j]?)).length=fr.length ->(fr.filterMap (λj=>N[j]?))[k]? =some x -> ∃j,fr[k]? =some j /\ N[j]? =some x
 | [],_,_,_,e=>by simp at e
 | j ::r,k,x,hl,e=>by
  cases hj:N[j]? with
  | none=>rw[List.filterMap_cons,hj] at hl;have:=List.length_filterMap_le (λj=>N[j]?) r;simp![be] at hl;lia
  | some y=>
   rw[List.filterMap_cons,hj] at hl e;simp![be,Nat.add_right_cancel_iff] at hl;cases k with
   | zero=>simp at e;show#[j,by simp,by rw[hj,e]]
   | succ k=>show eu (k:=k) hl ⇑e
def pH {σ:St}{fp:yr Fm}(S:dE X own fr N' scope)(I:Inv X aa σ H s)(pR: ∀x c,cl.lookup x=some c ->X.env.cells.lookup x=some c)(no: ∀y∈scope.names,y.2= .free ->(cl.lookup y.1).isSome=true)(nn: ∀b∈fp,e_ X aa H b)(Fd: ∀b∈fp,b<s.heap.objs.size)(wL:h'.Ns s.heap.objs.size (λ_=>none))(hk: ∀b o,s.heap.get? b=some o ->h'.get? b=some o): Inv (cw X N' scope cl fp s H) [] (gl own.length fr σ) H {s with heap:=h',toks:=t}:=by
 have look: ∀x,(compEnvC scope cl s.heap.objs.size X.env).kindOf x=(relabel scope X.env).names.lookup x:=λ_=>rfl
 have yX:(fr.filterMap (λj=>X.N[j]?)).length=fr.length:=by have:=S.len;rw[S.names,aK] at this;lia
 exact#[#[I.ok.mod,?_,I.ok.glob,I.ok.blt,am _,λx y c e1 e2=>I.ok.inj x y c (pR _ _ e1) (pR _ _ e2),λx hx=> ?_,(λx c z _=>nomatch z),I.ok.hd,I.ok.frames, .inl rfl,λb hb=>#[?_,λx c e=>(nn b hb).2.2.2.2.1 x c (pR x c e)],I.bs,a0 I.ok.sI I.sz,λb o e hb=> ?_,λb hb hz=> ?_,I.stack,I.k7],
  rfl,I.bare,Un.kept hk,#[_,wL,λi x v e1 e2 e3=> ?_],λx c e=> ?_,I.bX.fresh (am _),λx c e=>I.dA x c (pR x c e),λp hp=>absurd (show p∈([]:yr (Fm×Obj)) from hp) (by simp),I.bX.kept hk,?_]
 change(relabel scope X.env).kind=_
 show S.kind
 have Aj:scope.names.lookup x=some .free:=by obtain hx | hx:=hx;obtain q | ⟨_,q⟩:=cP hx;show absurd rfl (S.im _ (bC q));show q;obtain q | ⟨q,_⟩:=cP hx;show q;cases q
 show Option.isSome_iff_exists.mp (no _ (bC Aj) rfl)
 show aZ (Fd b hb)
 obtain z | z:=(nn b hb).2.2.2.1
 show I.ok.oW b o e z
 show absurd (aJ (ax e) (a0 I.ok.sI z)) (Nat.lt_irrefl _)
 obtain q | q:=aD.mp (I.ko b hz)
 show(nn b hb).2.1 q
 show(nn b hb).2.2.1 q
 -- a Bz value
 have e1:(own++fr.filterMap (λj=>X.N[j]?))[i]? =some x:=by rw[<- S.names];show e1
 unfold gl at e2
 by_cases hi:i<own.length
 rw[aH ⇑hi,List.getElem?_replicate,aj hi] at e2
 cases e2
 rw [aB ⇑hi,List.length_replicate] at e2
 rw[aB ⇑hi] at e1
 let⟨j,ej,ex⟩:=eu yX e1
 rw[aP,ej] at e2
 have e2:(σ[j]?).join=some v:= ⇑e2
 have Gs:σ[j]? =some (some v):=by
  cases q:σ[j]? with
  | none=>rw[q] at e2;cases e2
  | some w=>rw[q] at e2;simp at e2;rw[e2]
 have hf:=S.y4 x (List.mem_of_getElem? e1)
 have hm:=bC hf
 let⟨m,_,hl⟩:=I.loc
 have A3:zb X.env.scope x:=by obtain q | q:=S.free _ hm rfl;show .inr (.inl q);show .inr (.inr q)
 let⟨u,r,l⟩:=hl j x v ex Gs A3
 exact#[u,r, .inr #[?_,?_]]
 show cL hf
 rcases l with⟨k,_⟩ | ⟨_,c,ec,z⟩
 obtain q | q:=S.free _ hm rfl
 rw[k] at q;cases q
 rw[k] at q;cases q
 let⟨c',Ec⟩:=Option.isSome_iff_exists.mp (no _ hm rfl)
 have:=pR _ _ Ec
 rw[ec] at this
 cases this
 show#[c,Ec,z.keeps hk]
 let⟨v,z⟩:=I.cell x c (pR x c e)
 show#[v,z.keeps hk]
 change(gl own.length fr σ).length=N'.length
 unfold gl
 rw[aK,List.length_replicate,av,S.len]
def Ax (X:Cx)(cs:yr Expr)(t:TT):Prop:=∀ (aa:yr (Fm×Obj)) (s:yu) (σ:St) (H:Hp) (Q:Bool ->Hp ->Prop),Inv X aa σ H s ->t σ H Q ->wpAny (model X.prog X.w) X.A (forIn cs true λc r=>if r=true then do let ok <- isTrue c X.env (eval c X.env);pure (ForInStep.yield ok) else pure (ForInStep.yield r)) (TP X aa σ Q) X.xe s
def xn:TT:=λ_ H Q=>Q true H
theorem rq:Ax X [] xn:=λaa s σ H Q I h=>wpAny_tests_nil #[H,I,h]
theorem rn (h:PT X c t):Ax X [c] t:=λaa s σ H Q I q=>wpAny_tests_one (h aa s σ H Q I q)
theorem ny (I:Nat ->yu ->Prop)(turn : ∀n s,I n s ->wpAny (model prog w) A (pyNext it) (λr s₁=>match r with
   | none=>R (.ok .next) s₁
   | some v=>wpAny (model prog w) A (letOwnedTupleGo eK it v) (λ_ s₀=>wpAny (model prog w) A (assign eK env v) (λ_ s₂=>
    wpAny (model prog w) A (forIn qI true λc r=>if r=true then do let ok <- isTrue c env (eval c env);pure (ForInStep.yield ok) else pure (ForInStep.yield r)) (λok s₃=>if ok=true then wpAny (model prog w) A (eval qL env) (λx s₄=>wpAny (model prog w) A (call (.builtin "list.append") [dL,x]) (λ_ s₅=> ∃m,m<n /\ I m s₅) (λ_ _=>False) s₄) (λ_ _=>False) s₃ else ∃m,m<n /\ I m s₃) (λ_ _=>False) s₂)
    (λ_ _=>False) s₀) (λ_ _=>False) s₁) (λ_ _=>False) s)(n:Nat)(h:I n s):codeAny (model prog w) A (.compLoop (.ListComp qL [#[eK,iter,qI,0]] scope pos) 0 it dL env) R s:=by
 exact codeAny_loop rfl I (λn s hI=> ?_) n h
 change wpAny _ A ((compTurn (.ListComp qL [#[eK,iter,qI,0]] scope pos) 0 it dL env).onRaise (λx=>do noteFrame x env;theTreesLotGoes x)) _ _ s
 exact wpAny_noted ?_
 rw[compTurn_list]
 exact ar (wpAny_standAt (ar (wpAny_mono (turn n s hI) (λr s₁ h₁=> ?_) λ_ _ h'=>h'.elim)))
 cases r with
 | none=>show aS h₁
 | some v=>
  exact ar (wpAny_mono h₁ (λ_ s₀ EQ=> ?_) λ_ _ h'=>h'.elim);exact ar (wpAny_mono EQ (λ_ s₂ h₂=> ?_) λ_ _ h'=>h'.elim);exact ar (wpAny_mono h₂ (λEH s₃ h₃=> ?_) λ_ _ h'=>h'.elim);cases EH with
  | false=>show aS #[rfl,h₃]
  | true=>show ar (ar (wpAny_mono h₃ (λx s₄ h₄=>ar (wpAny_mono h₄ (λ_ s₅ h₅=>aS (aS #[rfl,h₅])) λ_ _ h'=>h'.elim)) λ_ _ h'=>h'.elim))
def Wk (σ0 σ2:St):Prop:=σ2.length=σ0.length /\ ∀ (i:Nat) v,σ0[i]? =some (some v) ->σ2[i]? =some (some v)
def sW (own:Nat)(g:TG):Prop:= ∀ (c:St) (v:V) (H:Hp) (Q:St ->Hp ->Prop),g v (List.replicate own none++c) H Q ->g v (List.replicate own none++c) H λσ2 H2=>Wk (List.replicate own none++c) σ2 /\ Q σ2 H2
def nB:sW 1 (fX 0):=by
 intro c v H Q h;exact#[#[by simp,λi u e=> ?_],h];cases i with
 | zero=>simp at e
 | succ i=>simpa using e
def qb {K:Fp}:sW 2 (v6 K 2 (l6 (fX 0) (l6 (fX 1) v7))):=by
 rintro c v H Q ⟨a,xs,e,hs,hl,x,r,rfl,y,r',rfl,rfl,h⟩;exact#[a,_,e,hs,hl,x,_,rfl,y,_,rfl,rfl,#[by simp,λi u e=> ?_],h];match i with
 | 0=>simp at e
 | 1=>simp at e
 | i+2=>simpa using e
def uH (J:It)(own:Nat)(fr:yr Nat)(g:TG)(tc:TT)(te:TE)(σ:St)(p:Fm)(H1:Hp)(Q:VK):Prop:=∃ W :Nat ->Nat ->yr V ->Hp ->Prop,(∃m,W 0 m [] (b8 H1 p (.lst []))) /\ ∀i m ys H',W i m ys H' ->H' p=some (.lst ys) /\((J.stop i H' /\ Q (.ref p) H') \/ (J.go i H' /\ ys.length<sizeLine /\ ∀x H2,J.zm i H' x H2 ->g x (gl own fr σ) H2 λσ2 H3=>tc σ2 H3 λb H4=>if b=true then te σ2 H4 λy H5=> ∃zs,H5 p=some (.lst zs) /\ zs.length<sizeLine /\ ∃m',m'<m /\ W (i+1) m' (zs++ [y]) (b8 H5 p (.lst (zs++ [y]))) else ∃zs m',m'<m /\ W (i+1) m' zs H4))
def tQ (wi:TI)(own:Nat)(fr:yr Nat)(g:TG)(tc:TT)(te:TE):TE:=λσ H Q=>wi σ H λJ H1=> ∀p,H1 p=none ->uH J own fr g tc te σ p H1 Q
theorem nA {σ:St}{σ':St}(I3:Inv X aa σ H s3)(nn: ∀b∈fp,e_ X aa H b)(Ic:Inv (cw X N' scope cl fp s3 H) lz σ' H' s'):Inv X aa σ H' s':=I3.y8 (ch:=fp) Ic.os Ic.base Ic.bX Ic.bare λb hb=>#[(nn b hb).2.2.2.1,(nn b hb).2.1,(nn b hb).2.2.2.2.1,(nn b hb).2.2.2.2.2]
def nz {σ:St}{C:Fm}{σ':St}(I3:Inv X aa σ H s3)(hC:C=s3.heap.objs.size)(J:Inv X aa σ' H' s')(hn:H' C=none)(hs:Heap.SameBut C s'.heap h'):Inv X aa σ' H' {s' with heap:=h'}:=by subst hC;exact J.turned (t':=s'.toks) (it:=s3.heap.objs.size) (λb o hb e=>hs.extBut b o hb e) hn (Nat.ne_of_gt I3.lt) (.inr I3.sz) (λx c e z=> ?_) λp hp z=> ?_;let⟨v,q⟩:=I3.cell x c e;show absurd q.lt (by rw[z];show Nat.lt_irrefl _);show absurd (ax (I3.pin p hp).1) (by rw[z];show Nat.lt_irrefl _)
def kO {σ:St}{RR:yt ->Fm ->Result ->yu ->Prop}(l5:X.calm=true)(S:dE X own fr N' scope)(hg: ∀s3 H3,PG (cw X N' scope cl fp s3 H3) tg g)(hw:sW own.length g)(hc: ∀s3 H3,Ax (cw X N' scope cl fp s3 H3) qI tc)(he: ∀s3 H3,PE (cw X N' scope cl fp s3 H3) qL te)(pR: ∀x c,cl.lookup x=some c ->X.env.cells.lookup x=some c)(no: ∀y∈scope.names,y.2= .free ->(cl.lookup y.1).isSome=true)(I:Inv X aa σ H s)(T:qh X.prog X.w X.K tg J fp it tn)(st:tn 0 s.heap)(nn: ∀b∈fp,e_ X aa H b)(h: ∀p,H p=none ->uH J own.length fr g tc te σ p H Q)(fin: ∀ (s3:yu) (H3:Hp),Inv X aa σ H3 s3 ->(∀b∈fp,e_ X aa H3 b) -> ∀ (D:Fm) (σ':St) (H':Hp) (s':yu) (t:Nat),D<s3.heap.objs.size ->Inv (cw X N' scope cl fp s3 H3) [] σ' H' s' ->Q (.ref D) H' ->RR (.ref D) s3.heap.objs.size (.ok .next) s'): wpAny (model X.prog X.w) X.A (newList []) (λdL s₃=>wpAny (model X.prog X.w) X.A (newFunctionEnv scope X.env.globals cl [] X.env.qual none .none (some X.env)) (λy3 s₄=>codeAny (model X.prog X.w) X.A (.compStart (.ListComp qL [#[tg,iter,qI,0]] scope pos) 0 (.ref it) dL {y3 with scope:=relabel scope X.env}) (RR dL y3.locals) s₄) E s₃) E s:=by
 exact wpAny_newObj_type ?_;have hf:H s.heap.objs.size=none:=I.bX.fresh (am _);let⟨W,⟨m0,w0⟩,turn⟩:=h _ hf;generalize e3:({s with heap:=s.heap.push {cls:= .type "list",dict:=none,data:= .seq ([]:yr yt).toArray}}:yu)=s3;have Bb:s3.heap.objs.size=s.heap.objs.size+1:=by rw[<- e3];show Heap.size_push ..
 have Ey: ∀b o,s.heap.get? b=some o ->s3.heap.get? b=some o:=λb o e=>by rw[<- e3];show ay _ e
 have I3:Inv X aa σ (b8 H s.heap.objs.size (.lst [])) s3:=by rw[<- e3];show I.laid (t':=s.toks) (λb u e=>ay _ e) (am _) #[Nat.zero_le _,[],0, .nil,a5 _ rfl]
 have CF: ∀b∈fp,b<s.heap.objs.size:=λb hb=>by let⟨o,e,_⟩:=T.obj 0 _ st b hb;show ax e
 have vU: ∀b∈fp,e_ X aa (b8 H s.heap.objs.size (.lst [])) b:=λb hb=>#[by rw[bR (aZ (CF b hb))];show(nn b hb).1,(nn b hb).2]
 exact wpAny_newFunctionEnv S.im (by intro y hy;simp at hy) (λh₁ B8 BU=> ?_) S.kind;have old: ∀b o,s3.heap.get? b=some o ->h₁.get? b=some o:=λb o e=>BU.extBut b o (aZ (ax e)) (ay _ e);have Ic:=pH (t:=s3.toks+([]:yr (Str×yt)).length) S I3 pR no vU (λb hb=>by rw[Bb];show Nat.lt_succ_of_lt (CF b hb)) B8 old;have qy:tn 0 h₁:=T.keep 0 _ _ st λb hb o e=>old b o (Ey b o e);have kq: ∀ {H':Hp},(∀b∈fp,H' b=none) -> ∀b∈fp,e_ (cw X N' scope cl fp s3 (b8 H s.heap.objs.size (.lst []))) [] H' b:=λhn b hb=>by exact#[hn b hb,?_,?_, .inl hb,λx c e=>(nn b hb).2.2.2.2.1 x c (pR x c e),λp hp=>absurd (show p∈([]:yr (Fm×Obj)) from hp) (by simp)];change b≠s3.heap.objs.size;rw[Bb];show aZ (Nat.lt_succ_of_lt (CF b hb));show Ic.ok.pW b hb
 have loop:codeAny (model X.prog X.w) X.A (.compLoop (.ListComp qL [#[tg,iter,qI,0]] scope pos) 0 (.ref it) (.ref s.heap.objs.size) (compEnvC scope cl s3.heap.objs.size X.env)) (RR (.ref s.heap.objs.size) s3.heap.objs.size) {s3 with heap:=h₁,toks:=s3.toks+([]:yr (Str×yt)).length}:=by
  exact ny (λn s'=>dr λi ys H'=>c6 (Inv (cw X N' scope cl fp s3 (b8 H s.heap.objs.size (.lst []))) [] (gl own.length fr σ) H' s') (tn i s'.heap) (∀b∈fp,H' b=none) (W i n ys H')) ?_ m0 #[0,[],_,Ic,qy,λb hb=>(vU b hb).1,w0];rintro n s4 ⟨i,ys,H4,I4,cD,D_,w4⟩;let⟨vZ,alt⟩:=turn i n ys H4 w4;rcases alt with⟨stop,q⟩ | ⟨go,hsz,step⟩
  .exact bP (T.done (cw X N' scope cl fp s3 (b8 H s.heap.objs.size (.lst []))) rfl rfl rfl l5 i [] s4 _ H4 (λ_ _=>False) I4 (kq D_) cD stop) λr s5 ⟨hr,I5⟩=> ?_;subst hr;show fin s3 _ I3 vU _ _ H4 s5 s5.toks (by rw[Bb];show Nat.lt_succ_self _) I5 q
  exact bP (T.item (cw X N' scope cl fp s3 (b8 H s.heap.objs.size (.lst []))) rfl rfl rfl l5 i [] s4 _ H4 (λ_ _=>False) I4 (kq D_) cD go) λr s5 ⟨u,hr,h5⟩=> ?_;subst hr;exact bP h5 λ_ s6 ⟨x,H6,I6,r6,y6,Bc,Gq⟩=> ?_;have GD:=I6.pinned (kq Gq) (T.obj _ _ Bc);have Dm:=hw _ x H6 _ (step x H6 y6);exact bP (hg s3 _ _ s6 _ H6 x u _ GD r6 Dm) λ_ s7 ⟨σ7,H7,I7,wk,q7⟩=> ?_;have again: ∀ {H9:Hp} {s9:yu} {AB:yr V},Inv (cw X N' scope cl fp s3 (b8 H s.heap.objs.size (.lst []))) ([]++fK fp s6.heap) σ7 H9 s9 ->(∃m',m'<n /\ W (i+1) m' AB H9) ->∃m,m<n /\ dr λi ys H'=>c6 (Inv (cw X N' scope cl fp s3 (b8 H s.heap.objs.size (.lst []))) [] (gl own.length fr σ) H' s9) (tn i s9.heap) (∀b∈fp,H' b=none) (W i m ys H'):=λ{H9 s9 AB} I9 ⟨m',hm,w9⟩=>by exact#[m',hm,i+1,AB,H9,(I9.d6).weak ?_ wk.2,T.keep _ _ _ Bc λb hb o e=>(I9.pin (b,o) (aR _ (aR _ (dg hb e)))).1,λb hb=> ?_,w9];show wk.1.symm;let⟨o,e,d⟩:=T.obj _ _ Bc b hb;show(I9.pin (b,o) (aR _ (aR _ (dg hb e)))).2.1
  exact bP (hc s3 _ _ s7 σ7 H7 _ I7 q7) λok s8 ⟨H8,I8,q8⟩=> ?_;cases ok with
  | false=>simp![ap,aO] at q8 ⊢;let⟨zs,q8⟩:=q8;show again I8 q8
  | true=>simp![bg] at q8 ⊢;exact bP (he s3 _ _ s8 σ7 H8 _ I8 q8) λy s9 ⟨yv,H9,I9,ry,zs,E4,ER,q9⟩=> ?_;exact bP (gz _ s9 σ7 H9 (.ref s.heap.objs.size) [yv] (.ref s.heap.objs.size) [y] (λv H'=>H'=b8 H9 s.heap.objs.size (.lst (zs++ [yv]))) I9 rfl (.cons ry .nil) #[_,zs,yv,rfl,rfl,E4,ER,rfl]) λv GL ⟨_,G4,GG,_,Gu⟩=> ?_;subst Gu;show again GG q9
 show codeAny_compStart_list loop (T.self _ 0 _ _ _ qy loop)
theorem Cx.Ok.cellsOf (ok:X.Ok)(S:dE X own fr N' scope): ∀y∈scope.names,y.2= .free -> ∃c,X.env.cells.lookup y.1=some c:=λy hy hf=>ok.has y.1 (S.free y hy hf)
def lC (l5:X.calm=true)(S:dE X own fr N' scope)(hi:PI X tg iter wi)(hg: ∀cl fp s3 H3,PG (cw X N' scope cl fp s3 H3) tg g)(hw:sW own.length g)(hc: ∀cl fp s3 H3,Ax (cw X N' scope cl fp s3 H3) qI tc)(he: ∀cl fp s3 H3,PE (cw X N' scope cl fp s3 H3) qL te)(hs: ∀x,foldedSetIterable iter X.env x=pure x:=by intro _;rfl):PE X (.ListComp qL [#[tg,iter,qI,0]] scope pos) (tQ wi own.length fr g tc te):=by intro aa s σ H Q I h;let⟨cl,yQ,pR,no⟩:=kP (I.ok.cellsOf S);rw[eval_ListComp];exact wpAny_comprehension_free (use:=none) rfl hs yQ S.kind S.loc (bP (hi aa s σ H _ I h) λv s1 h1=>bP h1 λBL s2 h2=> ?_);let⟨it,fp,tn,J,H2,e,I2,T,eL,f2,h2⟩:=h2;subst e;exact kO (RR:=λdL C=>compPost (model X.prog X.w) X.A X.xe none (EP X aa σ Q) dL C) l5 S (hg cl fp) hw (hc cl fp) (he cl fp) pR no I2 T eL f2 h2 ?_;intro s3 H3 I3 f3 D σ' H' s' t hD Ic q;let⟨m,hn,_⟩:=Ic.loc;exact#[m,hn,λh' BV=>#[.ref D,H',?_,rfl,q]];show nz I3 rfl (nA I3 f3 Ic) Ic.free BV
def Un.Dn {K:Fp}(h: ∀b xs,Rd H b (.tup xs) ->Rd H' b (.tup xs))(q:eW K H a xs):eW K H' a xs:=by obtain q | q:=q;show .inl (h _ _ q);show .inr q
theorem lU: ∀ {ks:yr Int} {vs:yr yt},vs.length=ks.length ->(∀ (j:Nat) (v:yt),vs[j]? =some v ->bH λ(k:Int) (t:Tok)=>ks[j]? =some k /\ v= .int k t) ->IntsAre vs ks
 | [],[],_,_=> .nil
 | [],_::_,h,_=>by simp at h
 | _::_,[],h,_=>by simp at h
 | k::ks,v::vs,h,hv=>by let⟨k',t,e1,e2⟩:=hv 0 v rfl;simp at e1;subst e1 e2;show .cons k t (lU ⇑h λj u e=> ⇑(hv (j+1) u ⇑e))
def jh:yr V ->Hp ->VK ->Prop:=λxs H Q=>dr λ(d:Fm) (kvs:yr (bM×V)) (ks:yr Int)=>dB (xs= [.ref d]) (H d=some (.dK kvs)) (kvs.map (·.1)=ks.map Sum.inl) (ks.length<=sizeLine) (∀ (p:Fm) (ns:yr Int),H p=none ->ns.Perm ks ->ns.Pairwise (· <= ·) ->Q (.ref p) (b8 H p (.lst (ns.map V.int))))
def iG (hc:X.calm=true):cE X (.builtin "sorted") jh:=by
 intro aa s σ H xs us Q I r h;let⟨d,kvs,ks,rfl,hd,hk,Au,q⟩:=h;let⟨u,rfl,ru⟩:=vals1 r;cases ru;have hh:X.A.in1.handled=none:=I.ok.hd hc;let⟨hz,lo,vs,eG,dd⟩:=uC I.bX hd;let⟨ep,Fj⟩:=dd.dictAt;have dh:vs.length=ks.length:=by have e1:=congrArg List.length hk;rw[av,av] at e1;rw[<- eG.length,e1]
 exact Calls.call_function_entry kind_sorted plain_sorted entry_sorted (args_sorted1 _) ?_;unfold Builtin.«sorted»;exact ar (m:=checkCount "sorted" 1 1 _) (aS ?_);exact ar (W.kdu_collect (A:=X.A.in1) (W.kdl_dict (knd:=bI X.prog X.w) (kvs:=vs) (ep:=ep) lo) hh Fj (by rw[<- eG.length];show hz) λh' tk dL Fc vZ=> ?_);have hl:dL.toList.length=ks.length:=by rw[bD,vZ.1,dh]
 have hI:IntsAre dL.toList ks:=lU hl λj v e=>by
  let⟨k,x,hx,Cj⟩:=vZ.2 j v (by rw[<- Array.getElem?_toList];show e);have yL:(kvs.map (·.1))[j]? =some k:=by
   have:(vs.map (·.1))[j]? =some k:=by rw[aP,hx];rfl
   rw[<- eG.keys] at this;show this
  rw[hk,aP] at yL;cases e2:ks[j]? with
  | none=>rw[e2] at yL;cases yL
  | some n=>
   rw[e2] at yL;cases yL;have Ci:eY (Sum.inl n) v=true:=Cj;rcases aY Ci with⟨i,t,e3,e4⟩ | ⟨x,t,e3,e4⟩
   cases e3;show#[n,t,rfl,e4];cases e3
 exact ar (wpAny_newList ?_ (by rw[hl];show Au));have ho:(h'.push (seqObj "list" dL.toList.toArray 0)).get? h'.objs.size=some (seqObj "list" dL.toList.toArray 0):=a5 _ rfl;exact ar (wpAny_holding (wpAny_call_entry slot_list_sort #[_,ho,rfl] entry_list_sort (TS.mJ (s:= {s with heap:=h'.push (seqObj "list" dL.toList.toArray 0),toks:=tk}) ho hI (by rw[hl];show Au) λout wG a1 a2 a3=>#[_,rfl,?_]) (args_list_sort _)));let⟨ee,CA⟩:=sortedHeap_at (out:=out) ho;have I':Inv X aa σ H {s with heap:=h',toks:=tk}:=I.kept (t':=tk) Fc;exact aS #[_,rfl, .ref h'.objs.size,_,I'.laid (t':=tk) (o:= .lst (wG.map V.int)) (λb o hb=> ?_) (am _) ?_,rfl,q _ wG (I'.bX.fresh (am _)) a2 a3];have iC:b<h'.objs.size:=ax hb;rw[sortedHeap_old (aZ iC) (by rw[Heap.size_push];show Nat.lt_succ_of_lt iC)];show ay _ hb;exact#[?_,out.toList,ee,eJ a1, ⇑CA];rw[av,a2.length_eq];show Au
def dE.of {X:Cx}{sc scope:Scope}{N own N':yr Str}{fr:yr Nat}(E2:X.env.scope=sc:=by show rfl)(hN:X.N=N:=by show rfl)(kind:scope.kind= .function:=by show rfl)(names:N'=own++fr.filterMap (λj=>N[j]?):=by decide+kernel)(len:N'.length=own.length+fr.length:=by show rfl)(nd:N'.Nodup:=by decide+kernel) (im: ∀y∈scope.names,y.2≠ .cell:=by decide+kernel) (loc: ∀y∈scope.names,y.2= .local ->scope.names.lookup y.1=some .local:=by decide+kernel) (y4: ∀x∈fr.filterMap (λj=>N[j]?),scope.names.lookup x=some .free:=by decide+kernel) (free: ∀y∈scope.names,y.2= .free ->sc.names.lookup y.1=some .cell \/ sc.names.lookup y.1=some .free:=by decide+kernel):dE X own fr N' scope:=by subst hN E2;show#[kind,names,len,nd,im,loc,y4,free]
structure iR (K:PySem.W.Frag)(mg:Str ->Option Value)(x:Str)(ps:List Str)(st:Stmt)(f:Addr)(fd:FuncData):Prop where
 at_:mg x=some (.ref f)
 fn:qj K x x st f fd
 bd:Binds K fd ps []
theorem bz {st:Stmt}{p pos:Pos}(C:iR X.K X.mg x ps st f fd)(F:cz X.prog X.w X.K X.mg X.base eI k f fd ps sp)(hr:cU j X.A)(ha:PA X (e::es) t)(hk:k<=j:=by decide)(hg:Gl X x:=by rfl)(vW:(x==("__debug__" :Str))=false:=by decide)(he:starEach (e::es) X.env=(false,eval e X.env)::starEach es X.env:=by rfl)(uq:(backTo pos (starEach es X.env)).any (·.1)=false:=by rfl): PE X (.Call (.Name x p) (e::es) [] pos) (k5 sp [] E0 t):=rK F (hr.mono hk) hg C.at_ C.fn.kp C.bd .nil xS ha vW he uq
theorem br (h:H p=none):cV H (b8 H p o):=λb u e=>by rw[bR (cr e h)];show e
def aI (H H':Hp):Prop:= ∀b xs,Rd H b (.tup xs) ->Rd H' b (.tup xs)
theorem aI.refl (H:Hp):aI H H:=λ_ _ h=>h
theorem aI.trans (a:aI H H1)(b:aI H1 H2):aI H H2:=λc o h=>b c o (a c o h)
theorem cV.ts (a:cV H H'):aI H H':=λb xs h=>by obtain h | ⟨o,h⟩:=h;show .inl (a _ _ h);show .inr #[o,a _ _ h]
inductive zc (K:PySem.W.Frag)(H:Hp):V ->Value ->Prop where
 | of {x:V} {t:Value} (h:eV K H x t):zc K H x t
 | tup {a:Addr} {xs:List V} (h:eW K H a xs):zc K H (.ref a) (.type "tuple")
 | lst {a:Addr} {xs:List V} (h:dD K H a xs):zc K H (.ref a) (.type "list")
def xN (K:Fp):yr V ->Hp ->VK ->Prop:=λxs H Q=>d5 λx T t b=>c6 (xs= [x, .ty T]) (zc K H x t) (W.kitOne K t (.type T)=some b) (Q (.bl b) H)
def jZ:cE X (.builtin "isinstance") (xN X.K):=by
 intro aa s σ H xs us Q I r h;let⟨x,T,t,b,rfl,ty,e,q⟩:=h;let⟨u,w',rfl,ru,hX⟩:=vals2 r;cases hX;cases ty with
 | of ty=>show nh I ru ty e λtk=>#[.bl b,H,I.tok tk,rfl,q]
 | tup hs=>cases ru;let⟨aU,rv,⟨o,h1,h2,_⟩,_⟩:=I.tuple hs;show a_ W.kitx_tuple I.gD #[o,h1,h2] e (λz=>nomatch z) λtk=>#[.bl b,H,I.tok tk,rfl,q]
 | lst hs=>cases ru;let⟨aU,rv,ht,_⟩:=I.list hs;let⟨o,h1,h2,_⟩:=ht.isList;show a_ W.kitx_list I.gD #[o,h1,h2] e (λz=>nomatch z) λtk=>#[.bl b,H,I.tok tk,rfl,q]
end L2
namespace L2
open PySem PyProof.Rows PyProof.V PySem.Calls PySem.Spec
def zl (a C:Fm)(h:Heap):Prop:= ∃o,h.get? a=some o /\ o.cls= .ref C
end L2
namespace WL
open PySem L2
set_option genInjectivity true in
inductive W where
 | v (x:V) | tup (l:List W)
set_option genInjectivity true in
inductive MO where
 | lst (l:List W) | dK (kvs:List (bM×W)) | ins (C dx:Addr) (fs:List (Str×W)) | exc (C:Addr) | fz (o:Obj) (ks:List (bM×V)) (kvs:List (bM×W)) | dN (kvs:List (NK×W))
abbrev Mp:=Fm ->BP MO
abbrev bY:=yr (BP W)
abbrev WK:=W ->Mp ->Prop
abbrev WE:=bY ->Mp ->WK ->Prop
abbrev WT:=bY ->Mp ->(Bool ->Mp ->Prop) ->Prop
abbrev WA:=bY ->Mp ->(yr W ->Mp ->Prop) ->Prop
abbrev WG:=W ->bY ->Mp ->(bY ->Mp ->Prop) ->Prop
abbrev sO:=yr W ->bY ->Mp ->(bY ->Mp ->Prop) ->Prop
abbrev gY:=W ->W ->Mp ->WK ->Prop
abbrev nJ:=yr W ->Mp ->WK ->Prop
abbrev WI:=bY ->Mp ->(yr W ->(Mp ->Prop) ->Mp ->Prop) ->Prop
structure dC where
 nx:bY ->Mp ->Prop
 rt:WK
 bk:bY ->Mp ->Prop:=λ_ _=>False
 ct:bY ->Mp ->Prop:=λ_ _=>False
abbrev WS:=dC ->bY ->Mp ->Prop
@[reducible] def wi (i:Int):W:= .v (.int i)
@[reducible] def wb (b:Bool):W:= .v (.bl b)
@[reducible] def wr (a:Fm):W:= .v (.ref a)
@[reducible] def ws (x:Str):W:= .v (.str x)
@[reducible] def wn:W:= .v .dy
def um (M:Mp)(a:Fm)(o:MO):Mp:=λb=>if b=a then some o else M b
def aW:um M a o a=some o:=by unfold um;rw[aj rfl]
def bx (h:b≠a):um M a o b=M b:=by unfold um;rw[ai h]
def xk:um (um M a o) a u=um M a u:=by funext b;unfold um;split<;>rfl
def dz {M:Mp}(h:M a=some o)(h':M b=none):a≠b:=by intro e;subst e;rw[h] at h';cases h'
def Sm (M M':Mp):Prop:= ∀b o,M b=some o ->M' b=some o
theorem Sm.refl (M:Mp):Sm M M:=λ_ _ h=>h
theorem Sm.trans {M M1 M2:Mp}(a:Sm M M1)(b:Sm M1 M2):Sm M M2:=λc o h=>b c o (a c o h)
def Sm.free (a:Sm M M')(h:M' p=none):M p=none:=by
 cases e:M p with
 | none=>rfl
 | some o=>rw[a p o e] at h;cases h
theorem bL (h:M p=none):Sm M (um M p o):=λb u e=>by rw[bx (dz e h)];show e
theorem Sm.um (a:Sm M M')(h:M p=none):Sm M (um M' p o):=λb u e=>by rw[bx (dz e h)];show a b u e
mutual
def WR (K:Fp)(H:Hp):W ->V ->Prop
 | .v x,v=>v=x
 | .tup l,v=>bH λa vs=>b0 (v= .ref a) (eW K H a vs) (bO K H l vs)
def bO (K:Fp)(H:Hp):yr W ->yr V ->Prop
 | [],vs=>vs= []
 | x::r,vs=>bH λv t=>b0 (vs=v::t) (WR K H x v) (bO K H r t)
end
mutual
theorem WR.ts {K:Fp}{H H':Hp}(a:aI H H'): ∀ (x:W) (v:V),WR K H x v ->WR K H' x v
 | .v x,v,h=>by simp![WR] at h ⊢;show h
 | .tup l,v,h=>by simp![WR] at h ⊢;let⟨p,vs,e,hs,hr⟩:=h;show#[p,vs,e,Un.Dn a hs,bO.ts a l vs hr]
theorem bO.ts {K:Fp}{H H':Hp}(a:aI H H'): ∀ (l:yr W) (vs:yr V),bO K H l vs ->bO K H' l vs
 | [],vs,h=>by simp![bO] at h ⊢;show h
 | x::r,vs,h=>by simp![bO] at h ⊢;let⟨v,t,e,h1,h2⟩:=h;show#[v,t,e,WR.ts a x v h1,bO.ts a r t h2]
end
theorem bO.length {K:Fp}{H:Hp}: ∀ {l:yr W} {vs:yr V},bO K H l vs ->vs.length=l.length
 | [],_,h=>by simp![bO] at h;subst h;rfl
 | d::r,vs,h=>by simp![bO] at h;let⟨v,t,rfl,_,h⟩:=h;simp[bO.length h]
theorem bO.at {K:Fp}{H:Hp}: ∀ {l:yr W} {vs:yr V} {j:Nat} {d:W},bO K H l vs ->l[j]? =some d -> ∃v,vs[j]? =some v /\ WR K H d v
 | [],_,_,_,_,e=>by simp at e
 | d::r,vs,j,d',h,e=>by
  simp![bO] at h;let⟨v,t,rfl,h1,h⟩:=h;cases j with
  | zero=>simp at e;subst e;show#[v,rfl,h1]
  | succ j=>simpa using bO.at (j:=j) h ⇑e
theorem bO.mk {K:Fp}{H:Hp}: ∀ {l:yr W} {vs:yr V},vs.length=l.length ->(∀ (j:Nat) d v,l[j]? =some d ->vs[j]? =some v ->WR K H d v) ->bO K H l vs
 | [],vs,h,_=>by simp![bO];show List.length_eq_zero_iff.mp h
 | d::r,[],h,_=>by simp at h
 | d::r,v::vs,h,k=>by simp![bO];show#[v,vs,rfl,k 0 d v rfl rfl,bO.mk ⇑h λj x u e1 e2=>k (j+1) x u ⇑e1 ⇑e2]
def bO.back {j:Nat}(h:bO K H l vs)(e:vs[j]? =some v): ∃d,l[j]? =some d /\ WR K H d v:=by
 have hl:=h.length;have hj:j<l.length:=by have:=(aG.mp e).1;lia
 let⟨u,hu,r⟩:=h.at (j:=j) (d:=l[j]) (aM hj);rw[e] at hu;cases hu;show#[_,aM hj,r]
def bO.snoc (h:bO K H l vs)(hr:WR K H d v):bO K H (l++ [d]) (vs++ [v]):=by
 have hl:=h.length;exact bO.mk (by simp[hl]) λj x u e1 e2=> ?_;by_cases hj:j<l.length;rw[aH hj] at e1;rw[aH ∅] at e2;let⟨w,hw,r⟩:=h.at e1;rw[e2] at hw;cases hw;show r;rw[aB ∅] at e1;rw[aB ∅,hl] at e2;cases hk:j - l.length with
 | zero=>rw[hk] at e1 e2;simp at e1 e2;subst e1 e2;show hr
 | succ k=>rw[hk] at e1;simp at e1
def bO.append (h:bO K H l vs)(h':bO K H m us):bO K H (l++m) (vs++us):=by have hl:=h.length;have lY:=h'.length;exact bO.mk (by simp[hl,lY]) λj x u e1 e2=> ?_;by_cases hj:j<l.length;rw[aH hj] at e1;rw[aH ∅] at e2;let⟨w,hw,r⟩:=h.at e1;rw[e2] at hw;cases hw;show r;rw[aB ∅] at e1;rw[aB ∅,hl] at e2;let⟨w,hw,r⟩:=h'.at e1;rw[e2] at hw;cases hw;show r
def bO.set (n:Nat)(h:bO K H l vs)(hr:WR K H d v):bO K H (l.set n d) (vs.set n v):=by have hl:=h.length;exact bO.mk (by simp[h.length]) λj x u e1 e2=> ?_;rw[List.getElem?_set] at e1 e2;split at e1;rename_i hj;rw[aj hj] at e2;split at e1;split at e2;cases e1;cases e2;show hr;cases e2;cases e1;rename_i hj;rw[ai hj] at e2;let⟨w,hw,r⟩:=h.at e1;rw[e2] at hw;cases hw;show r
def bO.nil:bO K H [] []:=by simp![bO]
def bO.cons {K:Fp}{H:Hp}{x:W}{v:V}{l:yr W}{vs:yr V}(h:WR K H x v)(r:bO K H l vs):bO K H (x::l) (v::vs):=by simp![bO];show#[v,vs,rfl,h,r]
def WR.v:WR K H (.v x) x:=by simp![WR]
def WR.eq {x v:V}(h:WR K H (.v x) v):v=x:=by simpa only[WR] using h
def WR.tup {K:Fp}{H:Hp}{l:yr W}{v:V}(h:WR K H (.tup l) v):bH λa vs=>b0 (v= .ref a) (eW K H a vs) (bO K H l vs):=by simpa only[WR] using h
def WR.BB (h:eW K H a vs)(r:bO K H l vs):WR K H (.tup l) (.ref a):=by simp![WR];show#[a,vs,rfl,h,r]
def KR (K:Fp)(H:Hp){κ:Type}:yr (κ×W) ->yr (κ×V) ->Prop:=Paired λp q=>p.1=q.1 /\ WR K H p.2 q.2
theorem KR.ts {K:Fp}{H H':Hp}{κ:Type}(a:aI H H'): ∀ {l:yr (κ×W)} {vs:yr (κ×V)},KR K H l vs ->KR K H' l vs
 | _,_, .nil=> .nil
 | _,_, .cons ⟨e,r⟩ t=> .cons #[e,r.ts a] (KR.ts a t)
mutual
def fP:NK ->W
 | .key (.inl i)=>wi i
 | .key (.inr x)=>ws x
 | .seq l=> .tup (fO l)
def fO:yr NK ->yr W
 | []=> []
 | k::r=>fP k::fO r
end
def qQ (K:Fp)(H:Hp)(k:NK)(b:Fm):Prop:=WR K H (fP k) (.ref b) /\ bZ k<=7
def NR (K:Fp)(H:Hp):yr (NK×W) ->yr (NK×Fm×V) ->Prop:=Paired λp q=>p.1=q.1 /\ qQ K H q.1 q.2.1 /\ WR K H p.2 q.2.2
theorem NR.ts {K:Fp}{H H':Hp}(a:aI H H'): ∀ {l:yr (NK×W)} {vs:yr (NK×Fm×V)},NR K H l vs ->NR K H' l vs
 | _,_, .nil=> .nil
 | _,_, .cons ⟨e,r,z⟩ t=> .cons #[e,#[r.1.ts a,r.2],z.ts a] (NR.ts a t)
def MR (K:Fp)(H:Hp)(a:Fm):MO ->Prop
 | .lst l=> ∃vs,H a=some (.lst vs) /\ bO K H l vs
 | .dK kvs=> ∃ks,H a=some (.dK ks) /\ KR K H kvs ks
 | .ins C dx fs=> ∃ks,H a=some (.ins C dx ks) /\ KR K H fs ks
 | .exc C=>H a=some (.ext (zl a C))
 | .fz o ks kvs=>H a=some (.kc o (.dK ks)) /\ KR K H kvs ks
 | .dN kvs=> ∃ks,H a=some (.dN ks) /\ NR K H kvs ks
def MR.some (h:MR K H a o): ∃u,H a=some u:=by
 cases o with
 | lst l=>let⟨_,e,_⟩:=h;show#[_,e]
 | dK l=>let⟨_,e,_⟩:=h;show#[_,e]
 | ins C d l=>let⟨_,e,_⟩:=h;show#[_,e]
 | exc C=>show#[_,h]
 | fz o l l2=>show#[_,h.1]
 | dN l=>let⟨_,e,_⟩:=h;show#[_,e]
def MR.mv (t:aI H H')(e:H' a=H a)(h:MR K H a o):MR K H' a o:=by
 cases o with
 | lst l=>let⟨vs,e1,r⟩:=h;show#[vs,e.trans e1,r.ts t]
 | dK l=>let⟨vs,e1,r⟩:=h;show#[vs,e.trans e1,r.ts t]
 | ins C d l=>let⟨vs,e1,r⟩:=h;show#[vs,e.trans e1,r.ts t]
 | exc C=>show e.trans h
 | fz o l l2=>show#[e.trans h.1,h.2.ts t]
 | dN l=>let⟨vs,e1,r⟩:=h;show#[vs,e.trans e1,r.ts t]
def cO (K:Fp)(M:Mp)(H:Hp):Prop:= ∀a o,M a=some o ->MR K H a o
def cO.fresh (h:cO K M H)(hp:H p=none):M p=none:=by
 cases e:M p with
 | none=>rfl
 | some o=>let⟨u,hu⟩:=(h p o e).some;rw[hp] at hu;cases hu
theorem cO.new (h:cO K M H)(hp:H p=none):cO K M (b8 H p u):=λa o e=>by have:=h a o e;let⟨w,hw⟩:=this.some;show this.mv (L2.cV.ts (br hp)) (bR (cr hw hp))
theorem n9 (h:H a=some o)(hn: ∀xs,o≠ .tup xs)(hf: ∀b xs,o≠ .kc b (.tup xs)):aI H (b8 H a u):=λb xs r=>by
 have nb:b≠a:=λe=>by subst e;obtain r | ⟨w,r⟩:=r;rw[h] at r;cases r;show hn _ rfl;rw[h] at r;cases r;show hf _ _ rfl
 unfold Rd;rw[bR nb];show r
theorem cO.put (h:cO K M H)(t:aI H (b8 H a u))(new:MR K (b8 H a u) a o):cO K (um M a o) (b8 H a u):=λb x e=>by by_cases hb:b=a;subst hb;rw[aW] at e;cases e;show new;rw[bx hb] at e;show(h b x e).mv t (bR hb)
theorem cO.kE (h:cO K M H)(hp:H p=none)(r:bO K H l vs):cO K (um M p (.lst l)) (b8 H p (.lst vs)):=h.put (L2.cV.ts (br hp)) #[vs,bw,r.ts (L2.cV.ts (br hp))]
theorem fC (h:H a=some (.lst xs)):aI H (b8 H a u):=n9 h (λ_ z=>nomatch z) λ_ _ z=>nomatch z
theorem n_ (h:H a=some (.dK xs)):aI H (b8 H a u):=n9 h (λ_ z=>nomatch z) λ_ _ z=>nomatch z
theorem cO.putL (h:cO K M H)(e:H a=some (.lst xs))(r:bO K H l vs):cO K (um M a (.lst l)) (b8 H a (.lst vs)):=h.put (fC e) #[vs,bw,r.ts (fC e)]
theorem cO.putD (h:cO K M H)(e:H a=some (.dK xs))(r:KR K H l vs):cO K (um M a (.dK l)) (b8 H a (.dK vs)):=h.put (n_ e) #[vs,bw,KR.ts (n_ e) r]
def qO (K:Fp)(H:Hp)(ρ:bY)(σ:St):Prop:=ρ.length=σ.length /\ ∀ (i:Nat) x,ρ[i]? =some (some x) -> ∃v,σ[i]? =some (some v) /\ WR K H x v
theorem qO.ts (t:aI H H')(h:qO K H ρ σ):qO K H' ρ σ:=#[h.1,λi x e=>let ⟨v,a,r⟩:=h.2 i x e;#[v,a,r.ts t]]
structure Ok (K:PySem.W.Frag)(ρ:bY)(M:Mp)(σ:St)(H:Hp):Prop where
 env:qO K H ρ σ
 hp:cO K M H
theorem Ok.mv (o:Ok K ρ M σ H)(t:aI H H')(m:cO K M' H'):Ok K ρ M' σ H':=#[o.env.ts t,m]
def qO.set (h:qO K H ρ σ)(i:Nat)(r:WR K H x v):qO K H (ρ.set i (some x)) (σ.set i (some v)):=by exact#[by simp[h.1],λj y e=> ?_];rw[List.getElem?_set] at e ⊢;split at e;rename_i hj;rw[aj hj];split at e;rename_i iC;rw[aj (by rw[<- h.1];show iC)];cases e;show#[v,rfl,r];cases e;rename_i hj;rw[ai hj];show h.2 j y e
section
variable (K:Fp)
class IE (t:TE) (w:outParam WE):Prop where
 imp: ∀ (ρ:bY) (M:Mp) (σ:St) (H:Hp) (q:WK) (Q:VK),Ok K ρ M σ H ->w ρ M q ->(∀x M' v H',q x M' ->aI H H' ->cO K M' H' ->WR K H' x v ->Q v H') ->t σ H Q
class IT (t:TT) (w:outParam WT):Prop where
 imp: ∀ (ρ:bY) (M:Mp) (σ:St) (H:Hp) (q:Bool ->Mp ->Prop) (Q:Bool ->Hp ->Prop),Ok K ρ M σ H ->w ρ M q ->(∀b M' H',q b M' ->aI H H' ->cO K M' H' ->Q b H') ->t σ H Q
class IA (t:TA) (w:outParam WA):Prop where
 imp: ∀ (ρ:bY) (M:Mp) (σ:St) (H:Hp) (q:List W ->Mp ->Prop) (Q:List V ->Hp ->Prop),Ok K ρ M σ H ->w ρ M q ->(∀x M' v H',q x M' ->aI H H' ->cO K M' H' ->bO K H' x v ->Q v H') ->t σ H Q
class IG (t:TG) (w:outParam WG):Prop where
 imp: ∀ (x:W) (v:V) (ρ:bY) (M:Mp) (σ:St) (H:Hp) (q:bY ->Mp ->Prop) (Q:St ->Hp ->Prop),Ok K ρ M σ H ->WR K H x v ->w x ρ M q ->(∀ρ' M' σ' H',q ρ' M' ->aI H H' ->Ok K ρ' M' σ' H' ->Q σ' H') ->t v σ H Q
class Az (t:qP) (w:outParam sO):Prop where
 imp: ∀ (x:List W) (v:List V) (ρ:bY) (M:Mp) (σ:St) (H:Hp) (q:bY ->Mp ->Prop) (Q:St ->Hp ->Prop),Ok K ρ M σ H ->bO K H x v ->w x ρ M q ->(∀ρ' M' σ' H',q ρ' M' ->aI H H' ->Ok K ρ' M' σ' H' ->Q σ' H') ->t v σ H Q
structure iN (H:Hp)(D':dC)(D:j8):Prop where
 nx: ∀ρ' M' σ' H',D'.nx ρ' M' ->aI H H' ->Ok K ρ' M' σ' H' ->D.nx σ' H'
 rt: ∀x M' v H',D'.rt x M' ->aI H H' ->cO K M' H' ->WR K H' x v ->D.rt v H'
 bk: ∀ρ' M' σ' H',D'.bk ρ' M' ->aI H H' ->Ok K ρ' M' σ' H' ->D.bk σ' H'
 ct: ∀ρ' M' σ' H',D'.ct ρ' M' ->aI H H' ->Ok K ρ' M' σ' H' ->D.ct σ' H'
class IS (t:TS) (w:outParam WS):Prop where
 imp: ∀ (ρ:bY) (M:Mp) (σ:St) (H:Hp) (D':dC) (D:j8),Ok K ρ M σ H ->w D' ρ M ->iN K H D' D ->t D σ H
class IR (r:R2) (w:outParam gY):Prop where
 imp: ∀ (x y:W) (v u:V) (M:Mp) (H:Hp) (q:WK) (Q:VK),cO K M H ->WR K H x v ->WR K H y u ->w x y M q ->(∀x M' v H',q x M' ->aI H H' ->cO K M' H' ->WR K H' x v ->Q v H') ->r v u H Q
class IU (r:V ->Hp ->VK ->Prop) (w:outParam (W ->Mp ->WK ->Prop)):Prop where
 imp: ∀ (x:W) (v:V) (M:Mp) (H:Hp) (q:WK) (Q:VK),cO K M H ->WR K H x v ->w x M q ->(∀x M' v H',q x M' ->aI H H' ->cO K M' H' ->WR K H' x v ->Q v H') ->r v H Q
class IC (r:List V ->Hp ->VK ->Prop) (w:outParam nJ):Prop where
 imp: ∀ (x:List W) (v:List V) (M:Mp) (H:Hp) (q:WK) (Q:VK),cO K M H ->bO K H x v ->w x M q ->(∀x M' v H',q x M' ->aI H H' ->cO K M' H' ->WR K H' x v ->Q v H') ->r v H Q
end
theorem iN.mv (e:iN K H D' D)(t:aI H H'):iN K H' D' D:=#[λa b c d h s=>e.nx a b c d h (t.trans s),λa b c d h s=>e.rt a b c d h (t.trans s),λa b c d h s=>e.bk a b c d h (t.trans s),λa b c d h s=>e.ct a b c d h (t.trans s)]
end WL
namespace WL
open PySem L2
section
variable {K:Fp}
def cA (i:Nat):WE:=λρ M q=>match ρ[i]? with
 | some (some x)=>q x M
 | _=>False
def nW (h:cA i ρ M q): ∃x,ρ[i]? =some (some x) /\ q x M:=by unfold cA at h;split at h;rename_i x e;show#[x,e,h];show h.elim
instance {i:Nat}:IE K (qY i) (cA i) where
 imp:=λρ M σ H q Q o h k=>let ⟨x,e,h⟩:=nW h;let ⟨v,e',r⟩:=o.env.2 i x e;#[v,e',k x M v H h (aI.refl H) o.hp r]
def wC (x:W):WE:=λ_ M q=>q x M
instance {v:V}:IE K (tC v) (wC (.v v)) where
 imp:=λρ M σ H q Q o h k=>k (.v v) M v H h (aI.refl H) o.hp WR.v
def C8 (r:gY)(a b:WE):WE:=λρ M q=>a ρ M λx M1=>b ρ M1 λy M2=>r x y M2 q
instance {r:R2}{w:gY}{ta tb:TE}{a b:WE} [ir:IR K r w] [ia:IE K ta a] [ib:IE K tb b]:IE K (xr r ta tb) (C8 w a b) where
 imp:=λρ M σ H q Q o h k=>ia.imp ρ M σ H _ _ o h λx M1 v H1 h1 t1 m1 r1=>ib.imp ρ M1 σ H1 _ _ (o.mv t1 m1) h1 λy M2 u H2 h2 t2 m2 r2=>ir.imp x y v u M2 H2 _ _ m2 (r1.ts t2) r2 h2 λz M3 v3 H3 h3 t3 m3 r3=>k z M3 v3 H3 h3 ((t1.trans t2).trans t3) m3 r3
def C4 (r:W ->Mp ->WK ->Prop)(a:WE):WE:=λρ M q=>a ρ M λx M1=>r x M1 q
instance {r:V ->Hp ->VK ->Prop}{w:W ->Mp ->WK ->Prop}{ta:TE}{a:WE} [ir:IU K r w] [ia:IE K ta a]:IE K (Di r ta) (C4 w a) where
 imp:=λρ M σ H q Q o h k=>ia.imp ρ M σ H _ _ o h λx M1 v H1 h1 t1 m1 r1=>ir.imp x v M1 H1 _ _ m1 r1 h1 λz M3 v3 H3 h3 t3 m3 r3=>k z M3 v3 H3 h3 (t1.trans t3) m3 r3
def wI (C:Int ->Int ->Prop)(g:Int ->Int ->V):gY:=λx y M q=> ∃i j,x=wi i /\ y=wi j /\ C i j /\ q (.v (g i j)) M
def AY (g:Int ->Int ->V):gY:=λx y M q=>bH λi j=>b0 (x=wi i) (y=wi j) (q (.v (g i j)) M)
def wU (g:Int ->V):W ->Mp ->WK ->Prop:=λx M q=> ∃i,x=wi i /\ q (.v (g i)) M
instance {C:Int ->Int ->Prop}{g:Int ->Int ->V}:IR K (rI C g) (wI C g) where
 imp:=by rintro x y v u M H q Q m r1 r2 ⟨i,j,rfl,rfl,c,h⟩ k;show#[i,j,r1.eq,r2.eq,c,k _ M _ H h (aI.refl H) m WR.v]
instance {g:Int ->Int ->V}:IR K (rh g) (AY g) where
 imp:=by rintro x y v u M H q Q m r1 r2 ⟨i,j,rfl,rfl,h⟩ k;show#[i,j,r1.eq,r2.eq,k _ M _ H h (aI.refl H) m WR.v]
instance {g:Int ->V}:IU K (rU g) (wU g) where
 imp:=by rintro x v M H q Q m r1 ⟨i,rfl,h⟩ k;show#[i,r1.eq,k _ M _ H h (aI.refl H) m WR.v]
def De:gY:=λx y M q=>bH λa b=>c6 (x= .v a) (y= .v b) (rb a b=true) (q (wb (decide (a=b))) M)
def C':gY:=λx y M q=>bH λa b=>c6 (x= .v a) (y= .v b) (rb a b=true) (q (wb (!decide (a=b))) M)
instance:IR K Dt De where
 imp:=by rintro x y v u M H q Q m r1 r2 ⟨i,j,rfl,rfl,c,h⟩ k;cases r1.eq;cases r2.eq;show#[c,k _ M _ H h (aI.refl H) m WR.v]
instance:IR K Ds C' where
 imp:=by rintro x y v u M H q Q m r1 r2 ⟨i,j,rfl,rfl,c,h⟩ k;cases r1.eq;cases r2.eq;show#[c,k _ M _ H h (aI.refl H) m WR.v]
def nX (a:WE):WT:=λρ M q=>a ρ M λx M1=> ∃k,x=wb k /\ q k M1
instance {t:TE}{a:WE} [ia:IE K t a]:IT K (tI t) (nX a) where
 imp:=λρ M σ H q Q o h k=>ia.imp ρ M σ H _ _ o h λx M1 v H1 ⟨b,e,h1⟩ t1 m1 r1=>by subst e;show#[b,r1.eq,k b M1 H1 h1 t1 m1]
instance {t:TE}{a:WE} [ia:IE K t a]:IT K (tB t) (nX a) where
 imp:=λρ M σ H q Q o h k=>ia.imp ρ M σ H _ _ o h λx M1 v H1 ⟨b,e,h1⟩ t1 m1 r1=>by subst e;show#[b,r1.eq,k b M1 H1 h1 t1 m1]
def xg (a b:WT):WT:=λρ M q=>a ρ M λc M1=>if c=true then b ρ M1 q else q false M1
def C6 (a b:WT):WT:=λρ M q=>a ρ M λc M1=>if c=true then q true M1 else b ρ M1 q
def wZ (a:WT):WT:=λρ M q=>a ρ M λc M1=>q (!c) M1
instance {t u:TT}{a b:WT} [ia:IT K t a] [ib:IT K u b]:IT K (xy t u) (xg a b) where
 imp:=λρ M σ H q Q o h k=>ia.imp ρ M σ H _ _ o h λc M1 H1 h1 t1 m1=>by
  cases c with
  | true=>simp![bg] at h1 ⊢;show ib.imp ρ M1 σ H1 _ _ (o.mv t1 m1) h1 λb M2 H2 h2 t2 m2=>k b M2 H2 h2 (t1.trans t2) m2
  | false=>simp![ap,aO] at h1 ⊢;show k _ M1 H1 h1 t1 m1
instance {t u:TT}{a b:WT} [ia:IT K t a] [ib:IT K u b]:IT K (Dj t u) (C6 a b) where
 imp:=λρ M σ H q Q o h k=>ia.imp ρ M σ H _ _ o h λc M1 H1 h1 t1 m1=>by
  cases c with
  | false=>simp![ap,aO] at h1 ⊢;show ib.imp ρ M1 σ H1 _ _ (o.mv t1 m1) h1 λb M2 H2 h2 t2 m2=>k b M2 H2 h2 (t1.trans t2) m2
  | true=>simp![bg] at h1 ⊢;show k _ M1 H1 h1 t1 m1
instance {t:TT}{a:WT} [ia:IT K t a]:IT K (xt t) (wZ a) where
 imp:=λρ M σ H q Q o h k=>ia.imp ρ M σ H _ _ o h λc M1 H1 h1 t1 m1=>k _ M1 H1 h1 t1 m1
def tE (a b:WE):WE:=λρ M q=>a ρ M λx M1=> ∃c,x=wb c /\ if c=true then b ρ M1 q else q (wb false) M1
def sZ (a:WE):WE:=λρ M q=>a ρ M λx M1=> ∃c,x=wb c /\ q (wb (!c)) M1
instance {t u:TE}{a b:WE} [ia:IE K t a] [ib:IE K u b]:IE K (tS t u) (tE a b) where
 imp:=λρ M σ H q Q o h k=>ia.imp ρ M σ H _ _ o h λx M1 v H1 ⟨c,e,h1⟩ t1 m1 r1=>by
  subst e;exact#[c,r1.eq,?_];cases c with
  | true=>simp![bg] at h1 ⊢;show ib.imp ρ M1 σ H1 _ _ (o.mv t1 m1) h1 λb M2 v H2 h2 t2 m2 r2=>k b M2 v H2 h2 (t1.trans t2) m2 r2
  | false=>simp![ap,aO] at h1 ⊢;show k _ M1 _ H1 h1 t1 m1 WR.v
instance {t:TE}{a:WE} [ia:IE K t a]:IE K (tJ t) (sZ a) where
 imp:=λρ M σ H q Q o h k=>ia.imp ρ M σ H _ _ o h λx M1 v H1 ⟨c,e,h1⟩ t1 m1 r1=>by subst e;show#[c,r1.eq,k _ M1 _ H1 h1 t1 m1 WR.v]
def Db (c:WT)(a b:WE):WE:=λρ M q=>c ρ M λc M1=>if c=true then a ρ M1 q else b ρ M1 q
instance {tc:TT}{t u:TE}{c:WT}{a b:WE} [ic:IT K tc c] [ia:IE K t a] [ib:IE K u b]:IE K (Dk tc t u) (Db c a b) where
 imp:=λρ M σ H q Q o h k=>ic.imp ρ M σ H _ _ o h λc M1 H1 h1 t1 m1=>by
  cases c with
  | true=>simp![bg] at h1 ⊢;show ia.imp ρ M1 σ H1 _ _ (o.mv t1 m1) h1 λb M2 v H2 h2 t2 m2 r2=>k b M2 v H2 h2 (t1.trans t2) m2 r2
  | false=>simp![ap,aO] at h1 ⊢;show ib.imp ρ M1 σ H1 _ _ (o.mv t1 m1) h1 λb M2 v H2 h2 t2 m2 r2=>k b M2 v H2 h2 (t1.trans t2) m2 r2
def w5:WA:=λ_ M q=>q [] M
def tw (a:WE)(r:WA):WA:=λρ M q=>a ρ M λx M1=>r ρ M1 λxs M2=>q (x::xs) M2
instance:IA K u0 w5 where
 imp:=λρ M σ H q Q o h k=>k [] M [] H h (aI.refl H) o.hp bO.nil
instance {t:TE}{u:TA}{a:WE}{b:WA} [ia:IE K t a] [ib:IA K u b]:IA K (oh t u) (tw a b) where
 imp:=λρ M σ H q Q o h k=>ia.imp ρ M σ H _ _ o h λx M1 v H1 h1 t1 m1 r1=>ib.imp ρ M1 σ H1 _ _ (o.mv t1 m1) h1 λy M2 u H2 h2 t2 m2 r2=>k _ M2 _ H2 h2 (t1.trans t2) m2 (bO.cons (r1.ts t2) r2)
def wX (a:WA):WE:=λρ M q=>a ρ M λxs M1=>xs.length<=sizeLine /\ q (.tup xs) M1
def w6 (a:WA):WE:=λρ M q=>a ρ M λxs M1=>xs.length<=sizeLine /\ ∀p,M1 p=none ->q (wr p) (um M1 p (.lst xs))
instance {t:TA}{a:WA} [ia:IA K t a]:IE K (xo t) (wX a) where
 imp:=λρ M σ H q Q o h k=>ia.imp ρ M σ H _ _ o h λx M1 v H1 ⟨hl,h1⟩ t1 m1 r1=>#[by rw[r1.length];show hl,λp hp=>k _ M1 _ _ h1 (t1.trans (L2.cV.ts (br hp))) (m1.new hp) (WR.BB (eW.of bw) (r1.ts (L2.cV.ts (br hp))))]
instance {t:TA}{a:WA} [ia:IA K t a]:IE K (xu t) (w6 a) where
 imp:=λρ M σ H q Q o h k=>ia.imp ρ M σ H _ _ o h λx M1 v H1 ⟨hl,h1⟩ t1 m1 r1=>#[by rw[r1.length];show hl,λp hp=>k _ _ _ _ (h1 p (m1.fresh hp)) (t1.trans (L2.cV.ts (br hp))) (m1.kE hp r1) WR.v]
def xa:gY:=λx y M q=>d5 λa l i u=>dB (x=wr a) (y=wi i) (M a=some (.lst l)) (f9 l i=some u) (q u M)
def w_:gY:=λx y M q=>dr λl i u=>c6 (x= .tup l) (y=wi i) (f9 l i=some u) (q u M)
def bO.f9 (r:bO K H l vs)(e:f9 l i=some u): ∃v,L2.f9 vs i=some v /\ WR K H u v:=by
 unfold L2.f9 at e ⊢;rw[r.length];cases h:iB l.length i with
 | none=>rw[h] at e;cases e
 | some j=>rw[h] at e;show r.at e
instance:IR K (u6 K) xa where
 imp:=by rintro x y v u M H q Q m r1 r2 ⟨a,l,i,z,rfl,rfl,hl,e,h⟩ k;let⟨vs,hv,r⟩:=m a _ hl;let⟨v',e',r'⟩:=r.f9 e;show#[a,vs,i,v',r1.eq,r2.eq,dD.of hv,e',k _ M _ H h (aI.refl H) m r']
instance:IR K (xM K) w_ where
 imp:=by rintro x y v u M H q Q m r1 r2 ⟨l,i,z,rfl,rfl,e,h⟩ k;let⟨a,vs,rfl,hv,r⟩:=r1.tup;let⟨v',e',r'⟩:=r.f9 e;show#[a,vs,i,v',rfl,r2.eq,hv,e',k _ M _ H h (aI.refl H) m r']
end
section
variable {K:Fp}
def Dg (r:nJ)(a:WA):WE:=λρ M q=>a ρ M λxs M1=>r xs M1 q
instance {r:yr V ->Hp ->VK ->Prop}{w:nJ}{t:TA}{a:WA} [ir:IC K r w] [ia:IA K t a]:IE K (A_ r t) (Dg w a) where
 imp:=λρ M σ H q Q o h k=>ia.imp ρ M σ H _ _ o h λx M1 v H1 h1 t1 m1 r1=>ir.imp x v M1 H1 _ _ m1 r1 h1 λy M4 v4 H4 h4 t4 m4 r4=>k y M4 v4 H4 h4 (t1.trans t4) m4 r4
abbrev gX:=yr W ->Mp ->WK ->Prop
def j9 (K:Fp)(p:gX):Sp:=λvs H Q _=>dr λ(xs:yr W) (M:Mp) (q:WK)=>c6 (bO K H xs vs) (cO K M H) (p xs M q) (∀x M' v H',q x M' ->aI H H' ->cO K M' H' ->WR K H' x v ->Q v H')
def tD (p:gX)(a:WA):WE:=λρ M q=>a ρ M λxs M1=>p xs M1 q
instance {p:gX}{E:XK}{t:TA}{a:WA} [ia:IA K t a]:IE K (k5 (j9 K p) [] E t) (tD p a) where
 imp:=λρ M σ H q Q o h k=>ia.imp ρ M σ H _ _ o h λx M1 v H1 h1 t1 m1 r1=>#[x,M1,q,by rw[List.append_nil];show r1,m1,h1,λy M4 v4 H4 h4 t4 m4 r4=>k y M4 v4 H4 h4 (t1.trans t4) m4 r4]
def EI (F:qj K x qual st f fd)(S:c7 N ps (a7 st))(len: ∀vs M q,p vs M q ->vs.length=ps.length)(eo: ∀ (cdv:yt) (A:Around) (outer:yr Env) (s:yu) (H:Hp) (E:XK),cU k (A.deeper (PyProof.Rows.envOfC qual (a7 st) s.heap.objs.size f cdv)) ->bH λt w'=>b0 (kR (fZ eI P w K mg base N qual (a7 st) f cdv A outer s H E).vq (cj st) t) (IS K t w') (∀vs M q,p vs M q ->w' {nx:=λ_ M'=>q wn M',rt:=q} (vs.map some++List.replicate (N.length - vs.length) none) M)): cz P w K mg base eI (k+1) f fd ps (j9 K p):=by
 exact qj.ok F S (λvs H Q E ⟨xs,M,q,r,m,h,_⟩=>by rw[r.length];show len xs M q h) λcdv A outer s H vs Q E hr h=> ?_;let⟨t,w',h1,h2,h3⟩:=eo cdv A outer s H E hr;let⟨xs,M,q,r,m,h,k'⟩:=h;exact#[t,h1,h2.imp _ M _ H _ _ #[#[?_,λi x e=> ?_],m] (h3 xs M q h) #[λρ' M' σ' H' h ts o=>k' _ M' _ H' h ts o.hp WR.v,λx M' v H' h ts m' r'=>k' x M' v H' h ts m' r',λ_ _ _ _ h=>h.elim,λ_ _ _ _ h=>h.elim]];have:=r.length;simp[L2.start,this];have hl:=r.length;unfold L2.start;by_cases hi:i<xs.length;rw[aH ⇑hi,aP] at e;cases ex:xs[i]? with
 | none=>rw[ex] at e;cases e
 | some y=>rw[ex] at e;cases e;let⟨v,hv,rv⟩:=r.at ex;exact#[v,?_,rv];rw[aH (by simp;lia),aP,hv];rfl
 rw[aB ⇑hi,List.getElem?_replicate] at e;split at e<;>cases e
def xL (K:Fp):yr V ->Hp ->VK ->Prop:=λxs H Q=>bH λp ys=>b0 (xs= [.ref p]) (dD K H p ys \/ eW K H p ys) (Q (.int ys.length) H)
theorem gP:cE X (.builtin "len") (xL X.K):=iI
def w8:nJ:=λxs M q=>(bH λa l=>b0 (xs= [wr a]) (M a=some (.lst l)) (q (wi l.length) M)) \/ ∃l,xs= [.tup l] /\ q (wi l.length) M
def bO.one (h:bO K H [x] vs): ∃v,vs= [v] /\ WR K H x v:=by simp![bO] at h;let⟨v,t,rfl,h1,rfl⟩:=h;show#[v,rfl,h1]
def bO.two (h:bO K H [x,y] vs):bH λv u=>b0 (vs= [v,u]) (WR K H x v) (WR K H y u):=by simp![bO] at h;let⟨v,t,rfl,h1,u,t',rfl,h2,rfl⟩:=h;show#[v,u,rfl,h1,h2]
instance:IC K (xL K) w8 where
 imp :=by
  rintro xs v M H q Q m r1 h k;rcases h with⟨a,l,rfl,hl,h⟩ | ⟨l,rfl,h⟩
  let⟨v,rfl,r⟩:=r1.one;cases r.eq;let⟨vs,hv,rr⟩:=m a _ hl;exact#[a,vs,rfl, .inl (dD.of hv),k _ M _ H h (aI.refl H) m ?_];rw[rr.length];show WR.v;let⟨v,rfl,r⟩:=r1.one;let⟨a,vs,rfl,hv,rr⟩:=r.tup;exact#[a,vs,rfl, .inr hv,k _ M _ H h (aI.refl H) m ?_];rw[rr.length];show WR.v
def xP:yr V ->Hp ->VK ->Prop:=λxs H Q=> ∃i,xs= [.int i] /\ Q (.int (if i<0 then -i else i)) H
theorem dI:cE X (.builtin "abs") xP:=qc
def xh:nJ:=λxs M q=> ∃i,xs= [wi i] /\ q (wi (if i<0 then -i else i)) M
instance:IC K xP xh where
 imp:=by rintro xs v M H q Q m r1 ⟨i,rfl,h⟩ k;let⟨v,rfl,r⟩:=r1.one;cases r.eq;show#[i,rfl,k _ M _ H h (aI.refl H) m WR.v]
def ub:yr V ->Hp ->VK ->Prop:=λxs H Q=>bH λi j=>xs= [.int i, .int j] /\ Q (.int (if j >i then j else i)) H
def ua:yr V ->Hp ->VK ->Prop:=λxs H Q=>bH λi j=>xs= [.int i, .int j] /\ Q (.int (if j<i then j else i)) H
theorem f7 (hc:X.calm=true):cE X (.builtin "max") ub:=nD hc
theorem dj (hc:X.calm=true):cE X (.builtin "min") ua:=nC hc
def tj:nJ:=λxs M q=>bH λi j=>xs= [wi i,wi j] /\ q (wi (if j >i then j else i)) M
def tf:nJ:=λxs M q=>bH λi j=>xs= [wi i,wi j] /\ q (wi (if j<i then j else i)) M
instance:IC K ub tj where
 imp:=by rintro xs v M H q Q m r1 ⟨i,j,rfl,h⟩ k;let⟨v,u,rfl,r,r'⟩:=r1.two;cases r.eq;cases r'.eq;show#[i,j,rfl,k _ M _ H h (aI.refl H) m WR.v]
instance:IC K ua tf where
 imp:=by rintro xs v M H q Q m r1 ⟨i,j,rfl,h⟩ k;let⟨v,u,rfl,r,r'⟩:=r1.two;cases r.eq;cases r'.eq;show#[i,j,rfl,k _ M _ H h (aI.refl H) m WR.v]
def lm (K:Fp):yr V ->Hp ->VK ->Prop:=λxs H Q=>bH λp ys=>b0 (xs= [.ref p]) (dD K H p ys \/ eW K H p ys) (∀l,H l=none ->Q (.ref l) (b8 H l (.lst ys)))
theorem f8:cE X (.type "list") (lm X.K):=iH
def kW:nJ:=λxs M q=> ∃l,((∃a,xs= [wr a] /\ M a=some (.lst l)) \/ xs= [.tup l]) /\ ∀p,M p=none ->q (wr p) (um M p (.lst l))
instance:IC K (lm K) kW where
 imp :=by
  rintro xs v M H q Q m r1 ⟨l,hx,h⟩ k;rcases hx with⟨a,rfl,hl⟩ | rfl
  let⟨v,rfl,r⟩:=r1.one;cases r.eq;let⟨vs,hv,rr⟩:=m a _ hl;show#[a,vs,rfl, .inl (dD.of hv),λp hp=>k _ _ _ _ (h p (m.fresh hp)) (L2.cV.ts (br hp)) (m.kE hp rr) WR.v];let⟨v,rfl,r⟩:=r1.one;let⟨a,vs,rfl,hv,rr⟩:=r.tup;show#[a,vs,rfl, .inr hv,λp hp=>k _ _ _ _ (h p (m.fresh hp)) (L2.cV.ts (br hp)) (m.kE hp rr) WR.v]
def jg (K:Fp):yr V ->Hp ->VK ->Prop:=λxs H Q=>bH λp ys=>xs= [.ref p] /\ ((dD K H p ys /\ ∀l,H l=none ->Q (.ref l) (b8 H l (.tup ys))) \/ (eW K H p ys /\ Q (.ref p) H))
theorem jY:cE X (.type "tuple") (jg X.K):=gm
def iT:nJ:=λxs M q=> ∃l,((∃a,xs= [wr a] /\ M a=some (.lst l)) \/ xs= [.tup l]) /\ q (.tup l) M
instance:IC K (jg K) iT where
 imp :=by
  rintro xs v M H q Q m r1 ⟨l,hx,h⟩ k;rcases hx with⟨a,rfl,hl⟩ | rfl
  let⟨v,rfl,r⟩:=r1.one;cases r.eq;let⟨vs,hv,rr⟩:=m a _ hl;show#[a,vs,rfl, .inl #[dD.of hv,λp hp=>k _ M _ _ h (L2.cV.ts (br hp)) (m.new hp) (WR.BB (eW.of bw) (rr.ts (L2.cV.ts (br hp))))]];let⟨v,rfl,r⟩:=r1.one;let⟨a,vs,rfl,hv,rr⟩:=r.tup;show#[a,vs,rfl, .inr #[hv,k _ M _ H h (aI.refl H) m (WR.BB hv rr)]]
theorem bO.ofInts {H:Hp}: ∀ (ns:yr Int),bO K H (ns.map wi) (ns.map V.int)
 | []=>bO.nil
 | n::r=>bO.cons WR.v (bO.ofInts r)
def zR (M:Mp):W ->BP yt
 | .v (.int _)=>some (.type "int")
 | .v (.bl _)=>some (.type "bool")
 | .v (.str _)=>some (.type "str")
 | .v .dy=>some (.type "NoneType")
 | .tup _=>some (.type "tuple")
 | .v (.ref a)=>match M a with
  | some (.lst _)=>some (.type "list")
  | _=>none
 | _=>none
def xb (K:Fp):nJ:=λxs M q=>d5 λx T t b=>c6 (xs= [x, .v (.ty T)]) (zR M x=some t) (W.kitOne K t (.type T)=some b) (q (wb b) M)
def uR (m:cO K M H)(r:WR K H x v)(e:zR M x=some t):zc K H v t:=by
 cases x with
 | tup l=>let⟨a,vs,rfl,hv,rr⟩:=r.tup;cases e;show .tup hv
 | v y =>
  cases r.eq;cases v with
  | int i=>cases e;show .of (.int i)
  | bl i=>cases e;show .of (.bl i)
  | str i=>cases e;show .of (.str i)
  | dy=>cases e;show .of .dy
  | ref a=>
   simp![zR] at e;cases ha:M a with
   | none=>rw[ha] at e;cases e
   | some o=>
    rw[ha] at e;cases o with
    | lst l=>cases e;let⟨vs,hv,_⟩:=m a _ ha;show .lst (dD.of hv)
    | dK l=>cases e
    | ins C d l=>cases e
    | exc C=>cases e
    | fz o l l2=>cases e
    | dN l=>cases e
  | nT _=>cases e
  | ux _=>cases e
  | ty _=>cases e
instance:IC K (xN K) (xb K) where
 imp:=by rintro xs v M H q Q m r1 ⟨x,T,t,b,rfl,ht,e,h⟩ k;let⟨v,u,rfl,r,r'⟩:=r1.two;cases r'.eq;show#[v,T,t,b,rfl,uR m r ht,e,k _ M _ H h (aI.refl H) m WR.v]
end
section
variable {K:Fp}
abbrev WM:=W ->yr W ->Mp ->WK ->Prop
class IM (K:PySem.W.Frag) (r:V ->List V ->Hp ->VK ->Prop) (w:outParam WM):Prop where
 imp: ∀ (x:W) (v:V) (ys:List W) (us:List V) (M:Mp) (H:Hp) (q:WK) (Q:VK),cO K M H ->WR K H x v ->bO K H ys us ->w x ys M q ->(∀x M' v H',q x M' ->aI H H' ->cO K M' H' ->WR K H' x v ->Q v H') ->r v us H Q
def IsL (M:Mp)(x:W):Prop:=bH λa l=>x=wr a /\ M a=some (.lst l)
def IsL.ty (m:cO K M H)(r:WR K H x v)(h:IsL M x):A7 K "list" v H:=by let⟨a,l,rfl,hl⟩:=h;cases r.eq;let⟨vs,hv,_⟩:=m a _ hl;show .inl #[rfl,vs,dD.of hv]
def A0 (r:WM)(a:WE)(b:WA):WE:=λρ M q=>a ρ M λx M1=>IsL M1 x /\ b ρ M1 λxs M2=>r x xs M2 q
instance {r:V ->yr V ->Hp ->VK ->Prop}{w:WM}{t:TE}{u:TA}{a:WE}{b:WA} [ir:IM K r w] [ia:IE K t a] [ib:IA K u b]:IE K (Dl K "list" r t u) (A0 w a b) where
 imp:=λρ M σ H q Q o h k=>ia.imp ρ M σ H _ _ o h λx M1 v H1 ⟨hl,h1⟩ t1 m1 r1=>#[hl.ty m1 r1,ib.imp ρ M1 σ H1 _ _ (o.mv t1 m1) h1 λy M2 u H2 h2 t2 m2 r2=>ir.imp x v y u M2 H2 _ _ m2 (r1.ts t2) r2 h2 λz M3 v3 H3 h3 t3 m3 r3=>k z M3 v3 H3 h3 ((t1.trans t2).trans t3) m3 r3]
def kX:WM:=λx ys M q=>dr λa l y=>dB (x=wr a) (ys= [y]) (M a=some (.lst l)) (l.length<sizeLine) (q wn (um M a (.lst (l++ [y]))))
instance:IM K ln kX where
 imp:=by rintro x v ys us M H q Q m r1 r2 ⟨a,l,y,rfl,rfl,hl,hn,h⟩ k;cases r1.eq;let⟨u,rfl,r⟩:=r2.one;let⟨vs,hv,rr⟩:=m a _ hl;show#[a,vs,u,rfl,rfl,hv,by rw[rr.length];show hn,k _ _ _ _ h (fC hv) (m.putL hv (rr.snoc r)) WR.v]
def xf:gY:=λx y M q=>d5 λa b l l'=>gW (x=wr a) (y=wr b) (M a=some (.lst l)) (M b=some (.lst l')) (l.length+l'.length<=sizeLine) (∀p,M p=none ->q (wr p) (um M p (.lst (l++l'))))
instance:IR K xO xf where
 imp:=by rintro x y v u M H q Q m r1 r2 ⟨a,b,l,l',rfl,rfl,hl,lY,hn,h⟩ k;cases r1.eq;cases r2.eq;let⟨vs,hv,rr⟩:=m a _ hl;let⟨Ex,yB,xG⟩:=m b _ lY;show#[a,b,vs,Ex,rfl,rfl,hv,yB,by rw[rr.length,xG.length];show hn,λp hp=>k _ _ _ _ (h p (m.fresh hp)) (L2.cV.ts (br hp)) (m.kE hp (rr.append xG)) WR.v]
def iA:bM ->W
 | .inl k=>wi k
 | .inr x=>ws x
def dQ (kvs:yr (bM×W))(k:bM):BP W:=(kvs.find? λkv=>decide (kv.1=k)).map (·.2)
def mL (kvs:yr (bM×W))(k:bM)(v:W):yr (bM×W):=if(kvs.any λkv=>decide (kv.1=k))=true then kvs.map (λkv=>if kv.1=k then(kv.1,v) else kv) else kvs++ [(k,v)]
theorem KR.keys {H:Hp}: ∀ {l:yr (bM×W)} {vs:yr (bM×V)},KR K H l vs ->vs.map (·.1)=l.map (·.1)
 | _,_, .nil=>rfl
 | _,_, .cons ⟨e,r⟩ t=>by rw[az,az,KR.keys t,e]
theorem KR.length {H:Hp}{κ:Type}: ∀ {l:yr (κ×W)} {vs:yr (κ×V)},KR K H l vs ->vs.length=l.length
 | _,_, .nil=>rfl
 | _,_, .cons _ t=>by rw[be,be,KR.length t]
theorem KR.val {H:Hp}(k:bM): ∀ {l:yr (bM×W)} {vs:yr (bM×V)},KR K H l vs ->(dQ l k=none /\ dR vs k=none) \/ bH λx v=>b0 (dQ l k=some x) (dR vs k=some v) (WR K H x v)
 | _,_, .nil=> .inl #[rfl,rfl]
 | (k1,x)::l,(k2,v)::vs, .cons ⟨e,r⟩ t=>by have e:k1=k2:=e;subst e;unfold dQ dR;rw[aC,aC];by_cases hk:k1=k;simp![hk,decide_true];show .inr #[x,v,rfl,rfl,r];simp![hk,decide_false];show KR.val k t
theorem KR.map {H:Hp}{k:bM}{x:W}{v:V}(rx:WR K H x v): ∀ {l:yr (bM×W)} {vs:yr (bM×V)},KR K H l vs ->KR K H (l.map (λkv=>if kv.1=k then(kv.1,x) else kv)) (vs.map (λkv=>if kv.1=k then(kv.1,v) else kv))
 | _,_, .nil=> .nil
 | (k1,y)::l,(k2,u)::vs, .cons ⟨e,r⟩ t=>by have e:k1=k2:=e;subst e;rw[az,az];exact .cons ?_ (KR.map rx t);by_cases hk:k1=k;rw[aj hk,aj hk];show#[rfl,rx];rw[ai hk,ai hk];show#[rfl,r]
theorem KR.append {H:Hp}{k:bM}{x:W}{v:V}(rx:WR K H x v): ∀ {l:yr (bM×W)} {vs:yr (bM×V)},KR K H l vs ->KR K H (l++ [(k,x)]) (vs++ [(k,v)])
 | _,_, .nil=> .cons #[rfl,rx] .nil
 | _,_, .cons r t=> .cons r (KR.append rx t)
def KR.put (rx:WR K H x v)(r:KR K H l vs):KR K H (mL l k x) (dM vs k v):=by
 have ek:(l.any λkv=>decide (kv.1=k))=vs.any λkv=>decide (kv.1=k):=by
  have:=r.keys;have e1:(l.any λkv=>decide (kv.1=k))=(l.map (·.1)).any λy=>decide (y=k):=by rw[List.any_map];rfl
  have e2:(vs.any λkv=>decide (kv.1=k))=(vs.map (·.1)).any λy=>decide (y=k):=by rw[List.any_map];rfl
  rw[e1,e2,this]
 unfold mL dM;rw[ek];split;show KR.map rx r;show KR.append rx r
def iz (r:WR K H (iA k) v):v=kV k:=by cases k<;>show r.eq
def tt:WE:=λ_ M q=> ∀p,M p=none ->q (wr p) (um M p (.dK []))
instance:IE K oe tt where
 imp:=λρ M σ H q Q o h k=>λp hp=>k _ _ _ _ (h p (o.hp.fresh hp)) (L2.cV.ts (br hp)) (o.hp.put (L2.cV.ts (br hp)) #[[],bw, .nil]) WR.v
def n5 (a b:WE):WE:=λρ M q=>a ρ M λx M1=>b ρ M1 λy M2=>d5 λp kvs k z=>dB (x=wr p) (M2 p=some (.dK kvs)) (y=iA k) (dQ kvs k=some z) (q z M2)
instance {t u:TE}{a b:WE} [ia:IE K t a] [ib:IE K u b]:IE K (tO t u) (n5 a b) where
 imp :=λρ M σ H q Q o h k=>ia.imp ρ M σ H _ _ o h λx M1 v H1 h1 t1 m1 r1=>ib.imp ρ M1 σ H1 _ _ (o.mv t1 m1) h1 λy M2 u H2 ⟨p,kvs,ky,z,e1,e2,e3,e4,h2⟩ t2 m2 r2=>by
  subst e1 e3;let⟨ks,hk,rr⟩:=m2 p _ e2;rcases rr.val ky with⟨n1,_⟩ | ⟨x',v',n1,n2,rx⟩
  rw[n1] at e4;cases e4;rw[n1] at e4;cases e4;exact#[p,v',r1.eq,?_,k _ M2 _ H2 h2 (t1.trans t2) m2 rx];rw[iz r2, <- n2];show iO.k hk
def kj (a b c:WE):WE:=λρ M q=>a ρ M λx M1=> ∃p,b0 (x=wr p) (∃kvs,M1 p=some (.dK kvs)) (b ρ M1 λy M2=>c ρ M2 λz M3=>bH λkvs k=>b0 (M3 p=some (.dK kvs)) (y=iA k) (q ((dQ kvs k).getD z) M3))
instance {t u s:TE}{a b c:WE} [ia:IE K t a] [ib:IE K u b] [ic:IE K s c]:IE K (og t u s) (kj a b c) where
 imp:=λρ M σ H q Q o h k=>ia.imp ρ M σ H _ _ o h λx M1 v H1 ⟨p,e,⟨kvs,hp⟩,h1⟩ t1 m1 r1=>by
  subst e;let⟨ks,hk,rr⟩:=m1 p _ hp;exact#[p,r1.eq, .inl #[ks, .inl hk],ib.imp ρ M1 σ H1 _ _ (o.mv t1 m1) h1 λy M2 u H2 h2 t2 m2 r2=>ic.imp ρ M2 σ H2 _ _ (o.mv (t1.trans t2) m2) h2 λz M3 u3 H3 ⟨kvs,ky,e2,e3,h3⟩ t3 m3 r3=> ?_];subst e3;let⟨ks,hk,rr⟩:=m3 p _ e2;exact#[dR ks ky,by rw[iz (r2.ts t3)];show iO.k hk,k _ M3 _ H3 h3 ((t1.trans t2).trans t3) m3 ?_];rcases rr.val ky with⟨n1,n2⟩ | ⟨x',v',n1,n2,rx⟩
  rw[n1,n2];show r3;rw[n1,n2];show rx
end
section
variable {K:Fp}
def tF (i:Nat):WG:=λx ρ M q=>q (ρ.set i (some x)) M
instance {i:Nat}:IG K (fX i) (tF i) where
 imp:=λx v ρ M σ H q Q o r h k=>k _ M _ H h (aI.refl H) #[o.env.set i r,o.hp]
def uQ:sO:=λxs ρ M q=>xs= [] /\ q ρ M
def tG (a:WG)(b:sO):sO:=λxs ρ M q=>bH λx r=>xs=x::r /\ a x ρ M λρ' M'=>b r ρ' M' q
instance:Az K v7 uQ where
 imp:=λx v ρ M σ H q Q o r h k=>by let⟨rfl,h⟩:=h;show#[by simpa only[bO] using r,k _ M _ H h (aI.refl H) o]
instance {t:TG}{u:qP}{a:WG}{b:sO} [ia:IG K t a] [ib:Az K u b]:Az K (l6 t u) (tG a b) where
 imp:=λx v ρ M σ H q Q o r h k=>by let⟨y,cF,rfl,h⟩:=h;simp![bO] at r;let⟨v1,t1,rfl,r1,r2⟩:=r;show#[v1,t1,rfl,ia.imp y v1 ρ M σ H _ _ o r1 h λρ' M' σ' H' h' ts o'=>ib.imp cF t1 ρ' M' σ' H' _ _ o' (r2.ts ts) h' λρ2 M2 σ2 H2 h2 EB o2=>k ρ2 M2 σ2 H2 h2 (ts.trans EB) o2]
def xi (n:Nat)(a:sO):WG:=λx ρ M q=> ∃l,b0 (x= .tup l) (l.length=n) (a l ρ M q)
instance {n:Nat}{t:qP}{a:sO} [ia:Az K t a]:IG K (v6 K n t) (xi n a) where
 imp:=λx v ρ M σ H q Q o r h k=>by let⟨l,rfl,hl,h⟩:=h;let⟨a',vs,rfl,hv,rr⟩:=r.tup;show#[a',vs,rfl,hv,by rw[rr.length];show hl,ia.imp l vs ρ M σ H _ _ o rr h k]
abbrev j5:=W ->W ->W ->Mp ->(Mp ->Prop) ->Prop
class wx (K:PySem.W.Frag) (t:j6) (w:outParam j5):Prop where
 imp: ∀ (x y z:W) (v u r:V) (M:Mp) (H:Hp) (q:Mp ->Prop) (Q:Hp ->Prop),cO K M H ->WR K H x v ->WR K H y u ->WR K H z r ->w x y z M q ->(∀M' H',q M' ->aI H H' ->cO K M' H' ->Q H') ->t v u r H Q
def sY:j5:=λx y z M q=>d5 λa l k j=>dB (x=wr a) (y=wi k) (M a=some (.lst l)) (iB l.length k=some j) (q (um M a (.lst (l.set j z))))
instance:wx K t_ sY where
 imp:=by rintro x y z v u r M H q Q m r1 r2 r3 ⟨a,l,i,j,rfl,rfl,hl,e,h⟩ k;let⟨vs,hv,rr⟩:=m a _ hl;show#[a,vs,i,j,r1.eq,r2.eq,hv,by rw[rr.length];show e,k _ _ h (fC hv) (m.putL hv (rr.set j r3))]
def xj (a b:WE)(s:j5):WG:=λx ρ M q=>a ρ M λo M1=>b ρ M1 λi M2=>s o i x M2 λM3=>q ρ M3
instance {t u:TE}{s:j6}{a b:WE}{w:j5} [ia:IE K t a] [ib:IE K u b] [is:wx K s w]:IG K (yW t u s) (xj a b w) where
 imp:=λx v ρ M σ H q Q o r h k=>ia.imp ρ M σ H _ _ o h λy M1 v1 H1 h1 t1 m1 r1=>ib.imp ρ M1 σ H1 _ _ (o.mv t1 m1) h1 λz M2 v2 H2 h2 t2 m2 r2=>is.imp y z x v1 v2 v M2 H2 _ _ m2 (r1.ts t2) r2 (r.ts (t1.trans t2)) h2 λM3 H3 h3 t3 m3=>k ρ M3 σ H3 h3 ((t1.trans t2).trans t3) (o.mv ((t1.trans t2).trans t3) m3)
def tW:WS:=λD ρ M=>D.nx ρ M
instance:IS K tK tW where
 imp:=λρ M σ H D' D o h e=>e.nx ρ M σ H h (aI.refl H) o
def rc (a b:WS):WS:=λD ρ M=>a {D with nx:=b D} ρ M
instance {t u:TS}{a b:WS} [ia:IS K t a] [ib:IS K u b]:IS K (uZ t u) (rc a b) where
 imp:=λρ M σ H D' D o h e=>ia.imp ρ M σ H _ _ o h #[λρ' M' σ' H' h' ts o'=>ib.imp ρ' M' σ' H' D' D o' h' (e.mv ts),e.rt,e.bk,e.ct]
def t7:WS:=λD ρ M=>D.ct ρ M
instance:IS K tP t7 where
 imp:=λρ M σ H D' D o h e=>e.ct ρ M σ H h (aI.refl H) o
def tY (a:WE):WS:=λD ρ M=>a ρ M λ_ M1=>D.nx ρ M1
instance {t:TE}{a:WE} [ia:IE K t a]:IS K (tN t) (tY a) where
 imp:=λρ M σ H D' D o h e=>ia.imp ρ M σ H _ _ o h λx M1 v H1 h1 t1 m1 r1=>e.nx ρ M1 σ H1 h1 t1 (o.mv t1 m1)
def xA (a:WE):WS:=λD ρ M=>a ρ M D.rt
instance {t:TE}{a:WE} [ia:IE K t a]:IS K (xp t) (xA a) where
 imp:=λρ M σ H D' D o h e=>ia.imp ρ M σ H _ _ o h λx M1 v H1 h1 t1 m1 r1=>e.rt x M1 v H1 h1 t1 m1 r1
def zY (c:WT)(a b:WS):WS:=λD ρ M=>c ρ M λk M1=>if k=true then a D ρ M1 else b D ρ M1
instance {tc:TT}{t u:TS}{c:WT}{a b:WS} [ic:IT K tc c] [ia:IS K t a] [ib:IS K u b]:IS K (xv tc t u) (zY c a b) where
 imp:=λρ M σ H D' D o h e=>ic.imp ρ M σ H _ _ o h λk M1 H1 h1 t1 m1=>by
  cases k with
  | true=>simp![bg] at h1 ⊢;show ia.imp ρ M1 σ H1 D' D (o.mv t1 m1) h1 (e.mv t1)
  | false=>simp![ap,aO] at h1 ⊢;show ib.imp ρ M1 σ H1 D' D (o.mv t1 m1) h1 (e.mv t1)
def xE (a:WE)(g:WG):WS:=λD ρ M=>a ρ M λx M1=>g x ρ M1 D.nx
instance {t:TE}{g:TG}{a:WE}{w:WG} [ia:IE K t a] [ig:IG K g w]:IS K (q0 t g) (xE a w) where
 imp:=λρ M σ H D' D o h e=>ia.imp ρ M σ H _ _ o h λx M1 v H1 h1 t1 m1 r1=>ig.imp x v ρ M1 σ H1 _ _ (o.mv t1 m1) r1 h1 λρ2 M2 σ2 H2 h2 t2 o2=>e.nx ρ2 M2 σ2 H2 h2 (t1.trans t2) o2
class CW (K:PySem.W.Frag) (t:sP) (w:outParam gY):Prop where
 imp: ∀ (x y:W) (v u:V) (M:Mp) (H:Hp) (q:WK) (Q:VK),cO K M H ->WR K H x v ->WR K H y u ->w x y M q ->(∀x M' v H',q x M' ->aI H H' ->cO K M' H' ->WR K H' x v ->Q v H') ->t v u H Q
instance {f:Int ->Int ->Int}:CW K (DI f) (AY λi j=> .int (f i j)) where
 imp:=by rintro x y v u M H q Q m r1 r2 ⟨i,j,rfl,rfl,h⟩ k;show#[i,j,r1.eq,r2.eq,k _ M _ H h (aI.refl H) m WR.v]
def xD (i:Nat)(a:WE)(r:gY):WS:=λD ρ M=>cA i ρ M λx M=>a ρ M λy M1=>r x y M1 λz M2=>D.nx (ρ.set i (some z)) M2
instance {i:Nat}{t:TE}{ti:sP}{a:WE}{w:gY} [ia:IE K t a] [ir:CW K ti w]:IS K (xx i t ti) (xD i a w) where
 imp:=λρ M σ H D' D o h e=>by let⟨x,ex,h⟩:=nW h;let⟨v,ev,rv⟩:=o.env.2 i x ex;show#[v,ev,ia.imp ρ M σ H _ _ o h λy M1 u H1 h1 t1 m1 r1=>ir.imp x y v u M1 H1 _ _ m1 (rv.ts t1) r1 h1 λz M2 w2 H2 h2 t2 m2 r2=>e.nx _ M2 _ H2 h2 (t1.trans t2) #[(o.env.ts (t1.trans t2)).set i r2,m2]]
def t8 (a b c:WE)(g:gY)(r:gY)(s:j5):WS:=λD ρ M=>a ρ M λo M1=>b ρ M1 λi M2=>g o i M2 λx M3=>c ρ M3 λy M4=>r x y M4 λz M5=>s o i z M5 λM6=>D.nx ρ M6
instance {t u s:TE}{tg:V ->V ->Hp ->VK ->Prop}{ti:sP}{ts:j6}{a b c:WE}{g r:gY}{w:j5} [ia:IE K t a] [ib:IE K u b] [ic:IE K s c] [ig:IR K tg g] [ir:CW K ti r] [iw:wx K ts w]:IS K (tR t u s tg ti ts) (t8 a b c g r w) where
 imp:=λρ M σ H D' D o h e=>ia.imp ρ M σ H _ _ o h λx1 M1 v1 H1 h1 t1 m1 r1=>ib.imp ρ M1 σ H1 _ _ (o.mv t1 m1) h1 λx2 M2 v2 H2 h2 t2 m2 r2=>ig.imp x1 x2 v1 v2 M2 H2 _ _ m2 (r1.ts t2) r2 h2 λx3 M3 v3 H3 h3 t3 m3 r3=>ic.imp ρ M3 σ H3 _ _ (o.mv ((t1.trans t2).trans t3) m3) h3 λx4 M4 v4 H4 h4 t4 m4 r4=>ir.imp x3 x4 v3 v4 M4 H4 _ _ m4 (r3.ts t4) r4 h4 λx5 M5 v5 H5 h5 t5 m5 r5=>iw.imp x1 x2 x5 v1 v2 v5 M5 H5 _ _ m5 (r1.ts (((t2.trans t3).trans t4).trans t5)) (r2.ts ((t3.trans t4).trans t5)) r5 h5 λM6 H6 h6 t6 m6=>e.nx ρ M6 σ H6 h6 (((((t1.trans t2).trans t3).trans t4).trans t5).trans t6) (o.mv (((((t1.trans t2).trans t3).trans t4).trans t5).trans t6) m6)
def kt (a b c:WE):WS:=λD ρ M=>c ρ M λz M1=>a ρ M1 λx M2=>b ρ M2 λy M3=>dr λp kvs k=>dB (x=wr p) (M3 p=some (.dK kvs)) (y=iA k) (kvs.length<sizeLine) (D.nx ρ (um M3 p (.dK (mL kvs k z))))
instance {t u s:TE}{a b c:WE} [ia:IE K t a] [ib:IE K u b] [ic:IE K s c]:IS K (tZ t u s) (kt a b c) where
 imp :=λρ M σ H D' D o h e=>ic.imp ρ M σ H _ _ o h λz M1 v1 H1 h1 t1 m1 r1=>ia.imp ρ M1 σ H1 _ _ (o.mv t1 m1) h1 λx M2 v2 H2 h2 t2 m2 r2=>ib.imp ρ M2 σ H2 _ _ (o.mv (t1.trans t2) m2) h2 λy M3 v3 H3 ⟨p,kvs,k,e1,e2,e3,hl,h3⟩ t3 m3 r3=>by subst e1 e3;let⟨ks,hk,rr⟩:=m3 p _ e2;have ts:=n_ (u:= .dK (dM ks k v1)) hk;exact#[p,_,r2.eq,?_,e.nx ρ _ σ (b8 H3 p (.dK (dM ks k v1))) h3 (((t1.trans t2).trans t3).trans ts) (o.mv (((t1.trans t2).trans t3).trans ts) (m3.putD hk (KR.put (r1.ts (t2.trans t3)) rr)))];rw[iz r3];show qt.k hk (by rw[rr.length];show hl)
def sR (K:Fp)(H1:Hp)(J:It)(xs:yr W)(keep:Mp ->Prop):Prop:=∀i M H,aI H1 H ->cO K M H ->keep M ->(xs.length=i ->J.stop i H) /\ (i<xs.length ->J.go i H) /\ ∀v H',i<xs.length ->J.zm i H v H' ->aI H H' /\ cO K M H' /\ ∃x,xs[i]? =some x /\ WR K H' x v
class II (K:PySem.W.Frag) (t:TI) (w:outParam WI):Prop where
 imp: ∀ (ρ:bY) (M:Mp) (σ:St) (H:Hp) (q:List W ->(Mp ->Prop) ->Mp ->Prop) (R:It ->Hp ->Prop),Ok K ρ M σ H ->w ρ M q ->(∀xs keep J M' H',q xs keep M' ->aI H H' ->cO K M' H' ->sR K H' J xs keep ->R J H') ->t σ H R
def pE (a:WE):WI:=λρ M q=>a ρ M λx M1=>bH λp l=>b0 (x=wr p) (M1 p=some (.lst l)) (q l (λM'=>M' p=some (.lst l)) M1)
def yq (a:WE):WI:=λρ M q=>a ρ M λx M1=> ∃l,x= .tup l /\ q l (λ_=>True) M1
def b_ (lo:Int)(n:Nat):yr W:=(List.range n).map λ(k:Nat)=>wi (lo+(k:Int))
def pD (a:WA):WI:=λρ M q=>a ρ M λxs M1=> ∃j:Int,c6 (xs= [wi j]) (-(2 ^ 62) <=j) (j<2 ^ 62) (q (b_ 0 j.toNat) (λ_=>True) M1)
def pC (a:WA):WI:=λρ M q=>a ρ M λxs M1=>bH λ(i j:Int)=>b0 (xs= [wi i,wi j]) (-(2 ^ 62) <=i /\ i<2 ^ 62 /\ -(2 ^ 62) <=j /\ j<2 ^ 62) (q (b_ i (j - i).toNat) (λ_=>True) M1)
def ng:sR K H1 (CV K p) l (λM'=>M' p=some (.lst l)):=by intro i M H ts m hk;let⟨vs,hv,rr⟩:=m p _ hk;have hl:=rr.length;exact#[λh=>#[vs,dD.of hv, ∅],λh=>#[vs,vs[i]'∅,dD.of hv,by simp],λv H' hi y=> ?_];let⟨rfl,y⟩:=y;have:=y vs (dD.of hv);let⟨d,hd,r⟩:=rr.back this;show#[aI.refl _,m,d,hd,r]
def pF (hv:eW K H1 p vs)(rr:bO K H1 l vs):sR K H1 (CU K p) l (λ_=>True):=by intro i M H ts m _;have yB:=Un.Dn ts hv;have xG:=rr.ts ts;have hl:=xG.length;exact#[λh=>#[vs,yB, ∅],λh=>#[vs,vs[i]'∅,yB,by simp],λv H' hi y=> ?_];let⟨rfl,y⟩:=y;have:=y vs yB;let⟨d,hd,r⟩:=xG.back this;show#[aI.refl _,m,d,hd,r]
def jB:sR K H1 (zf lo n) (b_ lo n) (λ_=>True):=by
 intro i M H ts m _;have hl:(b_ lo n).length=n:=by simp[b_]
 rw[hl];exact#[λh=>Nat.le_of_eq h,λh=>h,λv H' hi y=> ?_];let⟨rfl,y⟩:=y;exact#[aI.refl _,m,wi (lo+i),?_,by rw[y];show WR.v];simp[b_,hi]
instance {t:TE}{a:WE} [ia:IE K t a]:II K (uo K t) (pE a) where
 imp:=λρ M σ H q R o h k=>ia.imp ρ M σ H _ _ o h λx M1 v H1 ⟨p,l,e,hp,h1⟩ t1 m1 r1=>by subst e;let⟨vs,hv,rr⟩:=m1 p _ hp;show#[p,r1.eq,#[vs,dD.of hv],k l _ _ M1 H1 h1 t1 m1 ng]
instance {t:TE}{a:WE} [ia:IE K t a]:II K (yw K t) (yq a) where
 imp:=λρ M σ H q R o h k=>ia.imp ρ M σ H _ _ o h λx M1 v H1 ⟨l,e,h1⟩ t1 m1 r1=>by subst e;let⟨p,vs,rfl,hv,rr⟩:=r1.tup;show#[p,rfl,#[vs,hv],k l _ _ M1 H1 h1 t1 m1 (pF hv rr)]
instance {t:TA}{a:WA} [ia:IA K t a]:II K (ul t) (pD a) where
 imp:=λρ M σ H q R o h k=>ia.imp ρ M σ H _ _ o h λxs M1 v H1 ⟨j,e,h0,h1,h2⟩ t1 m1 r1=>by subst e;let⟨v,rfl,r⟩:=r1.one;cases r.eq;show#[j,rfl,h0,h1,k _ _ _ M1 H1 h2 t1 m1 jB]
instance {t:TA}{a:WA} [ia:IA K t a]:II K (uk t) (pC a) where
 imp:=λρ M σ H q R o h k=>ia.imp ρ M σ H _ _ o h λxs M1 v H1 ⟨i,j,e,h0,h2⟩ t1 m1 r1=>by subst e;let⟨v,u,rfl,r,r'⟩:=r1.two;cases r.eq;cases r'.eq;show#[i,j,rfl,h0,k _ _ _ M1 H1 h2 t1 m1 jB]
def xB (it:WI)(g:WG)(b:WS):WS:=λD ρ M=>it ρ M λxs keep M1=> ∃I:Nat ->bY ->Mp ->Prop,c6 (I 0 ρ M1) (∀i ρ M,i<=xs.length ->I i ρ M ->keep M) (∀i x ρ M,xs[i]? =some x ->I i ρ M ->g x ρ M λρ2 M2=>b {D with nx:=I (i+1),ct:=I (i+1),bk:=D.nx} ρ2 M2) (∀ρ M,I xs.length ρ M ->D.nx ρ M)
instance {ti:TI}{g:TG}{t:TS}{it:WI}{w:WG}{b:WS} [ii:II K ti it] [ig:IG K g w] [ib:IS K t b]:IS K (xw ti g t) (xB it w b) where
 imp :=λρ M σ H D' D o h e=>ii.imp ρ M σ H _ _ o h λxs keep J M1 H1 h1 t1 m1 ok=>by let⟨I,h0,hk,hs,hd⟩:=h1;exact#[λi m σ' H'=>m=xs.length - i /\ i<=xs.length /\ bH λρ' M'=>b0 (I i ρ' M') (aI H1 H') (Ok K ρ' M' σ' H'),#[_,rfl,Nat.zero_le _,ρ,M1,h0,aI.refl _,o.mv t1 m1],?_];rintro i m σ' H' ⟨rfl,hi,ρ',M',hI,ts,o'⟩;let⟨k1,k2,k3⟩:=ok i M' H' ts o'.hp (hk i ρ' M' hi hI);by_cases iC:i<xs.length;exact .inr #[k2 iC,λσ2 H2=>bH λρ2 M2=>b0 (I (i+1) ρ2 M2) (aI H1 H2) (Ok K ρ2 M2 σ2 H2),λσ2 H2 ⟨ρ2,M2,a,b,c⟩=>#[xs.length - (i+1), ∅,rfl,iC,ρ2,M2,a,b,c],λv H2 y=> ?_];let⟨ty,my,x,hx,r⟩:=k3 v H2 iC y;replace ts:=ts.trans ty;exact ig.imp x v ρ' M' σ' H2 _ _ (o'.mv ty my) r (hs i x ρ' M' hx hI) λρ3 M3 σ3 H3 h3 t3 o3=>ib.imp ρ3 M3 σ3 H3 _ _ o3 h3 #[λa b c d h t o=>#[a,b,h,(ts.trans t3).trans t,o],λa b c d h t=>e.rt a b c d h (t1.trans ((ts.trans t3).trans t)),λa b c d h t=>e.nx a b c d h (t1.trans ((ts.trans t3).trans t)),λa b c d h t o=>#[a,b,h,(ts.trans t3).trans t,o]];have e':i=xs.length:= ∅;subst e';show .inl #[k1 rfl,e.nx ρ' M' σ' H' (hd ρ' M' hI) (t1.trans ts) o']
def jX (own:Nat)(fr:yr Nat)(ρ:bY):bY:=List.replicate own none++fr.map λj=>(ρ[j]?).join
def qO.y4 (own:Nat)(fr:yr Nat)(h:qO K H ρ σ):qO K H (jX own fr ρ) (gl own fr σ):=by
 unfold jX gl;exact#[by simp,λi x e=> ?_];by_cases hi:i<own;rw[aH ⇑hi,List.getElem?_replicate,aj hi] at e;cases e;rw [aB ⇑hi,List.length_replicate,aP] at e;rw[aB ⇑hi,List.length_replicate,aP];cases ej:fr[i - own]? with
 | none=>rw[ej] at e;cases e
 | some j=>
  rw[ej] at e;simp![Option.map_some,Option.some.injEq] at e ⊢;cases er:ρ[j]? with
  | none=>rw[er] at e;cases e
  | some z=>rw[er] at e;simp![Option.join_some] at e;subst e;let⟨v,ev,r⟩:=h.2 j x er;show#[v,by rw[ev];rfl,r]
def tz (it:WI)(own:Nat)(fr:yr Nat)(g:WG)(c:WT)(el:WE):WE:=λρ M q=>it ρ M λxs keep M1=>xs.length<=sizeLine /\ ∀p,M1 p=none -> ∃I:Nat ->yr W ->Mp ->Prop,c6 (I 0 [] (um M1 p (.lst []))) (∀i ys M,i<=xs.length ->I i ys M ->keep M /\ M p=some (.lst ys) /\ ys.length<=i) (∀i x ys M,xs[i]? =some x ->I i ys M ->g x (jX own fr ρ) M λρ2 M2=>c ρ2 M2 λb M3=>if b=true then el ρ2 M3 λy M4=>M4 p=some (.lst ys) /\ I (i+1) (ys++ [y]) (um M4 p (.lst (ys++ [y]))) else I (i+1) ys M3) (∀ys M,I xs.length ys M ->q (wr p) M)
instance {ti:TI}{own:Nat}{fr:yr Nat}{g:TG}{tc:TT}{te:TE}{it:WI}{w:WG}{c:WT}{el:WE} [ii:II K ti it] [ig:IG K g w] [ic:IT K tc c] [ie:IE K te el]:IE K (tQ ti own fr g tc te) (tz it own fr w c el) where
 imp :=λρ M σ H q Q o h k=>ii.imp ρ M σ H _ _ o h λxs keep J M1 H1 h1 t1 m1 ok=>by
  intro p hp;let⟨hz,h1⟩:=h1;let⟨I,h0,hk,hs,hd⟩:=h1 p (m1.fresh hp);have tp:=L2.cV.ts (br (o:= .lst []) hp);exact#[λi m vs H'=>m=xs.length - i /\ i<=xs.length /\ bH λys M'=>dB (I i ys M') (aI H1 H') (cO K M' H') (bO K H' ys vs) (H' p=some (.lst vs)),#[_,rfl,Nat.zero_le _,[],_,h0,tp,m1.kE hp bO.nil,bO.nil,bw],?_];rintro i m vs H' ⟨rfl,hi,ys,M',hI,ts,m',rv,hv⟩;exact#[hv,?_];let⟨kp,G1,GN⟩:=hk i ys M' hi hI;let⟨k1,k2,k3⟩:=ok i M' H' ts m' kp;by_cases iC:i<xs.length;exact .inr #[k2 iC,by rw[rv.length];lia,λv H2 y=> ?_];let⟨ty,my,x,hx,r⟩:=k3 v H2 iC y;replace ts:=ts.trans ty;have oc:Ok K (jX own fr ρ) M' (gl own fr σ) H2:=#[(o.env.ts (t1.trans ts)).y4 own fr,my]
  exact ig.imp x v _ M' _ H2 _ _ oc r (hs i x ys M' hx hI) λρ3 M3 σ3 H3 h3 t3 o3=>ic.imp ρ3 M3 σ3 H3 _ _ o3 h3 λb M4 H4 h4 t4 m4=> ?_;cases b with
  | true=>simp![bg] at h4 ⊢;exact ie.imp ρ3 M4 σ3 H4 _ _ (o3.mv t4 m4) h4 λz M5 u H5 ⟨h5,h6⟩ t5 m5 r5=> ?_;let⟨zO,yx,xF⟩:=m5 p _ h5;have Ba:=(t3.trans t4).trans t5;have t6:=fC (u:= .lst (zO++ [u])) yx;show#[zO,yx,by rw[xF.length];lia,_, ∅,rfl,iC,_,_,h6,(ts.trans Ba).trans t6,m5.putL yx (xF.snoc r5),(xF.snoc r5).ts t6,bw]
  | false=>simp![ap,aO] at h4 ⊢;let⟨zO,yx,xF⟩:=m4 p _ (hk (i+1) ys M4 iC h4).2.1;show#[zO,_, ∅,rfl,iC,_,_,h4,ts.trans (t3.trans t4),m4,xF,yx]
  have e':i=xs.length:= ∅;subst e';show .inl #[k1 rfl,k _ M' _ H' (hd ys M' hI) (t1.trans ts) m' WR.v]
def wW:WT:=λ_ M q=>q true M
instance:IT K xn wW where
 imp:=λρ M σ H q Q o h k=>k _ M H h (aI.refl H) o.hp
end
section
variable {K:Fp}
theorem cO.sub (s:Sm M M')(m:cO K M' H):cO K M H:=λa o e=>m a o (s a o e)
def EJ (F:qj K x qual st f fd)(S:c7 N ps (a7 st))(len: ∀vs M q,p vs M q ->vs.length=ps.length)(eo: ∀ (cdv:yt) (A:Around) (outer:yr Env) (s:yu) (H:Hp) (E:XK),cU k (A.deeper (PyProof.Rows.envOfC qual (a7 st) s.heap.objs.size f cdv)) ->∃t,kR (fZ eI P w K mg base N qual (a7 st) f cdv A outer s H E).vq (cj st) t /\ ∃w',IS K t w' /\ ∀vs M q,p vs M q ->w' {nx:=λ_ M'=> ∃M0,Sm M0 M' /\ q wn M0,rt:=λx M'=> ∃M0,Sm M0 M' /\ q x M0} (vs.map some++List.replicate (N.length - vs.length) none) M): cz P w K mg base eI (k+1) f fd ps (j9 K p):=by
 have h:=EI (K:=K) (P:=P) (w:=w) (mg:=mg) (base:=base) (k:=k) (p:=λvs M q=> ∃q',p vs M q' /\ q=λx M'=> ∃M0,Sm M0 M' /\ q' x M0) F S (λvs M q ⟨q',h,_⟩=>len vs M q' h) λcdv A outer s H E hr=>by let⟨t,h1,w',h2,h3⟩:=eo cdv A outer s H E hr;exact#[t,w',h1,h2,?_];rintro vs M q ⟨q',h,rfl⟩;show h3 vs M q' h
 exact h.imp λvs H Q E ⟨xs,M,q,r,m,hp,hk⟩=>#[xs,M,_,r,m,#[q,hp,rfl],?_]
 rintro x M' v H' ⟨M0,s,hq⟩ ts m' r';show hk x M0 v H' hq ts (m'.sub s) r'
def nw {xs:yr W}{keep:Mp ->Prop}{M1:Mp}{g:WG}{c:WT}{el:WE}{q:WK}(f:W ->BP W)(hz:xs.length<=sizeLine)(pN: ∀M,Sm M1 M ->keep M)(hs: ∀ (i:Nat) x,xs[i]? =some x -> ∀ (M:Mp) (N:BP W ->Mp ->Prop),Sm M1 M ->N (f x) M ->g x (jX own fr ρ) M λρ2 M2=>c ρ2 M2 λb M3=>if b=true then el ρ2 M3 λy M4=>N (some y) M4 else N none M3)(hq: ∀p,M1 p=none ->q (wr p) (um M1 p (.lst (xs.filterMap f)))): xs.length<=sizeLine /\ ∀p,M1 p=none -> ∃I:Nat ->yr W ->Mp ->Prop,c6 (I 0 [] (um M1 p (.lst []))) (∀i ys M,i<=xs.length ->I i ys M ->keep M /\ M p=some (.lst ys) /\ ys.length<=i) (∀i x ys M,xs[i]? =some x ->I i ys M ->g x (jX own fr ρ) M λρ2 M2=>c ρ2 M2 λb M3=>if b=true then el ρ2 M3 λy M4=>M4 p=some (.lst ys) /\ I (i+1) (ys++ [y]) (um M4 p (.lst (ys++ [y]))) else I (i+1) ys M3) (∀ys M,I xs.length ys M ->q (wr p) M):=by
 exact#[hz,λp hp=>#[λi ys M=>M=um M1 p (.lst ys) /\ ys=(xs.take i).filterMap f,#[rfl,by simp],?_,?_,?_]];rintro i ys M hi ⟨rfl,rfl⟩;exact#[pN _ (bL hp),aW,a0 (List.length_filterMap_le _ _) ?_];rw[List.length_take];lia;rintro i x ys M hx ⟨rfl,rfl⟩;exact hs i x hx _ (λo M4=>match o with
 | some y=>M4 p=some (.lst ((xs.take i).filterMap f)) /\ (um M4 p (.lst ((xs.take i).filterMap f++ [y]))=um M1 p (.lst ((xs.take i).filterMap f++ [y])) /\ (xs.take i).filterMap f++ [y]=(xs.take (i+1)).filterMap f)
 | none=>M4=um M1 p (.lst ((xs.take i).filterMap f)) /\ (xs.take i).filterMap f=(xs.take (i+1)).filterMap f) (bL hp) ?_
 have e:xs.take (i+1)=xs.take i++ [x]:=by rw[List.take_add_one,hx];rfl
 cases hf:f x with
 | none=>show#[rfl,by rw[e,List.filterMap_append];simp[hf]]
 | some y=>show#[aW,xk,by rw[e,List.filterMap_append];simp[hf]]
 rintro ys M ⟨rfl,rfl⟩;rw[List.take_length];show hq p hp
def nY:nJ:=λxs M q=>dr λ(d:Fm) (kvs:yr (bM×W)) (ks:yr Int)=>dB (xs= [wr d]) (M d=some (.dK kvs)) (kvs.map (·.1)=ks.map Sum.inl) (ks.length<=sizeLine) (∀ (p:Fm) (ns:yr Int),M p=none ->ns.Perm ks ->ns.Pairwise (· <= ·) ->q (wr p) (um M p (.lst (ns.map wi))))
instance:IC K jh nY where
 imp:=by rintro xs v M H q Q m r1 ⟨d,kvs,ks,rfl,hd,hk,hl,h⟩ k;let⟨v,rfl,r⟩:=r1.one;cases r.eq;let⟨vs,hv,rr⟩:=m d _ hd;show#[d,vs,ks,rfl,hv,by rw[rr.keys];show hk,hl,λp ns hp h1 h2=>k _ _ _ _ (h p ns (m.fresh hp) h1 h2) (L2.cV.ts (br hp)) (m.kE hp (bO.ofInts ns)) WR.v]
def uc:yr V ->Hp ->VK ->Prop:=λxs H Q=>(∃i,xs= [.int i] /\ Q (.int i) H) \/ ∃k,xs= [.bl k] /\ Q (.int (if k then 1 else 0)) H
theorem dc:cE X (.type "int") uc:=nE
def tq:nJ:=λxs M q=>(∃i,xs= [wi i] /\ q (wi i) M) \/ ∃k,xs= [wb k] /\ q (wi (if k then 1 else 0)) M
instance:IC K uc tq where
 imp:=by
  rintro xs v M H q Q m r1 h k;rcases h with⟨i,rfl,h⟩ | ⟨b,rfl,h⟩ <;>let⟨v,rfl,r⟩:=r1.one<;>cases r.eq
  show .inl #[i,rfl,k _ M _ H h (aI.refl H) m WR.v];show .inr #[b,rfl,k _ M _ H h (aI.refl H) m WR.v]
def wY:gY:=λx y M q=>dr λa k l=>wq (x=wr a) (y=wi k) (M a=some (.lst l)) (-(2 ^ 63) <=k) (k<2 ^ 63) (l.length*k.toNat<=sizeLine) (∀p,M p=none ->q (wr p) (um M p (.lst (List.replicate k.toNat l).flatten)))
theorem bO.rep {H:Hp}{l:yr W}{vs:yr V}(r:bO K H l vs): ∀n:Nat,bO K H (List.replicate n l).flatten (List.replicate n vs).flatten
 | 0=>bO.nil
 | n+1=>by rw[bn,bn,List.flatten_cons,List.flatten_cons];show r.append (bO.rep r n)
instance:IR K xK wY where
 imp:=by rintro x y v u M H q Q m r1 r2 ⟨a,n,l,rfl,rfl,hl,h0,h1,h2,h⟩ k;cases r1.eq;cases r2.eq;let⟨vs,hv,rr⟩:=m a _ hl;show#[a,n,vs,rfl,rfl,hv,h0,h1,by rw[rr.length];show h2,λp hp=>k _ _ _ _ (h p (m.fresh hp)) (L2.cV.ts (br hp)) (m.kE hp (rr.rep _)) WR.v]
end
theorem Eh {l:yr α}:f9 (a::l) 0=some a:=eE (j:=0) (by rfl)
theorem Eg {l:yr α}:f9 (a::b::l) 1=some b:=eE (j:=1) (by rfl)
theorem Ef {l:yr α}:f9 (a::b::c::l) 2=some c:=eE (j:=2) (by rfl)
theorem Ee {l:yr α}:f9 (a::b::c::d::l) 3=some d:=eE (j:=3) (by rfl)
def DG:iB (n+1+1) 1=some 1:=by unfold iB;rw[aj ∅,aj ∅];rfl
def DF:iB (n+1+1+1) 2=some 2:=by unfold iB;rw[aj ∅,aj ∅];rfl
def DE:iB (n+1+1+1+1) 3=some 3:=by unfold iB;rw[aj ∅,aj ∅];rfl
def mC {a:α}(h0:0<=i)(h:l[i.toNat]? =some a):f9 l i=some a:=by have e:((i.toNat:Nat):Int)=i:= ∅;rw[<- e];show eE h
theorem pX {P:Mp ->Prop}(h:P M): ∃M0,Sm M0 M /\ P M0:=#[M,Sm.refl M,h]
def NB (d:Fm)(M M':Mp):Prop:= ∀b,b≠d ->M' b=M b
theorem NB.refl (d:Fm)(M:Mp):NB d M M:=λ_ _=>rfl
theorem NB.trans {M M1 M2:Mp}(a:NB d M M1)(b:NB d M1 M2):NB d M M2:=λc n=>(b c n).trans (a c n)
theorem NB.put:NB d M (um M d o):=λb n=>bx n
def Dr (M:Mp)(d l:Fm):Prop:=d5 λ(ns:yr Int) (i c s:Int)=>c6 (M d=some (.lst [wr l,wi i,wi c,wi s])) (M l=some (.lst (ns.map wi))) (0<=i) (d≠l)
def cY (q:Int×Int):W:= .tup [wi q.1,wi q.2]
def jm (l:yr (Int×Int)):W:= .tup (l.map cY)
def pairs_at {l:yr (Int×Int)}{i:Nat}(h:(l.map cY)[i]? =some x): ∃q,l[i]? =some q /\ x=cY q:=by
 rw[aP] at h;cases e:l[i]? with
 | none=>rw[e] at h;cases h
 | some q=>rw[e] at h;cases h;show#[q,rfl,rfl]
def pI {l:yr Int}{i:Nat}(h:(l.map wi)[i]? =some x): ∃n,l[i]? =some n /\ x=wi n:=by
 rw[aP] at h;cases e:l[i]? with
 | none=>rw[e] at h;cases h
 | some q=>rw[e] at h;cases h;show#[q,rfl,rfl]
def bW (h:(b_ lo n)[i]? =some x):i<n /\ x=wi (lo+i):=by unfold b_ at h;rw[aP] at h;by_cases hi:i<n;rw[List.getElem?_range hi] at h;cases h;show#[hi,rfl];rw[List.getElem?_eq_none ⇑hi] at h;cases h
def lstK (o:BP MO)(k:yr W ->Prop):Prop:= ∃l,o=some (.lst l) /\ k l
def jN (o:BP MO)(k:yr (bM×W) ->Prop):Prop:= ∃l,o=some (.dK l) /\ k l
def gh {α:Type}(o:BP α)(k:α ->Prop):Prop:= ∃a,o=some a /\ k a
def dk (C Q:Prop):Prop:=C /\ Q
def dX (b:Bool)(A B:Prop):Prop:=if b=true then A else B
def ju (M:Mp)(k:Fm ->Prop):Prop:= ∀p,M p=none ->k p
def y7 (p:gX)(xs:yr W)(M:Mp)(q:WK):Prop:=p xs M q
def Ai (x:W)(M:Mp)(q:Bool ->Mp ->Prop):Prop:= ∃k,x=wb k /\ q k M
def dv (x:W)(k:Fm ->Prop):Prop:= ∃a,x=wr a /\ k a
def tupK (x:W)(k:yr W ->Prop):Prop:= ∃l,x= .tup l /\ k l
def kK (x:W)(k:bM ->Prop):Prop:= ∃y,x=iA y /\ k y
def nq (xs:yr W)(keep:Mp ->Prop)(g:WG)(b:WS)(D:dC)(ρ:bY)(M1:Mp):Prop:= ∃I:Nat ->bY ->Mp ->Prop,c6 (I 0 ρ M1) (∀i ρ M,i<=xs.length ->I i ρ M ->keep M) (∀i x ρ M,xs[i]? =some x ->I i ρ M ->g x ρ M λρ2 M2=>b {D with nx:=I (i+1),ct:=I (i+1),bk:=D.nx} ρ2 M2) (∀ρ M,I xs.length ρ M ->D.nx ρ M)
def uI (xs:yr W)(keep:Mp ->Prop)(own:Nat)(fr:yr Nat)(g:WG)(c:WT)(el:WE)(ρ:bY)(M1:Mp)(q:WK):Prop:=xs.length<=sizeLine /\ ∀p,M1 p=none -> ∃I:Nat ->yr W ->Mp ->Prop,c6 (I 0 [] (um M1 p (.lst []))) (∀i ys M,i<=xs.length ->I i ys M ->keep M /\ M p=some (.lst ys) /\ ys.length<=i) (∀i x ys M,xs[i]? =some x ->I i ys M ->g x (jX own fr ρ) M λρ2 M2=>c ρ2 M2 λb M3=>if b=true then el ρ2 M3 λy M4=>M4 p=some (.lst ys) /\ I (i+1) (ys++ [y]) (um M4 p (.lst (ys++ [y]))) else I (i+1) ys M3) (∀ys M,I xs.length ys M ->q (wr p) M)
def BF:lstK (some (.lst l)) k=k l:=by apply propext;symm;(· rintro⟨_,h,k⟩;cases h;show k);(· intro h;show#[_,rfl,h])
def CJ:jN (some (.dK l)) k=k l:=by apply propext;symm;(· rintro⟨_,h,k⟩;cases h;show k);(· intro h;show#[_,rfl,h])
def Bs {k:α ->Prop}:gh (some x) k=k x:=by apply propext;symm;(· rintro⟨_,h,k⟩;cases h;show k);(· intro h;show#[_,rfl,h])
def CM:dk True Q=Q:=by simp[dk]
def BM:dX true A B=A:=by simp[dX]
def BN:dX false A B=B:=by simp[dX]
def DH:Ai (.v (.bl k)) M q=q k M:=by apply propext;symm;(· rintro⟨_,h,k⟩;cases h;show k);(· intro h;show#[_,rfl,h])
def Bl:dv (.v (.ref x)) k=k x:=by apply propext;symm;(· rintro⟨_,h,k⟩;cases h;show k);(· intro h;show#[_,rfl,h])
def A9:tupK (.tup x) k=k x:=by apply propext;symm;(· rintro⟨_,h,k⟩;cases h;show k);(· intro h;show#[_,rfl,h])
def BI:kK (.v (.int i)) k=k (.inl i):=by apply propext;symm;(· rintro⟨y,h,z⟩;cases y<;>cases h;show z);(· intro h;show#[.inl i,rfl,h])
theorem AN {r:bY}:cA 0 (some x::r) M q=q x M:=rfl
theorem AM {r:bY}:cA 1 (x0::some x::r) M q=q x M:=rfl
theorem AL {r:bY}:cA 2 (x0::x1::some x::r) M q=q x M:=rfl
theorem AK {r:bY}:cA 3 (x0::x1::x2::some x::r) M q=q x M:=rfl
theorem AJ {r:bY}:cA 4 (x0::x1::x2::x3::some x::r) M q=q x M:=rfl
theorem AI {r:bY}:cA 5 (x0::x1::x2::x3::x4::some x::r) M q=q x M:=rfl
theorem AH {r:bY}:cA 6 (x0::x1::x2::x3::x4::x5::some x::r) M q=q x M:=rfl
theorem AG {r:bY}:cA 7 (x0::x1::x2::x3::x4::x5::x6::some x::r) M q=q x M:=rfl
theorem AF {r:bY}:cA 8 (x0::x1::x2::x3::x4::x5::x6::x7::some x::r) M q=q x M:=rfl
theorem AE {r:bY}:cA 9 (x0::x1::x2::x3::x4::x5::x6::x7::x8::some x::r) M q=q x M:=rfl
theorem zC {r:bY}:cA 10 (x0::x1::x2::x3::x4::x5::x6::x7::x8::x9::some x::r) M q=q x M:=rfl
theorem zB {r:bY}:cA 11 (x0::x1::x2::x3::x4::x5::x6::x7::x8::x9::eZ::some x::r) M q=q x M:=rfl
theorem zA {r:bY}:cA 12 (x0::x1::x2::x3::x4::x5::x6::x7::x8::x9::eZ::fx::some x::r) M q=q x M:=rfl
theorem zz {r:bY}:cA 13 (x0::x1::x2::x3::x4::x5::x6::x7::x8::x9::eZ::fx::gb::some x::r) M q=q x M:=rfl
theorem zy {r:bY}:cA 14 (x0::x1::x2::x3::x4::x5::x6::x7::x8::x9::eZ::fx::gb::g_::some x::r) M q=q x M:=rfl
theorem zx {r:bY}:cA 15 (x0::x1::x2::x3::x4::x5::x6::x7::x8::x9::eZ::fx::gb::g_::iS::some x::r) M q=q x M:=rfl
theorem zw {r:bY}:cA 16 (x0::x1::x2::x3::x4::x5::x6::x7::x8::x9::eZ::fx::gb::g_::iS::kg::some x::r) M q=q x M:=rfl
theorem zu {r:bY}:cA 17 (x0::x1::x2::x3::x4::x5::x6::x7::x8::x9::eZ::fx::gb::g_::iS::kg::mE::some x::r) M q=q x M:=rfl
theorem zt {r:bY}:cA 18 (x0::x1::x2::x3::x4::x5::x6::x7::x8::x9::eZ::fx::gb::g_::iS::kg::mE::nU::some x::r) M q=q x M:=rfl
theorem zr {r:bY}:cA 19 (x0::x1::x2::x3::x4::x5::x6::x7::x8::x9::eZ::fx::gb::g_::iS::kg::mE::nU::qR::some x::r) M q=q x M:=rfl
theorem zq {r:bY}:cA 20 (x0::x1::x2::x3::x4::x5::x6::x7::x8::x9::eZ::fx::gb::g_::iS::kg::mE::nU::qR::uM::some x::r) M q=q x M:=rfl
theorem zp {r:bY}:cA 21 (x0::x1::x2::x3::x4::x5::x6::x7::x8::x9::eZ::fx::gb::g_::iS::kg::mE::nU::qR::uM::wV::some x::r) M q=q x M:=rfl
theorem zo {r:bY}:cA 22 (x0::x1::x2::x3::x4::x5::x6::x7::x8::x9::eZ::fx::gb::g_::iS::kg::mE::nU::qR::uM::wV::AC::some x::r) M q=q x M:=rfl
theorem zn {r:bY}:cA 23 (x0::x1::x2::x3::x4::x5::x6::x7::x8::x9::eZ::fx::gb::g_::iS::kg::mE::nU::qR::uM::wV::AC::Es::some x::r) M q=q x M:=rfl
theorem Ew:wC x ρ M q=q x M:=rfl
theorem C7:C8 r a b ρ M q=a ρ M λx M1=>b ρ M1 λy M2=>r x y M2 q:=rfl
theorem C3:C4 r a ρ M q=a ρ M λx M1=>r x M1 q:=rfl
def Ev:wI C g (.v (.int i)) (.v (.int j)) M q=dk (C i j) (q (.v (g i j)) M):=by apply propext;symm;(· rintro⟨_,_,h1,h2,k⟩;cases h1;cases h2;show k);(· intro h;show#[_,_,rfl,rfl,h])
def Dc:AY g (.v (.int i)) (.v (.int j)) M q=q (.v (g i j)) M:=by apply propext;symm;(· rintro⟨_,_,h1,h2,k⟩;cases h1;cases h2;show k);(· intro h;show#[_,_,rfl,rfl,h])
def Eu:wU g (.v (.int i)) M q=q (.v (g i)) M:=by apply propext;symm;(· rintro⟨_,h,k⟩;cases h;show k);(· intro h;show#[_,rfl,h])
def Dd:De (.v (.int i)) (.v (.int j)) M q=q (wb (decide (i=j))) M:=by apply propext;symm;(· rintro⟨_,_,h1,h2,_,k⟩;cases h1;cases h2;simpa using k);(· intro h;show#[_,_,rfl,rfl,rfl, ⇑h])
def C9:C' (.v (.int i)) (.v (.int j)) M q=q (wb (!decide (i=j))) M:=by apply propext;symm;(· rintro⟨_,_,h1,h2,_,k⟩;cases h1;cases h2;simpa using k);(· intro h;show#[_,_,rfl,rfl,rfl, ⇑h])
theorem zD:nX a ρ M q=a ρ M λx M1=>Ai x M1 q:=rfl
theorem A1:xg a b ρ M q=a ρ M λc M1=>dX c (b ρ M1 q) (q false M1):=rfl
theorem C5:C6 a b ρ M q=a ρ M λc M1=>dX c (q true M1) (b ρ M1 q):=rfl
theorem AR:wZ a ρ M q=a ρ M λc M1=>q (!c) M1:=rfl
theorem zN:tE a b ρ M q=a ρ M λx M1=>Ai x M1 λc M1=>dX c (b ρ M1 q) (q (wb false) M1):=rfl
theorem zF:sZ a ρ M q=a ρ M λx M1=>Ai x M1 λc M1=>q (wb (!c)) M1:=rfl
theorem C_:Db c a b ρ M q=c ρ M λc M1=>dX c (a ρ M1 q) (b ρ M1 q):=rfl
theorem AS:w5 ρ M q=q [] M:=rfl
theorem zK:tw a r ρ M q=a ρ M λx M1=>r ρ M1 λxs M2=>q (x::xs) M2:=rfl
theorem AO:wX a ρ M q=a ρ M λxs M1=>dk (xs.length<=sizeLine) (q (.tup xs) M1):=rfl
theorem AT:w6 a ρ M q=a ρ M λxs M1=>dk (xs.length<=sizeLine) (ju M1 λp=>q (wr p) (um M1 p (.lst xs))):=rfl
def AW:xa (.v (.ref x)) (.v (.int i)) M q=lstK (M x) λl=>gh (f9 l i) λu=>q u M:=by apply propext;symm;(· rintro⟨_,l,_,u,h1,h2,h3,h4,k⟩;cases h1;cases h2;show#[l,h3,u,h4,k]);(· rintro⟨l,h3,u,h4,k⟩;show#[_,l,_,u,rfl,rfl,h3,h4,k])
def AV:w_ (.tup l) (.v (.int i)) M q=gh (f9 l i) λu=>q u M:=by apply propext;symm;(· rintro⟨_,_,u,h1,h2,h4,k⟩;cases h1;cases h2;show#[u,h4,k]);(· rintro⟨u,h4,k⟩;show#[_,_,u,rfl,rfl,h4,k])
def nj (x:W)(k:Int ->Prop):Prop:= ∃i,x=wi i /\ k i
def BO:nj (.v (.int i)) k=k i:=by apply propext;symm;(· rintro⟨_,h,k⟩;cases h;show k);(· intro h;show#[_,rfl,h])
theorem Df:Dg r a ρ M q=a ρ M λxs M1=>r xs M1 q:=rfl
theorem zM:tD p a ρ M q=a ρ M λxs M1=>y7 p xs M1 q:=rfl
def AU:w8 [.v (.ref x)] M q=lstK (M x) λl=>q (wi l.length) M:=by apply propext;symm;(· rintro(⟨_,l,h1,h2,k⟩ | ⟨_,h1,_⟩);(· cases h1;show#[l,h2,k]);cases h1);(· rintro⟨l,h3,k⟩;show .inl #[_,l,rfl,h3,k])
def A2:xh [.v (.int i)] M q=q (wi (if i<0 then -i else i)) M:=by apply propext;symm;(· rintro⟨_,h,k⟩;cases h;show k);(· intro h;show#[_,rfl,h])
def zH:tj [.v (.int i), .v (.int j)] M q=q (wi (if j >i then j else i)) M:=by apply propext;symm;(· rintro⟨_,_,h,k⟩;cases h;show k);(· intro h;show#[_,_,rfl,h])
def zG:tf [.v (.int i), .v (.int j)] M q=q (wi (if j<i then j else i)) M:=by apply propext;symm;(· rintro⟨_,_,h,k⟩;cases h;show k);(· intro h;show#[_,_,rfl,h])
def wB:kW [.tup l] M q=ju M λp=>q (wr p) (um M p (.lst l)):=by apply propext;symm;(· rintro⟨l,⟨_,h1,h2⟩ | h1,k⟩;(· cases h1);cases h1;show k);(· intro k;show#[l, .inr rfl,k])
def uN:iT [.v (.ref x)] M q=lstK (M x) λl=>q (.tup l) M:=by apply propext;symm;(· rintro⟨l,⟨_,h1,h2⟩ | h1,k⟩;(· cases h1;show#[l,h2,k]);cases h1);(· rintro⟨l,h3,k⟩;show#[l, .inl #[_,rfl,h3],k])
def AX:xb K [x, .v (.ty T)] M q=gh (zR M x) λt=>gh (W.kitOne K t (.type T)) λb=>q (wb b) M:=by apply propext;symm;(· rintro⟨_,_,t,b,h1,h2,h3,k⟩;cases h1;show#[t,h2,b,h3,k]);(· rintro⟨t,h2,b,h3,k⟩;show#[_,_,t,b,rfl,h2,h3,k])
theorem uj:W.kitOne K (.type "int") (.type "int")=some true:=rfl
theorem si:W.kitOne K (.type "int") (.type "bool")=some false:=rfl
theorem ui:W.kitOne K (.type "int") (.type "str")=some false:=rfl
theorem qF:W.kitOne K (.type "int") (.type "tuple")=some false:=rfl
theorem sh:W.kitOne K (.type "int") (.type "list")=some false:=rfl
theorem sk:W.kitOne K (.type "bool") (.type "int")=some true:=rfl
theorem qH:W.kitOne K (.type "bool") (.type "bool")=some true:=rfl
theorem sj:W.kitOne K (.type "bool") (.type "str")=some false:=rfl
theorem pB:W.kitOne K (.type "bool") (.type "tuple")=some false:=rfl
theorem qG:W.kitOne K (.type "bool") (.type "list")=some false:=rfl
theorem uh:W.kitOne K (.type "str") (.type "int")=some false:=rfl
theorem r_:W.kitOne K (.type "str") (.type "bool")=some false:=rfl
theorem ug:W.kitOne K (.type "str") (.type "str")=some true:=rfl
theorem qC:W.kitOne K (.type "str") (.type "tuple")=some false:=rfl
theorem r9:W.kitOne K (.type "str") (.type "list")=some false:=rfl
theorem m9:W.kitOne K (.type "NoneType") (.type "int")=some false:=rfl
theorem lR:W.kitOne K (.type "NoneType") (.type "bool")=some false:=rfl
theorem m8:W.kitOne K (.type "NoneType") (.type "str")=some false:=rfl
theorem kJ:W.kitOne K (.type "NoneType") (.type "tuple")=some false:=rfl
theorem lQ:W.kitOne K (.type "NoneType") (.type "list")=some false:=rfl
theorem qB:W.kitOne K (.type "tuple") (.type "int")=some false:=rfl
theorem pz:W.kitOne K (.type "tuple") (.type "bool")=some false:=rfl
theorem qA:W.kitOne K (.type "tuple") (.type "str")=some false:=rfl
theorem nQ:W.kitOne K (.type "tuple") (.type "tuple")=some true:=rfl
theorem py:W.kitOne K (.type "tuple") (.type "list")=some false:=rfl
theorem sf:W.kitOne K (.type "list") (.type "int")=some false:=rfl
theorem qE:W.kitOne K (.type "list") (.type "bool")=some false:=rfl
theorem se:W.kitOne K (.type "list") (.type "str")=some false:=rfl
theorem pA:W.kitOne K (.type "list") (.type "tuple")=some false:=rfl
theorem qD:W.kitOne K (.type "list") (.type "list")=some true:=rfl
def Dh:A0 r a b ρ M q=a ρ M λx M1=>dv x λp=>lstK (M1 p) λ_=>b ρ M1 λxs M2=>r x xs M2 q:=by unfold A0 IsL dv lstK;congr 1;funext x M1;apply propext;symm;(· rintro⟨⟨p,l,h1,h2⟩,k⟩;show#[p,h1,l,h2,k]);(· rintro⟨p,h1,l,h2,k⟩;show#[#[p,l,h1,h2],k])
def wD:kX (.v (.ref x)) [y] M q=lstK (M x) λl=>dk (l.length<sizeLine) (q wn (um M x (.lst (l++ [y])))):=by apply propext;symm;(· rintro⟨_,l,_,h1,h2,h3,h4,k⟩;cases h1;cases h2;show#[l,h3,h4,k]);(· rintro⟨l,h3,h4,k⟩;show#[_,l,_,rfl,rfl,h3,h4,k])
def AZ:xf (.v (.ref x)) (.v (.ref y)) M q=lstK (M x) λl=>lstK (M y) λl'=>dk (l.length+l'.length<=sizeLine) (ju M λp=>q (wr p) (um M p (.lst (l++l')))):=by apply propext;symm;(· rintro⟨_,_,l,l',h1,h2,h3,h4,h5,k⟩;cases h1;cases h2;show#[l,h3,l',h4,h5,k]);(· rintro⟨l,h3,l',h4,h5,k⟩;show#[_,_,l,l',rfl,rfl,h3,h4,h5,k])
def AQ:wY (.v (.ref x)) (.v (.int n)) M q=lstK (M x) λl=>dk (-(2 ^ 63) <=n /\ n<2 ^ 63 /\ l.length*n.toNat<=sizeLine) (ju M λp=>q (wr p) (um M p (.lst (List.replicate n.toNat l).flatten))):=by apply propext;symm;(· rintro⟨_,_,l,h1,h2,h3,h4,h5,h6,k⟩;cases h1;cases h2;show#[l,h3,#[h4,h5,h6],k]);(· rintro⟨l,h3,⟨h4,h5,h6⟩,k⟩;show#[_,_,l,rfl,rfl,h3,h4,h5,h6,k])
theorem zI:tt ρ M q=ju M λp=>q (wr p) (um M p (.dK [])):=rfl
def zJ:n5 a b ρ M q=a ρ M λx M1=>b ρ M1 λy M2=>dv x λp=>kK y λk=>jN (M2 p) λkvs=>gh (dQ kvs k) λz=>q z M2:=by unfold n5 dv kK jN gh;congr 1;funext x M1;congr 1;funext y M2;apply propext;symm;(· rintro⟨p,kvs,k,z,h1,h2,h3,h4,h⟩;show#[p,h1,k,h3,kvs,h2,z,h4,h]);(· rintro⟨p,h1,k,h3,kvs,h2,z,h4,h⟩;show#[p,kvs,k,z,h1,h2,h3,h4,h])
def xc:kj a b c ρ M q=a ρ M λx M1=>dv x λp=>jN (M1 p) λ_=>b ρ M1 λy M2=>c ρ M2 λz M3=>kK y λk=>jN (M3 p) λkvs=>q ((dQ kvs k).getD z) M3:=by
 unfold kj dv kK jN;congr 1;funext x M1;apply propext;symm;rintro⟨p,h1,⟨kvs,h2⟩,h⟩;exact#[p,h1,kvs,h2,?_];have e:(λy M2=>c ρ M2 λz M3=>bH λkvs k=>b0 (M3 p=some (.dK kvs)) (y=iA k) (q ((dQ kvs k).getD z) M3))=(λy M2=>c ρ M2 λz M3=> ∃k,y=iA k /\ ∃kvs,M3 p=some (.dK kvs) /\ q ((dQ kvs k).getD z) M3):=by funext y M2;congr 1;funext z M3;apply propext;symm;rintro⟨a,b,c,d,e⟩;show#[b,d,a,c,e];rintro⟨b,d,a,c,e⟩;show#[a,b,c,d,e]
 rw[<- e];show h;rintro⟨p,h1,kvs,h2,h⟩;exact#[p,h1,#[kvs,h2],?_];have e:(λy M2=>c ρ M2 λz M3=>bH λkvs k=>b0 (M3 p=some (.dK kvs)) (y=iA k) (q ((dQ kvs k).getD z) M3))=(λy M2=>c ρ M2 λz M3=> ∃k,y=iA k /\ ∃kvs,M3 p=some (.dK kvs) /\ q ((dQ kvs k).getD z) M3):=by funext y M2;congr 1;funext z M3;apply propext;symm;rintro⟨a,b,c,d,e⟩;show#[b,d,a,c,e];rintro⟨b,d,a,c,e⟩;show#[a,b,c,d,e]
 rw[e];show h
theorem bN:rc a b D ρ M=a {nx:=b D,rt:=D.rt,bk:=D.bk,ct:=D.ct} ρ M:=rfl
theorem zX:tW D ρ M=D.nx ρ M:=rfl
theorem z3:t7 D ρ M=D.ct ρ M:=rfl
theorem zZ:tY a D ρ M=a ρ M λ_ M1=>D.nx ρ M1:=rfl
theorem Be:xA a D ρ M=a ρ M D.rt:=rfl
theorem Dq:zY c a b D ρ M=c ρ M λk M1=>dX k (a D ρ M1) (b D ρ M1):=rfl
theorem Bi:xE a g D ρ M=a ρ M λx M1=>g x ρ M1 D.nx:=rfl
def uT (xs:yr W)(k:W ->W ->Prop):Prop:=bH λx y=>xs= [x,y] /\ k x y
def A8:uT [x,y] k=k x y:=by apply propext;symm;(· rintro⟨_,_,h,z⟩;cases h;show z);(· intro h;show#[_,_,rfl,h])
theorem Bh:xD i a r D ρ M=cA i ρ M λx M=>a ρ M λy M1=>r x y M1 λz M2=>D.nx (ρ.set i (some z)) M2:=rfl
theorem z4:t8 a b c g r s D ρ M=a ρ M λo M1=>b ρ M1 λi M2=>g o i M2 λx M3=>c ρ M3 λy M4=>r x y M4 λz M5=>s o i z M5 λM6=>D.nx ρ M6:=rfl
def xC:kt a b c D ρ M=c ρ M λz M1=>a ρ M1 λx M2=>b ρ M2 λy M3=>dv x λp=>kK y λk=>jN (M3 p) λkvs=>dk (kvs.length<sizeLine) (D.nx ρ (um M3 p (.dK (mL kvs k z)))):=by unfold kt dv kK jN dk;congr 1;funext z M1;congr 1;funext x M2;congr 1;funext y M3;apply propext;symm;(· rintro⟨p,kvs,k,h1,h2,h3,h4,h⟩;show#[p,h1,k,h3,kvs,h2,h4,h]);(· rintro⟨p,h1,k,h3,kvs,h2,h4,h⟩;show#[p,kvs,k,h1,h2,h3,h4,h])
theorem Bg:xB it g b D ρ M=it ρ M λxs keep M1=>nq xs keep g b D ρ M1:=rfl
theorem zP:tF i x ρ M q=q (ρ.set i (some x)) M:=rfl
def A6:uQ [] ρ M q=q ρ M:=by simp[uQ]
def zQ:tG a b (x::r) ρ M q=a x ρ M λρ' M'=>b r ρ' M' q:=by apply propext;symm;(· rintro⟨_,_,h,k⟩;cases h;show k);(· intro h;show#[_,_,rfl,h])
def A4:xi n a (.tup l) ρ M q=dk (l.length=n) (a l ρ M q):=by apply propext;symm;(· rintro⟨_,h,k,l⟩;cases h;show#[k,l]);(· rintro⟨h,l⟩;show#[_,rfl,h,l])
theorem A5:xj a b s x ρ M q=a ρ M λo M1=>b ρ M1 λi M2=>s o i x M2 λM3=>q ρ M3:=rfl
def zE:sY (.v (.ref x)) (.v (.int i)) z M q=lstK (M x) λl=>gh (iB l.length i) λj=>q (um M x (.lst (l.set j z))):=by apply propext;symm;(· rintro⟨_,l,_,j,h1,h2,h3,h4,k⟩;cases h1;cases h2;show#[l,h3,j,h4,k]);(· rintro⟨l,h3,j,h4,k⟩;show#[_,l,_,j,rfl,rfl,h3,h4,k])
def Ah:pE a ρ M q=a ρ M λx M1=>dv x λp=>lstK (M1 p) λl=>q l (λM'=>M' p=some (.lst l)) M1:=by unfold pE dv lstK;congr 1;funext x M1;apply propext;symm;(· rintro⟨p,l,h1,h2,h⟩;show#[p,h1,l,h2,h]);(· rintro⟨p,h1,l,h2,h⟩;show#[p,l,h1,h2,h])
theorem BK:yq a ρ M q=a ρ M λx M1=>tupK x λl=>q l (λ_=>True) M1:=rfl
def vk (xs:yr W)(k:W ->Prop):Prop:= ∃x,xs= [x] /\ k x
def Bt:vk [x] k=k x:=by apply propext;symm;(· rintro⟨_,h,k⟩;cases h;show k);(· intro h;show#[_,rfl,h])
def Ag:pD a ρ M q=a ρ M λxs M1=>vk xs λx=>nj x λj=>dk (-(2 ^ 62) <=j /\ j<2 ^ 62) (q (b_ 0 j.toNat) (λ_=>True) M1):=by unfold pD vk nj dk;congr 1;funext x M1;apply propext;symm;(· rintro⟨j,h1,h2,h3,h⟩;show#[_,h1,j,rfl,#[h2,h3],h]);(· rintro⟨_,h1,j,rfl,⟨h2,h3⟩,h⟩;show#[j,h1,h2,h3,h])
def Af:pC a ρ M q=a ρ M λxs M1=>uT xs λx y=>nj x λi=>nj y λj=>dk (-(2 ^ 62) <=i /\ i<2 ^ 62 /\ -(2 ^ 62) <=j /\ j<2 ^ 62) (q (b_ i (j - i).toNat) (λ_=>True) M1):=by unfold pC uT nj dk;congr 1;funext x M1;apply propext;symm;(· rintro⟨i,j,h1,h2,h⟩;show#[_,_,h1,i,rfl,j,rfl,h2,h]);(· rintro⟨_,_,h1,i,rfl,j,rfl,h2,h⟩;show#[i,j,h1,h2,h])
theorem zL:tz it own fr g c el ρ M q=it ρ M λxs keep M1=>uI xs keep own fr g c el ρ M1 q:=rfl
theorem AD:wW ρ M q=q true M:=rfl
def GJ:(1<=sizeLine)=True:=by rw[sizeLine_eq];decide
def GI:(2<=sizeLine)=True:=by rw[sizeLine_eq];decide
def GH:(4<=sizeLine)=True:=by rw[sizeLine_eq];decide
def GK:(0<=sizeLine)=True:=by simp
def da [Decidable c](h1:c ->A)(h2:¬c ->B):dX (decide c) A B:=by unfold dX;by_cases h:c;rw[aj (decide_eq_true h)];show h1 h;rw[ai ⇑h];show h2 h
def vJ [Decidable c](h1:¬c ->A)(h2:c ->B):dX (!decide c) A B:=by unfold dX;by_cases h:c;rw[ai ⇑h];show h2 h;rw[aj ⇑h];show h1 h
theorem f6 {M1:Mp}(f:W ->BP W)(hz:xs.length<=sizeLine)(pN: ∀M,Sm M1 M ->keep M)(hs: ∀ (i:Nat) x,xs[i]? =some x -> ∀ (M:Mp) (N:BP W ->Mp ->Prop),Sm M1 M ->N (f x) M ->g x (jX own fr ρ) M λρ2 M2=>c ρ2 M2 λb M3=>dX b (el ρ2 M3 λy M4=>N (some y) M4) (N none M3))(hq: ∀p,M1 p=none ->q (wr p) (um M1 p (.lst (xs.filterMap f)))):uI xs keep own fr g c el ρ M1 q:=nw f hz pN hs hq
end WL
namespace WL
def sy (f:bY ->Mp ->Prop)(ρ:bY)(M:Mp):Prop:=f ρ M
theorem kM (h:f ρ M):sy f ρ M:=h
theorem fI:rc a b D ρ M=a {nx:=sy (b D),rt:=D.rt,bk:=D.bk,ct:=D.ct} ρ M:=rfl
theorem vL (Eo:bY ->Mp ->Prop)(cF: ∀ρ M,Eo ρ M ->R D ρ M)(h: ∀N:bY ->Mp ->Prop,(∀ρ M,Eo ρ M ->N ρ M) ->zY c a b {nx:=N,rt:=D.rt,bk:=D.bk,ct:=D.ct} ρ M):rc (zY c a b) R D ρ M:=h _ cF
theorem cM (I:Nat ->bY ->Mp ->Prop)(h0:I 0 ρ M1)(hk: ∀i ρ M,i<=xs.length ->I i ρ M ->keep M)(hs: ∀i x ρ M,xs[i]? =some x ->I i ρ M -> ∀N:bY ->Mp ->Prop,(∀ρ' M',I (i+1) ρ' M' ->N ρ' M') ->g x ρ M λρ2 M2=>b {nx:=N,rt:=D.rt,bk:=D.nx,ct:=N} ρ2 M2)(hd: ∀ρ M,I xs.length ρ M ->D.nx ρ M):nq xs keep g b D ρ M1:=#[I,h0,hk,λi x ρ M hx hI=>hs i x ρ M hx hI _ λ_ _ h=>h,hd]
end WL
namespace WP
open PySem L2 WL
abbrev Pt:=yr (Int×Int)
def look:Pt ->Int ->Int
 | [],_=>0
 | q::r,x=>if q.1=x then q.2 else look r x
def df (p:Int)(l:Pt):Prop:=(∀q∈l,0<q.2 /\ q.2<p) /\ l.Pairwise (λa b=>a.1<b.1)
def iP:Pt ->Int ->Int
 | [],_=>0
 | q::r,x=>(if q.1=x then q.2 else 0)+iP r x
def kn (a b:Pt)(x:Int):iP (a++b) x=iP a x+iP b x:=by
 induction a with
 | nil=>simp[iP]
 | cons q r ih=>rw[List.cons_append,iP,iP,ih];lia
def iX (a:Pt)(q:Int×Int)(x:Int):iP (a++ [q]) x=iP a x+if q.1=x then q.2 else 0:=by rw[kn];simp[iP]
def cR (h: ∀q∈l,q.1≠x):look l x=0:=by
 induction l with
 | nil=>rfl
 | cons q r ih=>rw[look,ai (h q (by simp)),ih λz hz=>h z (by simp[hz])]
theorem df.tail {r:Pt}(h:df p (q::r)):df p r:=#[λz hz=>h.1 z (by simp[hz]),(List.pairwise_cons.mp h.2).2]
theorem df.nil:df p []:=#[λ_ h=>absurd h (by simp),List.Pairwise.nil]
theorem lE {p p':Int}: ∀ {a b:Pt},df p a ->df p' b ->(∀x,look a x=look b x) ->a=b
 | [],[],_,_,_=>rfl
 | [],q::r,_,hb,h=>by have:=h q.1;rw[look,look,aj rfl] at this;have:=hb.1 q (by simp);lia
 | q::r,[],ha,_,h=>by have:=h q.1;rw[look,look,aj rfl] at this;have:=ha.1 q (by simp);lia
 | q ::r,q'::r',ha,hb,h=>by
  have pa:=ha.1 q (by simp);have pb:=hb.1 q' (by simp);have sa:=(List.pairwise_cons.mp ha.2).1;have sb:=(List.pairwise_cons.mp hb.2).1;have e1:q.1=q'.1:=by obtain l | l | l:=Int.lt_trichotomy q.1 q'.1;have e:=h q.1;rw[look,aj rfl,look,ai ∅,cR (λz hz=>by have:=sb z hz;lia)] at e;lia;show l;have e:=h q'.1;rw[look,ai ∅,cR (λz hz=>by have:=sa z hz;lia),look,aj rfl] at e;lia
  have e2:q.2=q'.2:=by have e:=h q.1;rw[look,aj rfl,look,aj e1.symm] at e;show e
  have e:r=r':=lE ha.tail hb.tail λx=>by by_cases hx:q.1=x;rw[cR (λz hz=>by have:=sa z hz;lia),cR (λz hz=>by have:=sb z hz;lia)];have e:=h x;rwa [look,ai hx,look,ai ∅] at e
  rw[e,Prod.ext e1 e2]
def cT (p:Int):Pt ->Int ->Int ->Pt
 | [],x,s=>if s % p=0 then [] else [(x,s % p)]
 | q::r,x,s=>if x<q.1 then(if s % p=0 then q::r else(x,s % p)::q::r) else if x=q.1 then(if(q.2+s) % p=0 then r else(x,(q.2+s) % p)::r) else q::cT p r x s
def kC (p:Int)(ps:Pt):Pt:=ps.foldl (λa q=>cT p a q.1 q.2) []
def nH (h:z∈cT p l x s):z.1=x \/ z∈l:=by
 induction l with
 | nil=>rw[cT] at h;split at h;cases h;left;rw[bu.mp h]
 | cons q r ih=>rw[cT] at h;split at h;split at h;show .inr h;obtain h | h:=aD.mp h;left;rw[h];show .inr h;split at h;split at h;show .inr (by simp[h]);obtain h | h:=aD.mp h;left;rw[h];show .inr (by simp[h]);obtain h | h:=aD.mp h;show .inr (by simp[h]);obtain h | h:=ih h;show .inl h;show .inr (by simp[h])
def kF {p s:Int}(hp:0<p)(h:¬s % p=0):0<s % p /\ s % p<p:=by have:=Int.emod_nonneg s (show p≠0 by lia);have:=Int.emod_lt_of_pos s hp;lia
def nG (hp:0<p)(h:df p l):df p (cT p l x s):=by
 induction l with
 | nil=>rw[cT];split;show df.nil;rename_i hs;show#[λq hq=>by rw[bu.mp hq];show kF hp hs,by simp]
 | cons q r ih=>have sa:=(List.pairwise_cons.mp h.2).1;rw[cT];split;rename_i hx;split;show h;rename_i hs;exact#[λz hz=> ?_,List.pairwise_cons.mpr #[λz hz=> ?_,h.2]];obtain rfl | hz:=aD.mp hz;show kF hp hs;show h.1 z hz;obtain rfl | hz:=aD.mp hz;show hx;have:=sa z hz;change x<z.1;lia;split;rename_i hx;split;show h.tail;rename_i hs;exact#[λz hz=> ?_,List.pairwise_cons.mpr #[λz hz=> ?_,h.tail.2]];obtain rfl | hz:=aD.mp hz;show kF hp hs;show h.1 z (by simp[hz]);have:=sa z hz;change x<z.1;lia;rename_i h1 h2;have DJ:=ih h.tail;exact#[λz hz=> ?_,List.pairwise_cons.mpr #[λz hz=> ?_,DJ.2]];obtain rfl | hz:=aD.mp hz;show h.1 z (by simp);show DJ.1 z hz;obtain e | hz:=nH hz;lia;show sa z hz
def kI (hp:0<p)(h:df p l)(y:Int):look (cT p l x s) y=if y=x then(look l x+s) % p else look l y:=by
 induction l with
 | nil=>rw[cT];by_cases hs:s % p=0;rw[aj hs];simp[look,hs];rw[ai hs];by_cases e:y=x;subst e;simp[look];rw[ai e];simp[look,bq e]
 | cons q r ih=>
  have sa:=(List.pairwise_cons.mp h.2).1;have qr:=h.1 q (by simp);rw[cT];split;rename_i hx;have hn:look (q::r) x=0:=cR (λz hz=>by obtain rfl | hz:=aD.mp hz;lia;have:=sa z hz;lia);rw[hn,Int.zero_add];split;rename_i hs;by_cases e:y=x;rw[aj e,e,hn,hs];rw[ai e];by_cases e:y=x;rw[aj e,look,aj e.symm];rw[ai e,look,ai (bq e)];split;rename_i hx;have hq:look (q::r) x=q.2:=by rw[look,aj hx.symm]
  rw[hq];split;rename_i hs;by_cases e:y=x;rw[aj e,hs,cR (λz hz=>by have:=sa z hz;lia)];rw[ai e,look,ai ∅];by_cases e:y=x;rw[aj e,look,aj e.symm];rw[ai e,look,ai (bq e),look,ai ∅];rename_i h1 h2;rw[look,ih h.tail];by_cases e:y=x;rw[aj e,aj e,ai ∅];conv=>rhs;rw[look,ai ∅]
  rw[ai e,ai e,look]
def fN (p:Int)(ps:Pt)(q:Int×Int):kC p (ps++ [q])=cT p (kC p ps) q.1 q.2:=by unfold kC;rw[List.foldl_append];rfl
def eR {α:Type}{P:yr α ->Prop}(h0:P [])(h1: ∀l a,P l ->P (l++ [a]))(l:yr α):P l:=by
 have key: ∀n:Nat, ∀l:yr α,l.length=n ->P l:=by
  intro n;induction n with
  | zero=>intro l hl;rw[List.length_eq_zero_iff.mp hl];show h0
  | succ n ih=>
   intro l hl;have nR:l≠ []:=by intro e;rw[e] at hl;cases hl
   rw[<- List.dropLast_concat_getLast nR];show h1 _ _ (ih _ (by rw[List.length_dropLast];lia))
 show key _ l rfl
def lH (hp:0<p)(ps:Pt):df p (kC p ps):=by
 induction ps using eR with
 | h0=>show df.nil
 | h1 l a ih=>rw[fN];show nG hp ih
def ph (hp:0<p)(ps:Pt)(x:Int):look (kC p ps) x=iP ps x % p:=by
 induction ps using eR with
 | h0=>simp[kC,look,iP]
 | h1 l a ih=>rw[fN,kI hp (lH hp l),iX];by_cases e:x=a.1;subst e;rw[aj rfl,aj rfl,ih,Int.emod_add_emod];rw[ai e,ai (bq e),ih,Int.add_zero]
def nI:(cT p l x s).length<=l.length+1:=by
 induction l with
 | nil=>rw[cT];split<;>simp
 | cons q r ih=>rw[cT];split;split<;>simp;split;split<;>simp<;>lia;simp;show ih
def rP (p:Int)(ps:Pt):(kC p ps).length<=ps.length:=by
 induction ps using eR with
 | h0=>simp[kC]
 | h1 l a ih=>rw[fN,aK];show a0 nI (by simp;show ih)
def jA (m:Pt):yr (bM×W):=m.map λq=>((Sum.inl q.1:bM),wi q.2)
def ge (m:Pt)(x v:Int):Pt:=if(m.any λq=>decide (q.1=x))=true then m.map (λq=>if q.1=x then(q.1,v) else q) else m++ [(x,v)]
def fw {m:Pt}:(m.any λq=>decide (q.1=x))=true↔x∈m.map (·.1):=by rw[List.any_eq_true,List.mem_map];symm;rintro⟨q,hq,e⟩;show#[q,hq, ⇑e];rintro⟨q,hq,e⟩;show#[q,hq, ⇑e]
def lV (a b:Int):decide ((Sum.inl a:bM)=Sum.inl b)=decide (a=b):=by simp
def rm (m:Pt)(x v:Int):mL (jA m) (.inl x) (wi v)=jA (ge m x v):=by
 unfold mL ge;have e:((jA m).any λkv=>decide (kv.1=(Sum.inl x:bM)))=m.any λq=>decide (q.1=x):=by unfold jA;rw[List.any_map];congr 1;funext q;show lV _ _
 rw[e];split;unfold jA;rw[List.map_map,List.map_map];apply List.map_congr_left;intro q _;change(if(Sum.inl q.1:bM)=Sum.inl x then((Sum.inl q.1:bM),wi v) else(Sum.inl q.1,wi q.2))=((Sum.inl (if q.1=x then(q.1,v) else q).1:bM),wi (if q.1=x then(q.1,v) else q).2)
 by_cases hq:q.1=x;rw[aj (by rw[hq]),aj hq];rw[ai (λz=>hq (Sum.inl.inj z)),ai hq];unfold jA;rw[List.map_append];rfl
def kY (m:Pt)(x:Int):dQ (jA m) (.inl x)=(m.find? λq=>decide (q.1=x)).map λq=>wi q.2:=by
 unfold dQ jA;rw[List.find?_map,Option.map_map];have e:((λkv:bM×W=>decide (kv.1=(Sum.inl x:bM))) ∘ λq:Int×Int=>((Sum.inl q.1:bM),wi q.2))=λq=>decide (q.1=x):=by funext q;show lV _ _
 rw[e];rfl
def gG:(m.find? λq=>decide (q.1=x))=none /\ look m x=0 /\ x∉m.map (·.1) \/ ∃q,(m.find? λq=>decide (q.1=x))=some q /\ look m x=q.2:=by
 induction m with
 | nil=>show .inl #[rfl,rfl,by simp]
 | cons q r ih=>
  rw[aC,look];by_cases e:q.1=x;simp![e,decide_true];show .inr #[q,rfl,by simp];simp![e,decide_false,aO];rcases ih with⟨h1,h2,h3⟩ | h
  show .inl #[h1,h2,by rw[az,aD,not_or];show#[bq e,h3]];show .inr h
def sD (m:Pt)(x:Int):(dQ (jA m) (.inl x)).getD (wi 0)=wi (look m x):=by rw[kY];rcases gG (m:=m) (x:=x) with⟨h1,h2,_⟩ | ⟨q,h1,h2⟩ <;>rw[h1,h2] <;>rfl
def uP (h:x∈m.map (·.1)):dQ (jA m) (.inl x)=some (wi (look m x)):=by
 rw[kY];rcases gG (m:=m) (x:=x) with⟨_,_,h3⟩ | ⟨q,h1,h2⟩
 show absurd h h3;rw[h1,h2];rfl
def px (m:Pt):(jA m).map (·.1)=(m.map (·.1)).map Sum.inl:=by unfold jA;rw[List.map_map,List.map_map];rfl
def gC:(ge m x v).map (·.1)=if x∈m.map (·.1) then m.map (·.1) else m.map (·.1)++ [x]:=by unfold ge;by_cases h:x∈m.map (·.1);rw[aj (fw.mpr h),aj h,List.map_map];apply List.map_congr_left;intro q _;change(if q.1=x then(q.1,v) else q).1=q.1;split<;>rfl;rw[ai (λe=>h (fw.mp e)),ai h,List.map_append];rfl
def rQ (h:(m.map (·.1)).Nodup):((ge m x v).map (·.1)).Nodup:=by rw[gC];by_cases e:x∈m.map (·.1);rw[aj e];show h;rw[ai e];show lJ h e
def pi:(ge m x v).length<=m.length+1:=by unfold ge;split;rw[av];lia;simp
def mZ:look (ge m x v) y=if y=x then v else look m y:=by
 unfold ge;by_cases h:x∈m.map (·.1);rw [aj (fw.mpr h)];have key: ∀m:Pt,look (m.map (λq=>if q.1=x then(q.1,v) else q)) y=if y=x /\ x∈m.map (·.1) then v else look m y:=by
  intro m;induction m with
  | nil=>simp[look]
  | cons q r ih=>
   rw[az,look,look,ih];by_cases hq:q.1=x;by_cases hy:y=x;subst hy;simp[hq];simp[hq,hy,bq hy];by_cases hy:y=x;subst hy;have:(y∈(q::r).map (·.1))=(y∈r.map (·.1)):=by rw[az,aD];simp[bq hq]
   simp![this,hq,aO];simp[hq,hy]
 rw[key];simp[h];rw [ai (λe=>h (fw.mp e))];have key: ∀m:Pt,x∉m.map (·.1) ->look (m++ [(x,v)]) y=if y=x then v else look m y:=by
  intro m;induction m with
  | nil=>intro _;by_cases e:y=x;simp[look,e];simp[look,e,bq e]
  | cons q r ih=>intro hn;rw[az,aD,not_or] at hn;rw[List.cons_append,look,look,ih hn.2];by_cases e:y=x;subst e;simp[bq hn.1];simp[e]
 show key m h
def xz (m:Pt)(ns:yr Int):Pt:=ns.filterMap λx=>if look m x=0 then none else some (x,look m x)
theorem jy {m:Pt}{x:Int}: ∀ {ns:yr Int},ns.Nodup ->look (xz m ns) x=if x∈ns then look m x else 0
 | [],_=>rfl
 | n ::r,h=>by rw[List.nodup_cons] at h;have ih:=jy (m:=m) (x:=x) h.2;unfold xz at ih ⊢;rw[List.filterMap_cons];by_cases e:look m n=0;rw[aj e];change look (r.filterMap _) x=_;rw[ih];by_cases hx:x=n;subst hx;rw[ai h.1,aj (by simp),e];simp[hx];rw[ai e];change look ((n,look m n)::r.filterMap _) x=_;rw[look,ih];by_cases hx:x=n;subst hx;rw[aj rfl,aj (by simp)];rw[ai (bq hx)];simp[hx]
def mH {ns:yr Int}(h1:ns.Pairwise (· <= ·))(h2:ns.Nodup):ns.Pairwise (· < ·):=by exact(List.Pairwise.and h1 h2).imp ?_;rintro a b ⟨h,n⟩;lia
def ra (hp:0<p)(hn:(m.map (·.1)).Nodup)(ht: ∀x,look m x=iP ps x % p)(gF:ns.Perm (m.map (·.1)))(hs:ns.Pairwise (· <= ·)):xz m ns=kC p ps:=by have nd:=gF.nodup_iff.mpr hn;have st:=mH hs nd;exact lE (p:=p) #[?_,?_] (lH hp ps) λx=> ?_;intro q hq;let⟨x,hx,e⟩:=List.mem_filterMap.mp hq;split at e;cases e;rename_i h0;cases e;have:=ht x;have:=Int.emod_nonneg (iP ps x) (show p≠0 by lia);have:=Int.emod_lt_of_pos (iP ps x) hp;change 0<look m x /\ look m x<p;lia;unfold xz;exact List.Pairwise.filterMap _ ?_ st;intro a b yT c hc d hd;split at hc<;>cases hc;split at hd<;>cases hd;show yT;rw[jy nd,ph hp];split;show ht x;rename_i hx;rw[<- ht x,cR];intro q hq e;show hx (gF.mem_iff.mpr (by rw[<- e];show List.mem_map_of_mem hq))
def AA (_:Pt):Prop:=True
theorem Av:AA ps:=trivial
def o_ (h:k∈(ge m x v).map (·.1)):k=x \/ k∈m.map (·.1):=by rw[gC] at h;split at h;show .inr h;obtain h | h:=bh.mp h;show .inr h;show .inl (bu.mp h)
end WP
namespace WQ
open PySem L2 WL WP
def xU:gX:=λxs M q=>dr λ(d l:Fm) (n:Int)=>dB (xs= [wr d,wi n]) (Dr M d l) (0<n) (n<1073741824) (∀ (r:Int) (M':Mp),0<=r ->r<n ->Dr M' d l ->NB d M M' ->q (wi r) M')
def pP:gX:=λxs M q=>bH λ(d l:Fm)=>b0 (xs= [wr d]) (Dr M d l) (∀ (p:Int) (M':Mp),(p=2 \/ p=3 \/ p=5 \/ p=7) ->Dr M' d l ->NB d M M' ->q (wi p) M')
def xT:gX:=λxs M q=>dr λ(a:Fm) (p:Int) (ps:Pt)=>gW (xs= [wi p,wr a]) (M a=some (.lst (ps.map cY))) (0<p) (AA ps) (ps.length<=16000000) (q (jm (kC p ps)) M)
def mv (GB:Int)(l:Pt):Pt:=l.map λz=>(z.1+GB,z.2)
def Bq:gX:=λxs M q=> ∃i:Int,xs= [wi i] /\ q (wb true) M
def tm (n:Int)(l:Pt):Pt:=l.map λz=>(z.1,z.2*n)
def o0 (b n:Int)(l:Pt):Pt:=l.map λz=>(z.1+b,z.2*n)
def Bp:gX:=λxs M q=>wT λ(p:Int) (a b:Pt) (y n:Int)=>wq (xs= [wi p,jm a,jm b,wi y,wi n]) (0<p) (AA (a++o0 y n b)) (a.length<=8000000) (b.length<=8000000) (∀z∈b,0<=z.2 /\ z.2<1000) (q (jm (kC p (a++o0 y n b))) M)
theorem big (h:n<=16000000):n<=sizeLine:=a0 h (by rw[sizeLine_eq];decide)
theorem sK (h:n<=16000000):n<sizeLine:=Nat.lt_of_le_of_lt h (by rw[sizeLine_eq];decide)
def vx:o0 b n l=tm n (mv b l):=by unfold o0 tm mv;rw[List.map_map];rfl
def uX:tm 1 l=l:=by
 unfold tm;have:(λz:Int×Int=>(z.1,z.2*1))=id:=by funext z;rw[Int.mul_one];rfl
 rw[this,List.map_id]
def k8 (K:Fp):Sp:=λvs H Q _=>bH λ(a:Fm) (ns:yr Int)=>b0 (vs= [.ref a]) (dD K H a (ns.map V.int)) (∀ (d l:Fm) (ms:yr Int) (H':Hp),d≠l ->H' d=some (.lst [.ref l, .int 0, .int 0, .int 11]) ->H' l=some (.lst (ms.map V.int)) ->Q (.ref d) H')
def i6 (K:Fp):Sp:=λvs H Q _=>bH λ(a:Fm) (ns:yr Int)=>b0 (vs= [.ref a]) (dD K H a (ns.map V.int)) (∀H',Q (.bl true) H')
def yc (F:qj K x qual st f fd)(S:c7 N [z] (a7 st))(hN:2<=N.length)(eo: ∀ (cdv:yt) (A:Around) (outer:yr Env) (s:yu) (H:Hp) (E:XK),cU k (A.deeper (PyProof.Rows.envOfC qual (a7 st) s.heap.objs.size f cdv)) ->∃ R,kR (fZ eI P w K mg base N qual (a7 st) f cdv A outer s H E).vq (cj st) (uZ (q0 (k5 (k8 K) [] E0 (oh (qY 0) u0)) (fX 1)) R) /\∃w',IS K R w' /\ ∀d l M,Dr M d l ->w' {nx:=λ_ _=>False,rt:=λx _=>x=wb true} (none::some (wr d)::List.replicate (N.length - 2) none) M): cz P w K mg base eI (k+1) f fd [z] (i6 K):=by
 exact qj.ok F S (λvs H Q E ⟨a,ns,h,_,_⟩=>by rw[h];rfl) λcdv A outer s H vs Q E hr h=> ?_;let⟨R,h1,w',h2,h3⟩:=eo cdv A outer s H E hr;let⟨a,ns,rfl,hs,hq⟩:=h;exact#[_,h1,?_];let⟨n,hn⟩: ∃n,N.length=n+2:=#[N.length - 2, ∅]
 have e0:L2.start N [V.ref a]=some (V.ref a)::none::List.replicate n none:=by unfold L2.start;rw[hn];rfl
 rw[e0];exact#[_,rfl,a,ns,rfl,hs,λd l ms H' nR hd hl=> ?_];change R _ _ H';exact h2.imp (none::some (wr d)::List.replicate (N.length - 2) none) (um (um (λ_=>none) l (.lst (ms.map wi))) d (.lst [wr l,wi 0,wi 0,wi 11])) _ H' _ _ #[#[?_,λi y e=> ?_],λb o e=> ?_] (h3 d l _ #[ms,0,0,11,aW,by rw[bx (bq nR),aW],⋯,nR]) #[λ_ _ _ _ h=>h.elim,λy M' v H2 e _ _ r=> ?_,λ_ _ _ _ h=>h.elim,λ_ _ _ _ h=>h.elim];simp[hn];match i with
 | 0=>simp at e
 | 1=>simp at e;subst e;show#[.ref d,rfl,WR.v]
 | i+2=>simp[List.getElem?_replicate] at e
 by_cases hb:b=d;subst hb;rw[aW] at e;cases e;show#[_,hd,bO.cons WR.v (bO.cons WR.v (bO.cons WR.v (bO.cons WR.v bO.nil)))];rw[bx hb] at e;by_cases D5:b=l;subst D5;rw[aW] at e;cases e;show#[_,hl,bO.ofInts ms];rw[bx D5] at e;cases e;subst e;rw[r.eq];show hq H2
abbrev Rd:=Int×Pt
def j_ (r:Rd):W:= .tup [wi r.1,jm r.2]
def jn (p:Int)(a b:Rd):Rd:=(a.1+b.1,kC p (a.2++mv a.1 b.2))
def bk (p:Int)(a:Rd):Rd:=(-a.1,kC p (tm (-1) (mv (-a.1) a.2)))
def xW:gX:=λxs M q=>dr λ(p:Int) (a b:Rd)=>wq (xs= [wi p,j_ a,j_ b]) (0<p) (AA (a.2++mv a.1 b.2)) (a.2.length<=40000) (b.2.length<=40000) (∀z∈b.2,0<=z.2 /\ z.2<1000) (q (j_ (jn p a b)) M)
inductive CY where
 | go (k:Int) | turn (k:Int)
def Ed (s:Int×Pt):CY ->Int×Pt
 | .go k=>(s.1+k,s.2)
 | .turn k=>(s.1,s.2++ [(s.1,k)])
end WQ
namespace WL
open PySem PySem.Spec PyProof.Rows L2
def zh (ns:yr Int)(m:Int):Prop:=m∈ns /\ ∀x∈ns,x<=m
def zg (ns:yr Int)(m:Int):Prop:=m∈ns /\ ∀x∈ns,m<=x
end WL
namespace WQ
open PySem L2 WL WP
def e7 (p s:Int):Int:=if p - s<s then p - s else s
def tT (a:Rd):yr Int:=0::a.1::a.2.map (·.1)
def iL (i:Int):Int:=if i<0 then -i else i
def Go (p:Int)(a:Rd)(lo hi:Int):Int:=2*(hi - lo) - iL a.1+(a.2.map λz=>e7 p z.2).sum
def vg:gX:=λxs M q=>bH λ(p s:Int)=>c6 (xs= [wi p,wi s]) (0<=s) (s<p) (q (wi (e7 p s)) M)
def Bo:gX:=λxs M q=>dr λ(lo hi e:Int)=>xs= [wi lo,wi hi,wi e] /\ q (wi (2*(hi - lo) - iL e)) M
def rE (h0:0<=s)(h1:s<p):(if -s % p<s % p then -s % p else s % p)=e7 p s:=by
 have e1:s % p=s:=Int.emod_eq_of_lt h0 h1;by_cases e:s=0;subst e;unfold e7;simp;lia;have e2: -s % p=p - s:=by have: -s=(p - s)+p*(-1):= ∅;rw[this,Int.add_mul_emod_self_left,Int.emod_eq_of_lt ∅ ∅]
 rw[e1,e2,e7]
end WQ
namespace WL
open PySem PySem.Spec PyProof.Rows L2
def hG:tq [.v (.bl b)] M q=q (wi (if b then 1 else 0)) M:=by apply propext;symm;rintro(⟨_,h,k⟩ | ⟨_,h,k⟩);cases h;cases h;show k;intro h;show .inr #[_,rfl,h]
section
variable {X:Cx}
def mN:zd X (u6 X.K):=by
 intro aa s σ H x y v u Q I rx ry h;let⟨p,xs,i,z,rfl,rfl,hq,he,q⟩:=h;cases rx;let⟨t,rfl⟩:=ry;let⟨aU,r,pl,hz⟩:=I.list hq;let⟨j,h1,h2,h3,h4,h5⟩:=iK he;let⟨w,ew,hX⟩:=r.get h2;have hl:=r.length;have hn:=fR;have fin:EP X aa σ Q w s:=#[z,H,I,hX,q]
 by_cases h0:0<=i;have hj:i.toNat=j:=by rw[seqIndex_of h0 h5] at h1;show aE h1
 show wpAny_getItem_list pl.isList h0 ∅ (by rw[hj];simpa using ew) fin;have hj:(i+(aU.toArray.size:Int)).toNat=j:=by rw[seqIndex_neg ∅ h4] at h1;rw[aq, <- hl];show aE h1
 show wpAny_getItem_list_neg pl.isList ∅ (by rw[aq] <;>lia) ∅ (by rw[hj];simpa using ew) fin
variable {K:Fp}
end
end WL
namespace WQ
open PySem L2 WL WP
def uL (p:Int)(l:yr Int):Prop:=(∀x∈l,0<=x /\ x<p) /\ ∀x,l.getLast? =some x ->x≠0
def wo (row:yr Int)(k:Nat)(x:Int):yr Int:=row.set k (row.getD k 0+x)
def dM (row:yr Int)(o:Nat)(l:yr Int)(n:Nat):yr Int:=(List.range n).foldl (λr i=>wo r (o+i) (l.getD i 0)) row
def pw (p s:Int):Nat ->Int
 | 0=>1
 | n+1=>pw p s n*s % p
end WQ
namespace WL
open PySem L2 PySem.Spec PyProof.Rows
abbrev WX:=Fm ->Mp ->Prop
def up (e:WX):WX:=λC M'=> ∃M0,Sm M0 M' /\ e C M0
end WL
namespace WL
open PySem L2
theorem vI {G:Prop}(ρ:β ->bY)(M:β ->Mp)(P:β ->Prop)(use:(∀b,P b ->sy R (ρ b) (M b)) ->G)(cF: ∀b,P b ->sy R (ρ b) (M b)):G:=use cF
end WL
namespace WQ
open PySem L2 WL WP
def cv (a b:yr Int):Nat ->Nat ->Int
 | 0,_=>0
 | k+1,n=>cv a b k n+if k<=n then a.getD k 0*b.getD (n - k) 0 else 0
structure IsPart (p:Int)(one oQ q r:List Int):Prop where
 qs:uL p q
 rs:uL p r
 len:r.length<oQ.length
 ql:q.length<=one.length
 eq: ∀n,one.getD n 0 % p=(cv q oQ q.length n+r.getD n 0) % p
def sn {n:Nat}{i:Int}(h0:0<=i)(h1:i<n):iB n i=some i.toNat:=by unfold iB;rw[aj h0,aj h1]
def cs (n r:Int)(l:Pt):Int:=((l.filter λz=>decide (z.1 % n=r)).map (·.2)).sum
abbrev Cf:=Nat ->Int
def Aw:Nat ->Cf ->Cf ->Int
 | 0,f,g=>f 0*g 0
 | n+1,f,g=>f 0*g (n+1)+Aw n (λi=>f (i+1)) g
def co (l:yr Int):Cf:=λi=>l.getD i 0
def Mult (p:Int)(a g:Cf):Prop:=bH λ(E:Cf) (N:Nat)=>(∀i,N<=i ->E i % p=0) /\ ∀n,a n % p=Aw n E g % p
def gZ (p:Int)(a g h:Cf):Prop:=dr λ(A B:Cf) (N:Nat)=>(∀i,N<=i ->A i % p=0 /\ B i % p=0) /\ ∀n,a n % p=(Aw n A g+Aw n B h) % p
def FV (p:Int)(a:Rd)(v:Int):Prop:=bH λlo hi=>b0 (zg (tT a) lo) (zh (tT a) hi) (v=Go p a lo hi)
open Classical in
noncomputable def fv (p:Int) (a:Rd):Int:=if h: ∃v,FV p a v then h.choose else 0
def names:yr Str:= ["on","back","up","down"]
def Dm (p:Int)(s:Str):Rd:=if s= "on" then(1,[]) else if s= "back" then(-1,[]) else if s= "up" then(0,[(0,1)]) else(0,[(0,p - 1)])
def pairsOf (p:Int)(z:Int×Int):Pt:=if z.2<=p - z.2 then List.replicate z.2.toNat (z.1,1) else List.replicate (p - z.2).toNat (z.1, -1)
def ways:Int ->Pt ->Int
 | _,[]=>0
 | here,z::r=>iL (here - z.1)+ways z.1 r
def y0 (n:Int):Pt ->Int ->Int
 | [],_=>0
 | z::r,k=>(if z.1 % n=k then z.2 else 0)+y0 n r k
def fl (p:Int)(m:Nat)(f:Pt):yr Int:=(List.range m).map λ(k:Nat)=>y0 m f k % p
def hI (s x:Int):Int:=if s=0 then 0 else x / s
end WQ
set_option maxHeartbeats 4000000
namespace WQ
open PySem L2 WL WP
abbrev CQ:=Int×Int×Int
def putL (s:Int)(EE:yr Pt)(tl:yr CQ):Pt:=tl.flatMap λt=>(EE.getD t.1.toNat []).map λz=>(z.1+t.2.1*s,z.2*t.2.2)
end WQ
namespace L2
open PySem
def qx:Nat ->(yr yt ->Prop) ->Prop
 | 0,p=>p []
 | n+1,p=> ∀v,qx n λus=>p (v::us)
theorem qx.to: ∀ {n:Nat} {p:yr yt ->Prop},qx n p -> ∀us,us.length=n ->p us
 | 0,_,h,[],_=>h
 | _+1,_,h,v::us,e=>qx.to (h v) us (Nat.succ.inj e)
theorem cu {kV eB pm cdv ct:yt}(X:K.In h)(G:h.Ns mainGlobals mg)(a:W.nsIn K mainGlobals x=some (some (.ref f)))(l:K.lookup f=some #[oc,od, .func (W.fnOf x x (c5 st) (cj st) (a7 st) .none kV eB pm an cdv ct),oR])(c:W.codeIn K cdv x=true)(k:W.keepIn K (.ref f)=true)(b: ∀ (kV eB pm:yt) (an:BP Fm) (cdv ct:yt),qx ps.length λus=>bindArgs (W.fnOf x x (c5 st) (cj st) (a7 st) .none kV eB pm an cdv ct) #[us,[]]=pure (ps.zip us):=by(repeat intro _);rfl): iR K mg x ps st f (W.fnOf x x (c5 st) (cj st) (a7 st) .none kV eB pm an cdv ct):=#[W.mg_of X G a,pT l c k,(pT (st:=st) l c k).binds λkV eB pm an cdv ct us e=>(b kV eB pm an cdv ct).to us e]
def vD {l:W.OpenLaw}(T:iR K mg "law" [p] st f fd)(Fe:mg "law" =some (.ref fa))(hb: ∀ (kV eB pm:yt) (an:BP Fm) (cdv ct v:yt),bindArgs (W.fnOf "law" "law" (c5 st) (cj st) (a7 st) .none kV eB pm an cdv ct) #[[v],[]]=pure [(p,v)])(ok: ∀base,cz l.prog w K mg base eI kd f fd [p] (WQ.i6 K)): ∃fd:FuncData,(∀ (s:yu) (v:yt),BindsTo s fd #[[v],[]] [(p,v)]) /\ ∀base:Heap,K.In base ->base.Ns mainGlobals mg ->cz l.prog w K mg base eI kd fa fd [p] (WQ.i6 K):=by have e:=Fe.symm.trans T.at_;cases e;let⟨oc,od,kV,eB,pm,an,cdv,ct,oR,rfl,lk,nS⟩:=T.fn.ex;show#[_,λs v=> .of_eq (hb kV eB pm an cdv ct v),λbase _ _=>ok base]
end L2
namespace WQ
open PySem L2 WL WP
def ux (q js:Pt):Pt:=js.flatMap λj=>tm j.2 (mv j.1 q)
end WQ
namespace L2
open PySem PySem.Spec PyProof.Rows
abbrev KN:yr (NK×Fm×V) ->yr (NK×Fm×yt) ->Prop:=Paired λp q=>p.1=q.1 /\ p.2.1=q.2.1 /\ RelV p.2.2 q.2.2
noncomputable def valN (kvs:yr (NK×Fm×V)) (k:NK):BP V:=(kvs.find? λp=>decide (p.1=k)).map (·.2.2)
noncomputable def putN (kvs:yr (NK×Fm×V)) (k:NK) (b:Fm) (v:V):yr (NK×Fm×V):=if(valN kvs k).isSome then kvs.map (λp=>if p.1=k then(p.1,p.2.1,v) else p) else kvs++ [(k,b,v)]
def jz (kvs:yr (NK×Fm×V))(k:NK)(b:Fm)(v:V):(putN kvs k b v).length<=kvs.length+1:=by unfold putN;split<;>simp
def KN.val (r:KN kvs xs)(k:NK):d3 (valN kvs k) ((atKey xs k).map (·.2)):=by
 induction r with
 | nil=>show True.intro
 | @cons p q ps qs h t ih=>
  let⟨h1,_,h2⟩:=h;by_cases e:p.1=k;have e':q.1=k:=h1.symm.trans e;have b:atKey (q::qs) k=some q.2:=by simp[atKey,aC,e']
  have c:valN (p::ps) k=some p.2.2:=by simp[valN,aC,e]
  rw[c,b];show h2;have e':¬q.1=k:=λz=>e (h1.trans z);have b:atKey (q::qs) k=atKey qs k:=by simp[atKey,aC,e']
  have c:valN (p::ps) k=valN ps k:=by simp[valN,aC,e]
  rw[c,b];show ih
def KN.ox (r:KN kvs xs)(k:NK)(ry:RelV y u): KN (kvs.map λp=>if p.1=k then(p.1,p.2.1,y) else p) (xs.map (putAt k u)):=by
 induction r with
 | nil=>show .nil
 | @cons p q ps qs h t ih=>rw[az,az];exact .cons ?_ ih;let⟨h1,h2,h3⟩:=h;unfold putAt;by_cases e:p.1=k;rw[aj e,aj (h1.symm.trans e)];show#[h1,h2,ry];rw[ai e,ai (λz=>e (h1.trans z))];show#[h1,h2,h3]
def KN.put (r:KN kvs xs)(k:NK)(ry:RelV y u): KN (putN kvs k b y) (storedH xs k b u):=by
 have e:(valN kvs k).isSome=(atKey xs k).isSome:=by rw[(r.val k).eT,Option.isSome_map]
 unfold putN storedH;rw[e];by_cases q:(atKey xs k).isSome=true;rw[aj q,aj q];show r.ox k ry;rw[ai q,ai q];show Paired.snoc r #[rfl,rfl,ry]
def kS (h:Heap)(kvs:yr (NK×Fm×V)):Prop:= ∀p∈kvs,cg h p.1 (.ref p.2.1) /\ bZ p.1<=7
def jJ (ok:d4 P w H h)(e:H a=some (.dN kvs))(al:kS h kvs):kvs.length<=sizeLine /\ (a==sysModules)=false /\∃xs,KN kvs xs /\ h.DictOfH (cC P w) a xs:=by
 let⟨z,y,xs,r,o,es,ep,h1,h2,h3,h4,h5⟩:=(show bQ P w H h a (.dN kvs) from ok a _ e)
 exact#[z,y,xs,r,o,es,ep,h1,h2,h3,h4,λx hx=> ?_,h5];have all: ∀ {l:yr (NK×Fm×V)} {m:yr (NK×Fm×yt)},KN l m ->kS h l -> ∀x∈m,(cC P w).is h x.1 x.2.1:=by
  intro l m q;induction q with
  | nil=>intro _ x hx;show nomatch hx
  | @cons p q ps qs hq t ih=>intro hl x hx;obtain e | hx:=aD.mp hx;subst e;let⟨q1,q2,_⟩:=hq;have:=hl p (by simp);rw[q1,q2] at this;show this;show ih (λp hp=>hl p (by simp[hp])) x hx
 show all r al x hx
def nest_room {A:Around}(hu:A.units+8<cLine):(cC P w).room A.in1:=by change A.units+1+7<cLine;lia
def rR {σ:St}(hu:A.units+8<cLine)(I:Inv X aa σ H s)(e:H a=some (.dN kvs))(al:kS s.heap kvs)(hk:(cC X.prog X.w).is s.heap k b)(h: ∀s',Inv X aa σ H s' ->s'.heap=s.heap ->Q (.bool (!(valN kvs k).isSome)) s'): wpAny (model X.prog X.w) A (compareOp .NotIn (.ref b) (.ref a)) Q E s:=by let⟨z,hd,xs,eG,dd⟩:=jJ I.bX e al;exact wpAny_notIn_heap (nest_room hu) hk hd dd ?_;have q:=(eG.val k).eT;rw[Option.isSome_map] at q;rw[<- q];show h _ (I.tok _) rfl
def mU {σ:St}(hu:A.units+8<cLine)(I:Inv X aa σ H s)(e:H a=some (.dN kvs))(al:kS s.heap kvs)(hk:(cC X.prog X.w).is s.heap k b)(l:valN kvs k=some v)(h: ∀w' s',Inv X aa σ H s' ->s'.heap=s.heap ->RelV v w' ->Q w' s'): wpAny (model X.prog X.w) A (getItem (.ref a) (.ref b)) Q E s:=by let⟨z,hd,xs,eG,dd⟩:=jJ I.bX e al;let⟨w',hw,hX⟩:=d3.some_of (v:=v) (o:=(atKey xs k).map (·.2)) (by rw[<- l];show eG.val k);let⟨p,hp,BZ⟩:=Option.map_eq_some_iff.mp hw;exact wpAny_getItem_heap (nest_room hu) hk dd hp ?_;rw[BZ];show h w' _ (I.tok _) rfl hX
def mT {σ:St}(hu:A.units+8<cLine)(I:Inv X aa σ H s)(e:H a=some (.dN kvs))(al:kS s.heap kvs)(hk:(cC X.prog X.w).is s.heap k b)(hl:kvs.length<sizeLine)(rv:RelV v r)(h: ∀s',Inv X aa σ (b8 H a (.dN (putN kvs k b v))) s' ->Q () s'): wpAny (model X.prog X.w) A (setItem (.ref a) (.ref b) r) Q E s:=by
 let⟨z,hd,xs,eG,dd⟩:=jJ I.bX e al;have hz:xs.length<=sizeLine:=by rw[<- Paired.length eG];show z
 have hl:(putN kvs k b v).length<=sizeLine:=by have:=jz kvs k b v;lia
 exact wpAny_setItem_heap (hsz:=hz) (nest_room hu) hk dd λh' uD hs=>h _ ?_;let⟨q,es,ep,hq,h2,h3,h4,_,h5⟩:=uD;show ft I (by rw[e];show True.intro) hs #[q,hq] #[hl,hd,_,eG.put k rv,q,es,ep,hq,h2,h3,h4,h5]
end L2
namespace WL
open PySem PySem.Spec L2
section
variable {X:Cx}{aa:yr (Fm×Obj)}{σ:St}{H:Hp}{s:yu}
mutual
theorem oZ (I:Inv X aa σ H s): ∀ (k:NK) (v:V) (u:yt),WR X.K H (fP k) v ->RelV v u ->cg s.heap k u
 | .key (.inl i),v,u,h,r=>by simp![fP,WR] at h;subst h;let⟨t,rfl⟩:=r;simp![cg];show decide_eq_true rfl
 | .key (.inr x),v,u,h,r=>by simp![fP,WR] at h;subst h;let⟨t,rfl⟩:=r;simp![cg];show decide_eq_true rfl
 | .seq l,v,u,h,r=>by simp![fP,WR] at h;let⟨a,vs,rfl,sq,rs⟩:=h;obtain rfl:u=Value.ref a:=r;let⟨aU,rv,tu,_⟩:=I.uV sq;simp![cg];show#[a,_,rfl,tu,oY I l vs _ rs ⇑rv]
theorem oY (I:Inv X aa σ H s): ∀ (l:yr NK) (vs:yr V) (us:yr yt),bO X.K H (fO l) vs ->bo vs us ->bB s.heap l us
 | [],vs,us,h,r=>by simp![fO,bO] at h;subst h;cases r;simp![bB]
 | k::l,vs,us,h,r=>by
  simp![fO,bO] at h;let⟨v,t,rfl,h1,h2⟩:=h;cases r with
  | cons r1 r2=>simp![bB];show#[_,_,rfl,oZ I k v _ h1 r1,oY I l t _ h2 r2]
end
theorem qQ.at (I:Inv X aa σ H s)(h:qQ X.K H k b):(cC X.prog X.w).is s.heap k b:=#[oZ I k _ _ h.1 rfl,h.2]
def qw (K:Fp)(H:Hp)(kvs:yr (NK×Fm×V)):Prop:= ∀p∈kvs,qQ K H p.1 p.2.1
theorem qw.at (I:Inv X aa σ H s)(h:qw X.K H kvs):kS s.heap kvs:=λp hp=>#[oZ I _ _ _ (h p hp).1 rfl,(h p hp).2]
theorem eU (hr:cU k A):A.units+8<cLine:=Nat.lt_of_le_of_lt (Nat.add_le_add_left (by decide:8<=64) _) hr.units
def sF (I:Inv X aa σ H s)(e:H a=some (.dN kvs))(al:kS s.heap kvs):s.TypeIs (.ref a) "dict" :=by let⟨_,_,xs,_,o,es,ep,h1,h2,_⟩:=jJ I.bX e al;show#[o,h1,h2.1]
def DN (K:Fp)(H:Hp)(a:Fm)(y:V)(o:BP V):Prop:=dr λkvs k b=>dB (H a=some (.dN kvs)) (y= .ref b) (qw K H kvs) (qQ K H k b) (valN kvs k=o)
end
def k4 (K:Fp)(ty td:TE):TE:=λσ H Q=>ty σ H λy H1=>td σ H1 λx H2=>bH λa o=>b0 (x= .ref a) (DN K H2 a y o) (Q (.bl (!o.isSome)) H2)
def tM (K:Fp)(td ty:TE):TE:=λσ H Q=>td σ H λx H1=>ty σ H1 λy H2=>bH λa v=>b0 (x= .ref a) (DN K H2 a y (some v)) (Q v H2)
def tX (K:Fp)(td ty tv:TE):TS:=λD σ H=>tv σ H λv H1=>td σ H1 λx H2=>ty σ H2 λy H3=>d5 λa b kvs k=>wq (x= .ref a) (y= .ref b) (H3 a=some (.dN kvs)) (qw K H3 kvs) (qQ K H3 k b) (kvs.length<sizeLine) (D.nx σ (b8 H3 a (.dN (putN kvs k b v))))
def tL:TE:=λ_ H Q=> ∀p,H p=none ->Q (.ref p) (b8 H p (.dN []))
def oa (K:Fp)(tk tv:TE):TE:=λσ H Q=> ∀p,H p=none ->tk σ (b8 H p (.dN [])) λx H1=>tv σ H1 λy H2=>bH λk b=>c6 (H2 p=some (.dN [])) (x= .ref b) (qQ K H2 k b) (Q (.ref p) (b8 H2 p (.dN [(k,b,y)])))
theorem jK (h:Heap)(hb:sysModules<h.objs.size):bQ P w H (h.push {cls:= .type "dict",data:= .dict #[]}) h.objs.size (.dN []):=#[Nat.zero_le _,beq_eq_false_iff_ne.mpr (bq (aZ hb)),[], .nil,_, #[],0,a5 _ rfl,#[rfl,rfl,rfl],rfl,rfl,List.nodup_nil]
theorem rH:PE X (.Dict [] [] pos) tL:=λaa s σ H Q I h=>wpAny_Dict_empty #[.ref s.heap.objs.size,_,I.laid (a:=s.heap.objs.size) (o:= .dN []) (t':=s.toks) (λ_ _ q=>ay _ q) (am _) (jK s.heap I.big),rfl,h _ (I.bX.fresh (am _))]
def rJ (hu:X.A.units+8<cLine)(ho:PE X o td)(hi:PE X i ty)(hs:ww i):PE X (.Subscript o i pos) (tM X.K td ty):=by intro aa s σ H Q I h;exact k6 PySem.F.slot_dict_getitem.lookup hs (bP (ho aa s σ H _ I h) λu s1 ⟨x,H1,I1,rx,q1⟩=>bP (hi aa s1 σ H1 _ I1 q1) λiv s2 ⟨y,H2,I2,ry,a,v,ex,⟨kvs,k,b,g1,g2,g3,g4,g5⟩,q2⟩=> ?_);subst ex g2;obtain rfl:u=Value.ref a:=rx;obtain rfl:iv=Value.ref b:=ry;show#[sF I2 g1 (g3.at I2),mU hu I2 g1 (g3.at I2) (g4.at I2) g5 λw' s3 I3 _ hX=>#[v,H2,I3,hX,q2]]
def gx (hu:X.A.units+8<cLine)(hi:PE X i ty)(ho:PE X o td):PC X .NotIn i o (k4 X.K ty td):=by intro aa s σ H Q I h;exact bP (hi aa s σ H _ I h) λiv s1 ⟨y,H1,I1,ry,q1⟩=>bP (ho aa s1 σ H1 _ I1 q1) λu s2 ⟨x,H2,I2,rx,a,ov,ex,⟨kvs,k,b,g1,g2,g3,g4,g5⟩,q2⟩=> ?_;subst ex g2 g5;obtain rfl:u=Value.ref a:=rx;obtain rfl:iv=Value.ref b:=ry;show rR hu I2 g1 (g3.at I2) (g4.at I2) λs3 I3 _=>#[.bl (!(valN kvs k).isSome),H2,I3,rfl,q2]
def lr (hu:X.A.units+8<cLine)(ho:PE X o td)(hi:PE X i ty)(hv:PE X value tv)(hs:swapsWith value (some (.Subscript o i gf)) pos.line X.env=pure false): PS X (.Assign [.Subscript o i gf] value pos) (tX X.K td ty tv):=by intro aa s σ H D I h;exact wpAny_Assign_Subscript (bP (hv aa s σ H _ I h) λr s1 ⟨v,H1,I1,rv,q1⟩=>bP (ho aa s1 σ H1 _ I1 q1) λu s2 ⟨x,H2,I2,rx,q2⟩=>bP (hi aa s2 σ H2 _ I2 q2) λiv s3 ⟨y,H3,I3,ry,a,b,kvs,k,ex,ey,g1,g3,g4,g5,q3⟩=> ?_) hs;subst ex ey;obtain rfl:u=Value.ref a:=rx;obtain rfl:iv=Value.ref b:=ry;show mT hu I3 g1 (g3.at I3) (g4.at I3) g5 rv λs4 I4=>#[σ,_,I4,q3]
def oG (hu:X.A.units+8<cLine)(hi:PE X i ty)(hv:PE X value tv):PE X (.Dict [some i] [value] pos) (oa X.K ty tv):=by intro aa s σ H Q I q;have hn:=I.bX.fresh (am s.heap.objs.size);have I1:=I.laid (a:=s.heap.objs.size) (o:= .dN []) (h':=s.heap.push {cls:= .type "dict",data:= .dict #[]}) (t':=s.toks) (λ_ _ q=>ay _ q) (am _) (jK s.heap I.big);exact wpAny_Dict_any rfl rfl (by simp) (by simp) (pairTrees_cons_walk (bP (hi aa _ σ _ _ I1 (q _ hn)) λu s1 ⟨x,H1,I1,rx,q1⟩=>bP (hv aa s1 σ H1 _ I1 q1) λr s2 ⟨y,H2,I2,ry,k,b,g1,ex,g4,q2⟩=>pairTrees_nil_walk ?_));subst ex;obtain rfl:u=Value.ref b:=rx;unfold storeAll;rw[List.forIn_cons];let⟨z,hd,xs,eG,dd⟩:=jJ I2.bX g1 (λ_ hp=>nomatch hp);cases eG;exact ar (ar (wpAny_dictSet_heap (knd:=cC X.prog X.w) (hsz:=Nat.zero_le _) (by change X.A.units+7<cLine;lia) (g4.at I2) dd λh' uD hs=>aS ?_));change wpAny _ _ (forIn [] PUnit.unit _) _ _ _;rw[List.forIn_nil];exact aS #[.ref s.heap.objs.size,_,?_,rfl,q2];let⟨qo,es,ep,hq,h2,h3,h4,_,h5⟩:=uD;show ft I2 (by rw[g1];show True.intro) hs #[qo,hq] #[by simp[sizeLine_eq],hd,_, .cons #[rfl,rfl,ry] .nil,qo,es,ep,hq,h2,h3,h4,h5]
section
variable {K:Fp}
noncomputable def cq (kvs:yr (NK×W)) (k:NK):BP W:=(kvs.find? λp=>decide (p.1=k)).map (·.2)
noncomputable def jj (kvs:yr (NK×W)) (k:NK) (v:W):yr (NK×W):=if(cq kvs k).isSome then kvs.map (λp=>if p.1=k then(p.1,v) else p) else kvs++ [(k,v)]
theorem NR.val {H:Hp}(k:NK): ∀ {l:yr (NK×W)} {vs:yr (NK×Fm×V)},NR K H l vs ->(cq l k=none /\ valN vs k=none) \/ bH λx v=>b0 (cq l k=some x) (valN vs k=some v) (WR K H x v)
 | _,_, .nil=> .inl #[rfl,rfl]
 | (k1,y)::l,(k2,b,u)::vs, .cons ⟨e,_,r⟩ t=>by
  have e:k1=k2:=e;subst e;by_cases hk:k1=k;show .inr #[y,u,by simp[cq,aC,hk],by simp[valN,aC,hk],r];have e1:cq ((k1,y)::l) k=cq l k:=by simp[cq,aC,hk]
  have e2:valN ((k1,b,u)::vs) k=valN vs k:=by simp[valN,aC,hk]
  rw[e1,e2];show NR.val k t
theorem NR.map {H:Hp}{k:NK}{x:W}{v:V}(rx:WR K H x v): ∀ {l:yr (NK×W)} {vs:yr (NK×Fm×V)},NR K H l vs ->NR K H (l.map λp=>if p.1=k then(p.1,x) else p) (vs.map λp=>if p.1=k then(p.1,p.2.1,v) else p)
 | _,_, .nil=> .nil
 | (k1,y)::l,(k2,b,u)::vs, .cons ⟨e,a,r⟩ t=>by have e:k1=k2:=e;subst e;rw[az,az];exact .cons ?_ (NR.map rx t);by_cases hk:k1=k;simp![hk,bg];show#[trivial,by rw[<- hk];show a,rx];simp![hk,aO];show#[trivial,a,r]
theorem NR.app {H:Hp}{k:NK}{b:Fm}{x:W}{v:V}(ky:qQ K H k b)(rx:WR K H x v): ∀ {l:yr (NK×W)} {vs:yr (NK×Fm×V)},NR K H l vs ->NR K H (l++ [(k,x)]) (vs++ [(k,b,v)])
 | _,_, .nil=> .cons #[rfl,ky,rx] .nil
 | _,_, .cons r t=> .cons r (NR.app ky rx t)
def NR.put (ky:qQ K H k b)(rx:WR K H x v)(r:NR K H l vs):NR K H (jj l k x) (putN vs k b v):=by
 unfold jj putN;rcases r.val k with⟨a,c⟩ | ⟨_,_,a,c,_⟩
 rw[a,c];show NR.app ky rx r;rw[a,c];show NR.map rx r
theorem NR.all {H:Hp}: ∀ {l:yr (NK×W)} {vs:yr (NK×Fm×V)},NR K H l vs ->qw K H vs
 | _,_, .nil=>λ_ h=>nomatch h
 | _,_, .cons r t=>λp hp=>by obtain e | hp:=aD.mp hp;rw[e];show r.2.1;show NR.all t p hp
theorem NR.len {H:Hp}: ∀ {l:yr (NK×W)} {vs:yr (NK×Fm×V)},NR K H l vs ->vs.length=l.length
 | _,_, .nil=>rfl
 | _,_, .cons r t=>by simp[NR.len t]
theorem tH (h:H a=some (.dN xs)):aI H (b8 H a u):=n9 h (λ_ z=>nomatch z) λ_ _ z=>nomatch z
def j7 (k:NK):Prop:=1<=bZ k /\ bZ k<=7
def j7.at (n:j7 k)(r:WR K H (fP k) v): ∃b,v= .ref b /\ qQ K H k b:=by
 cases k with
 | key k=>simp![j7,bZ] at n;show absurd n.1 ⋯
 | seq l=>have r':=r;simp![fP,WR] at r';let⟨a,vs,rfl,_⟩:=r';show#[a,rfl,r,n.2]
def hE (a b:WE):WE:=λρ M q=>a ρ M λy M1=>b ρ M1 λx M2=>dr λp kvs k=>dB (x=wr p) (M2 p=some (.dN kvs)) (y=fP k) (j7 k) (q (wb (!(cq kvs k).isSome)) M2)
def nZ (a b:WE):WE:=λρ M q=>a ρ M λx M1=>b ρ M1 λy M2=>d5 λp kvs k z=>gW (x=wr p) (M2 p=some (.dN kvs)) (y=fP k) (j7 k) (cq kvs k=some z) (q z M2)
def kr (a b c:WE):WS:=λD ρ M=>c ρ M λz M1=>a ρ M1 λx M2=>b ρ M2 λy M3=>dr λp kvs k=>gW (x=wr p) (M3 p=some (.dN kvs)) (y=fP k) (j7 k) (kvs.length<sizeLine) (D.nx ρ (um M3 p (.dN (jj kvs k z))))
def s_:WE:=λ_ M q=> ∀p,M p=none ->q (wr p) (um M p (.dN []))
def ki (a b:WE):WE:=λρ M q=> ∀p,M p=none ->a ρ (um M p (.dN [])) λx M1=>b ρ M1 λy M2=>M2 p=some (.dN []) /\ ∃k,b0 (x=fP k) (j7 k) (q (wr p) (um M2 p (.dN [(k,y)])))
def pY (m:cO K M H)(e:M p=some (.dN kvs))(n:j7 k)(r:WR K H (fP k) v): ∃o,DN K H p v o /\ ((cq kvs k=none /\ o=none) \/ bH λx u=>b0 (cq kvs k=some x) (o=some u) (WR K H x u)):=by
 let⟨ks,hk,rr⟩:=m p _ e;let⟨b,rfl,ky⟩:=n.at r;exact#[_,#[ks,k,b,hk,rfl,rr.all,ky,rfl],?_];rcases rr.val k with⟨a,c⟩ | ⟨x,u,a,c,d⟩
 show .inl #[a,c];show .inr #[x,u,a,c,d]
instance {t u:TE}{a b:WE} [ia:IE K t a] [ib:IE K u b]:IE K (k4 K t u) (hE a b) where
 imp:=λρ M σ H q Q o h k=>ia.imp ρ M σ H _ _ o h λy M1 v H1 h1 t1 m1 r1=>ib.imp ρ M1 σ H1 _ _ (o.mv t1 m1) h1 λx M2 u H2 ⟨p,kvs,ky,e1,e2,e3,n,h2⟩ t2 m2 r2=>by subst e1 e3;let⟨ov,g,c⟩:=pY m2 e2 n (r1.ts t2);exact#[p,ov,r2.eq,g,k _ M2 _ H2 h2 (t1.trans t2) m2 ?_];rcases c with⟨c1,c2⟩ | ⟨_,_,c1,c2,_⟩ <;>rw[c1,c2] <;>show WR.v
instance {t u:TE}{a b:WE} [ia:IE K t a] [ib:IE K u b]:IE K (tM K t u) (nZ a b) where
 imp :=λρ M σ H q Q o h k=>ia.imp ρ M σ H _ _ o h λx M1 v H1 h1 t1 m1 r1=>ib.imp ρ M1 σ H1 _ _ (o.mv t1 m1) h1 λy M2 u H2 ⟨p,kvs,ky,z,e1,e2,e3,n,e4,h2⟩ t2 m2 r2=>by
  subst e1 e3;let⟨ov,g,c⟩:=pY m2 e2 n r2;rcases c with⟨c1,c2⟩ | ⟨_,v',c1,c2,rx⟩
  rw[c1] at e4;cases e4;rw[c1] at e4;cases e4;subst c2;show#[p,v',r1.eq,g,k _ M2 _ H2 h2 (t1.trans t2) m2 rx]
instance:IE K tL s_ where
 imp:=λρ M σ H q Q o h k=>λp hp=>k _ _ _ _ (h p (o.hp.fresh hp)) (L2.cV.ts (br hp)) (o.hp.put (L2.cV.ts (br hp)) #[[],bw, .nil]) WR.v
instance {t u s:TE}{a b c:WE} [ia:IE K t a] [ib:IE K u b] [ic:IE K s c]:IS K (tX K t u s) (kr a b c) where
 imp :=λρ M σ H D' D o h e=>ic.imp ρ M σ H _ _ o h λz M1 v1 H1 h1 t1 m1 r1=>ia.imp ρ M1 σ H1 _ _ (o.mv t1 m1) h1 λx M2 v2 H2 h2 t2 m2 r2=>ib.imp ρ M2 σ H2 _ _ (o.mv (t1.trans t2) m2) h2 λy M3 v3 H3 ⟨p,kvs,k,e1,e2,e3,n,hl,h3⟩ t3 m3 r3=>by subst e1 e3;let⟨ks,hk,rr⟩:=m3 p _ e2;let⟨b,rfl,ky⟩:=n.at r3;have ts:=tH (u:= .dN (putN ks k b v1)) hk;show#[p,b,ks,k,r2.eq,rfl,hk,rr.all,ky,by rw[rr.len];show hl,e.nx ρ _ σ _ h3 (((t1.trans t2).trans t3).trans ts) (o.mv (((t1.trans t2).trans t3).trans ts) (m3.put ts #[_,bw,(NR.put ky (r1.ts (t2.trans t3)) rr).ts ts]))]
instance {tk tv:TE}{a b:WE} [ia:IE K tk a] [ib:IE K tv b]:IE K (oa K tk tv) (ki a b) where
 imp:=λρ M σ H q Q o h k=>λp hp=>by have t0:aI H (b8 H p (.dN [])):=L2.cV.ts (br hp);have m0:cO K (um M p (.dN [])) (b8 H p (.dN [])):=o.hp.put t0 #[[],bw, .nil];exact ia.imp ρ _ σ _ _ _ (o.mv t0 m0) (h p (o.hp.fresh hp)) λx M1 v H1 h1 t1 m1 r1=> ?_;exact ib.imp ρ M1 σ H1 _ _ (o.mv (t0.trans t1) m1) h1 λy M2 u H2 ⟨e1,ky,e2,n,h2⟩ t2 m2 r2=> ?_;subst e2;let⟨ks,hk,rr⟩:=m2 p _ e1;cases rr;let⟨b,rfl,kb⟩:=n.at (r1.ts t2);have t3:=tH (u:= .dN [(ky,b,u)]) hk;show#[ky,b,hk,rfl,kb,k _ _ _ _ h2 (((t0.trans t1).trans t2).trans t3) (m2.put t3 #[_,bw,NR.ts t3 (.cons #[rfl,kb,r2] .nil)]) WR.v]
def ue (y:W)(k:NK ->Prop):Prop:= ∃m,b0 (y=fP m) (j7 m) (k m)
def iF (o:BP MO)(k:yr (NK×W) ->Prop):Prop:= ∃l,o=some (.dN l) /\ k l
def dZ:iF (some (.dN l)) k=k l:=by apply propext;symm;(· rintro⟨_,h,k⟩;cases h;show k);(· intro h;show#[_,rfl,h])
def gq:hE a b ρ M q=a ρ M λy M1=>b ρ M1 λx M2=>dv x λp=>iF (M2 p) λkvs=>ue y λk=>q (wb (!(cq kvs k).isSome)) M2:=by unfold hE dv iF ue;congr 1;funext y M1;congr 1;funext x M2;apply propext;symm;rintro⟨p,kvs,k,h1,h2,h3,h4,h⟩;show#[p,h1,kvs,h2,k,h3,h4,h];rintro⟨p,h1,kvs,h2,k,h3,h4,h⟩;show#[p,kvs,k,h1,h2,h3,h4,h]
def qV:nZ a b ρ M q=a ρ M λx M1=>b ρ M1 λy M2=>dv x λp=>iF (M2 p) λkvs=>ue y λk=>gh (cq kvs k) λz=>q z M2:=by unfold nZ dv iF ue gh;congr 1;funext x M1;congr 1;funext y M2;apply propext;symm;rintro⟨p,kvs,k,z,h1,h2,h3,h4,h5,h⟩;show#[p,h1,kvs,h2,k,h3,h4,z,h5,h];rintro⟨p,h1,kvs,h2,k,h3,h4,z,h5,h⟩;show#[p,kvs,k,z,h1,h2,h3,h4,h5,h]
def ja:kr a b c D ρ M=c ρ M λz M1=>a ρ M1 λx M2=>b ρ M2 λy M3=>dv x λp=>iF (M3 p) λkvs=>ue y λk=>dk (kvs.length<sizeLine) (D.nx ρ (um M3 p (.dN (jj kvs k z)))):=by unfold kr dv iF ue dk;congr 1;funext z M1;congr 1;funext x M2;congr 1;funext y M3;apply propext;symm;rintro⟨p,kvs,k,h1,h2,h3,h4,h5,h⟩;show#[p,h1,kvs,h2,k,h3,h4,h5,h];rintro⟨p,h1,kvs,h2,k,h3,h4,h5,h⟩;show#[p,kvs,k,h1,h2,h3,h4,h5,h]
theorem qU:s_ ρ M q=ju M λp=>q (wr p) (um M p (.dN [])):=rfl
def n4:ki a b ρ M q=ju M λp=>a ρ (um M p (.dN [])) λx M1=>b ρ M1 λy M2=>iF (M2 p) λl=>l= [] /\ ue x λk=>q (wr p) (um M2 p (.dN [(k,y)])):=by
 unfold ki ju iF ue;apply propext;exact forall_congr' λp=>imp_congr_right λ_=> ?_;have e:(λx M1=>b ρ M1 λy M2=>M2 p=some (.dN []) /\ ∃k,b0 (x=fP k) (j7 k) (q (wr p) (um M2 p (.dN [(k,y)]))))=(λx M1=>b ρ M1 λy M2=> ∃l,M2 p=some (.dN l) /\ l= [] /\ ∃m,b0 (x=fP m) (j7 m) (q (wr p) (um M2 p (.dN [(m,y)])))):=by funext x M1;congr 1;funext y M2;apply propext;symm;rintro⟨h1,h2⟩;show#[_,h1,rfl,h2];rintro⟨l,h1,rfl,h2⟩;show#[h1,h2]
 rw[e]
end
end WL
namespace WQ
open PySem L2 WL WP
def bU (f:Int ->Int)(lo:Int):Nat ->Int
 | 0=>0
 | n+1=>bU f lo n+f (lo+n)
theorem bV {f g:Int ->Int}{lo:Int}: ∀ {n:Nat},(∀i:Int,lo<=i ->i<lo+n ->f i=g i) ->bU f lo n=bU g lo n
 | 0,_=>rfl
 | n+1,h=>by simp![bU];rw[bV (n:=n) λi a b=>h i a ∅,h (lo+n) ∅ ∅]
theorem hU {lo:Int}: ∀ {n:Nat},bU (λ_=>0) lo n=0
 | 0=>rfl
 | n+1=>by simp![bU];rw[hU];rfl
theorem lc {f g:Int ->Int}{lo:Int}: ∀ {n:Nat},bU (λi=>f i+g i) lo n=bU f lo n+bU g lo n
 | 0=>rfl
 | n+1=>by simp![bU];rw[lc];lia
theorem fE {f:Int ->Int ->Int}{a b:Int}{m:Nat}: ∀ {n:Nat},bU (λi=>bU (λj=>f i j) b m) a n=bU (λj=>bU (λi=>f i j) a n) b m
 | 0=>by simp![bU];rw[hU]
 | n+1=>by simp![bU];rw[fE,lc]
theorem gt {f:Int ->Int}: ∀ {n:Nat} {lo:Int},bU f lo (n+1)=f lo+bU f (lo+1) n
 | 0, lo => by simp![bU];have:lo+((0:Nat):Int)=lo:= ∅
               rw[this];lia
 | n+1,lo=>by rw[bU,gt,bU];have:lo+((n+1:Nat):Int)=lo+1+(n:Int):= ∅;rw[this];lia
theorem k_ {f:Int ->Int}: ∀ {n:Nat} {lo:Int},bU f lo n=bU (λi=>f (-i)) (-(lo+n - 1)) n
 | 0,lo=>rfl
 | n+1,lo=>by rw[gt (f:=λi=>f (-i)),bU,k_ (n:=n)];have e1: -(-(lo+((n+1:Nat):Int) - 1))=lo+n:= ∅;have e2: -(lo+((n+1:Nat):Int) - 1)+1= -(lo+n - 1):= ∅;rw[e1,e2];lia
theorem lb {f:Int ->Int}{lo a:Int}: ∀ {n:Nat},bU (λi=>if i=a then f i else 0) lo n=if lo<=a /\ a<lo+n then f a else 0
 | 0=>by rw[ai ∅];rfl
 | n +1=>by simp![bU];rw[lb];by_cases h:lo+(n:Int)=a;rw[ai ∅,aj h,aj ∅,h];lia;rw[ai h];by_cases g:lo<=a /\ a<lo+(n:Int);rw[aj g,aj ∅];lia;rw[ai g,ai ∅];lia
def kN (p lo:Int)(c:Int ->Int)(t:Int):Int:=bU (λx=>c (t - e7 p x)) lo (p - lo).toNat
def c0 (t:Int):Int:=if t=0 then 1 else 0
def gk (p lo:Int):Nat ->(Int ->Int) ->Int ->Int
 | 0,c=>c
 | n+1,c=>kN p lo (gk p lo n c)
def p_:kN p a (kN p b c)=kN p b (kN p a c):=by funext t;unfold kN;rw[fE];exact bV λi _ _=>bV λj _ _=> ?_;congr 1;lia
theorem p9 {p a b:Int}: ∀ {n:Nat} {c:Int ->Int},kN p a (gk p b n c)=gk p b n (kN p a c)
 | 0,_=>rfl
 | n+1,c=>by simp![gk];rw[p_,p9]
theorem jT {p a b:Int}{m:Nat}{c:Int ->Int}: ∀ {n:Nat},gk p a n (gk p b m c)=gk p b m (gk p a n c)
 | 0=>rfl
 | n+1=>by simp![gk];rw[jT,p9]
def h_ (h:0<=x)(h':x<p):0<=e7 p x:=by unfold e7;split<;>lia
def rD (h:1<=x)(h':x<p):1<=e7 p x:=by unfold e7;split<;>lia
def oC (h:0<=x)(h':x<p):e7 p x<=p:=by unfold e7;split<;>lia
def p8 (l0:0<=lo)(l1:lo<=1)(h: ∀t,t<s ->c t=0)(ht:t<s+lo):kN p lo c t=0:=by unfold kN;rw[bV (g:=λ_=>0),hU];intro i a b;exact h _ ?_;by_cases z:lo=1;have:=rD (p:=p) (x:=i) ∅ ∅;lia;have:=h_ (p:=p) (x:=i) ∅ ∅;lia
theorem cS {p lo s:Int}{c:Int ->Int}(l0:0<=lo)(l1:lo<=1)(h: ∀t,t<s ->c t=0): ∀ {n:Nat} {t:Int},t<s+lo*n ->gk p lo n c t=0
 | 0,t,ht=>h t (by simp at ht;lia)
 | n+1,t,ht=>by
  simp![gk];exact p8 (s:=s+lo*n) l0 l1 (λu hu=>cS l0 l1 h hu) ?_;have:lo*((n+1:Nat):Int)=lo*n+lo:=by rw[Int.natCast_add,Int.mul_add];simp
  lia
theorem fu (h:t<0):c0 t=0:=ai ∅
def ke (p free lit t:Int):Int:=gk p 1 lit.toNat (gk p 0 free.toNat c0) t
def sG:ke p free lit t=gk p 0 free.toNat (gk p 1 lit.toNat c0) t:=by unfold ke;rw[jT]
def mn (h:0<=lit)(ht:t<lit):ke p free lit t=0:=by exact cS (s:=0) ⋯ ⋯ (λu hu=> ?_) ∅;show cS (s:=0) ⋯ ⋯ (λ_=>fu) ⇑hu
def cc (c:Int ->Int)(n:Int):yr Int:=(List.range (n+1).toNat).map λt:Nat=>c t
def je:(cc c n).length=(n+1).toNat:=by simp[cc]
def b9 (h: ∀t,0<=t ->t<=n ->c t=d t):cc c n=cc d n:=by unfold cc;exact List.map_congr_left λt ht=> ?_;have:=List.mem_range.mp ht;show h _ ∅ ∅
def ow {j:Nat}(h:(j:Int) <=n):(cc c n)[j]? =some (c j):=by unfold cc;rw[aP,List.getElem?_range ∅];rfl
def ot:(cc c n).set j v=cc (λt=>if t=j then v else c t) n:=by unfold cc;exact List.ext_getElem (by simp) λi h1 h2=> ?_;simp![List.getElem_set,List.getElem_map,List.getElem_range];by_cases e:j=i;subst e;simp;rw[ai e,ai ∅]
def rf (h:0<=n):cc c0 n=1::List.replicate n.toNat 0:=by
 exact List.ext_getElem (by simp[je];lia) λi h1 h2=> ?_;simp![cc,List.getElem_map,List.getElem_range];cases i with
 | zero=>rfl
 | succ i=>simp[c0];lia
def ou:cc (λ_=>0) n=List.replicate (n+1).toNat 0:=by unfold cc;simp[List.map_const']
def iq (low high e:Int):Int:=(if decide (low<if e<0 then e else 0)=true then 1 else 0)+if decide ((if e >0 then e else 0) <high)=true then 1 else 0
def iu (n low high e:Int):Int:=n - (2*(high - low) - iL e)
def c8 (p n low high e:Int):Int:=ke p (high - low+1 - iq low high e) (iq low high e) (iu n low high e)
def fQ (p n:Int):Int:=bU (λlow=>bU (λhigh=>bU (λe=>c8 p n low high e) low (high+1 - low).toNat) 0 (n+low+1).toNat) (-n) (n+1).toNat
def fj:0<=iq low high e /\ iq low high e<=2:=by
 unfold iq;have h: ∀b:Bool,0<=(if b=true then(1:Int) else 0) /\ (if b=true then(1:Int) else 0) <=1:=λb=>by cases b<;>decide
 have h1:=h (decide (low<if e<0 then e else 0));have h2:=h (decide ((if e >0 then e else 0) <high));lia
def mD (l:low<=0)(h:0<=high)(h1:low<=e)(h2:e<=high):0<=iL e /\ iL e<=high - low:=by unfold iL;split<;>lia
theorem kZ (h:iu n low high e<0):c8 p n low high e=0:=mn fj.1 (by have:=(fj (low:=low) (high:=high) (e:=e)).1;lia)
def wc (p n:Int):Int:=bU (λdown=>bU (λdt=>bU (λe=>c8 p n (-down) (dt - down) e) (-down) (dt+1).toNat) down (n+1 - down).toNat) 0 (n+1).toNat
theorem gs {f:Int ->Int}{d:Int}: ∀ {n:Nat} {lo:Int},bU f (lo+d) n=bU (λi=>f (i+d)) lo n
 | 0,lo=>rfl
 | n+1,lo=>by simp![bU];rw[gs];congr 2;lia
def kH (h:0<=n):fQ p n=wc p n:=by unfold fQ wc;rw[k_];have e: -(-n+(((n+1).toNat:Nat):Int) - 1)=0:= ∅;rw[e];exact bV λdown d0 d1=> ?_;have e2:(n+ -down+1).toNat=(n+1 - down).toNat:= ∅;have e3:=gs (f:=λdt=>bU (λe=>c8 p n (-down) (dt - down) e) (-down) (dt+1).toNat) (d:=down) (n:=(n+1 - down).toNat) (lo:=0);rw[e2];have e4:(0:Int)+down=down:= ∅;rw[e4] at e3;rw[e3];exact bV λhigh h0 h1=> ?_;have e5:high+down - down=high:= ∅;have e6:(high+1 - -down).toNat=(high+down+1).toNat:= ∅;rw[e5,e6]
def dF (h0:0<=t)(h1:t<=n):f9 ((cc c n).map wi) t=some (wi (c t)):=by exact mC h0 ?_;rw[aP,ow ∅];have:((t.toNat:Nat):Int)=t:= ∅;rw[this];rfl
theorem li (h0:0<=t)(h1:t<=n):iB ((cc c n).map wi).length t=some t.toNat:=sn h0 (by rw[av,je];lia)
def jd (h0:0<=t):((cc c n).map wi).set t.toNat (wi v)=(cc (λu=>if u=t then v else c u) n).map wi:=by rw[<- List.map_set,ot];have:((t.toNat:Nat):Int)=t:= ∅;rw[this]
def xJ:(List.replicate k [W.v (V.int 0)]).flatten=(List.replicate k 0).map wi:=by
 induction k with
 | zero=>rfl
 | succ k ih=>rw[bn,List.flatten_cons,ih];rfl
def xH (h:0<=n): [W.v (V.int 1)]++(List.replicate n.toNat [W.v (V.int 0)]).flatten=(cc c0 n).map wi:=by rw[xJ,rf h];rfl
def xI (h:0<=n):(List.replicate (n+1).toNat [W.v (V.int 0)]).flatten=(cc (λ_=>0) n).map wi:=by rw[xJ,ou]
def mw (p lo mo:Int)(a:Nat)(i:Nat):Int ->Int:=gk p mo (i - a) (gk p lo (min i a) c0)
def jU:mw p lo mo a 0=c0:=by unfold mw;simp[gk]
def jV:mw p lo mo a (i+1)=kN p (if i<a then lo else mo) (mw p lo mo a i):=by unfold mw;by_cases h:i<a;rw[aj h,Nat.min_eq_left ∅,Nat.min_eq_left ∅,Nat.sub_eq_zero_of_le ∅,Nat.sub_eq_zero_of_le ∅];rfl;rw[ai h,Nat.min_eq_right ∅,Nat.min_eq_right ∅,show i+1 - a=(i - a)+1 by lia];rfl
def mq (l0:0<=lo)(l1:lo<=1)(m0:0<=mo)(m1:mo<=1)(h:t<0):mw p lo mo a i t=0:=by exact cS (s:=0) m0 m1 (λu hu=>cS (s:=0) l0 l1 (λ_=>fu) ?_) ?_;have:=Int.mul_nonneg l0 (Int.natCast_nonneg (min i a));lia;have:=Int.mul_nonneg m0 (Int.natCast_nonneg (i - a));lia
def qa (hf:0<=f)(hl:0<=l):mw p 0 1 f.toNat (f+l).toNat=ke p f l:=by unfold mw;funext t;unfold ke;rw[Nat.min_eq_right ∅,show(f+l).toNat - f.toNat=l.toNat by lia]
def sH (hf:0<=f)(hl:0<=l):mw p 1 0 l.toNat (f+l).toNat=ke p f l:=by unfold mw;funext t;rw[sG];rw[Nat.min_eq_right ∅,show(f+l).toNat - l.toNat=f.toNat by lia]
theorem sr [Decidable c](h0:C0)(h1:C1)(h: ∀lo:Int,(lo=if c then 0 else 1) ->nq (b_ lo (p - lo).toNat) kp g b D ρ M): dX (decide c) (dk C0 (nq (b_ 0 (p - 0).toNat) kp g b D ρ M)) (dk C1 (nq (b_ 1 (p - 1).toNat) kp g b D ρ M)):=da (λx=>#[h0,h 0 (by simp[x])]) λx=>#[h1,h 1 (by simp[x])]
def bt:(b_ lo n).length=n:=by simp[b_]
def wJ (p lo:Int)(c:Int ->Int)(h:Nat)(t:Int):Int:=bU (λv=>bU (λx=>if v=t - e7 p x then c v else 0) lo (p - lo).toNat) 0 h
def rX (l0:0<=lo)(cn: ∀t,t<0 ->c t=0)(hn:0<=n)(ht:t<=n):wJ p lo c (n+1).toNat t=kN p lo c t:=by unfold wJ kN;rw[fE];exact bV λx x0 x1=> ?_;rw[lb];have:=h_ (p:=p) (x:=x) ∅ ∅;by_cases h:0<=t - e7 p x;rw[aj ∅];rw[ai ∅,cn _ ∅]
def rM:gX:=λxs M q=>d5 λ(p f l n:Int)=>gW (xs= [wi p,wi f,wi l,wi n]) (1<=p /\ p<=7) (0<=f /\ f<=100) (0<=l /\ l<=100) (0<=n /\ n<=100) (∀a M',M a=none ->Sm M M' ->M' a=some (.lst ((cc (ke p f l) n).map wi)) ->q (wr a) M')
def mO:gX:=λxs M q=>d5 λ(p f l n:Int)=>gW (xs= [wi p,wi f,wi l,wi n]) (1<=p /\ p<=7) (0<=f /\ f<=100) (0<=l /\ l<=100) (0<=n /\ n<=100) (q (wi (ke p f l n)) M)
def xV:gX:=λxs M q=>bH λ(p n:Int)=>c6 (xs= [wi p,wi n]) (1<=p /\ p<=7) (0<=n /\ n<=40) (q (wi (fQ p n)) M)
def fJ (z:Int×Int):NK:= .seq [.key (.inl z.1), .key (.inl z.2)]
def gg (l:Pt):NK:= .seq (l.map fJ)
def fc (r:Rd):NK:= .seq [.key (.inl r.1),gg r.2]
def lw:fP (fJ (a,b))= .tup [wi a,wi b]:=by simp![fJ,fP,fO]
theorem lF: ∀ {l:Pt},fO (l.map fJ)=l.map cY
 | []=>rfl
 | (a,b)::l=>by rw[az,az,fO,lw,lF];rfl
def vf:fP (gg l)=jm l:=by unfold gg jm;rw[fP,lF]
def oz:fP (fc r)=j_ r:=by unfold fc j_;rw[fP,fO,fO,fO,vf,fP]
def lv:bZ (fJ z)=1:=by simp[fJ,bZ,c_]
theorem eN: ∀ {l:Pt},c_ (l.map fJ) <=1
 | []=>Nat.zero_le _
 | z::l=>by rw[az,c_,lv];have:=eN (l:=l);lia
def ij:j7 (fJ z):=by unfold j7;rw[lv];decide
def oO:j7 (gg l):=by unfold j7 gg;rw[bZ];have:=eN (l:=l);lia
def h8:j7 (fc r):=by
 have:=(oO (l:=r.2)).2;have h:bZ (gg r.2) <=2:=by unfold gg;rw[bZ];have:=eN (l:=r.2);lia
 unfold j7 fc;rw[bZ,c_,c_,c_,bZ];lia
def lu (h:fJ a=fJ b):a=b:=by unfold fJ at h;injection h with h;injection h with h1 h2;injection h2 with h2 _;injection h1 with h1;injection h1 with h1;injection h2 with h2;injection h2 with h2;show Prod.ext h1 h2
def oP (h:gg a=gg b):a=b:=by
 unfold gg at h;injection h with h;induction a generalizing b with
 | nil=>cases b with
  | nil=>rfl
  | cons _ _=>simp at h
 | cons x a ih=>cases b with
  | nil=>simp at h
  | cons y b=>rw[az,az] at h;injection h with h1 h2;rw[lu h1,ih h2]
def rg (h:fc a=fc b):a=b:=by unfold fc at h;injection h with h;injection h with h1 h2;injection h2 with h2 _;injection h1 with h1;injection h1 with h1;show Prod.ext h1 (oP h2)
theorem iV {α β:Type}{g:α ->NK}(gi: ∀a b,g a=g b ->a=b){h:β ->W}(f:α): ∀ (l:yr (α×β)),(cq (l.map λz=>(g z.1,h z.2)) (g f)=none /\ f∉l.map (·.1)) \/ ∃z∈l,z.1=f /\ cq (l.map λz=>(g z.1,h z.2)) (g f)=some (h z.2)
 | []=> .inl #[rfl,by simp]
 | z ::l=>by
  by_cases e:z.1=f;show .inr #[z,by simp,e,by simp[cq,aC,e]];have e2:g z.1≠g f:=λx=>e (gi _ _ x);have e3:cq ((z::l).map λz=>(g z.1,h z.2)) (g f)=cq (l.map λz=>(g z.1,h z.2)) (g f):=by simp[cq,aC,e2]
  rw[e3];rcases iV gi f l with⟨a,b⟩ | ⟨y,hy,a,b⟩
  exact .inl #[a,λhm=> ?_];rw[az] at hm;obtain hm | hm:=aD.mp hm;show e hm.symm;show b hm;show .inr #[y,by simp[hy],a,b]
def ji (h:cq l k=none):jj l k v=l++ [(k,v)]:=by unfold jj;rw[h];rfl
def n6 (h:cq l k=none):cq (l++ [(k,v)]) k=some v:=by unfold cq at h ⊢;rw[List.find?_append];rw[Option.map_eq_none_iff] at h;rw[h];simp
def knd (ks:yr ((Int×Int)×Fm)):MO:= .dN (ks.map λz=>(fJ z.1,wr z.2))
def qi (p n:Int)(M:Mp)(ks:yr ((Int×Int)×Fm)):Prop:= ∀z∈ks,M z.2=some (.lst ((cc (ke p z.1.1 z.1.2) n).map wi))
def r8 (h:cq (ks.map λz=>(fJ z.1,wr z.2)) (fJ z)=none):MO.dN (jj (ks.map λz=>(fJ z.1,wr z.2)) (fJ z) (wr a))=knd (ks++ [(z,a)]):=by rw[ji h];unfold knd;rw[List.map_append];rfl
theorem qi.mv (h:qi p n M ks)(s:Sm M M'):qi p n M' ks:=λz hz=>s _ _ (h z hz)
theorem qi.um (h:qi p n M ks)(e:M d=some (knd ls)):qi p n (um M d o) ks:=λz hz=>by rw[bx λx=> ?_];show h z hz;have:=h z hz;rw[x,e] at this;cases this
def vi:gX:=λxs M q=>bH λ(p n:Int)=>c6 (xs= [wi p,wi n]) (1<=p /\ p<=7) (0<=n /\ n<=40) (q (wi (wc p n)) M)
def dq (p:Int):yr Rd:= [(1,[]),(-1,[]),(0,[(0,1)]),(0,[(0,p - 1)])]
def nO (st:yr Rd×yr Rd)(r:Rd):yr Rd×yr Rd:=if r∈st.1 then st else(st.1++ [r],st.2++ [r])
def ka (p:Int)(one:Rd)(ss:yr Rd)(st:yr Rd×yr Rd):yr Rd×yr Rd:=ss.foldl (λst s=>nO st (jn p one s)) st
def nP (p:Int)(here:yr Rd)(st:yr Rd×yr Rd):yr Rd×yr Rd:=here.foldl (λst one=>ka p one (dq p) st) st
def ly (p:Int):Nat ->yr Rd×yr Rd
 | 0=>([(0,[])],[(0,[])])
 | n+1=>nP p (ly p n).2 ((ly p n).1,[])
def ve (p:Int):yr Int ->Int ->Int
 | [],t=>c0 t
 | lo::r,t=>bU (λx=>if t<e7 p x then 0 else ve p r (t - e7 p x)) lo (p - lo).toNat
def oN (cn: ∀t,t<0 ->c t=0)(t:Int):bU (λx=>if t<e7 p x then 0 else c (t - e7 p x)) lo (p - lo).toNat=kN p lo c t:=by unfold kN;exact bV λx _ _=> ?_;by_cases h:t<e7 p x;rw[aj h,cn _ ∅];rw[ai h]
theorem kw {p lo:Int}(l0:0<=lo)(l1:lo<=1){r:yr Int}{c:Int ->Int}(h: ∀t,ve p r t=c t)(cn: ∀t,t<0 ->c t=0): ∀ (n:Nat) (t:Int),ve p (List.replicate n lo++r) t=gk p lo n c t
 | 0,t=>h t
 | n+1,t=>by have e:ve p (List.replicate n lo++r)=gk p lo n c:=funext λt=>kw l0 l1 h cn n t;rw[bn,List.cons_append,ve,e,oN (λu hu=> ?_),gk];exact cS (s:=0) l0 l1 cn ?_;have:=Int.mul_nonneg l0 (Int.natCast_nonneg n);lia
def rL:ve p (List.replicate l.toNat 1++(List.replicate f.toNat 0++ [])) t=ke p f l t:=by unfold ke;exact kw ⋯ ⋯ (λu=>kw ⋯ ⋯ (λ_=>rfl) (λ_=>fu) _ u) (λu hu=> ?_) _ _;show cS (s:=0) ⋯ ⋯ (λ_=>fu) ⇑hu
def gA (p n:Int):Int:=bU (λlow=>bU (λhigh=>bU (λe=>if iu n low high e<0 then 0 else ve p (List.replicate (iq low high e).toNat 1++(List.replicate (high - low+1 - iq low high e).toNat 0++ [])) (iu n low high e)) low (high+1 - low).toNat) 0 (n+low+1).toNat) (-n) (n+1).toNat
def vz:fQ p n=gA p n:=by unfold fQ gA;exact bV λlow _ _=>bV λhigh _ _=>bV λe _ _=> ?_;by_cases h:iu n low high e<0;rw[aj h,kZ h];rw[ai h,rL];rfl
set_option maxHeartbeats 0
def vB: ∀n:Fin 5,(((ly 2 n).2.length:Nat):Int)=gA 2 (n:Nat) /\ (((ly 3 n).2.length:Nat):Int)=gA 3 (n:Nat) /\ (((ly 5 n).2.length:Nat):Int)=gA 5 (n:Nat) /\ (((ly 7 n).2.length:Nat):Int)=gA 7 (n:Nat):=by decide+kernel
def rT (hp:p=2 \/ p=3 \/ p=5 \/ p=7)(h0:0<=n)(h4:n<=4):(((ly p n.toNat).2.length:Nat):Int)=fQ p n:=by have h:=vB #[n.toNat, ∅];rw[vz];have e:((n.toNat:Nat):Int)=n:= ∅;simp![e] at h;obtain rfl | rfl | rfl | rfl:=hp;show h.1;show h.2.1;show h.2.2.1;show h.2.2.2
def rW:(nO st r).1.length<=st.1.length+1 /\ (nO st r).2.length<=st.2.length+1:=by unfold nO;split<;>simp
theorem io {p:Int}{one:Rd}: ∀ {ss:yr Rd} {st:yr Rd×yr Rd},(ka p one ss st).1.length<=st.1.length+ss.length /\ (ka p one ss st).2.length<=st.2.length+ss.length
 | [],st=>#[am _,am _]
 | s::ss,st=>by have h:=io (p:=p) (one:=one) (ss:=ss) (st:=nO st (jn p one s));have g:=rW (st:=st) (r:=jn p one s);have e:ka p one (s::ss) st=ka p one ss (nO st (jn p one s)):=rfl;rw[e,be];lia
theorem ip {p:Int}: ∀ {here:yr Rd} {st:yr Rd×yr Rd},(nP p here st).1.length<=st.1.length+4*here.length /\ (nP p here st).2.length<=st.2.length+4*here.length
 | [],st=>#[am _,am _]
 | s::ss,st=>by have h:=ip (p:=p) (here:=ss) (st:=ka p s (dq p) st);have g:=io (p:=p) (one:=s) (ss:=dq p) (st:=st);have e:nP p (s::ss) st=nP p ss (ka p s (dq p) st):=rfl;have e4:(dq p).length=4:=rfl;rw[e,be];lia
theorem pd {p:Int}: ∀ {k:Nat},(ly p k).1.length<=2*4 ^ k /\ (ly p k).2.length<=4 ^ k
 | 0=>#[by simp[ly],by simp[ly]]
 | k+1=>by have h:=pd (p:=p) (k:=k);have g:=ip (p:=p) (here:=(ly p k).2) (st:=((ly p k).1,[]));rw[ly,Nat.pow_succ];simp![List.length_nil] at g;lia
def rV (h:r∈(nO st x).2):r∈st.2 \/ r=x:=by unfold nO at h;split at h;show .inl h;simpa using h
theorem lL {p:Int}{one r:Rd}: ∀ {ss:yr Rd} {st:yr Rd×yr Rd},r∈(ka p one ss st).2 ->r∈st.2 \/ ∃s∈ss,r=jn p one s
 | [],st,h=> .inl h
 | s ::ss,st,h=>by obtain h | ⟨x,hx,e⟩:=lL (ss:=ss) (st:=nO st (jn p one s)) h;obtain h | h:=rV h;show .inl h;show .inr #[s,by simp,h];show .inr #[x,by simp[hx],e]
theorem lM {p:Int}{r:Rd}: ∀ {here:yr Rd} {st:yr Rd×yr Rd},r∈(nP p here st).2 ->r∈st.2 \/ ∃one∈here, ∃s∈dq p,r=jn p one s
 | [],st,h=> .inl h
 | o ::ss,st,h=>by obtain h | ⟨x,hx,e⟩:=lM (here:=ss) (st:=ka p o (dq p) st) h;obtain h | h:=lL h;show .inl h;show .inr #[o,by simp,h];show .inr #[x,by simp[hx],e]
def i5 (h:s∈dq p):s.2.length<=1 /\ ∀z∈s.2,z.2=1 \/ z.2=p - 1:=by simp![dq,aD,List.not_mem_nil,or_false] at h;obtain rfl | rfl | rfl | rfl:=h <;>simp
theorem pc {p:Int}: ∀ {k:Nat} {r:Rd},r∈(ly p k).2 ->r.2.length<=k
 | 0,r,h=>by simp[ly] at h;subst h;simp
 | k +1,r,h=>by
  obtain h | ⟨o,ho,s,hs,rfl⟩:=lM h;show nomatch h
  have h1:=pc ho;have h2:=(i5 hs).1;have h3:=rP p (o.2++mv o.1 s.2);rw[aK,mv,av] at h3;change(kC p (o.2++mv o.1 s.2)).length<=_;rw[mv];lia
def i7 (l:yr Rd):MO:= .dN (l.map λr=>(fc r,wb true))
theorem fF {r:Rd}: ∀ {l:yr Rd},(cq (l.map λr=>(fc r,wb true)) (fc r)).isSome=decide (r∈l) /\ (r∉l ->cq (l.map λr=>(fc r,wb true)) (fc r)=none)
 | []=>#[rfl,λ_=>rfl]
 | x ::l=>by
  by_cases e:x=r;subst e;exact#[by simp[cq,aC],λh=>absurd (by simp) h];have e2:fc x≠fc r:=λz=>e (rg z);have e3:cq ((x::l).map λr=>(fc r,wb true)) (fc r)=cq (l.map λr=>(fc r,wb true)) (fc r):=by simp[cq,aC,e2]
  rw[e3];have h:=fF (r:=r) (l:=l);exact#[by rw[h.1];simp[bq e],λg=>h.2 λz=>g (by simp[z])]
def om (h:r∉l):MO.dN (jj (l.map λr=>(fc r,wb true)) (fc r) (wb true))=i7 (l++ [r]):=by rw[ji (fF.2 h)];unfold i7;rw[List.map_append];rfl
def oy {l:yr Rd}{i:Nat}(h:(l.map j_)[i]? =some x): ∃r,l[i]? =some r /\ x=j_ r:=by
 rw[aP] at h;cases e:l[i]? with
 | none=>rw[e] at h;cases h
 | some r=>rw[e] at h;cases h;show#[r,rfl,rfl]
def pe {ss:yr Rd}(h:ss[j]? =some s):ka p one (ss.take (j+1)) st=nO (ka p one (ss.take j) st) (jn p one s):=by rw[List.take_add_one,h];simp[ka]
def pf {ss:yr Rd}(h:ss[j]? =some s):nP p (ss.take (j+1)) st=ka p s (dq p) (nP p (ss.take j) st):=by rw[List.take_add_one,h];simp[nP]
def vh:gX:=λxs M q=>bH λ(p n:Int)=>c6 (xs= [wi p,wi n]) (1<=p /\ p<=7) (0<=n /\ n<=4) (q (wi (((ly p n.toNat).2.length:Nat):Int)) M)
end WQ
set_option maxHeartbeats 4000000
set_option synthInstance.maxSize 100000
set_option synthInstance.maxHeartbeats 0
open PySem L2 WL WP WQ PyProof.Rows
local macro_rules | `(tactic| simp? [$xs,*]) => do let a <- ("BF CJ Bs CM BM BN DH Bl A9 BI AN AM AL AK AJ AI AH AG AF AE zC zB zA zz zy zx zw zu zt zr zq zp zo zn Ew C7 C3 Ev Dc Eu Dd C9 zD A1 C5 AR zN zF C_ AS zK AO AT AW AV BO Df zM AU A2 zH zG wB uN AX Dh wD AZ AQ zI zJ xc zX z3 zZ Be Dq Bi A8 Bh z4 xC Bg zP A6 zQ A4 A5 zE Ah BK Bt Ag Af zL AD".splitOn " ").toArray.mapM λs => `(Lean.Parser.Tactic.simpLemma| ↓ $(Lean.mkIdent s.toName):term); let b <- ("uj si ui qF sh sk qH sj pB qG uh r_ ug qC r9 m9 lR m8 kJ lQ qB pz qA nQ py sf qE se pA qD GJ GI GH GK List.map_cons List.map_nil List.length_cons List.length_nil Nat.zero_add List.cons_append List.nil_append List.set_cons_zero List.set_cons_succ aW xk Eh Eg Ef Ee DG DF DE Bool.not_true Bool.not_false List.getElem?_cons_zero List.getElem?_cons_succ Option.join_some and_self and_true true_and Option.getD_some Option.getD_none zR jX".splitOn " ").toArray.mapM λs => `(Lean.Parser.Tactic.simpLemma| $(Lean.mkIdent s.toName):term); `(tactic| try simp only [$a,*, $b,*, Nat.reduceAdd, Nat.reduceSub, List.reduceReplicate, $xs,*])
local macro_rules | `(tactic| dsimp? [$xs,*]) => `(tactic| (simp? [↓fI, $xs,*]; repeat (with_reducible refine kM ?_; simp? [↓fI, $xs,*])))
local macro_rules | `(tactic| trivial) => `(tactic| first | exact Or.inl rfl | exact Or.inr rfl)
local macro_rules | `(tactic| right) => `(tactic| decide +kernel)
local macro_rules | `(tactic| left) => `(tactic| (intro _ _ _ h; (repeat (cases h; rename_i h)); subst_vars; rfl))
set_option hygiene false
local macro_rules | `(tactic| exists $a, $n, $c) => `(tactic| (have nd : List.Nodup ($n : List Str) := (by decide +kernel); refine EJ (N := $n) $a ⟨rfl, rfl, rfl, nd, rfl, by decide +kernel, by decide +kernel⟩ (by left) λcdv A' outer s H E hr => ?_; refine ⟨_, $c, ?_⟩; (try dsimp only [fZ]); refine ⟨_, inferInstance, ?_⟩))
set_option hygiene true
namespace gp
open PySem L2 WL WP WQ PyProof.Rows
def top (i:Nat):Stmt:=PySem.Challenge.pw_duskround_k14_rounds_of_each_cost.main.body.getD i (.Pass #[0,0,0,0])
abbrev lg:Stmt:=top 1
abbrev tU:Stmt:=top 2
abbrev i8:Stmt:=top 3
abbrev gu:Stmt:=top 4
abbrev eM:Stmt:=top 6
abbrev i9:Stmt:=top 7
abbrev tV:Stmt:=top 8
abbrev fH:Stmt:=top 9
abbrev hW:Stmt:=top 10
abbrev i_:Stmt:=top 11
abbrev lh:Stmt:=top 12
abbrev d7:Stmt:=top 13
abbrev gw:Stmt:=top 14
abbrev gv:Stmt:=top 15
abbrev oq:Stmt:=top 16
set_option genInjectivity false in
set_option genSizeOf false in
structure C2 where
 l7:Addr
 mj:FuncData
 uy:Addr
 uE:FuncData
 jD:Addr
 jO:FuncData
 gH:Addr
 gL:FuncData
 gK:Addr
 gO:FuncData
 jF:Addr
 jQ:FuncData
 uA:Addr
 uG:FuncData
 jE:Addr
 jP:FuncData
 l8:Addr
 ml:FuncData
 jG:Addr
 jR:FuncData
 l9:Addr
 mm:FuncData
 eA:Addr
 eC:FuncData
 gJ:Addr
 gN:FuncData
 gI:Addr
 gM:FuncData
 uz:Addr
 uF:FuncData
structure kf (K:PySem.W.Frag)(mg:Str ->Option Value)(A:C2):Prop where
 mB:mg "abs" =none
 wj:mg "bool" =none
 gV:mg "int" =none
 eD:mg "isinstance" =none
 uK:mg "len" =none
 qe:mg "list" =none
 uJ:mg "max" =none
 mz:mg "min" =none
 cb:mg "range" =none
 qd:mg "sorted" =none
 sL:mg "tuple" =none
 price:iR K mg "price" ["p","setting"] lg A.l7 A.mj
 way:iR K mg "way" ["low","high","end"] tU A.uy A.uE
 spread:iR K mg "spread" ["p","free","lit","most"] i8 A.jD A.jO
 many_at:iR K mg "many_at" ["p","n"] gu A.gH A.gL
 lP:iR K mg "_law_begin" ["_law_script"] eM A.gK A.gO
 ix:iR K mg "_law_take" ["_law_draw","_law_many"] i9 A.jF A.jQ
 DA:iR K mg "_law_p" ["_law_draw"] tV A.uA A.uG
 pk:iR K mg "_law_tidy" ["_law_p_here","_law_pairs"] fH A.jE A.jP
 uf:iR K mg "_law_sum" ["_law_p_here","_law_one","_law_other","_law_by","_law_many"] hW A.l8 A.ml
 pq:iR K mg "_law_join" ["_law_p_here","_law_one","_law_other"] i_ A.jG A.jR
 pr:iR K mg "_law_int" ["_law_thing"] lh A.l9 A.mm
 fU:iR K mg "_law_patterns" ["_law_p_here","_law_free","_law_tips","_law_cost"] d7 A.eA A.eC
 lO:iR K mg "_law_count" ["_law_p_here","_law_n"] gw A.gJ A.gN
 lN:iR K mg "_law_layer" ["_law_p_here","_law_n"] gv A.gI A.gM
 law:iR K mg "law" ["_law_script"] oq A.uz A.uF
theorem fG:c7 ["_law_script"] ["_law_script"] (a7 eM):=#[rfl,rfl,rfl,by right,rfl,by right,by right]
theorem oo:c7 ["_law_script","_law_draw","_law_p_here","_law_n","_law_found","_law_few"] ["_law_script"] (a7 oq):=#[rfl,rfl,rfl,by right,rfl,by right,by right]
def kB {K:Fp}(T:kf K mg A):cz P w K mg base eI 1 A.gK A.gO ["_law_script"] (k8 K):=by
 exact T.lP.fn.ok fG (λvs H Q E h=> ?_) (λcdv A' outer s H vs Q E hr h=> ?_);let⟨a,ns,rfl,_⟩:=h;rfl;let⟨a,ns,rfl,hs,k⟩:=h;have nd:=fG.nd;exact#[_,(aN (ca (c9 (ag (cx f8 (by rfl) T.qe Boot.«list» (ag (oE q_ (pv 0) rG (rF au)) aw)) (ag au (ag au (ag au aw))))))),?_];have ec: ∃ms:yr Int,nv (ns.map V.int) none (some 63)=ms.map V.int:=by exact#[(ns.drop (HT.iQ (ns.map V.int).length 0 none)).take (HT.iQ (ns.map V.int).length (ns.map V.int).length (some 63) - HT.iQ (ns.map V.int).length 0 none),?_];unfold nv;rw[List.map_take,List.map_drop]
 let⟨ms,em⟩:=ec;exact#[_,rfl,_,rfl,_,_,rfl,hs,λp hp=>#[_,_,rfl, .inl (dD.of bw),λl hl=>#[by change 4<=sizeLine;decide,λd hd=> ?_]]];have DT:l≠d:=λe=>by rw[e,bw] at hd;cases hd
 exact k d l ms _ DT.symm bw ?_;rw[bR DT,bw,em]
def eP {K:Fp}(T:kf K mg A):cz P w K mg base eI 1 A.jF A.jQ ["_law_draw","_law_many"] (j9 K xU):=by
 exists T.ix.fn,["_law_draw","_law_many","_law_number","_law_got"],(aA (d9 (u8 (cH fL (b7 bK (pv 0) au (λ_ _=>rfl)) (pv 1) (cf _)) (rk (cH fL (b7 bK (pv 0) au (λ_ _=>rfl)) (bJ gP (by rfl) T.uK Boot.«len» (ag (b7 bK (pv 0) au (λ_ _=>rfl)) aw)) (cf _)))).pt (aA (bm (i:=2) nd rfl (by trivial) (b7 bK (b7 bK (pv 0) au (λ_ _=>rfl)) (b7 bK (pv 0) au (λ_ _=>rfl)) (λ_ _=>rfl))) (aA (dS (aT bA (b7 bK (pv 0) au (λ_ _=>rfl)) au) (dU (pv 0) au cI)) (aA (dS au (dU (pv 0) au cI)) (aN (d9 (cH oT (bJ dI (by rfl) T.mB Boot.«abs» (ag (pv 2) aw)) (aT vj au au) (cf _)) (aN (dS (bJ dI (by rfl) T.mB Boot.«abs» (ag (pv 2) aw)) (dU (pv 0) au cI))) (aN (dS (aT dw (aT bA (aT bA (aT eO (b7 bK (pv 0) au (λ_ _=>rfl)) au) (aT eO (aT dw (pv 2) au) au)) au) au) (dU (pv 0) au cI)))))))) cX) (aA (d9 (cH oT (b7 bK (pv 0) au (λ_ _=>rfl)) (pv 1) (cf _)) (aA (bm (i:=3) nd rfl (by trivial) (aT dw (b7 bK (pv 0) au (λ_ _=>rfl)) (pv 1))) (aA (dS (aT lG (b7 bK (pv 0) au (λ_ _=>rfl)) (pv 1)) (dU (pv 0) au cI)) (aN (ca (pv 3))))) cX) (aA (dS (aT dw (aT bA (aT eO (b7 bK (pv 0) au (λ_ _=>rfl)) au) au) au) (dU (pv 0) au cI)) (aN (ca (aT dw (aT lG (b7 bK (pv 0) au (λ_ _=>rfl)) au) (pv 1)))))))
 rintro vs M q ⟨d,l,n,rfl,⟨ns,i,c,sd,hd,hl,hi,nR⟩,n0,n1,k⟩;exact vL (λρ M'=>wT λ(o1 o2:BP W) (i' c' s':Int)=>c6 (ρ= [some (wr d),some (wi n),o1,o2]) (M' d=some (.lst [wr l,wi i',wi c',wi s'])) (NB d M M') (0<=i')) ?_ λN hN=> ?_;rintro ρ M' ⟨o1,o2,i',c',s',rfl,h,nb,ga⟩;have fin: ∀ (r c' s':Int),0<=r ->r<n -> ∃M0,Sm M0 (um M' d (.lst [wr l,wi i',wi c',wi s'])) /\ q (wi r) M0:=λr c' s' h0 h1=>pX (k r _ h0 h1 #[ns,i',c',s',aW,by rw[bx (bq nR),nb l (bq nR)];show hl,ga,nR] (nb.trans NB.put));have Gw: ∀x,eF x 16807=True:=λx=>by simp[eF]
 have GA: ∀x,qv x n=True:=λx=>by simp[qv,n0,n1]
 have Gz: ∀x,qv x 64=True:=λx=>by simp[qv]
 have z2:((0:Int) <2147483647)=True:=⋯
 simp? [↓bN,h,n0,Gw,GA,Gz,z2];show da (λ_=>fin _ _ _ (Int.emod_nonneg _ ∅) (Int.emod_lt_of_pos _ n0)) λ_=>fin _ _ _ (Int.emod_nonneg _ ∅) (Int.emod_lt_of_pos _ n0);have nx: ∀ (o1 o2:BP W) (i' c' s':Int),0<=i' ->N [some (wr d),some (wi n),o1,o2] (um M d (.lst [wr l,wi i',wi c',wi s'])):=λ_ _ _ _ _ h=>hN _ _ #[_,_,_,_,_,rfl,aW,NB.put,h];have Ab: ∀ (o1 o2:BP W),N [some (wr d),some (wi n),o1,o2] M:=λ_ _=>hN _ _ #[_,_,_,_,_,rfl,hd,NB.refl d M,hi];have cp:wA 10 18=True:=by simp[wA]
 have cm: ∀x,eF x 48271=True:=λx=>by simp[eF]
 have Gx: ∀x,eF x 69621=True:=λx=>by simp[eF]
 have z1:((0:Int) <2147483629)=True:=⋯
 have z2:((0:Int) <2147483647)=True:=⋯
 by_cases iC:i<ns.length;have hx:f9 (ns.map wi) i=some (wi (ns[i.toNat]'∅)):=mC hi (by rw[aP,aM ∅];rfl);simp? [↓bN,hd,hl,hx,av,cp,cm,Gx,z1,z2];show da (λ_=>da (λ_=>da (λ_=>nx _ _ _ _ _ ∅) λ_=>nx _ _ _ _ _ ∅) λ_=>Ab _ _) λ_=>Ab _ _;simp? [↓bN,hd,hl,iC,av,decide_false];show da (λ_=>Ab _ _) λ_=>Ab _ _
def vp {K:Fp}(T:kf K mg A):cz P w K mg base eI 2 A.uA A.uG ["_law_draw"] (j9 K pP):=by
 exists T.DA.fn,["_law_draw"],(aN (ca (b7 eS (bS (ag au (ag au (ag au (ag au aw))))) (bz T.ix (eP T) hr (ag (pv 0) (ag au aw))) (λ_ _=>rfl))))
 rintro vs M q ⟨d,l,rfl,hD,k⟩;simp? [↓bN];exact#[d,l,4,rfl,hD,⋯,⋯,λr M1 r0 r1 D1 b1=> ?_];have Al:r=0 \/ r=1 \/ r=2 \/ r=3:=by omega
 obtain rfl | rfl | rfl | rfl:=Al <;> simp? [↓bN];show pX (k 2 _ ⋯ D1 b1);show pX (k 3 _ ⋯ D1 b1);show pX (k 5 _ ⋯ D1 b1);show pX (k 7 _ ⋯ D1 b1)
def jp {K:Fp}(T:kf K mg A):cz P w K mg base eI 1 A.l9 A.mm ["_law_thing"] (j9 K Bq):=by
 exists T.pr.fn,["_law_thing"],(aN (ca (oM (bJ jZ (by rfl) T.eD Boot.«isinstance» (ag (pv 0) (ag (lD (by rfl) T.gV Boot.«int» (show RelV (.ty "int") _ from rfl)) aw))) (oF (vd (bJ jZ (by rfl) T.eD Boot.«isinstance» (ag (pv 0) (ag (lD (by rfl) T.wj Boot.«bool» (show RelV (.ty "bool") _ from rfl)) aw))))))))
 rintro vs M q ⟨i,rfl,k⟩;simp? [↓bN];show pX k
def mQ {K:Fp}(T:kf K mg A):cz P w K mg base eI 1 A.jE A.jP ["_law_p_here","_law_pairs"] (j9 K xT):=by
 exists T.pk.fn,["_law_p_here","_law_pairs","_law_sums","_law_place","_law_setting"],(aA (bm (i:=2) nd rfl (by trivial) oI) (aA (ce aV rfl (fe (pv 1)) (oD (n:=2) rfl (d_ (bF (i:=3) nd rfl (by trivial)) (d_ (bF (i:=4) nd rfl (by trivial)) lA))) (aN (rB (lW hr) (pv 2) (pv 3) (aT dw (aT bA (oJ (lW hr) (pv 2) (pv 3) au #[by rfl,by rfl,by rfl,by rfl]) (pv 4)) (pv 0)) rfl))) (aN (ca (cx jY (by rfl) T.sL Boot.«tuple» (ag (lC rfl (dE.of (sc:=a7 fH) (N:= ["_law_p_here","_law_pairs","_law_sums","_law_place","_law_setting"]) (own:= ["_law_place"]) (fr:= [2]) (N':= ["_law_place","_law_sums"])) (fe (bJ (iG rfl) (by rfl) T.qd Boot.«sorted» (ag (pv 2) aw))) (λ_ _ _ _=>(bF (i:=0) (by change(["_law_place","_law_sums"]:yr Str).Nodup;decide+kernel) rfl (by trivial))) nB (λ_ _ _ _=>(rn (cH oS (lB (lW hr) (pv 1) (pv 0) (λ_ _=>rfl)) au (cf _)))) (λ_ _ _ _=>(bS (ag (pv 0) (ag (lB (lW hr) (pv 1) (pv 0) (λ_ _=>rfl)) aw))))) aw))))))
 rintro vs M q ⟨a,p,ps,rfl,ha,p0,Au,Fh,k⟩;simp? [↓bN];intro d hd;have Dz:a≠d:=dz ha hd;simp? [↓bN,bx Dz,ha];exact cM (λi ρ M'=>dr λ(o1 o2:BP W) (m:Pt)=>gW (ρ= [some (wi p),some (wr a),some (wr d),o1,o2]) (M'=um M d (.dK (jA m))) ((m.map (·.1)).Nodup) (m.length<=i) (∀x,look m x=iP (ps.take i) x % p) (∀k∈m.map (·.1), ∃q∈ps,q.1=k)) #[none,none,[],rfl,rfl,List.nodup_nil,am _,λx=>by simp[look,iP],by simp] ?_ ?_ ?_;rintro i ρ M' _ ⟨o1,o2,m,rfl,rfl,_⟩;rw[bx Dz];show ha;rintro i x ρ M' hx ⟨o1,o2,m,rfl,rfl,hn,hl,ht,uu⟩ N hN;let⟨z,hz,rfl⟩:=pairs_at hx;have GX:=(aG.mp hz).1;have hs:((jA m).length<sizeLine)=True:=by rw[jA,av];show eq_true (sK (by omega))
 simp? [↓bN,cY,sD,p0,hs,rm];exact hN _ _ #[_,_,_,rfl,rfl,rQ hn,a0 pi (by omega),λx=> ?_,λk hk=>(o_ hk).elim (λe=>#[z,List.mem_of_getElem? hz,e.symm]) (uu k)];rw[mZ,List.take_add_one,hz];change _=iP (ps.take i++ [z]) x % p;rw[iX];by_cases hx:x=z.1;subst hx;rw[aj rfl,aj rfl,ht,Int.emod_add_emod];rw[ai hx,ai (bq hx),Int.add_zero];show ht x;rintro ρ M' ⟨o1,o2,m,rfl,rfl,hn,hl,ht,uu⟩;rw[av] at hl ht;rw[List.take_length] at ht;simp? [↓bN];exact#[d,jA m,m.map (·.1),rfl,aW,px m,(by rw[av];show big (by omega)),λsp ns pJ gF yC=> ?_];have Cv:d≠sp:=dz aW pJ;have wL:ns.length<=16000000:=by rw[gF.length_eq,av];omega
 simp? [↓bN];exact f6 (λx=>match x with | .v (.int n)=>if look m n=0 then none else some (cY (n,look m n)) | _=>none) (by rw[av];show big wL) (λM3 s3=>s3 _ _ aW) ?_ λt EX=> ?_;intro i x hx M3 N s3 hN;let⟨n,yH,rfl⟩:=pI hx;have Ff:M3 d=some (.dK (jA m)):=s3 _ _ (by rw[bx Cv,aW]);have E8:n∈m.map (·.1):=gF.mem_iff.mp (List.mem_of_getElem? yH);simp? [↓bN,Ff,uP E8];have Cr:0<=look m n:=by rw[ht];show Int.emod_nonneg _ (by omega)
 exact da (λh=> ?_) λh=> ?_;have h':¬look m n=0:=by omega
 simp![h',aO] at hN;show hN;have h':look m n=0:=by omega
 simp![h',bg] at hN;show hN;simp? [↓bN];exact#[M,((Sm.um (Sm.refl M) hd).trans (bL pJ)).trans (bL EX),?_];have e:(ns.map wi).filterMap (λx=>match x with | .v (.int n)=>if look m n=0 then none else some (cY (n,look m n)) | _=>none)=(kC p ps).map cY:=by rw[<- ra p0 hn ht gF yC,List.filterMap_map];unfold xz;rw[List.map_filterMap];congr 1;funext n;simp![Function.comp];split<;>rfl
 rw[e];show k
def oV {K:Fp}(T:kf K mg A):cz P w K mg base eI 2 A.l8 A.ml ["_law_p_here","_law_one","_law_other","_law_by","_law_many"] (j9 K Bp):=by
 exists T.uf.fn,["_law_p_here","_law_one","_law_other","_law_by","_law_many"],(aN (ca (bz T.pk (mQ T) hr (ag (pv 0) (ag (aT kx (cx f8 (by rfl) T.qe Boot.«list» (ag (pv 1) aw)) (lC rfl (dE.of (sc:=a7 hW) (N:= ["_law_p_here","_law_one","_law_other","_law_by","_law_many"]) (own:= ["_law_place","_law_setting"]) (fr:= [3,4]) (N':= ["_law_place","_law_setting","_law_by","_law_many"])) (vb (pv 2)) (λ_ _ _ _=>(oD (n:=2) rfl (d_ (bF (i:=0) (by change(["_law_place","_law_setting","_law_by","_law_many"]:yr Str).Nodup;decide+kernel) rfl (by trivial)) (d_ (bF (i:=1) (by change(["_law_place","_law_setting","_law_by","_law_many"]:yr Str).Nodup;decide+kernel) rfl (by trivial)) lA)))) qb (λ_ _ _ _=>rq) (λ_ _ _ _=>(bS (ag (aT bA (pv 0) (pv 2)) (ag (aT eO (pv 1) (pv 3)) aw)))))) aw)))))
 rintro vs M q ⟨p,a,b,y,n,rfl,p0,hf,ha,hb,hz,k⟩;simp? [↓bN,jm];intro u hu;simp? [↓bN];exact f6 (λx=>match x with | .tup [.v (.int x), .v (.int s)]=>some (.tup [wi (x+y),wi (s*n)]) | _=>none) (by rw[av];show big (by omega)) (λ_ _=>trivial) ?_ λt ht=> ?_;intro i x hx M3 N s3 hN;let⟨z,ES,rfl⟩:=pairs_at hx;have:=hz z (List.mem_of_getElem? ES);have cm:eF z.2 n=True:=eq_true (.inl #[by omega,by omega]);simp? [↓bN,cY,cm];show hN;have e:(b.map cY).filterMap (λx=>match x with | .tup [.v (.int x), .v (.int s)]=>some (.tup [wi (x+y),wi (s*n)]) | _=>none)=(o0 y n b).map cY:=by rw[List.filterMap_map,o0,List.map_map];show List.filterMap_eq_map.symm▸rfl
 rw[e];have EV:u≠t:=dz aW ht;have hs:((a.map cY).length+((o0 y n b).map cY).length<=sizeLine)=True:=eq_true (big (by rw[av,av,o0,av];omega));simp? [↓bN,bx EV,hs];intro c hc;simp? [↓bN];exact#[c,p,a++o0 y n b,rfl,by rw[aW,List.map_append],p0,hf,by rw[aK,o0,av];omega,?_];show#[M,((bL hu).trans (bL ht)).trans (bL hc),k]
def mR {K:Fp}(T:kf K mg A):cz P w K mg base eI 3 A.jG A.jR ["_law_p_here","_law_one","_law_other"] (j9 K xW):=by
 exists T.pq.fn,["_law_p_here","_law_one","_law_other"],(aN (ca (bS (ag (aT bA (b7 eS (pv 1) au (λ_ _=>rfl)) (b7 eS (pv 2) au (λ_ _=>rfl))) (ag (bz T.uf (oV T) hr (ag (pv 0) (ag (b7 eS (pv 1) au (λ_ _=>rfl)) (ag (b7 eS (pv 2) au (λ_ _=>rfl)) (ag (b7 eS (pv 1) au (λ_ _=>rfl)) (ag au aw)))))) aw)))))
 rintro vs M q ⟨p,a,b,rfl,p0,hf,ha,hb,hz,k⟩;have e:o0 a.1 1 b.2=mv a.1 b.2:=by rw[vx,uX]
 simp? [↓bN,j_];exact#[p,a.2,b.2,a.1,1,rfl,p0,by rw[e];show hf,a0 ha ⋯,a0 hb ⋯,hz,?_];rw[e];simp? [↓bN];show pX k
def oU {K:Fp}(T:kf K mg A):cz P w K mg base eI 1 A.l7 A.mj ["p","setting"] (j9 K vg):=by
 exists T.price.fn,["p","setting"],(aN (ca (bJ (dj rfl) (by rfl) T.mz Boot.«min» (ag (aT dw (pv 1) (pv 0)) (ag (aT dw (jl fB (pv 1)) (pv 0)) aw)))))
 rintro vs M q ⟨p,s,rfl,s0,s1,k⟩;have p0:(0<p)=True:=eq_true (by omega);simp? [↓bN,p0];rw[rE s0 s1];show pX k
def vn {K:Fp}(T:kf K mg A):cz P w K mg base eI 1 A.uy A.uE ["low","high","end"] (j9 K Bo):=by
 exists T.way.fn,["low","high","end"],(aN (ca (aT cK (aT eO au (aT cK (pv 1) (pv 0))) (bJ dI (by rfl) T.mB Boot.«abs» (ag (pv 2) aw)))))
 rintro vs M q ⟨lo,hi,e,rfl,k⟩;have cm: ∀x,eF 2 x=True:=λx=>by simp[eF]
 simp? [↓bN,cm];show pX k
end gp
open PySem L2 WL WP WQ PyProof.Rows
namespace gp
open PySem L2 WL WP WQ PyProof.Rows
def mP {K:Fp}(T:kf K mg A):cz P w K mg base eI 2 A.jD A.jO ["p","free","lit","most"] (j9 K rM):=by
 exists T.spread.fn,["p","free","lit","most","ways","lamp","grown","setting","cost","total"],(aA (bm (i:=4) nd rfl (by trivial) (aT kx (c9 (ag au aw)) (aT il (c9 (ag au aw)) (pv 3)))) (aA (ce aV rfl (cN (by rfl) T.cb (ag (aT bA (pv 1) (pv 2)) aw)) (bF (i:=5) nd rfl (by trivial)) (aA (bm (i:=6) nd rfl (by trivial) (aT il (c9 (ag au aw)) (aT bA (pv 3) au))) (aA (ce aV rfl (cG (by rfl) T.cb (ag (oH (cH fL (pv 5) (pv 1) (cf _)) au au) (ag (pv 0) aw))) (bF (i:=7) nd rfl (by trivial)) (aA (bm (i:=8) nd rfl (by trivial) (bz T.price (oU T) hr (ag (pv 0) (ag (pv 7) aw)))) (aN (ce aV rfl (cG (by rfl) T.cb (ag (pv 8) (ag (aT bA (pv 3) au) aw))) (bF (i:=9) nd rfl (by trivial)) (aN (rC (pv 6) (pv 9) mN (b7 bK (pv 4) (aT cK (pv 9) (pv 8)) (λ_ _=>rfl)) pG cI)))))) (aN (bm (i:=4) nd rfl (by trivial) (pv 6)))))) (aN (ca (pv 4)))))
 rintro vs M q ⟨p,f,l,n,rfl,hp,hf,hl,hn,k⟩;dsimp? [];intro a1 h1 a2 h2;have yj:a1≠a2:=dz aW h2;exact#[#[∅, ∅,big ∅],λa3 h3=> ?_];have BA:a1≠a3:=dz (by rw[bx yj];show aW) h3;have s3: ∀o,Sm M (um (um (um M a1 (.lst [W.v (V.int 1)])) a2 (.lst [W.v (V.int 0)])) a3 o):=λo=>((bL h1).trans (bL h2)).trans (bL h3);dsimp? [bx BA,bx yj,xH hn.1];exact#[big (by simp;lia),λa h4=> ?_];dsimp? [];exact#[#[∅, ∅],?_];exact cM (λi ρ M'=>za λ(a:Fm) (o5 o6 o7 o8 o9:BP W)=>c6 (ρ= [some (wi p),some (wi f),some (wi l),some (wi n),some (wr a),o5,o6,o7,o8,o9]) (M a=none) (Sm M M') (M' a=some (.lst ((cc (mw p 0 1 f.toNat i) n).map wi)))) #[a,none,none,none,none,none,rfl,(s3 _).free h4,(s3 _).trans (bL h4),by rw[aW,jU]] (λ_ _ _ _ _=>trivial) ?_ ?_;rintro i x ρ M' hx ⟨a,o5,o6,o7,o8,o9,rfl,fa,sM,hM⟩ N hN;let⟨hi,rfl⟩:=bW hx;dsimp? [];intro b1 g1;exact#[#[∅, ∅,big ∅],λg hg=> ?_];have sg: ∀o,Sm M' (um (um M' b1 (.lst [W.v (V.int 0)])) g o):=λo=>(bL g1).trans (bL hg);have fg:M g=none:=sM.free ((bL g1).free hg);have yi:a≠g:=dz hM ((bL g1).free hg);exact kM ?_;rw[xI hn.1];dsimp? [Int.zero_add];exact sr #[∅, ∅, ∅, ∅] #[∅, ∅, ∅, ∅] λlo lX=> ?_;have DC:0<=lo /\ lo<=1:=by rw[lX];split<;>lia
 let⟨c,hc⟩: ∃c,c=mw p 0 1 f.toNat i:=#[_,rfl]
 have cn: ∀t,t<0 ->c t=0:=λt ht=>by rw[hc];show mq ⋯ ⋯ ⋯ ⋯ ht
 rw[<- hc] at hM;exact cM (λj ρ M2=>dr λ(o7 o8 o9:BP W)=>c6 (ρ= [some (wi p),some (wi f),some (wi l),some (wi n),some (wr a),some (wi i),some (wr g),o7,o8,o9]) (Sm M M2) (M2 a=some (.lst ((cc c n).map wi))) (M2 g=some (.lst ((cc (λt=>bU (λx=>c (t - e7 p x)) lo j) n).map wi)))) #[o7,o8,o9,rfl,sM.trans (sg _),by rw[bx yi];show bL g1 _ _ hM,aW] (λ_ _ _ _ _=>trivial) ?_ ?_;rintro j x ρ M2 hx ⟨o7,o8,o9,rfl,s2,yU,sB⟩ N2 sC;let⟨hj,rfl⟩:=bW hx;dsimp? [];exact#[p,lo+j,rfl, ∅, ∅,?_];let⟨z,hz⟩: ∃z,z=e7 p (lo+j):=#[_,rfl]
 have z0:0<=z:=by rw[hz];show h_ ∅ ∅
 have z1:z<=p:=by rw[hz];show oC ∅ ∅
 rw[<- hz];dsimp? [];exact#[#[∅, ∅, ∅, ∅],?_];exact cM (λk ρ M3=> ∃o9,c6 (ρ= [some (wi p),some (wi f),some (wi l),some (wi n),some (wr a),some (wi i),some (wr g),some (wi (lo+j)),some (wi z),o9]) (Sm M M3) (M3 a=some (.lst ((cc c n).map wi))) (M3 g=some (.lst ((cc (λt=>bU (λx=>c (t - e7 p x)) lo j+if z<=t /\ t<z+k then c (t - z) else 0) n).map wi)))) #[o9,rfl,s2,yU,?_] (λ_ _ _ _ _=>trivial) ?_ ?_;rw[sB,b9 λt _ _=> ?_];rw[ai ∅,Int.add_zero];rintro k x ρ M3 hx ⟨o9,rfl,s3,qK,fo⟩ N3 fW;let⟨hk,rfl⟩:=bW hx;have i1:=λc=>dF (c:=c) (n:=n) (t:=z+k) ∅ ∅;have i2:=λc=>dF (c:=c) (n:=n) (t:=z+k - z) ∅ ∅;have i3:=λc=>li (c:=c) (n:=n) (t:=z+k) ∅ ∅;have i4:=λc v=>jd (c:=c) (n:=n) (t:=z+k) (v:=v) ∅;dsimp? [qK,fo,i1,i2,i3,i4];exact fW _ _ #[_,rfl,s3.um fg,by rw[bx yi];show qK,?_];rw[aW,b9 λt _ _=> ?_];by_cases e:t=z+k;rw[aj e,ai ∅,aj ∅,e];lia;rw[ai e];by_cases e2:z<=t /\ t<z+k;rw[aj e2,aj ∅];rw[ai e2,ai ∅];rintro ρ M3 ⟨o9,rfl,s3,qK,fo⟩;rw[bt] at fo;exact sC _ _ #[_,_,_,rfl,s3,qK,?_];rw[fo,b9 λt _ _=> ?_];rw[bU, <- hz];by_cases e:z<=t;rw[aj ∅];rw[ai ∅,cn _ ∅];rintro ρ M2 ⟨o7,o8,o9,rfl,s2,yU,sB⟩;rw[bt] at sB;dsimp? [];exact hN _ _ #[g,_,_,_,_,_,rfl,fg,s2,?_];rw[sB,jV, <- hc,show(if i<f.toNat then(0:Int) else 1)=lo by rw[lX];by_cases e:(i:Int) <f<;>simp[e] <;>lia];rfl;rintro ρ M' ⟨a,o5,o6,o7,o8,o9,rfl,fa,sM,hM⟩;dsimp? [];rw[show(b_ 0 (f+l).toNat).length=(f+l).toNat by simp[b_],qa hf.1 hl.1] at hM;show pX (k a _ fa sM hM)
def gj {K:Fp}(T:kf K mg A):cz P w K mg base eI 1 A.eA A.eC ["_law_p_here","_law_free","_law_tips","_law_cost"] (j9 K mO):=by
 exists T.fU.fn,["_law_p_here","_law_free","_law_tips","_law_cost","_law_row","_law_k","_law_longer","_law_have","_law_setting","_law_more"],(aA (bm (i:=4) nd rfl (by trivial) (aT kx (c9 (ag au aw)) (aT il (c9 (ag au aw)) (pv 3)))) (aA (ce aV rfl (cN (by rfl) T.cb (ag (aT bA (pv 1) (pv 2)) aw)) (bF (i:=5) nd rfl (by trivial)) (aA (bm (i:=6) nd rfl (by trivial) (aT il (c9 (ag au aw)) (aT bA (pv 3) au))) (aA (ce aV rfl (cN (by rfl) T.cb (ag (aT bA (pv 3) au) aw)) (bF (i:=7) nd rfl (by trivial)) (aN (ce aV rfl (cG (by rfl) T.cb (ag (cx dc (by rfl) T.gV Boot.«int» (ag (dG fL (pv 5) (pv 2) (cf _)) aw)) (ag (pv 0) aw))) (bF (i:=8) nd rfl (by trivial)) (aA (bm (i:=9) nd rfl (by trivial) (aT bA (pv 7) (bJ (dj rfl) (by rfl) T.mz Boot.«min» (ag (pv 8) (ag (aT cK (pv 0) (pv 8)) aw))))) (aN (d9 (cH x_ (pv 9) (pv 3) (cf _)) (aN (dS (aT bA (b7 bK (pv 6) (pv 9) (λ_ _=>rfl)) (b7 bK (pv 4) (pv 7) (λ_ _=>rfl))) (dU (pv 6) (pv 9) cI))) cX)))))) (aN (bm (i:=4) nd rfl (by trivial) (pv 6)))))) (aN (ca (b7 bK (pv 4) (pv 3) (λ_ _=>rfl))))))
 rintro vs M q ⟨p,f,l,n,rfl,hp,hf,hl,hn,k⟩;dsimp? [];intro a1 h1 a2 h2;have yj:a1≠a2:=dz aW h2;exact#[#[∅, ∅,big ∅],λa3 h3=> ?_];have BA:a1≠a3:=dz (by rw[bx yj];show aW) h3;have s3: ∀o,Sm M (um (um (um M a1 (.lst [W.v (V.int 1)])) a2 (.lst [W.v (V.int 0)])) a3 o):=λo=>((bL h1).trans (bL h2)).trans (bL h3);dsimp? [bx BA,bx yj,xH hn.1];exact#[big (by simp;lia),λa h4=> ?_];dsimp? [];exact#[#[∅, ∅],?_];exact cM (λi ρ M'=>za λ(a:Fm) (o5 o6 o7 o8 o9:BP W)=>c6 (ρ= [some (wi p),some (wi f),some (wi l),some (wi n),some (wr a),o5,o6,o7,o8,o9]) (M a=none) (Sm M M') (M' a=some (.lst ((cc (mw p 1 0 l.toNat i) n).map wi)))) #[a,none,none,none,none,none,rfl,(s3 _).free h4,(s3 _).trans (bL h4),by rw[aW,jU]] (λ_ _ _ _ _=>trivial) ?_ ?_;rintro i x ρ M' hx ⟨a,o5,o6,o7,o8,o9,rfl,fa,sM,hM⟩ N hN;let⟨hi,rfl⟩:=bW hx;dsimp? [];intro b1 g1;exact#[#[∅, ∅,big ∅],λg hg=> ?_];have sg: ∀o,Sm M' (um (um M' b1 (.lst [W.v (V.int 0)])) g o):=λo=>(bL g1).trans (bL hg);have fg:M g=none:=sM.free ((bL g1).free hg);have yi:a≠g:=dz hM ((bL g1).free hg);exact kM ?_;rw[xI hn.1];dsimp? [Int.zero_add];exact#[#[∅, ∅],?_];let⟨c,hc⟩: ∃c,c=mw p 1 0 l.toNat i:=#[_,rfl]
 have cn: ∀t,t<0 ->c t=0:=λt ht=>by rw[hc];show mq ⋯ ⋯ ⋯ ⋯ ht
 rw[<- hc] at hM;let⟨lo,lX⟩: ∃lo:Int,(if decide ((i:Int) <l)=true then(1:Int) else 0)=lo:=#[_,rfl]
 have DC:0<=lo /\ lo<=1:=by rw[<- lX];split<;>lia
 exact cM (λh ρ M2=>dr λ(o7 o8 o9:BP W)=>c6 (ρ= [some (wi p),some (wi f),some (wi l),some (wi n),some (wr a),some (wi i),some (wr g),o7,o8,o9]) (Sm M M2) (M2 a=some (.lst ((cc c n).map wi))) (M2 g=some (.lst ((cc (wJ p lo c h) n).map wi)))) #[o7,o8,o9,rfl,sM.trans (sg _),by rw[bx yi];show bL g1 _ _ hM,aW] (λ_ _ _ _ _=>trivial) ?_ ?_;rintro h x ρ M2 hx ⟨o7,o8,o9,rfl,s2,yU,sB⟩ N2 sC;let⟨hh,rfl⟩:=bW hx;dsimp? [lX,Int.zero_add,hG];exact#[#[∅, ∅, ∅, ∅],?_];exact cM (λj ρ M3=>bH λ(o8 o9:BP W)=>c6 (ρ= [some (wi p),some (wi f),some (wi l),some (wi n),some (wr a),some (wi i),some (wr g),some (wi h),o8,o9]) (Sm M M3) (M3 a=some (.lst ((cc c n).map wi))) (M3 g=some (.lst ((cc (λt=>wJ p lo c h t+bU (λx=>if(h:Int)=t - e7 p x then c h else 0) lo j) n).map wi)))) #[o8,o9,rfl,s2,yU,?_] (λ_ _ _ _ _=>trivial) ?_ ?_;rw[sB,b9 λt _ _=> ?_];rw[bU,Int.add_zero];rintro j x ρ M3 hx ⟨o8,o9,rfl,s3,qK,fo⟩ N3 fW;let⟨hj,rfl⟩:=bW hx;let⟨z,hz⟩: ∃z,z=e7 p (lo+j):=#[_,rfl]
 have z0:0<=z:=by rw[hz];show h_ ∅ ∅
 have z1:z<=p:=by rw[hz];show oC ∅ ∅
 have hm:(if p - (lo+(j:Int)) <lo+j then p - (lo+j) else lo+j)=z:=hz.symm;dsimp? [hm];exact da (λCe=> ?_) λCe=> ?_;have i1:=λc=>dF (c:=c) (n:=n) (t:=(h:Int)+z) ∅ ∅;have i2:=λc=>dF (c:=c) (n:=n) (t:=(h:Int)) ∅ ∅;have i3:=λc=>li (c:=c) (n:=n) (t:=(h:Int)+z) ∅ ∅;have i4:=λc v=>jd (c:=c) (n:=n) (t:=(h:Int)+z) (v:=v) ∅;dsimp? [qK,fo,i1,i2,i3,i4];exact fW _ _ #[_,_,rfl,s3.um fg,by rw[bx yi];show qK,?_];rw[aW,b9 λt _ _=> ?_];rw[bU, <- hz];by_cases e:t=(h:Int)+z;rw[aj e,aj ∅,e];lia;rw[ai e,ai ∅];lia;exact fW _ _ #[_,_,rfl,s3,qK,?_];rw[fo,b9 λt _ _=> ?_];rw[bU, <- hz,ai (c:=(h:Int)=t - z) ∅,Int.add_zero];rintro ρ M3 ⟨o8,o9,rfl,s3,qK,fo⟩;rw[bt] at fo;exact sC _ _ #[_,_,_,rfl,s3,qK,?_];rw[fo,b9 λt _ _=> ?_];change wJ p lo c h t+_=wJ p lo c h t+bU (λx=>if(0:Int)+h=t - e7 p x then c (0+h) else 0) lo (p - lo).toNat;rw[Int.zero_add];rintro ρ M2 ⟨o7,o8,o9,rfl,s2,yU,sB⟩;rw[bt,b9 λt _ ht=>rX DC.1 cn hn.1 ht] at sB;dsimp? [];exact hN _ _ #[g,_,_,_,_,_,rfl,fg,s2,?_];rw[sB,jV, <- hc,show(if i<l.toNat then(1:Int) else 0)=lo by rw[<- lX];by_cases e:(i:Int) <l<;>simp[e] <;>lia];rintro ρ M' ⟨a,o5,o6,o7,o8,o9,rfl,fa,sM,hM⟩;rw[bt,sH hf.1 hl.1] at hM;have i1:=dF (c:=ke p f l) (n:=n) (t:=n) ∅ ∅;dsimp? [hM,i1];show#[M,sM,k]
def fM {K:Fp}(T:kf K mg A):cz P w K mg base eI 3 A.gH A.gL ["p","n"] (j9 K xV):=by
 exists T.many_at.fn,["p","n","known","many","low","high","end","left","lit","free"],(aA (bm (i:=2) nd rfl (by trivial) rH) (aA (bm (i:=3) nd rfl (by trivial) au) (aA (ce aV rfl (cG (by rfl) T.cb (ag (jl fB (pv 1)) (ag au aw))) (bF (i:=4) nd rfl (by trivial)) (aN (ce aV rfl (cN (by rfl) T.cb (ag (aT bA (aT bA (pv 1) (pv 4)) au) aw)) (bF (i:=5) nd rfl (by trivial)) (aN (ce aV rfl (cG (by rfl) T.cb (ag (pv 4) (ag (aT bA (pv 5) au) aw))) (bF (i:=6) nd rfl (by trivial)) (aA (bm (i:=7) nd rfl (by trivial) (aT cK (pv 1) (bz T.way (vn T) hr (ag (pv 4) (ag (pv 5) (ag (pv 6) aw)))))) (aA (d9 (cH fL (pv 7) au (cf _)) (aN jk) cX) (aA (bm (i:=8) nd rfl (by trivial) (aT bA (cx dc (by rfl) T.gV Boot.«int» (ag (dG fL (pv 4) (bJ (dj rfl) (by rfl) T.mz Boot.«min» (ag au (ag (pv 6) aw))) (cf _)) aw)) (cx dc (by rfl) T.gV Boot.«int» (ag (dG oS (pv 5) (bJ (f7 rfl) (by rfl) T.uJ Boot.«max» (ag au (ag (pv 6) aw))) (cf _)) aw)))) (aA (bm (i:=9) nd rfl (by trivial) (aT cK (aT bA (aT cK (pv 5) (pv 4)) au) (pv 8))) (aA (d9 (oB (gx (eU hr) (bS (ag (pv 9) (ag (pv 8) aw))) (pv 2))) (aN (lr (eU hr) (pv 2) (bS (ag (pv 9) (ag (pv 8) aw))) (bz T.spread (mP T) hr (ag (pv 0) (ag (pv 9) (ag (pv 8) (ag (pv 1) aw))))) rfl)) cX) (aN (va (i:=3) nd rfl (Or.inl rfl) (b7 bK (rJ (eU hr) (pv 2) (bS (ag (pv 9) (ag (pv 8) aw))) (λ_ _=>rfl)) (pv 7) (λ_ _=>rfl)) pG)))))))))))) (aN (ca (pv 3))))))
 rintro vs M q ⟨p,n,rfl,hp,hn,k⟩;dsimp? [qU];intro kd fk;dsimp? [];exact#[#[∅, ∅, ∅, ∅],?_];exact cM (λi ρ M1=>Ej λ(ks:yr ((Int×Int)×Fm)) (o4 o5 o6 o7 o8 o9:BP W)=>dB (ρ= [some (wi p),some (wi n),some (wr kd),some (wi (bU (λlow=>bU (λhigh=>bU (λe=>c8 p n low high e) low (high+1 - low).toNat) 0 (n+low+1).toNat) (-n) i)),o4,o5,o6,o7,o8,o9]) (Sm M M1) (M1 kd=some (knd ks)) (ks.length<=i*10000) (qi p n M1 ks)) #[[],none,none,none,none,none,none,rfl,bL fk,aW,Nat.zero_le _,λ_ h=>nomatch h] (λ_ _ _ _ _=>trivial) ?_ ?_;rintro i x ρ M1 hx ⟨ks,o4,o5,o6,o7,o8,o9,rfl,s1,DU,Fb,DP⟩ N1 yV;let⟨hi,rfl⟩:=bW hx;let⟨low,yJ⟩: ∃low,low= -n+(i:Int):=#[_,rfl]
 let⟨v1,yA⟩: ∃v,v=bU (λlow=>bU (λhigh=>bU (λe=>c8 p n low high e) low (high+1 - low).toNat) 0 (n+low+1).toNat) (-n) i:=#[_,rfl]
 rw[<- yJ, <- yA];dsimp? [];exact#[#[∅, ∅],?_];exact cM (λj ρ M2=>za λ(ks:yr ((Int×Int)×Fm)) (o5 o6 o7 o8 o9:BP W)=>dB (ρ= [some (wi p),some (wi n),some (wr kd),some (wi (v1+bU (λhigh=>bU (λe=>c8 p n low high e) low (high+1 - low).toNat) 0 j)),some (wi low),o5,o6,o7,o8,o9]) (Sm M M2) (M2 kd=some (knd ks)) (ks.length<=i*10000+j*100) (qi p n M2 ks)) #[ks,o5,o6,o7,o8,o9,by rw[bU,Int.add_zero],s1,DU, ∅,DP] (λ_ _ _ _ _=>trivial) ?_ ?_;rintro j x ρ M2 hx ⟨ks,o5,o6,o7,o8,o9,rfl,s2,Cn,Ap,BY⟩ N2 sC;let⟨hj,rfl⟩:=bW hx;let⟨high,uv⟩: ∃high,high=0+(j:Int):=#[_,rfl]
 let⟨v2,yz⟩: ∃v,v=v1+bU (λhigh=>bU (λe=>c8 p n low high e) low (high+1 - low).toNat) 0 j:=#[_,rfl]
 rw[<- uv, <- yz];dsimp? [];exact#[#[∅, ∅, ∅, ∅],?_];exact cM (λk ρ M3=>wT λ(ks:yr ((Int×Int)×Fm)) (o6 o7 o8 o9:BP W)=>dB (ρ= [some (wi p),some (wi n),some (wr kd),some (wi (v2+bU (λe=>c8 p n low high e) low k)),some (wi low),some (wi high),o6,o7,o8,o9]) (Sm M M3) (M3 kd=some (knd ks)) (ks.length<=i*10000+j*100+k) (qi p n M3 ks)) #[ks,o6,o7,o8,o9,by rw[bU,Int.add_zero],s2,Cn, ∅,BY] (λ_ _ _ _ _=>trivial) ?_ ?_;rintro k x ρ M3 hx ⟨ks,o6,o7,o8,o9,rfl,s3,yO,ut,yG⟩ N3 fW;let⟨hk,rfl⟩:=bW hx;let⟨e,he⟩: ∃e,e=low+(k:Int):=#[_,rfl]
 let⟨v3,yy⟩: ∃v,v=v2+bU (λe=>c8 p n low high e) low k:=#[_,rfl]
 rw[<- he, <- yy];have nx: ∀ks o6 o7 o8 o9 M4,Sm M M4 ->M4 kd=some (knd ks) ->ks.length<=i*10000+j*100+(k+1) ->qi p n M4 ks ->N3 [some (wi p),some (wi n),some (wr kd),some (wi (v3+c8 p n low high e)),some (wi low),some (wi high),o6,o7,o8,o9] M4:=λks o6 o7 o8 o9 M4 a b c d=>fW _ _ #[ks,o6,o7,o8,o9,by rw[bU, <- he,yy,Int.add_assoc],a,b,c,d];dsimp? [];exact#[low,high,e,rfl,?_];let⟨lf,wM⟩: ∃lf,n - (2*(high - low) - iL e)=lf:=#[_,rfl]
 dsimp? [wM];exact da (λh=> ?_) λh=> ?_;have:=kZ (p:=p) (by change iu n low high e<0;unfold iu;rw[wM];show h);have z:=nx ks (some (wi e)) (some (wi lf)) o8 o9 M3 s3 yO ∅ yG;rw[this,Int.add_zero] at z;show z;obtain ⟨lit,pM⟩: ∃lit,(if decide (low<if e<0 then e else 0)=true then(1:Int) else 0)+(if decide ((if e >0 then e else 0) <high)=true then 1 else 0)=lit:=#[_,rfl]
 have jC:iq low high e=lit:=pM;have DB:0<=lit /\ lit<=2:=by rw[<- jC];show fj
 have ab:=mD (low:=low) (high:=high) (e:=e) ∅ ∅ ∅ ∅;let⟨fr,DX⟩: ∃fr,high - low+1 - lit=fr:=#[_,rfl]
 have yN:M3 kd=some (.dN (ks.map λz=>(fJ z.1,wr z.2))):=yO;dsimp? [hG,pM,DX,gq,dZ,yN];exact#[fJ (fr,lit),lw.symm,ij,?_];apply vI (λb:Mp×yr ((Int×Int)×Fm)×Fm=> [some (wi p),some (wi n),some (wr kd),some (wi v3),some (wi low),some (wi high),some (wi e),some (wi lf),some (wi lit),some (wi fr)]) (λb=>b.1) (λb=>gW (Sm M b.1) (b.1 kd=some (knd b.2.1)) (b.2.1.length<=i*10000+j*100+(k+1)) (qi p n b.1 b.2.1) (((fr,lit),b.2.2)∈b.2.1) (cq (b.2.1.map λz=>(fJ z.1,wr z.2)) (fJ (fr,lit))=some (wr b.2.2)));intro go;rcases iV (h:=wr) (λ_ _=>lu) (fr,lit) ks with⟨Ca,GQ⟩ | ⟨⟨z,a⟩,hz,ez,hv⟩
 simp? [↓fI,Ca,Option.isSome_none,ja];exact#[p,fr,lit,n,rfl,hp,#[∅, ∅],#[∅, ∅],#[∅, ∅],λa M4 fa s4 ha=> ?_];have vP:=s4 _ _ yN;simp? [↓fI,dZ,vP];exact#[fJ (fr,lit),lw.symm,ij,sK (by rw[av];lia),?_];rw[r8 Ca];have EN:a≠kd:=λx=>by rw[x] at ha;rw[ha] at vP;cases vP
 exact go (um M4 kd (knd (ks++ [((fr,lit),a)])),ks++ [((fr,lit),a)],a) #[(s3.trans s4).um fk,aW,by simp;lia,λz hz=> ?_,by simp,?_];obtain hz | hz:=bh.mp hz;show(yG.mv s4).um (ls:=ks) vP z hz;rw[bu] at hz;subst hz;change um M4 kd _ a=_;rw[bx EN];show ha;rw[List.map_append];show n6 Ca;simp? [↓fI,hv,Option.isSome_some];cases ez;show go (M3,ks,a) #[s3,yO, ∅,yG,hz,hv];rintro⟨M4,DD,a⟩ ⟨s4,vP,Fa,Al,uu,hv⟩;have Cm:M4 kd=some (.dN (DD.map λz=>(fJ z.1,wr z.2))):=vP;dsimp? [qV,dZ,Cm];exact#[fJ (fr,lit),lw.symm,ij,?_];have BW:M4 a=some (.lst ((cc (ke p fr lit) n).map wi)):=Al _ uu;have i1:=dF (c:=ke p fr lit) (n:=n) (t:=lf) ∅ ∅;dsimp? [hv,BW,i1];have z:=nx DD (some (wi e)) (some (wi lf)) (some (wi lit)) (some (wi fr)) M4 s4 vP Fa Al;unfold c8 iu at z;rw[jC,wM,DX] at z;show z;rintro ρ M3 ⟨ks,o6,o7,o8,o9,rfl,s3,yO,ut,yG⟩;rw[bt] at ut;rw[bt];show sC _ _ #[ks,_,_,_,_,_,by rw[bU, <- uv,yz,Int.add_assoc],s3,yO, ∅,yG];rintro ρ M2 ⟨ks,o5,o6,o7,o8,o9,rfl,s2,Cn,Ap,BY⟩;rw[bt] at Ap;rw[bt];show yV _ _ #[ks,_,_,_,_,_,_,by rw[bU, <- yJ,yA],s2,Cn, ∅,BY];rintro ρ M1 ⟨ks,o4,o5,o6,o7,o8,o9,rfl,s1,DU,Fb,DP⟩;rw[bt];dsimp? [];exact#[M,s1,?_];unfold fQ at k;rw[show(1 - -n).toNat=(n+1).toNat by lia];show k
def kA {K:Fp}(T:kf K mg A):cz P w K mg base eI 2 A.gJ A.gN ["_law_p_here","_law_n"] (j9 K vi):=by
 exists T.lO.fn,["_law_p_here","_law_n","_law_total","_law_down","_law_wide","_law_end","_law_left","_law_tips"],(aA (bm (i:=2) nd rfl (by trivial) au) (aA (ce aV rfl (cN (by rfl) T.cb (ag (aT bA (pv 1) au) aw)) (bF (i:=3) nd rfl (by trivial)) (aN (ce aV rfl (cG (by rfl) T.cb (ag (pv 3) (ag (aT bA (pv 1) au) aw))) (bF (i:=4) nd rfl (by trivial)) (aN (ce aV rfl (cG (by rfl) T.cb (ag (jl fB (pv 3)) (ag (aT bA (aT cK (pv 4) (pv 3)) au) aw))) (bF (i:=5) nd rfl (by trivial)) (aA (bm (i:=6) nd rfl (by trivial) (aT bA (aT cK (pv 1) (aT eO au (pv 4))) (bJ dI (by rfl) T.mB Boot.«abs» (ag (pv 5) aw)))) (aA (bm (i:=7) nd rfl (by trivial) (aT bA (cx dc (by rfl) T.gV Boot.«int» (ag (dG fL (jl fB (pv 3)) (bJ (dj rfl) (by rfl) T.mz Boot.«min» (ag au (ag (pv 5) aw))) (cf _)) aw)) (cx dc (by rfl) T.gV Boot.«int» (ag (dG oS (aT cK (pv 4) (pv 3)) (bJ (f7 rfl) (by rfl) T.uJ Boot.«max» (ag au (ag (pv 5) aw))) (cf _)) aw)))) (aN (d9 (cH oT (pv 6) (pv 7) (cf _)) (aN (bm (i:=2) nd rfl (by trivial) (aT bA (pv 2) (bz T.fU (gj T) hr (ag (pv 0) (ag (aT cK (aT bA (pv 4) au) (pv 7)) (ag (pv 7) (ag (pv 6) aw)))))))) cX))))))))) (aN (ca (pv 2)))))
 rintro vs M q ⟨p,n,rfl,hp,hn,k⟩;dsimp? [];exact#[#[∅, ∅],?_];exact cM (λi ρ M1=>wT λ(o3 o4 o5 o6 o7:BP W)=>ρ= [some (wi p),some (wi n),some (wi (bU (λdown=>bU (λdt=>bU (λe=>c8 p n (-down) (dt - down) e) (-down) (dt+1).toNat) down (n+1 - down).toNat) 0 i)),o3,o4,o5,o6,o7] /\ M1=M) #[none,none,none,none,none,rfl,rfl] (λ_ _ _ _ _=>trivial) ?_ ?_;rintro i x ρ M1 hx ⟨o3,o4,o5,o6,o7,rfl,rfl⟩ N1 yV;let⟨hi,rfl⟩:=bW hx;let⟨dn,DY⟩: ∃dn,dn=0+(i:Int):=#[_,rfl]
 let⟨v1,yA⟩: ∃v,v=bU (λdown=>bU (λdt=>bU (λe=>c8 p n (-down) (dt - down) e) (-down) (dt+1).toNat) down (n+1 - down).toNat) 0 i:=#[_,rfl]
 rw[<- DY, <- yA];dsimp? [];exact#[#[∅, ∅, ∅, ∅],?_];exact cM (λj ρ M2=>d5 λ(o4 o5 o6 o7:BP W)=>ρ= [some (wi p),some (wi n),some (wi (v1+bU (λdt=>bU (λe=>c8 p n (-dn) (dt - dn) e) (-dn) (dt+1).toNat) dn j)),some (wi dn),o4,o5,o6,o7] /\ M2=M1) #[o4,o5,o6,o7,by rw[bU,Int.add_zero],rfl] (λ_ _ _ _ _=>trivial) ?_ ?_;rintro j x ρ M2 hx ⟨o4,o5,o6,o7,rfl,rfl⟩ N2 sC;let⟨hj,rfl⟩:=bW hx;let⟨wd,DL⟩: ∃wd,wd=dn+(j:Int):=#[_,rfl]
 let⟨v2,yz⟩: ∃v,v=v1+bU (λdt=>bU (λe=>c8 p n (-dn) (dt - dn) e) (-dn) (dt+1).toNat) dn j:=#[_,rfl]
 rw[<- DL, <- yz];dsimp? [];exact#[#[∅, ∅, ∅, ∅],?_];exact cM (λk ρ M3=>dr λ(o5 o6 o7:BP W)=>ρ= [some (wi p),some (wi n),some (wi (v2+bU (λe=>c8 p n (-dn) (wd - dn) e) (-dn) k)),some (wi dn),some (wi wd),o5,o6,o7] /\ M3=M2) #[o5,o6,o7,by rw[bU,Int.add_zero],rfl] (λ_ _ _ _ _=>trivial) ?_ ?_;rintro m x ρ M3 hx ⟨o5,o6,o7,rfl,rfl⟩ N3 fW;let⟨hk,rfl⟩:=bW hx;let⟨e,he⟩: ∃e,e= -dn+(m:Int):=#[_,rfl]
 let⟨v3,yy⟩: ∃v,v=v2+bU (λe=>c8 p n (-dn) (wd - dn) e) (-dn) m:=#[_,rfl]
 rw[<- he, <- yy];have nx: ∀o5 o6 o7,N3 [some (wi p),some (wi n),some (wi (v3+c8 p n (-dn) (wd - dn) e)),some (wi dn),some (wi wd),o5,o6,o7] M3:=λo5 o6 o7=>fW _ _ #[o5,o6,o7,by rw[bU, <- he,yy,Int.add_assoc],rfl];have cm: ∀x,eF 2 x=True:=λx=>by simp[eF]
 have ab:=mD (low:= -dn) (high:=wd - dn) (e:=e) ∅ ∅ ∅ ∅;let⟨ae,D6⟩: ∃ae,(if e<0 then -e else e)=ae:=#[_,rfl]
 have CB:iL e=ae:=D6;let⟨lf,wM⟩: ∃lf,n - 2*wd+ae=lf:=#[_,rfl]
 let⟨lit,pM⟩: ∃lit,(if decide (-dn<if e<0 then e else 0)=true then(1:Int) else 0)+(if decide ((if e >0 then e else 0) <wd - dn)=true then 1 else 0)=lit:=#[_,rfl]
 have jC:iq (-dn) (wd - dn) e=lit:=pM;have DB:0<=lit /\ lit<=2:=by rw[<- jC];show fj
 have tv:c8 p n (-dn) (wd - dn) e=ke p (wd+1 - lit) lit lf:=by unfold c8 iu;rw[jC,CB, <- wM];congr 1<;>lia
 rw[tv] at nx;dsimp? [cm,D6,wM,hG,pM];exact da (λh=> ?_) λh=> ?_;dsimp? [];exact#[p,wd+1 - lit,lit,lf,rfl,hp,#[∅, ∅],#[∅, ∅],#[∅, ∅],?_];dsimp? [];show nx _ _ _;have z:=nx (some (wi e)) (some (wi lf)) (some (wi lit));rw[mn DB.1 ∅,Int.add_zero] at z;show z;rintro ρ M3 ⟨o5,o6,o7,rfl,rfl⟩;rw[bt];show sC _ _ #[_,_,_,_,by rw[bU, <- DL,yz,Int.add_assoc,show(wd - dn+1 - -dn).toNat=(wd+1).toNat by lia],rfl];rintro ρ M2 ⟨o4,o5,o6,o7,rfl,rfl⟩;rw[bt];show yV _ _ #[_,_,_,_,_,by rw[bU, <- DY,yA],rfl];rintro ρ M1 ⟨o3,o4,o5,o6,o7,rfl,rfl⟩;rw[bt];dsimp? [];show pX k
def kz {K:Fp}(T:kf K mg A):cz P w K mg base eI 4 A.gI A.gM ["_law_p_here","_law_n"] (j9 K vh):=by
 exists T.lN.fn,["_law_p_here","_law_n","_law_seen","_law_layer_here","_law_k","_law_fresh","_law_one","_law_step","_law_there"],(aA (bm (i:=2) nd rfl (by trivial) (oG (eU hr) (bS (ag au (ag (bS aw) aw))) oK)) (aA (bm (i:=3) nd rfl (by trivial) (c9 (ag (bS (ag au (ag (bS aw) aw))) aw))) (aA (ce aV rfl (cN (by rfl) T.cb (ag (pv 1) aw)) (bF (i:=4) nd rfl (by trivial)) (aA (bm (i:=5) nd rfl (by trivial) (c9 aw)) (aA (ce aV rfl (fe (pv 3)) (bF (i:=6) nd rfl (by trivial)) (aN (ce aV rfl (fe (c9 (ag (bS (ag au (ag (bS aw) aw))) (ag (bS (ag (jl fB au) (ag (bS aw) aw))) (ag (bS (ag au (ag (bS (ag (bS (ag au (ag au aw))) aw)) aw))) (ag (bS (ag au (ag (bS (ag (bS (ag au (ag (aT cK (pv 0) au) aw))) aw)) aw))) aw)))))) (bF (i:=7) nd rfl (by trivial)) (aA (bm (i:=8) nd rfl (by trivial) (bz T.pq (mR T) hr (ag (pv 0) (ag (pv 6) (ag (pv 7) aw))))) (aN (d9 (oB (gx (eU hr) (pv 8) (pv 2))) (aA (lr (eU hr) (pv 2) (pv 8) oK rfl) (aN (rA (xR PySem.F.plainAttrs_list PySem.F.slot_list_append PySem.F.type_list_append gz (pv 5) (ag (pv 8) aw))))) cX)))))) (aN (bm (i:=3) nd rfl (by trivial) (pv 5)))))) (aN (ca (bJ gP (by rfl) T.uK Boot.«len» (ag (pv 3) aw)))))))
 rintro vs M q ⟨p,n,rfl,hp,hn,k⟩;dsimp? [n4,dZ];intro sd fs;dsimp? [dZ];exact#[fc (0,[]),by rw[oz];rfl,h8,?_];dsimp? [];intro ah fa;dsimp? [];exact#[#[∅, ∅],?_];exact cM (λi ρ M1=>za λ(ah:Fm) (o4 o5 o6 o7 o8:BP W)=>dB (ρ= [some (wi p),some (wi n),some (wr sd),some (wr ah),o4,o5,o6,o7,o8]) (Sm M M1) (M ah=none) (M1 sd=some (i7 (ly p i).1)) (M1 ah=some (.lst ((ly p i).2.map j_)))) #[ah,none,none,none,none,none,rfl,(bL fs).trans (bL fa),(bL fs).free fa,by rw[bx (dz aW fa),aW];rfl,aW] (λ_ _ _ _ _=>trivial) ?_ ?_;rintro i x ρ M1 hx ⟨ah,o4,o5,o6,o7,o8,rfl,s1,fh,yF,vR⟩ N1 yV;let⟨hi,rfl⟩:=bW hx;dsimp? [];intro af ff;have By:=dz vR ff;have Ac:=dz yF ff;have EL:sd≠ah:=λx=>by rw[x,vR] at yF;cases yF
 have fm:M af=none:=s1.free ff;have hb:=pd (p:=p) (k:=i);have h4:4 ^ i<=4 ^ 4:=Nat.pow_le_pow_right ⋯ ∅;have GY:4 ^ 4=256:=⋯
 dsimp? [bx By,vR];exact cM (λa ρ M2=>dr λ(o6 o7 o8:BP W)=>dB (ρ= [some (wi p),some (wi n),some (wr sd),some (wr ah),some (wi (0+(i:Int))),some (wr af),o6,o7,o8]) (Sm M M2) (M2 ah=some (.lst ((ly p i).2.map j_))) (M2 sd=some (i7 (nP p ((ly p i).2.take a) ((ly p i).1,[])).1)) (M2 af=some (.lst ((nP p ((ly p i).2.take a) ((ly p i).1,[])).2.map j_)))) #[o6,o7,o8,rfl,s1.um fm,by rw[bx By];show vR,by rw[bx Ac];show yF,aW] (λ_ _ _ _ h=>by let⟨_,_,_,_,_,h,_⟩:=h;show h) ?_ ?_;rintro a x ρ M2 hx ⟨o6,o7,o8,rfl,s2,Cq,sw,wO⟩ N2 sC;let⟨one,ho,rfl⟩:=oy hx;have la:a< (ly p i).2.length:=(aG.mp ho).1;have lo:=pc (List.mem_of_getElem? ho);let⟨st,Ak⟩: ∃st,st=nP p ((ly p i).2.take a) ((ly p i).1,[]):=#[_,rfl]
 have ls:=ip (p:=p) (here:=(ly p i).2.take a) (st:=((ly p i).1,[]));rw[<- Ak] at sw wO ls;simp![List.length_nil,List.length_take] at ls;dsimp? [];intro sl fl;have EM:=dz Cq fl;have EK:=dz sw fl;have Dw:=dz wO fl;dsimp? [];change nq ((dq p).map j_) _ _ _ _ _ _;exact cM (λj ρ M3=>bH λ(o7 o8:BP W)=>gW (ρ= [some (wi p),some (wi n),some (wr sd),some (wr ah),some (wi (0+(i:Int))),some (wr af),some (j_ one),o7,o8]) (Sm M M3) (M3 ah=some (.lst ((ly p i).2.map j_))) (M3 sl=some (.lst ((dq p).map j_))) (M3 sd=some (i7 (ka p one ((dq p).take j) st).1)) (M3 af=some (.lst ((ka p one ((dq p).take j) st).2.map j_)))) #[o7,o8,rfl,s2.trans (bL fl),by rw[bx EM];show Cq,aW,by rw[bx EK];show sw,by rw[bx Dw];show wO] (λ_ _ _ _ h=>by let⟨_,_,_,_,_,h,_⟩:=h;show h) ?_ ?_;rintro j x ρ M3 hx ⟨o7,o8,rfl,s3,Aq,ut,sv,vV⟩ N3 fW;let⟨s,hs,rfl⟩:=oy hx;have lj:j< (dq p).length:=(aG.mp hs).1;have l4:(dq p).length=4:=rfl;have sm:=i5 (List.mem_of_getElem? hs);dsimp? [];exact#[p,one,s,rfl, ∅,Av, ∅, ∅,λz hz=>by obtain e | e:=sm.2 z hz <;>lia,?_];let⟨r,hr⟩: ∃r,r=jn p one s:=#[_,rfl]
 have tk:=pe (p:=p) (one:=one) (st:=st) hs;let⟨sq,DO⟩: ∃sq,sq=ka p one ((dq p).take j) st:=#[_,rfl]
 have lq:=io (p:=p) (one:=one) (ss:=(dq p).take j) (st:=st);rw[<- hr, <- DO] at tk;rw[<- DO] at sv vV lq;rw[<- hr];simp![List.length_take] at lq;rw[tk] at fW;have yE:M3 sd=some (.dN (sq.1.map λr=>(fc r,wb true))):=sv;dsimp? [gq,dZ,yE];exact#[fc r,oz.symm,h8,?_];dsimp only;rw[fF.1];exact vJ (λh=> ?_) λh=> ?_;dsimp? [ja,dZ,yE];exact#[fc r,oz.symm,h8,sK (by rw[av];lia),?_];rw[om h];have Ac:sd≠af:=λx=>by rw[x,vV] at sv;cases sv
 dsimp? [bx (bq Ac),vV];exact#[sK (by rw[av];lia),?_];dsimp? [];have e:nO sq r=(sq.1++ [r],sq.2++ [r]):=ai h;rw[e] at fW;have Bv:sl≠sd:=λx=>by rw[x,sv] at ut;cases ut
 exact fW _ _ #[_,_,rfl,(s3.um fs).um fm,by rw[bx By,bx (bq EL)];show Aq,by rw[bx (bq Dw),bx Bv];show ut,by rw[bx Ac,aW],by rw[aW,List.map_append];rfl];have e:nO sq r=sq:=aj h;rw[e] at fW;show fW _ _ #[_,_,rfl,s3,Aq,ut,sv,vV];rintro ρ M3 ⟨o7,o8,rfl,s3,Aq,ut,sv,vV⟩;rw[av,List.take_length,Ak, <- pf ho] at sv vV;show sC _ _ #[_,_,_,rfl,s3,Aq,sv,vV];rintro ρ M2 ⟨o6,o7,o8,rfl,s2,Cq,sw,wO⟩;rw[av,List.take_length] at sw wO;dsimp? [];show yV _ _ #[af,_,_,_,_,_,rfl,s2,fm,sw,wO];rintro ρ M1 ⟨ah,o4,o5,o6,o7,o8,rfl,s1,fh,yF,vR⟩;rw[bt] at vR;dsimp? [vR,av];show#[M,s1,k]
def vo {K:Fp}(T:kf K mg A):cz P w K mg base eI 5 A.uz A.uF ["_law_script"] (i6 K):=by
 exact yc T.law.fn oo ⋯ λcdv A' outer s H E hr=> ?_;have nd:=oo.nd;exact#[_,(aA (bm (i:=1) nd rfl (by trivial) (bz T.lP (kB T) hr (ag (pv 0) aw))) (aA (bm (i:=2) nd rfl (by trivial) (bz T.DA (vp T) hr (ag (pv 1) aw))) (aA (bm (i:=3) nd rfl (by trivial) (bz T.ix (eP T) hr (ag (pv 1) (ag au aw)))) (aA (bm (i:=4) nd rfl (by trivial) (bz T.many_at (fM T) hr (ag (pv 2) (ag (pv 3) aw)))) (aA (d9 (xQ (u_ (u9 (bz T.pr (jp T) hr (ag (pv 4) aw)))) (u7 (cH xZ (pv 4) (bz T.lO (kA T) hr (ag (pv 2) (ag (pv 3) aw))) (cf _)))).pt (aN (ca oK)) cX) (aA (bm (i:=5) nd rfl (by trivial) (bz T.ix (eP T) hr (ag (pv 1) (ag au aw)))) (aA (bm (i:=4) nd rfl (by trivial) (bz T.many_at (fM T) hr (ag (pv 2) (ag (pv 5) aw)))) (aN (ca (oM (bz T.pr (jp T) hr (ag (pv 4) aw)) (oF (dG ya (pv 4) (bz T.lN (kz T) hr (ag (pv 2) (ag (pv 5) aw))) (cf _))))))))))))),?_];try dsimp only[fZ]
 exact#[_,inferInstance,?_];intro d l M hD;dsimp? [];exact#[d,l,rfl,hD,λp M1 hp D1 _=> ?_];have p7:1<=p /\ p<=7:= ∅;dsimp? [];exact#[d,l,13,rfl,D1,⋯,⋯,λn M2 n0 n1 D2 _=> ?_];dsimp? [];exact#[p,n,rfl,p7,#[n0, ∅],?_];dsimp? [];exact#[_,rfl,?_];dsimp? [];exact#[p,n,rfl,p7,#[n0, ∅],?_];rw[<- kH n0];have e: ∀x:Int,(x=x)=True:=λx=>eq_true rfl;dsimp? [e,decide_true,ne_eq,not_true,decide_false];exact#[d,l,5,rfl,D2,⋯,⋯,λm M3 m0 m1 D3 _=> ?_];dsimp? [];exact#[p,m,rfl,p7,#[m0, ∅],?_];dsimp? [];exact#[_,rfl,?_];dsimp? [];exact#[p,m,rfl,p7,#[m0, ∅],?_];rw[rT hp m0 ∅];dsimp? [decide_true]
end gp
namespace gp
open PySem L2 WL WQ PyProof.Rows
theorem walk {l:W.OpenLaw}{d:DefRec}{K:Params ->Fp}(hn:l.most=some 63)(yP:d.params.defaults= [])(hY: ∀ (w:World) (h:Heap),YP w h ->(K w.params).In h)(nm:d.name= "law")(F: ∀ (w:World) (mg:Str ->BP yt) (h:Heap),(K w.params).In h ->h.Ns mainGlobals mg -> ∃A,kf (K w.params) mg A): W.WalkO q gB XP YP l.row.toRowW d [] (λf vs=>PySem.call f vs):=L2.qT (n:=63) (k:=5) (x:= "_law_script") (CX:=λ_=>eI) (sp:=λw=>i6 (K w.params)) hn ⋯ yP #[rfl,⋯,⋯] hY (λw mg fa h X G e=>(F w mg h X G).elim λ_ T=>vD T.law (nm▸e) (λ_ _ _ _ _ _ _=>rfl) λ_=>vo T) (λ_ _ a ns hl _ hS=>#[a,ns,rfl,hS,λ_=>rfl]) λ_ _ _ _ _ z=>z
end gp
end
def PySem.W.Fast.tw6412339003921350077:Nat:=0
def PySem.W.Fast.tw14476606985411111967:Nat:=0
def PySem.W.Fast.tw9230184552033393084:Nat:=0
def PySem.W.Fast.tw8464070764597548766:Nat:=0
def PySem.W.Fast.tw16885327267389443612:Nat:=0
def PySem.W.Fast.tw4582570177889111397:Nat:=0
def PySem.W.Fast.tw3473842049593180293:Nat:=0
def PySem.W.Fast.tw2593467942928525219:Nat:=0
def PySem.W.Fast.tw9752230106670479507:Nat:=0
def PySem.W.Fast.tw5716230001187509614:Nat:=0
def PySem.W.Fast.tw5788686643650453249:Nat:=0
def PySem.W.Fast.tw564776596911630839:Nat:=0
def PySem.W.Fast.tw8773412437728165494:Nat:=0
def PySem.W.Fast.tw10238354385389338367:Nat:=0
def PySem.W.Fast.tw14908423780190910981:Nat:=0
def PySem.W.Fast.tw6960924695191415274:Nat:=0
def PySem.W.Fast.tw15484761219558013803:Nat:=0
def PySem.W.Fast.tw18415076189065843422:Nat:=0
def PySem.W.Fast.tw3664369062559183315:Nat:=0
def PySem.W.Fast.tw11182260643740827649:Nat:=0
def PySem.W.Fast.tw12674791184901693754:Nat:=0
def PySem.W.Fast.tw10730885350946675820:Nat:=0
def PySem.W.Fast.tw10347824381819315863:Nat:=0
def PySem.W.Fast.tw6400282878903889806:Nat:=0
def PySem.W.Fast.tw5584798926166890531:Nat:=0
def PySem.W.Fast.tw10884791477571757895:Nat:=0
def PySem.W.Fast.tw3901885842404267505:Nat:=0
def PySem.W.Fast.tw14676518667744855913:Nat:=0
open PySem PySem.W PyProof.Rows L2
set_option maxRecDepth 100000 in
set_option maxHeartbeats 0 in
theorem PySem.Challenge.cw_duskround_k14_rounds_of_each_cost_holds : PySem.Challenge.rw_duskround_k14_rounds_of_each_cost.Holds := by
 w_on;o_law;k_head;(case hw=>w_witness2)
 k_fill
 refine gp.walk (l:=PySem.Challenge.rw_duskround_k14_rounds_of_each_cost) rfl rfl (λw h Y=>PySem.W.kIn_of Y) rfl λw mg h X G=> ?_
 have' sS:=cu (x:= "price") (ps:= ["p","setting"]) (st:=gp.lg) X G ?g12 ?g13 ?g14 ?g15;(case g12 | g13 | g14 | g15=>k_is);have' zi:=cu (x:= "way") (ps:= ["low","high","end"]) (st:=gp.tU) X G ?g16 ?g17 ?g18 ?g19;(case g16 | g17 | g18 | g19=>k_is);have' qk:=cu (x:= "spread") (ps:= ["p","free","lit","most"]) (st:=gp.i8) X G ?g20 ?g21 ?g22 ?g23;(case g20 | g21 | g22 | g23=>k_is);have' nK:=cu (x:= "many_at") (ps:= ["p","n"]) (st:=gp.gu) X G ?g24 ?g25 ?g26 ?g27;(case g24 | g25 | g26 | g27=>k_is);have' nN:=cu (x:= "_law_begin") (ps:= ["_law_script"]) (st:=gp.eM) X G ?g28 ?g29 ?g30 ?g31;(case g28 | g29 | g30 | g31=>k_is);have' qp:=cu (x:= "_law_take") (ps:= ["_law_draw","_law_many"]) (st:=gp.i9) X G ?g32 ?g33 ?g34 ?g35;(case g32 | g33 | g34 | g35=>k_is);have' zk:=cu (x:= "_law_p") (ps:= ["_law_draw"]) (st:=gp.tV) X G ?g36 ?g37 ?g38 ?g39;(case g36 | g37 | g38 | g39=>k_is);have' qm:=cu (x:= "_law_tidy") (ps:= ["_law_p_here","_law_pairs"]) (st:=gp.fH) X G ?g40 ?g41 ?g42 ?g43;(case g40 | g41 | g42 | g43=>k_is);have' sT:=cu (x:= "_law_sum") (ps:= ["_law_p_here","_law_one","_law_other","_law_by","_law_many"]) (st:=gp.hW) X G ?g44 ?g45 ?g46 ?g47;(case g44 | g45 | g46 | g47=>k_is);have' qq:=cu (x:= "_law_join") (ps:= ["_law_p_here","_law_one","_law_other"]) (st:=gp.i_) X G ?g48 ?g49 ?g50 ?g51;(case g48 | g49 | g50 | g51=>k_is);have' sU:=cu (x:= "_law_int") (ps:= ["_law_thing"]) (st:=gp.lh) X G ?g52 ?g53 ?g54 ?g55;(case g52 | g53 | g54 | g55=>k_is);have' iM:=cu (x:= "_law_patterns") (ps:= ["_law_p_here","_law_free","_law_tips","_law_cost"]) (st:=gp.d7) X G ?g56 ?g57 ?g58 ?g59;(case g56 | g57 | g58 | g59=>k_is);have' nM:=cu (x:= "_law_count") (ps:= ["_law_p_here","_law_n"]) (st:=gp.gw) X G ?g60 ?g61 ?g62 ?g63;(case g60 | g61 | g62 | g63=>k_is);have' nL:=cu (x:= "_law_layer") (ps:= ["_law_p_here","_law_n"]) (st:=gp.gv) X G ?g64 ?g65 ?g66 ?g67;(case g64 | g65 | g66 | g67=>k_is);have' zj:=cu (x:= "law") (ps:= ["_law_script"]) (st:=gp.oq) X G ?g68 ?g69 ?g70 ?g71;(case g68 | g69 | g70 | g71=>k_is)
 refine' ⟨⟨_,_,_,_,_,_,_,_,_,_,_,_,_,_,_,_,_,_,_,_,_,_,_,_,_,_,_,_,_,_⟩,a6 X G ?g1,a6 X G ?g2,a6 X G ?g3,a6 X G ?g4,a6 X G ?g5,a6 X G ?g6,a6 X G ?g7,a6 X G ?g8,a6 X G ?g9,a6 X G ?g10,a6 X G ?g11,sS,zi,qk,nK,nN,qp,zk,qm,sT,qq,sU,iM,nM,nL,zj⟩
 (case g1 | g2 | g3 | g4 | g5 | g6 | g7 | g8 | g9 | g10 | g11=>k_is)
