import PyProof.Rows.All
import Wide.All
import OpenK.AllK
import Wide.FinOn
import Lean
import PyProof.EqAt
import PyProof.EqKinds
import PyProof.TupleCall
import PyProof.NeKinds
import PyProof.SumAny
import PyProof.ConsumeS
import PyProof.WalkInts
import PyProof.Draws
import PyProof.EnumMake
import PyProof.Rows.Range3
import PyProof.MeetsStr
import KE.KDictLaws
import PyProof.Rows.CallKwBuiltin
import PyProof.DictItems
import KE.KPairComp
import PyProof.AttrMissHeap
import KE.KDictOf
import KE.KItemsList
import KE.KTryMore
import PyProof.StrBlockG
import PyProof.StrWalks
import PyProof.Rows.SortStr
import PyProof.Rows.SortKeyStr
import PySem.Challenge.RW_duskround_k49_two_books_at_once
set_option linter.all false
set_option genSizeOf false
set_option genInjectivity false
abbrev cA:=@List
abbrev c5:=@PySem.Value
abbrev dq:=@PySem.Shared
abbrev eM:=@Option
abbrev fM:=@PySem.Addr
abbrev gz:=@PyProof.Rows.Keyed
abbrev gA:=@Array
abbrev Xu:=@PySem.W.Frag
abbrev Xv:=@PyProof.Rows.SortSt
def ag:=@List.length_map
def ak:=@if_neg
def am:=@if_pos
def aq:=@Nat.le_refl
def av:=@PySem.Heap.get?_push_of_some
def aw:=@Nat.le_trans
def ax:=@PySem.wpAny_bind
def ay:=@PyProof.Rows.wpS_bind
def az:=@eq_true
def aA:=@Bool.false_eq_true
def aB:=@List.map_append
def aC:=@List.getElem?_eq_getElem
def aD:=@List.length_append
def aE:=@decide_eq_false
def aG:=@PyProof.Rows.wpS_pure
def aI:=@List.size_toArray
def aK:=@Bool.not_true
def aL:=@List.getElem?_map
def aN:=@PySem.Heap.lt_size
def aO:=@PySem.F.plainAttrs_list
def aQ:=@List.length_cons
def aS:=@List.mem_cons
def aT:=@List.map_cons
def aV:=@List.mem_singleton
def aW:=@PySem.Heap.get?_push_size
def aX:=@List.mem_append_right
def aZ:=@Bool.not_false
def a5:=@PySem.wpAny_pure
def a8:=@List.mem_append
def a9:=@List.getElem?_append_right
def a_:=@List.mem_of_getElem?
def be:=@Nat.lt_of_lt_of_le
def bf:=@Bool.false_ne_true
def bh:=@decide_eq_true
def bi:=@List.map_map
def bp:=@Option.some.inj
def bq:=@List.getElem?_eq_some_iff
def br:=@List.getElem?_append_left
def bu:=@Nat.ne_of_lt
def bw:=@PySem.wpAny_mono
def bA:=@PySem.F.type_list_append
def bB:=@PySem.F.slot_list_append
def bC:=@if_false
def bF:=@List.take_append_drop
def bJ:=@Option.map_some
def bN:=@PySem.W.mg_none_of
def bQ:=@Array.toList_append
def bT:=@Option.isSome_map
def bU:=@List.pairwise_cons
def bV:=@if_true
def b8:=@decide_true
def cb:=@List.append_assoc
def cj:=@Option.isSome_some
def cq:=@PySem.wpAny_truthy_bool
def cx:=@PyProof.Rows.wpS_forRange
def cy:=@PySem.W.kia_one
def cz:=@List.length_take
def cL:=@List.find?_cons
def cP:=@Bool.and_eq_true
def cV:=@decide_eq_true_eq
def cX:=@Ne.symm
def cZ:=@Option.isSome_iff_exists
def c4:=@List.append_nil
def c_:=@Option.isSome_none
def dc:=@Nat.zero_le
def de:=@List.pairwise_append
def df:=@List.mem_cons_of_mem
def dg:=@List.getElem?_replicate
def dt:=@PySem.mem_of_lookup
def du:=@Array.length_toList
def dB:=@List.perm_append_comm
inductive cc {T0 T1:Type}(P:T0 ->T1 ->Prop):Prop | mk (x0:T0) (x1:T1) (h:P x0 x1):cc P
inductive eh {T0 T1 T2:Type}(P:T0 ->T1 ->T2 ->Prop):Prop | mk (x0:T0) (x1:T1) (x2:T2) (h:P x0 x1 x2):eh P
inductive fQ {T0 T1 T2 T3:Type}(P:T0 ->T1 ->T2 ->T3 ->Prop):Prop | mk (x0:T0) (x1:T1) (x2:T2) (x3:T3) (h:P x0 x1 x2 x3):fQ P
inductive tq {T0 T1 T2 T3 T4:Type}(P:T0 ->T1 ->T2 ->T3 ->T4 ->Prop):Prop | mk (x0:T0) (x1:T1) (x2:T2) (x3:T3) (x4:T4) (h:P x0 x1 x2 x3 x4):tq P
inductive U0 {T0 T1 T2 T3 T4 T5:Type}(P:T0 ->T1 ->T2 ->T3 ->T4 ->T5 ->Prop):Prop | mk (x0:T0) (x1:T1) (x2:T2) (x3:T3) (x4:T4) (x5:T5) (h:P x0 x1 x2 x3 x4 x5):U0 P
inductive _G {T0 T1 T2 T3 T4 T5 T6:Type}(P:T0 ->T1 ->T2 ->T3 ->T4 ->T5 ->T6 ->Prop):Prop | mk (x0:T0) (x1:T1) (x2:T2) (x3:T3) (x4:T4) (x5:T5) (x6:T6) (h:P x0 x1 x2 x3 x4 x5 x6):_G P
inductive XE8 {T0 T1 T2 T3 T4 T5 T6 T7:Type}(P:T0 ->T1 ->T2 ->T3 ->T4 ->T5 ->T6 ->T7 ->Prop):Prop | mk (x0:T0) (x1:T1) (x2:T2) (x3:T3) (x4:T4) (x5:T5) (x6:T6) (x7:T7) (h:P x0 x1 x2 x3 x4 x5 x6 x7):XE8 P
inductive cW (P0 P1 P2:Prop):Prop | mk (Yl:P0) (Yk:P1) (Yj:P2):cW P0 P1 P2
inductive fg (P0 P1 P2 P3:Prop):Prop | mk (Yl:P0) (Yk:P1) (Yj:P2) (_q:P3):fg P0 P1 P2 P3
inductive f_ (P0 P1 P2 P3 P4:Prop):Prop | mk (Yl:P0) (Yk:P1) (Yj:P2) (_q:P3) (hP4:P4):f_ P0 P1 P2 P3 P4
inductive k9 (P0 P1 P2 P3 P4 P5:Prop):Prop | mk (Yl:P0) (Yk:P1) (Yj:P2) (_q:P3) (hP4:P4) (hP5:P5):k9 P0 P1 P2 P3 P4 P5
inductive Lf (P0 P1 P2 P3 P4 P5 P6:Prop):Prop | mk (Yl:P0) (Yk:P1) (Yj:P2) (_q:P3) (hP4:P4) (hP5:P5) (hP6:P6):Lf P0 P1 P2 P3 P4 P5 P6
inductive BG (P0 P1 P2 P3 P4 P5 P6 P7:Prop):Prop | mk (Yl:P0) (Yk:P1) (Yj:P2) (_q:P3) (hP4:P4) (hP5:P5) (hP6:P6) (hP7:P7):BG P0 P1 P2 P3 P4 P5 P6 P7
set_option Elab.async false
set_option maxRecDepth 100000
set_option genSizeOf false
set_option genInjectivity false
local macro_rules | `(∅) => `(by lia)
local macro_rules | `(⇑$x) => `(by simpa using $x)
set_option compiler.extract_closed false
noncomputable section
local macro_rules|`(⋯)=>`(by decide)
local macro_rules|`(tactic|symm)=>`(tactic|constructor)
local macro_rules|`(tactic|exact $e)=>`(tactic|refine $e)
local macro_rules|`(tactic|show $e)=>`(tactic|refine $e)
local macro_rules|`(def $i $s:optDeclSig:=by $v)=>do let d:=Lean.mkNode ``Lean.Parser.Command.declSig #[s.raw[0],s.raw[1][0]];`(theorem $i $(⟨d⟩):declSig:=by $v)|`(def $i $s:optDeclSig $v:declVal)=>`(noncomputable def $i $s:optDeclSig $v:declVal)|`(abbrev $i $s:optDeclSig $v:declVal)=>`(noncomputable abbrev $i $s:optDeclSig $v:declVal)
local macro_rules|`(tactic|let $p:term$[:$t]?:=$e)=>do let r:=p.raw.rewriteBottomUp (λs=>let k:=s.getKind;if s.isIdent then Lean.mkNode `Lean.Parser.Tactic.rcasesPat.one #[s] else if k==`Lean.Parser.Term.hole then Lean.mkNode `Lean.Parser.Tactic.rcasesPat.ignore s.getArgs else if k==`Lean.Parser.Term.anonymousCtor then Lean.mkNode `Lean.Parser.Tactic.rcasesPat.tuple (s.getArgs.modify 1 λa=>.node .none `null (a.getArgs.map λq=>if q.isAtom then q else Lean.mkNode `Lean.Parser.Tactic.rcasesPatLo #[Lean.mkNode `Lean.Parser.Tactic.rcasesPatMed #[Lean.mkNullNode #[q]],Lean.mkNullNode])) else s);`(tactic|obtain $(⟨Lean.mkNode `Lean.Parser.Tactic.rcasesPatMed #[Lean.mkNullNode #[r]]⟩):rcasesPatMed$[:$t]?:=$e)
local macro_rules|`(tactic|simp![$x,*]$[$l]?)=>`(tactic|simp only[$x,*]$[$l]?)
local macro_rules|`(#[$x,$y])=>`(⟨$x,$y⟩)|`(#[$x,$y,$z,*])=>`(⟨$x,$y,$z,*⟩)
namespace TS
open PySem PyProof.Rows
def LE (less:gz ->gz ->Bool)(x y:gz):Prop:=less y x=false
structure Ord (less:Keyed ->Keyed ->Bool):Prop where
 YL: ∀x y,less x y=true ->less y x=false
 trans: ∀x y z,LE less x y ->LE less y z ->LE less x z
def Ord.refl (O:Ord less)(x:gz):LE less x x:=by
 unfold LE;cases h:less x x with
 | false=>rfl
 | true=>show(O.YL x x h).symm.trans h▸rfl
theorem Ord.le (O:Ord less)(h:less x y=true):LE less x y:=O.YL x y h
def Ord.Xh (O:Ord less)(h:LE less x y)(h':less y z=true):less x z=true:=by
 cases e:less x z with
 | true=>rfl
 | false=>have:=O.trans z x y e h;unfold LE at this;rw[h'] at this;cases this
def cC (xs:gA gz)(i:Nat):gz:=(xs[i]?).getD (.none, .none)
def La (h:i<xs.size):xs[i]? =some (cC xs i):=by unfold cC;rw[getElem?_pos xs i h];rfl
def jN (h:xs[i]? =ys[j]?):cC xs i=cC ys j:=by unfold cC;rw[h]
def zb (h:i<xs.size):cC xs i∈xs.toList:=by unfold cC;rw[getElem?_pos xs i h];simp
def Sg (less:gz ->gz ->Bool)(xs:gA gz)(lo hi:Nat):Prop:= ∀i j,lo<=i ->i<=j ->j<hi ->LE less (cC xs i) (cC xs j)
def Ng (less:gz ->gz ->Bool)(xs:gA gz)(lo hi:Nat):Prop:= ∀i j,lo<=i ->i<=j ->j<hi ->LE less (cC xs j) (cC xs i)
structure SB (kd:SortKind)(a₀:Array Keyed)(st:SortSt):Prop where
 perm:(arrOf st).Perm a₀
 kd:kindOf st=kd
 fl:failedOf st=none
theorem SB.size {kd:SortKind}{st:Xv}(h:SB kd a₀ st):(arrOf st).size=a₀.size:=h.perm.size_eq
theorem SB.mem {kd:SortKind}{st:Xv}(h:SB kd a₀ st)(hi:i<a₀.size):cC (arrOf st) i∈a₀.toList:=(Array.perm_iff_toList_perm.mp h.perm).mem_iff.mp (zb (by rw[h.size];show hi))
theorem SB.arr {kd:SortKind}{st:Xv}(h:SB kd a₀ st)(hp:xs.Perm (arrOf st)):SB kd a₀ (setArr st xs):=#[hp.trans h.perm,h.kd,h.fl]
def iT (prog:Program)(w:World)(A:Around)(E:c5 ->dq ->Prop)(s:dq)(kd:SortKind)(a₀:gA gz)(less:gz ->gz ->Bool):Prop:=∀ (x y:gz) (st:Xv) (Q:eM Bool ->Xv ->Prop),x∈a₀.toList ->y∈a₀.toList ->kindOf st=kd ->Q (some (less x y)) st ->wpS (model prog w) A E s (lt' x y) Q st
def wp_elem {st:Xv}(hi:i<xs.size)(h:Q (cC xs i) st):wpS (model prog w) A E s (elem' xs i) Q st:=by rw[elem'_eq,La hi];show aG h
def wp_lt (L:iT prog w A E s kd a₀ less){st:Xv}(B:SB kd a₀ st)(hi:i<a₀.size)(hj:j<a₀.size)(h:Q (some (less (cC (arrOf st) i) (cC (arrOf st) j))) st):wpS (model prog w) A E s (ltAt' i j) Q st:=by rw[ltAt'_eq];exact ay (wpS_get ?_);show ay (wp_elem (by rw[B.size];show hi) (ay (wp_elem (by rw[B.size];show hj) (L _ _ _ _ (B.mem hi) (B.mem hj) B.kd h))))
def wp_rev {st:Xv}(h:Q () (setArr st (mirror (arrOf st) i j ((j - i) / 2)))):wpS (model prog w) A E s (reverseSlice' i j) Q st:=by rw[reverseSlice'_eq];show wpS_modify h
def d_ (hj:j<=xs.size)(k:Nat):cC (mirror xs i j ((j - i) / 2)) k=if i<=k /\ k<j then cC xs (i+j - 1 - k) else cC xs k:=by have e:=getElem?_mirror_all (i:=i) hj k;by_cases c:i<=k /\ k<j;rw[am c] at e ⊢;show jN e;rw[ak c] at e ⊢;show jN e
def nX (hs:LJ<xs.size)(hd:d<=LJ)(k:Nat):cC (bubble xs LJ d) k=if k=LJ - d then cC xs LJ else if LJ - d<k /\ k<=LJ then cC xs (k - 1) else cC xs k:=by have e:=getElem?_bubble hs d hd k;by_cases c:k=LJ - d;rw[am c] at e ⊢;show jN e;rw[ak c] at e ⊢;by_cases c':LJ - d<k /\ k<=LJ;rw[am c'] at e ⊢;show jN e;rw[ak c'] at e ⊢;show jN e
def Lb (lo a dy:Nat):StateT Xv Sem AscSt:=forIn [a:dy] ((none,a):AscSt) λ_ c=>do
 let x <- ltAt' (lo+c.snd) (lo+c.snd - 1)
 match x with
 | some b=>if b=true then pure (ForInStep.done (none,c.snd)) else pure (ForInStep.yield (none,c.snd+1))
 | _=>pure (ForInStep.done (some none,c.snd))
def zH (lo n dy:Nat):StateT Xv Sem (eM Nat):=do
 reverseSlice' lo (lo+n)
 let c <- Lb lo n dy
 match c.fst with
 | some r=>pure r
 | none=>pure (some c.snd)
def E_ (lo n dy:Nat):StateT Xv Sem DescSt:=forIn [n:dy] ((none,n,0):DescSt) λ_ c=>do
 let x <- ltAt' (lo+c.snd.fst) (lo+c.snd.fst - 1)
 match x with
 | some b=>
  if b=true then
   if c.snd.snd >0 then do
    reverseSlice' (lo+c.snd.fst - (c.snd.snd+1)) (lo+c.snd.fst)
    pure (ForInStep.yield (none,c.snd.fst+1,0))
   else pure (ForInStep.yield (none,c.snd.fst+1,0))
  else do
   let y <- ltAt' (lo+c.snd.fst - 1) (lo+c.snd.fst)
   match y with
   | some d=>
    if d=true then pure (ForInStep.done (none,c.snd.fst,c.snd.snd))
    else pure (ForInStep.yield (none,c.snd.fst+1,c.snd.snd+1))
   | _=>pure (ForInStep.done (some none,c.snd.fst,c.snd.snd))
 | _=>pure (ForInStep.done (some none,c.snd.fst,c.snd.snd))
def Ad (lo n dy:Nat):StateT Xv Sem (eM Nat):=do
 liftM (rule "list.sort.descending-run")
 let c <- E_ lo (n+1) dy
 match c.fst with
 | some r=>pure r
 | none=>
  if c.snd.snd >0 then do
   reverseSlice' (lo+c.snd.fst - (c.snd.snd+1)) (lo+c.snd.fst)
   zH lo c.snd.fst dy
  else zH lo c.snd.fst dy
theorem My (lo dy:Nat):countRun' lo dy=(do
  let c <- Lb lo 1 dy
  match c.fst with
  | some r=>pure r
  | none =>
   if(c.snd==dy)=true then pure (some c.snd)
   else if c.snd >1 then do
    let x <- ltAt' lo (lo+c.snd - 1)
    match x with
    | some b=>if b=true then pure (some c.snd) else do
     reverseSlice' lo (lo+c.snd)
     Ad lo c.snd dy
    | _=>pure none
   else Ad lo c.snd dy):=by
 rw[countRun'_eq]
 dsimp only
 unfold Ad zH E_ Lb
 congr 1
 funext c
 let⟨r,n⟩:=c
 cases r with
 | some r=>rfl
 | none =>
  dsimp only;split;rfl;split;congr 1;funext x;cases x with
  | none=>rfl
  | some b=>
   dsimp only;split;rfl;congr 1;funext _r;congr 1;funext _u;congr 1;congr 1;funext s2;let⟨r2,n2,q2⟩:=s2;cases r2 with
   | some r2=>rfl
   | none=>dsimp only;split;congr 1;funext _v;congr 1;funext _w;congr 1;funext s3;let⟨r3,n3⟩:=s3;cases r3<;>rfl;congr 1;funext _w;congr 1;funext s3;let⟨r3,n3⟩:=s3;cases r3<;>rfl
  congr 1;funext _u;congr 1;congr 1;funext s2;let⟨r2,n2,q2⟩:=s2;cases r2 with
  | some r2=>rfl
  | none=>dsimp only;split;congr 1;funext _v;congr 1;funext _w;congr 1;funext s3;let⟨r3,n3⟩:=s3;cases r3<;>rfl;congr 1;funext _w;congr 1;funext s3;let⟨r3,n3⟩:=s3;cases r3<;>rfl
def tt (lo hi:Nat)(xs ys:gA gz):Prop:= ∀k,k<lo \/ hi<=k ->cC ys k=cC xs k
theorem tt.refl {lo hi:Nat}:tt lo hi xs xs:=λ_ _=>rfl
theorem tt.trans {lo hi:Nat}(a:tt lo hi xs ys)(b:tt lo hi ys zs):tt lo hi xs zs:=λk h=>(b k h).trans (a k h)
def wp_ascL (O:Ord less)(L:iT prog w A E s kd a₀ less){st:Xv}{lo a dy:Nat}(hn:lo+dy<=a₀.size)(ha:1<=a)(han:a<=dy)(B:SB kd a₀ st)(hs:Sg less (arrOf st) lo (lo+a))(h: ∀n,a<=n ->n<=dy ->Sg less (arrOf st) lo (lo+n) ->(n=dy \/ less (cC (arrOf st) (lo+n)) (cC (arrOf st) (lo+n - 1))=true) ->Q (none,n) st): wpS (model prog w) A E s (Lb lo a dy) Q st:=by
 unfold Lb;exact cx (I:=λx c bG=>bG=st /\ c=(none,x) /\ Sg less (arrOf st) lo (lo+x)) ?step ?fin #[rfl,rfl,hs];case fin=>
  rintro c bG ⟨rfl,rfl,gD⟩
  rw[show max a dy=dy by lia] at gD ⊢
  show h dy han (aq _) gD (.inl rfl)
 case step=>
  rintro x c bG hax hxn ⟨rfl,rfl,gD⟩
  dsimp only
  exact ay (wp_lt L B ∅ ∅ ?_)
  cases e:less (cC (arrOf bG) (lo+x)) (cC (arrOf bG) (lo+x - 1)) with
  | true=>simp![bV];show aG (h x hax ∅ gD (.inr e))
  | false=>simp![aA,bC];exact aG #[rfl,rfl,λi j hi kx hj=> ?_];by_cases c:j<lo+x;show gD i j hi kx c;have:j=lo+x:= ∅;subst this;by_cases c2:i=lo+x;subst c2;show O.refl _;show O.trans _ _ _ (gD i (lo+x - 1) hi ∅ ∅) e
def wp_tailL (O:Ord less)(L:iT prog w A E s kd a₀ less){st:Xv}{lo n dy:Nat}(hn:lo+dy<=a₀.size)(h1:1<=n)(nS:n<=dy)(B:SB kd a₀ st)(hs:Ng less (arrOf st) lo (lo+n))(h: ∀m bG,SB kd a₀ bG ->1<=m ->m<=dy ->Sg less (arrOf bG) lo (lo+m) ->pendingOf bG=pendingOf st ->tt lo (lo+dy) (arrOf st) (arrOf bG) ->Q (some m) bG): wpS (model prog w) A E s (zH lo n dy) Q st:=by
 unfold zH;have hsz:lo+n<=(arrOf st).size:=by rw[B.size];lia
 exact ay (wp_rev ?_);have B':SB kd a₀ (setArr st (mirror (arrOf st) lo (lo+n) ((lo+n - lo) / 2))):=B.arr (mirror_perm _ _ _ _);exact ay (wp_ascL O L hn h1 nS B' ?_ λm hm1 _l hsm _=>aG (h m _ B' ∅ _l hsm rfl ?_));intro i j hi kx hj;change LE less (cC (mirror (arrOf st) lo (lo+n) ((lo+n - lo) / 2)) i) (cC (mirror (arrOf st) lo (lo+n) ((lo+n - lo) / 2)) j);rw[d_ hsz,d_ hsz,am ∅,am ∅];show hs _ _ ∅ ∅ ∅;intro k hk;change cC (mirror (arrOf st) lo (lo+n) ((lo+n - lo) / 2)) k=_;rw[d_ hsz,ak ∅]
def qv (O:Ord less){lo i m:Nat}(hj:m<=xs.size)(hli:lo<=i)(hs:Ng less xs lo m)(he: ∀k,i<=k ->k<m ->LE less (cC xs k) (cC xs (m - 1))):Ng less (mirror xs i m ((m - i) / 2)) lo m:=by intro a b ha xm hb;rw[d_ hj,d_ hj];by_cases c1:i<=a;rw[am ∅,am ∅];exact O.trans _ _ _ (he (i+m - 1 - b) ∅ ∅) (hs _ _ ∅ ∅ ∅);rw[ak (show ¬(i<=a /\ a<m) by lia)];by_cases c2:i<=b;rw[am ∅];show hs _ _ ∅ ∅ ∅;rw[ak ∅];show hs _ _ ∅ ∅ ∅
theorem nL {lo hi i j:Nat}(hj:j<=xs.size)(h1:lo<=i)(h2:j<=hi):tt lo hi xs (mirror xs i j ((j - i) / 2)):=λk hk=>by rw[d_ hj,ak ∅]
def wp_descL (O:Ord less)(L:iT prog w A E s kd a₀ less){st:Xv}{lo n dy:Nat}(hn:lo+dy<=a₀.size)(h1:1<=n)(nS:n<=dy)(B:SB kd a₀ st)(hs:Ng less (arrOf st) lo (lo+n))(h: ∀m w_ bG,SB kd a₀ bG ->n<=m ->m<=dy ->Ng less (arrOf bG) lo (lo+m) ->w_+1<=m ->(∀i,lo+m - (w_+1) <=i ->i<lo+m ->LE less (cC (arrOf bG) i) (cC (arrOf bG) (lo+m - 1))) ->pendingOf bG=pendingOf st ->tt lo (lo+dy) (arrOf st) (arrOf bG) ->Q (none,m,w_) bG): wpS (model prog w) A E s (E_ lo n dy) Q st:=by
 unfold E_;exact cx (I:=λx c bG=> ∃w_,Lf (c=(none,x,w_)) (SB kd a₀ bG) (Ng less (arrOf bG) lo (lo+x)) (w_+1<=x) (∀i,lo+x - (w_+1) <=i ->i<lo+x ->LE less (cC (arrOf bG) i) (cC (arrOf bG) (lo+x - 1))) (pendingOf bG=pendingOf st) (tt lo (lo+dy) (arrOf st) (arrOf bG))) ?step ?fin #[0,rfl,B,hs, ∅,λi h1 h2=>by rw[show i=lo+n - 1 by lia];show O.refl _,rfl,tt.refl];case fin=>
  rintro c bG ⟨w_,rfl,B',gD,hq,he,hp,ho⟩
  rw[show max n dy=dy by lia] at gD hq he ⊢
  show h dy w_ bG B' nS (aq _) gD hq he hp ho
 case step =>
  rintro x c bG hax hxn ⟨w_,rfl,B',gD,hq,he,hp,ho⟩
  dsimp only
  have hsz:lo+x<=(arrOf bG).size:=by rw[B'.size];lia
  exact ay (wp_lt L B' ∅ ∅ ?_)
  cases e:less (cC (arrOf bG) (lo+x)) (cC (arrOf bG) (lo+x - 1)) with
  | true =>simp![bV];by_cases JZ:w_ >0;rw [am JZ];exact ay (wp_rev (aG #[0,rfl,B'.arr (mirror_perm _ _ _ _),?_, ∅,λi h1 h2=>by rw[show i=lo+(x+1) - 1 by lia];show O.refl _,hp,ho.trans (nL hsz ∅ ∅)]));have hm:=qv O (i:=lo+x - (w_+1)) hsz ∅ gD he;intro i j hi kx hj;by_cases c:j<lo+x;show hm i j hi kx c;have:j=lo+x:= ∅;subst this;by_cases c2:i=lo+x;subst c2;show O.refl _;exact O.trans _ _ _ ?_ (hm i (lo+x - 1) hi ∅ ∅);change LE less (cC (mirror (arrOf bG) (lo+x - (w_+1)) (lo+x) ((lo+x - (lo+x - (w_+1))) / 2)) (lo+x)) (cC (mirror (arrOf bG) (lo+x - (w_+1)) (lo+x) ((lo+x - (lo+x - (w_+1))) / 2)) (lo+x - 1));rw[d_ hsz,d_ hsz,ak ∅,am ∅];show O.trans _ _ _ (O.le e) (gD _ _ ∅ ∅ ∅);rw[ak JZ];exact aG #[0,rfl,B',λi j hi kx hj=> ?_, ∅,λi h1 h2=>by rw[show i=lo+(x+1) - 1 by lia];show O.refl _,hp,ho];by_cases c:j<lo+x;show gD i j hi kx c;have:j=lo+x:= ∅;subst this;by_cases c2:i=lo+x;subst c2;show O.refl _;show O.trans _ _ _ (O.le e) (gD i (lo+x - 1) hi ∅ ∅)
  | false =>
   simp![aA,bC];exact ay (wp_lt L B' ∅ ∅ ?_);cases e2:less (cC (arrOf bG) (lo+x - 1)) (cC (arrOf bG) (lo+x)) with
   | true=>simp![bV];show aG (h x w_ bG B' hax ∅ gD hq he hp ho)
   | false=>simp![aA,bC];exact aG #[w_+1,rfl,B',λi j hi kx hj=> ?_, ∅,λi h1 h2=> ?_,hp,ho];by_cases c:j<lo+x;show gD i j hi kx c;have:j=lo+x:= ∅;subst this;by_cases c2:i=lo+x;subst c2;show O.refl _;show O.trans _ _ _ e2 (gD i (lo+x - 1) hi ∅ ∅);rw[show lo+(x+1) - 1=lo+x by lia];by_cases c:i=lo+x;subst c;show O.refl _;show O.trans _ _ _ (he i ∅ ∅) e
def wp_partL (O:Ord less)(L:iT prog w A E s kd a₀ less){st:Xv}{lo n dy:Nat}(hn:lo+dy<=a₀.size)(nS:n+1<=dy)(B:SB kd a₀ st)(hs:Ng less (arrOf st) lo (lo+(n+1)))(h: ∀m bG,SB kd a₀ bG ->1<=m ->m<=dy ->Sg less (arrOf bG) lo (lo+m) ->pendingOf bG=pendingOf st ->tt lo (lo+dy) (arrOf st) (arrOf bG) ->Q (some m) bG): wpS (model prog w) A E s (Ad lo n dy) Q st:=by
 unfold Ad;exact ay (wpS_lift (wpAny_rule #[rfl,?_]));exact ay (wp_descL O L hn ∅ nS B hs λm w_ bG B' hm1 _l gD hq he hp ho=> ?_);dsimp only;have hsz:lo+m<=(arrOf bG).size:=by rw[B'.size];lia
 by_cases JZ:w_ >0;rw[am JZ];exact ay (wp_rev (wp_tailL O L hn ∅ _l (B'.arr (mirror_perm _ _ _ _)) (qv O hsz ∅ gD he) λm2 ot b1 b2 b3 b4 b5 b6=>h m2 ot b1 b2 b3 b4 (b5.trans hp) (ho.trans ((nL hsz ∅ ∅).trans b6))));rw[ak JZ];show wp_tailL O L hn ∅ _l B' gD λm2 ot b1 b2 b3 b4 b5 b6=>h m2 ot b1 b2 b3 b4 (b5.trans hp) (ho.trans b6)
def wp_run (O:Ord less)(L:iT prog w A E s kd a₀ less){st:Xv}{lo dy:Nat}(hn:lo+dy<=a₀.size)(h1:1<=dy)(B:SB kd a₀ st)(h: ∀m bG,SB kd a₀ bG ->1<=m ->m<=dy ->Sg less (arrOf bG) lo (lo+m) ->pendingOf bG=pendingOf st ->tt lo (lo+dy) (arrOf st) (arrOf bG) ->Q (some m) bG): wpS (model prog w) A E s (countRun' lo dy) Q st:=by
 rw[My];exact ay (wp_ascL O L hn (aq 1) h1 B (λi j hi kx hj=>by rw[show i=j by lia];show O.refl _) λn Qs GA XM hor=> ?_);dsimp only;by_cases nS:n=dy;rw[am ⇑nS];show aG (h n st B Qs GA XM rfl tt.refl);rw [ak ⇑nS];have mX:=hor.resolve_left nS;have hsz:lo+n<=(arrOf st).size:=by rw[B.size];lia
 by_cases hgt:n >1;rw [am hgt];exact ay (wp_lt L B ∅ ∅ ?_);cases e:less (cC (arrOf st) lo) (cC (arrOf st) (lo+n - 1)) with
 | true=>simp![bV];show aG (h n st B Qs GA XM rfl tt.refl)
 | false=>simp![aA,bC];have hng:Ng less (arrOf st) lo (lo+n):=λi j hi kx hj=>O.trans _ _ _ (O.trans _ _ _ (XM j (lo+n - 1) ∅ ∅ ∅) e) (XM lo i (aq _) hi ∅);exact ay (wp_rev (wp_partL O L hn ∅ (B.arr (mirror_perm _ _ _ _)) ?_ λm2 ot b1 b2 b3 b4 b5 b6=>h m2 ot b1 b2 b3 b4 b5 ((nL hsz ∅ ∅).trans b6)));have hm:=qv O (i:=lo) hsz (aq _) hng λk _ _=>XM k (lo+n - 1) ∅ ∅ ∅;intro i j hi kx hj;by_cases c:j<lo+n;show hm i j hi kx c;have:j=lo+n:= ∅;subst this;by_cases c2:i=lo+n;subst c2;show O.refl _;exact O.trans _ _ _ ?_ (hm i (lo+n - 1) hi ∅ ∅);change LE less (cC (mirror (arrOf st) lo (lo+n) ((lo+n - lo) / 2)) (lo+n)) (cC (mirror (arrOf st) lo (lo+n) ((lo+n - lo) / 2)) (lo+n - 1));rw[d_ hsz,d_ hsz,ak ∅,am ∅];show O.trans _ _ _ (O.le mX) (hng _ _ ∅ ∅ ∅)
 rw[ak hgt];have abN:n=1:= ∅;subst abN;exact wp_partL O L hn ∅ B (λi j hi kx hj=> ?_) h;by_cases c:i=j;subst c;show O.refl _;rw[show i=lo+1 - 1 by lia,show j=lo+1 by lia];show O.le mX
def wp_bin (O:Ord less)(L:iT prog w A E s kd a₀ less){st:Xv}{lo n ok:Nat}(hn:lo+n<=a₀.size)(cH:ok<=n)(B:SB kd a₀ st)(hs:Sg less (arrOf st) lo (lo+ok))(h: ∀bG,SB kd a₀ bG ->Sg less (arrOf bG) lo (lo+n) ->pendingOf bG=pendingOf st ->tt lo (lo+n) (arrOf st) (arrOf bG) ->Q true bG):wpS (model prog w) A E s (binarySort' lo n ok) Q st:=by
 rw[binarySort'_eq];exact ay (wpS_mono (cx (I:=λk c bG=>c=(none,()) /\ SB kd a₀ bG /\ Sg less (arrOf bG) lo (lo+min k n) /\ pendingOf bG=pendingOf st /\ tt lo (lo+n) (arrOf st) (arrOf bG)) (Q:=λc bG=>c=(none,()) /\ SB kd a₀ bG /\ Sg less (arrOf bG) lo (lo+n) /\ pendingOf bG=pendingOf st /\ tt lo (lo+n) (arrOf st) (arrOf bG)) ?step ?fin ?init) ?post);case post=>
  rintro c bG ⟨rfl,B',gD,hp,ho⟩
  show aG (h bG B' gD hp ho)
 case init=>
  exact#[rfl,B,λi j hi kx hj=> ?_,rfl,tt.refl]
  by_cases c:ok=0
  rw[show i=j by lia];show O.refl _
  show hs i j hi kx ∅
 case fin=>
  rintro c bG ⟨hc,B',gD,hp,ho⟩
  exact#[hc,B',?_,hp,ho]
  rwa [show min (max (max ok 1) n) n=n by lia] at gD
 case step=>
  rintro k c bG hak hkn ⟨rfl,B',gD,hp,ho⟩
  rw[show min k n=k by lia] at gD
  have hk:lo+k<a₀.size:= ∅
  exact ay (wpS_mono (cx (I:=λx c fP=>fP=bG /\ cc λl r=>k9 (c=(none,l,r)) (l<=r) (r<=k) (r - l<=k - x) (∀i,i<l ->LE less (cC (arrOf bG) (lo+i)) (cC (arrOf bG) (lo+k))) (∀i,r<=i ->i<k ->LE less (cC (arrOf bG) (lo+k)) (cC (arrOf bG) (lo+i)))) (Q:=λc fP=>fP=bG /\ cc λl r=>fg (c=(none,l,r)) (l<=k) (∀i,i<l ->LE less (cC (arrOf bG) (lo+i)) (cC (arrOf bG) (lo+k))) (∀i,l<=i ->i<k ->LE less (cC (arrOf bG) (lo+k)) (cC (arrOf bG) (lo+i)))) ?istep ?ifin ?iinit) ?ipost)
  case iinit=>show#[rfl,0,k,rfl, ∅, ∅, ∅,λi hi=> ∅,λi h1 h2=> ∅]
  case ifin=>
   rintro c fP ⟨rfl,l,r,rfl,X3,hrk,hm,Tr,UQ⟩
   have:l=r:= ∅
   subst this
   show#[rfl,l,l,rfl,hrk,Tr,UQ]
  case istep=>
   rintro x c fP _ hxk ⟨rfl,l,r,rfl,X3,hrk,hm,Tr,UQ⟩
   dsimp only
   by_cases hge:l≥r
   rw[am hge]
   have:l=r:= ∅
   subst this
   show aG #[rfl,l,l,rfl,hrk,Tr,UQ]
   rw[ak hge]
   exact ay (wp_lt L B' hk ∅ ?_)
   cases e:less (cC (arrOf fP) (lo+k)) (cC (arrOf fP) (lo+(l+r) / 2)) with
   | true=>simp![bV];exact aG #[rfl,l,(l+r) / 2,rfl, ∅, ∅, ∅,Tr,λi h1 h2=> ?_];show O.trans _ _ _ (O.le e) (gD _ _ ∅ ∅ ∅)
   | false=>simp![aA,bC];exact aG #[rfl,(l+r) / 2+1,r,rfl, ∅, ∅, ∅,λi h1=> ?_,UQ];show O.trans _ _ _ (gD (lo+i) (lo+(l+r) / 2) ∅ ∅ ∅) e
  case ipost=>
   rintro c fP ⟨rfl,l,r,rfl,hlk,Tr,UQ⟩
   change wpS _ _ _ _ (do moveDown' (lo+k) (lo+l);pure (ForInStep.yield (none,()))) _ _
   rw[moveDown'_eq]
   have hks:lo+k< (arrOf fP).size:=by rw[B'.size];show hk
   exact ay (wpS_modify (aG #[rfl,B'.arr (bubble_perm _ _ _),?_,hp,ho.trans λj hj=> ?_]))
   .rw[show min (k+1) n=k+1 by lia];intro i j hi kx hj;change LE less (cC (bubble (arrOf fP) (lo+k) (lo+k - (lo+l))) i) (cC (bubble (arrOf fP) (lo+k) (lo+k - (lo+l))) j);rw[nX hks ∅,nX hks ∅,show lo+k - (lo+k - (lo+l))=lo+l by lia];have abO: ∀i,lo<=i ->i<lo+l ->LE less (cC (arrOf fP) i) (cC (arrOf fP) (lo+k)):=λi h1 h2=>by have:=Tr (i - lo) ∅;rwa [show lo+(i - lo)=i by lia] at this
    have abQ: ∀i,lo+l<=i ->i<lo+k ->LE less (cC (arrOf fP) (lo+k)) (cC (arrOf fP) i):=λi h1 h2=>by have:=UQ (i - lo) ∅ ∅;rwa [show lo+(i - lo)=i by lia] at this
    repeat' split
    all_goals first
    | (exfalso;lia)
    | show O.refl _
    | show abO _ ∅ ∅
    | show abQ _ ∅ ∅
    | show gD _ _ ∅ ∅ ∅
   change cC (bubble (arrOf fP) (lo+k) (lo+k - (lo+l))) j=_
   rw[nX hks ∅,ak ∅,ak ∅]
def N_:Bool ->gz ->gA gz ->Nat ->Nat ->Nat ->StateT Xv Sem (eM Nat):=sortPriv% PySem.Builtin.gallop
def mLo:gA gz ->gA gz ->StateT Xv Sem (gA gz):=sortPriv% PySem.Builtin.mergeLo
def mHi:gA gz ->gA gz ->StateT Xv Sem (gA gz):=sortPriv% PySem.Builtin.mergeHi
abbrev cR (st:Xv)(g:Nat):Xv:=SortSt.mk' (kindOf st) (arrOf st) (pendingOf st) g (failedOf st)
def bey (left:Bool)(key:gz)(arr:gA gz)(base i:Nat):StateT Xv Sem (eM Bool):=do
 let x <- elem' arr (base+i)
 if left then lt' x key else return(<- lt' key x).map (!·)
def wp_gal0 {st:Xv}(Bf:Nat ->Bool)(hh:fB<n)(hb: ∀i,i<n -> ∀Q':eM Bool ->Xv ->Prop,Q' (some (Bf i)) st ->wpS (model prog w) A E s (bey left key arr base i) Q' st)(mono: ∀i j,i<=j ->j<n ->Bf j=true ->Bf i=true)(h: ∀k,k<=n ->(∀i,i<k ->Bf i=true) ->(∀i,k<=i ->i<n ->Bf i=false) ->Q (some k) st): wpS (model prog w) A E s (N_ left key arr base n fB) Q st:=by
 have Er: ∀i j,i<=j ->j<n ->Bf i=false ->Bf j=false:=λi j kx hj e=>by
  cases e2:Bf j with
  | false=>rfl
  | true=>rw[mono i j kx hj e2] at e;cases e
 exact ay (hb fB hh _ ?_);dsimp only;cases hB:Bf fB with
 | true =>
  simp![bV];exact ay (wpS_mono (cx (I:=λi c bG=>bG=st /\ cc λla f=>f_ (c=(none,la,f)) (i+1<=f) (la<f) (fB+la<n) (Bf (fB+la)=true)) (Q:=λc bG=>bG=st /\ cc λla f=>f_ (c=(none,la,f)) (la<f) (fB+la<n) (Bf (fB+la)=true) (n - fB<=f \/ (fB+f<n /\ Bf (fB+f)=false))) ?_ ?_ #[rfl,0,1,rfl,by omega,by omega,by omega,hB]) ?_);rintro i c bG _ hi ⟨rfl,la,f,rfl,h1,h2,h3,h4⟩;dsimp only;by_cases c1:f≥n - fB;rw[am c1];show aG #[rfl,la,f,rfl,h2,h3,h4, .inl c1];rw[ak c1];exact ay (hb _ (by omega) _ ?_);cases e:Bf (fB+f) with
  | true=>simp![aK,aA,bC];show aG #[rfl,f,2*f+1,rfl,by omega,by omega,by omega,e]
  | false=>simp![aZ,bV];show aG #[rfl,la,f,rfl,h2,h3,h4, .inr #[by omega,e]]
  rintro c bG ⟨rfl,la,f,rfl,h1,h2,h3,h4⟩;show#[rfl,la,f,rfl,h2,h3,h4, .inl (by omega)];rintro c bG ⟨rfl,la,f,rfl,h2,h3,h4,h5⟩;dsimp only;exact ay (wpS_mono (cx (I:=λi c fP=>fP=bG /\ cc λlo hi=>k9 (c=(none,lo,hi)) (lo<=hi) (hi<=n) (hi - lo<=n - i) (∀i,i<lo ->Bf i=true) (∀i,hi<=i ->i<n ->Bf i=false)) (Q:=λc fP=>fP=bG /\ cc λlo hi=>fg (c=(none,lo,hi)) (hi<=n) (∀i,i<hi ->Bf i=true) (∀i,hi<=i ->i<n ->Bf i=false)) ?_ ?_ #[rfl,_,_,rfl,by omega,by omega,by omega,λi hi=>mono i (fB+la) (by omega) h3 h4,λi hi vc=> ?_]) ?_);rintro i c fP _ hi ⟨rfl,lo,rL,rfl,g1,g2,g3,g4,g5⟩;dsimp only;by_cases c1:lo≥rL;rw[am c1];have:lo=rL:=by omega
  subst this;show aG #[rfl,_,_,rfl,g2,g4,g5];rw[ak c1];exact ay (hb _ (by omega) _ ?_);cases e:Bf (lo+(rL - lo) / 2) with
  | true=>simp![bV];show aG #[rfl,_,_,rfl,by omega,g2,by omega,λj hj=>mono j _ (by omega) (by omega) e,g5]
  | false=>simp![aA,bC];show aG #[rfl,_,_,rfl,by omega,by omega,by omega,g4,λj hj hjn=>Er _ j hj hjn e]
  rintro c fP ⟨rfl,lo,rL,rfl,g1,g2,g3,g4,g5⟩;have:lo=rL:=by omega
  subst this;show#[rfl,_,_,rfl,g2,g4,g5];obtain h5 | ⟨h5,h6⟩:=h5;omega;show Er (fB+f) i (by omega) vc h6;rintro c fP ⟨rfl,lo,rL,rfl,g2,g4,g5⟩;show aG (h _ g2 g4 g5)
 | false =>
  simp![aA,bC];exact ay (wpS_mono (cx (I:=λi c bG=>bG=st /\ cc λla f=>f_ (c=(none,la,f)) (i+1<=f) (la<f) (la<=fB) (Bf (fB - la)=false)) (Q:=λc bG=>bG=st /\ cc λla f=>f_ (c=(none,la,f)) (la<f) (la<=fB) (Bf (fB - la)=false) (fB+1<=f \/ (f<=fB /\ Bf (fB - f)=true))) ?_ ?_ #[rfl,0,1,rfl,by omega,by omega,by omega,hB]) ?_);rintro i c bG _ hi ⟨rfl,la,f,rfl,h1,h2,h3,h4⟩;dsimp only;by_cases c1:f≥fB+1;rw[am c1];show aG #[rfl,la,f,rfl,h2,h3,h4, .inl c1];rw[ak c1];exact ay (hb _ (by omega) _ ?_);cases e:Bf (fB - f) with
  | false=>simp![aA,bC];show aG #[rfl,f,2*f+1,rfl,by omega,by omega,by omega,e]
  | true=>simp![bV];show aG #[rfl,la,f,rfl,h2,h3,h4, .inr #[by omega,e]]
  rintro c bG ⟨rfl,la,f,rfl,h1,h2,h3,h4⟩;show#[rfl,la,f,rfl,h2,h3,h4, .inl (by omega)];rintro c bG ⟨rfl,la,f,rfl,h2,h3,h4,h5⟩;dsimp only;exact ay (wpS_mono (cx (I:=λi c fP=>fP=bG /\ cc λlo hi=>k9 (c=(none,lo,hi)) (lo<=hi) (hi<=n) (hi - lo<=n - i) (∀i,i<lo ->Bf i=true) (∀i,hi<=i ->i<n ->Bf i=false)) (Q:=λc fP=>fP=bG /\ cc λlo hi=>fg (c=(none,lo,hi)) (hi<=n) (∀i,i<hi ->Bf i=true) (∀i,hi<=i ->i<n ->Bf i=false)) ?_ ?_ #[rfl,_,_,rfl,by omega,by omega,by omega,λi hi=> ?_,λi hi vc=>Er (fB - la) i (by omega) vc h4]) ?_);rintro i c fP _ hi ⟨rfl,lo,rL,rfl,g1,g2,g3,g4,g5⟩;dsimp only;by_cases c1:lo≥rL;rw[am c1];have:lo=rL:=by omega
  subst this;show aG #[rfl,_,_,rfl,g2,g4,g5];rw[ak c1];exact ay (hb _ (by omega) _ ?_);cases e:Bf (lo+(rL - lo) / 2) with
  | true=>simp![bV];show aG #[rfl,_,_,rfl,by omega,g2,by omega,λj hj=>mono j _ (by omega) (by omega) e,g5]
  | false=>simp![aA,bC];show aG #[rfl,_,_,rfl,by omega,by omega,by omega,g4,λj hj hjn=>Er _ j hj hjn e]
  rintro c fP ⟨rfl,lo,rL,rfl,g1,g2,g3,g4,g5⟩;have:lo=rL:=by omega
  subst this;show#[rfl,_,_,rfl,g2,g4,g5];obtain h5 | ⟨h5,h6⟩:=h5;omega;show mono i (fB - f) (by omega) (by omega) h6;rintro c fP ⟨rfl,lo,rL,rfl,g2,g4,g5⟩;show aG (h _ g2 g4 g5)
def wp_galL (O:Ord less)(L:iT prog w A E s kd a₀ less){st:Xv}(B:kindOf st=kd)(hk:key∈a₀.toList)(hm: ∀i,i<n ->base+i<arr.size /\ cC arr (base+i)∈a₀.toList)(hh:fB<n)(hs:Sg less arr base (base+n))(h: ∀k,k<=n ->(∀i,i<k ->less (cC arr (base+i)) key=true) ->(∀i,k<=i ->i<n ->LE less key (cC arr (base+i))) ->Q (some k) st): wpS (model prog w) A E s (N_ true key arr base n fB) Q st:=by exact wp_gal0 (λi=>less (cC arr (base+i)) key) hh (λi hi Q' hq=> ?_) (λi j kx hj e=>O.Xh (hs (base+i) (base+j) (by omega) (by omega) (by omega)) e) h;unfold bey;exact ay (wp_elem (hm i hi).1 ?_);simp![bV];show L _ _ _ _ (hm i hi).2 hk B hq
def wp_galR (O:Ord less)(L:iT prog w A E s kd a₀ less){st:Xv}(B:kindOf st=kd)(hk:key∈a₀.toList)(hm: ∀i,i<n ->base+i<arr.size /\ cC arr (base+i)∈a₀.toList)(hh:fB<n)(hs:Sg less arr base (base+n))(h: ∀k,k<=n ->(∀i,i<k ->LE less (cC arr (base+i)) key) ->(∀i,k<=i ->i<n ->less key (cC arr (base+i))=true) ->Q (some k) st): wpS (model prog w) A E s (N_ false key arr base n fB) Q st:=by exact wp_gal0 (λi=> !less key (cC arr (base+i))) hh (λi hi Q' hq=> ?_) (λi j kx hj e=> ?_) (λk h1 h2 h3=>h k h1 (λi hi=> ?_) λi h4 h5=> ?_);unfold bey;exact ay (wp_elem (hm i hi).1 ?_);simp![aA,bC];show ay (L _ _ _ _ hk (hm i hi).2 B (aG hq));simp![Bool.not_eq_true'] at e ⊢;show O.trans _ _ _ (hs (base+i) (base+j) (by omega) (by omega) (by omega)) e;have:=h2 i hi;simp![Bool.not_eq_true'] at this;show this;have:=h3 i h4 h5;simpa using this
structure MI (less:Keyed ->Keyed ->Bool)(al bl o:List Keyed)(i j:Nat):Prop where
 pm:o.Perm (al.take i++bl.take j)
 so:o.Pairwise (LE less)
 ba: ∀x∈o, ∀y∈al.drop i,LE less x y
 bb: ∀x∈o, ∀y∈bl.drop j,LE less x y
section
variable {less:gz ->gz ->Bool}{al bl o:cA gz}{i j:Nat}
theorem MI.swap (h:MI less al bl o i j):MI less bl al o j i:=#[h.pm.trans dB,h.so,h.bb,h.ba]
def take_add {α:Type}(l:cA α)(i k:Nat):l.take (i+k)=l.take i++(l.drop i).take k:=by rw[List.take_add]
def MI.OA (h:MI less al bl o i j)(sa:al.Pairwise (LE less))(k:Nat)(hk: ∀x∈(al.drop i).take k, ∀y∈bl.drop j,LE less x y):MI less al bl (o++(al.drop i).take k) (i+k) j:=by
 have sd:(al.drop i).Pairwise (LE less):=sa.sublist (List.drop_sublist _ _);have e:(al.drop i).take k++al.drop (i+k)=al.drop i:=by rw[<- List.drop_drop,bF]
 have RB:=sd;rw[<- e,de] at RB;exact#[?_,?_,?_,?_];rw[take_add,cb];exact(h.pm.append_right _).trans ?_;rw[cb];show List.Perm.append_left _ dB;rw[de];show#[h.so,RB.1,λx hx y hy=>h.ba x hx y (List.mem_of_mem_take hy)];intro x hx y hy;obtain hx | hx:=a8.mp hx;show h.ba x hx y (by rw[<- e];show aX _ hy);show RB.2.2 x hx y hy;intro x hx y hy;obtain hx | hx:=a8.mp hx;show h.bb x hx y hy;show hk x hx y hy
def MI.fin (h:MI less al bl o i j)(sa:al.Pairwise (LE less))(sb:bl.Pairwise (LE less))(hk: ∀x∈bl.drop j, ∀y∈al.drop i,LE less x y):(o++bl.drop j++al.drop i).Perm (al++bl) /\ (o++bl.drop j++al.drop i).Pairwise (LE less):=by
 symm;rw[cb];exact(h.pm.append_right _).trans ?_;have e1:(al++bl).Perm ((al.take i++al.drop i)++(bl.take j++bl.drop j)):=by rw[bF,bF]
 exact List.Perm.trans ?_ e1.symm;rw[cb,cb];exact List.Perm.append_left _ ?_;rw[<- cb];show dB;rw[de,de];exact#[#[h.so,sb.sublist (List.drop_sublist _ _),h.bb],sa.sublist (List.drop_sublist _ _),λx hx y hy=> ?_];obtain hx | hx:=a8.mp hx;show h.ba x hx y hy;show hk x hx y hy
structure MH (less:Keyed ->Keyed ->Bool)(al bl t:List Keyed)(i j:Nat):Prop where
 pm:t.Perm (al.drop i++bl.drop j)
 so:t.Pairwise (LE less)
 ba: ∀x∈t, ∀y∈al.take i,LE less y x
 bb: ∀x∈t, ∀y∈bl.take j,LE less y x
theorem MH.swap (h:MH less al bl t i j):MH less bl al t j i:=#[h.pm.trans dB,h.so,h.bb,h.ba]
def MH.OA (h:MH less al bl t i j)(sa:al.Pairwise (LE less))(X':k<=i)(hk: ∀x∈(al.take i).drop k, ∀y∈bl.take j,LE less y x):MH less al bl ((al.take i).drop k++t) k j:=by
 have sd:(al.take i).Pairwise (LE less):=sa.sublist (List.take_sublist _ _);have e0:(al.take i).take k=al.take k:=by rw[List.take_take,Nat.min_eq_left X']
 have e:al.take k++(al.take i).drop k=al.take i:=by rw[<- e0,bF]
 have RB:=sd;rw[<- e,de] at RB;have e3:al.drop k=(al.take i).drop k++al.drop i:=by
  have:=bF i al;have e4:al.drop k=(al.take i++al.drop i).drop k:=by rw[this]
  rw[e4];by_cases c:i<=al.length;rw[List.drop_append_of_le_length (by rw[cz];lia)];have z:al.drop i= []:=List.drop_eq_nil_of_le ∅;rw[z,c4,c4]
 exact#[?_,?_,?_,?_];rw[e3,cb];show List.Perm.append_left _ h.pm;rw[de];show#[RB.2.1,h.so,λx hx y hy=>h.ba y hy x (by rw[<- e];show aX _ hx)];intro x hx y hy;obtain hx | hx:=a8.mp hx;show RB.2.2 y hy x hx;show h.ba x hx y (by rw[<- e];show List.mem_append_left _ hy);intro x hx y hy;obtain hx | hx:=a8.mp hx;show hk x hx y hy;show h.bb x hx y hy
def MH.fin (h:MH less al bl t i j)(sa:al.Pairwise (LE less))(sb:bl.Pairwise (LE less))(hk: ∀x∈al.take i, ∀y∈bl.take j,LE less x y):(al.take i++bl.take j++t).Perm (al++bl) /\ (al.take i++bl.take j++t).Pairwise (LE less):=by
 symm;exact(List.Perm.append_left _ h.pm).trans ?_;have e1:(al++bl).Perm ((al.take i++al.drop i)++(bl.take j++bl.drop j)):=by rw[bF,bF]
 exact List.Perm.trans ?_ e1.symm;rw[cb,cb];exact List.Perm.append_left _ ?_;rw[<- cb, <- cb];show List.Perm.append_right _ dB;rw[de,de];exact#[#[sa.sublist (List.take_sublist _ _),sb.sublist (List.take_sublist _ _),hk],h.so,λx hx y hy=> ?_];obtain hx | hx:=a8.mp hx;show h.ba y hy x hx;show h.bb y hy x hx
end
abbrev R5:=eM (gA gz)×gA gz×Nat×Nat×Nat
abbrev R6:=eM (gA gz)×gA gz×Nat×Nat×Nat×Nat
abbrev R7:=eM (gA gz)×gA gz×Nat×Nat×Nat×Nat×Nat
section
variable (a b:gA gz)
abbrev L5 (o:gA gz)(i j:Nat):gA gz:=o++a.extract i a.size++b.extract j b.size
abbrev UM (o:gA gz)(i j:Nat):gA gz:=o++b.extract j b.size++a.extract i a.size
def Sn (mg:Nat)(o:gA gz)(i j ac bc:Nat):StateT Xv Sem (ForInStep R6):=do
 let x <- elem' b j
 let y <- elem' a i
 let g <- lt' x y
 match g with
 | some g=>
  if g=true then do
   let x <- elem' b j
   if(j+1==b.size)=true then pure (.done (some (L5 a b (o.push x) i (j+1)),o.push x,i,j+1,0,bc+1))
   else if bc+1≥mg then pure (.done (none,o.push x,i,j+1,0,bc+1))
   else pure (.yield (none,o.push x,i,j+1,0,bc+1))
  else do
   let x <- elem' a i
   if(i+1+1==a.size)=true then pure (.done (some (UM a b (o.push x) (i+1) j),o.push x,i+1,j,ac+1,0))
   else if ac+1≥mg then pure (.done (none,o.push x,i+1,j,ac+1,0))
   else pure (.yield (none,o.push x,i+1,j,ac+1,0))
 | _=>pure (.done (some (L5 a b o i j),o,i,j,ac,bc))
def ZQ (mg ac bc:Nat)(o:gA gz)(i j:Nat):StateT Xv Sem (ForInStep R7):=do
 let x <- elem' a i
 if(i+1+1==a.size)=true then pure (.done (some (UM a b (o.push x) (i+1) j),o.push x,i+1,j,mg,ac,bc))
 else if(decide (ac<7) && decide (bc<7))=true then pure (.done (none,o.push x,i+1,j,mg,ac,bc))
 else pure (.yield (none,o.push x,i+1,j,mg,ac,bc))
def ZS (mg ac bc:Nat)(o:gA gz)(i j:Nat):StateT Xv Sem (ForInStep R7):=do
 let x <- elem' b j
 if(j+1==b.size)=true then pure (.done (some (L5 a b (o.push x) i (j+1)),o.push x,i,j+1,mg,ac,bc))
 else do
  let y <- elem' a i
  let r <- N_ true y b (j+1) (b.size - (j+1)) 0
  match r with
  | some k=>
   if k >0 then
    if(j+1+k==b.size)=true then pure (.done (some (L5 a b (o.push x++b.extract (j+1) (j+1+k)) i (j+1+k)),o.push x++b.extract (j+1) (j+1+k),i,j+1+k,mg,ac,k))
    else ZQ a b mg ac k (o.push x++b.extract (j+1) (j+1+k)) i (j+1+k)
   else ZQ a b mg ac k (o.push x) i (j+1)
  | _=>pure (.done (some (L5 a b (o.push x) i (j+1)),o.push x,i,j+1,mg,ac,bc))
def ZU (mg ac bc:Nat)(o:gA gz)(i j:Nat):StateT Xv Sem (ForInStep R7):=do
 modify λs=>cR s mg
 let x <- elem' b j
 let r <- N_ false x a i (a.size - i) 0
 match r with
 | some k=>
  if k >0 then
   if(i+k+1==a.size)=true then pure (.done (some (UM a b (o++a.extract i (i+k)) (i+k) j),o++a.extract i (i+k),i+k,j,mg,k,bc))
   else if(i+k==a.size)=true then pure (.done (some (L5 a b (o++a.extract i (i+k)) (i+k) j),o++a.extract i (i+k),i+k,j,mg,k,bc))
   else ZS a b mg k bc (o++a.extract i (i+k)) (i+k) j
  else ZS a b mg k bc o i j
 | _=>pure (.done (some (L5 a b o i j),o,i,j,mg,ac,bc))
def WV (c:R5):StateT Xv Sem (ForInStep R5):=do
 let d <- forIn [:a.size+b.size] ((none,c.2.1,c.2.2.1,c.2.2.2.1,0,0):R6) λ_ d=>Sn a b c.2.2.2.2 d.2.1 d.2.2.1 d.2.2.2.1 d.2.2.2.2.1 d.2.2.2.2.2
 match d.1 with
 | some r=>pure (.done (some r,d.2.1,d.2.2.1,d.2.2.2.1,c.2.2.2.2))
 | none=>do
  liftM (rule "list.sort.gallop")
  let e <- forIn [:a.size+b.size] ((none,d.2.1,d.2.2.1,d.2.2.2.1,c.2.2.2.2+1,d.2.2.2.2.1,d.2.2.2.2.2):R7) λ_ e=>if e.2.2.2.2.1 >1 then ZU a b (e.2.2.2.2.1 - 1) e.2.2.2.2.2.1 e.2.2.2.2.2.2 e.2.1 e.2.2.1 e.2.2.2.1 else ZU a b e.2.2.2.2.1 e.2.2.2.2.2.1 e.2.2.2.2.2.2 e.2.1 e.2.2.1 e.2.2.2.1
  match e.1 with
  | some r=>pure (.done (some r,e.2.1,e.2.2.1,e.2.2.2.1,e.2.2.2.2.1))
  | none=>do
   modify λs=>cR s (e.2.2.2.2.1+1)
   pure (.yield (none,e.2.1,e.2.2.1,e.2.2.2.1,e.2.2.2.2.1+1))
end
def xI {f g:α ->StateT σ Sem β}(h: ∀x,f x=g x):(m >>=f)=(m >>=g):=by rw[funext h]
def GV {f g:α ->StateT σ Sem β}(e:m=m')(h: ∀x,f x=g x):(m >>=f)=(m' >>=g):=by rw[e,funext h]
def Gy [Decidable c]{x y x' y':α}(h:x=x')(h':y=y'):(if c then x else y)=(if c then x' else y'):=by rw[h,h']
def GG {r:Std.Legacy.Range}{f g:Nat ->β ->StateT σ Sem (ForInStep β)}(h: ∀i c,f i c=g i c):forIn r c f=forIn r c g:=by rw[funext λi=>funext (h i)]
section
variable (a b:gA gz)
theorem Gk:mLo a b=(do
  liftM (rule "list.sort.merge-lo")
  let x <- elem' b 0
  if(1==b.size)=true then pure (L5 a b #[x] 0 1)
  else if(0+1==a.size)=true then pure (UM a b #[x] 0 1)
  else do
   let g <- get
   let c <- forIn [:a.size+b.size] ((none, #[x],0,1,gallopOf g):R5) λ_ c=>WV a b c
   match c.1 with
   | some r=>pure r
   | none=>unsupported "internal:list.sort.merge-bound"):=by
 exact xI λ_=>xI λx=> ?_
 exact Gy rfl (Gy rfl (xI λg=>GV (GG λ_ c=> ?_) λc=> ?_))
 exact GV (GG λ_ d=>rfl) λd=> ?_
 let⟨r,d⟩:=d
 cases r with
 | some r=>rfl
 | none =>
  exact xI λ_=>GV (GG λ_ e=> ?_) λe=> ?_;exact Gy ?_ ?_<;>
  .refine xI λ_=>xI λx=>xI λr=> ?_;cases r with
   | none=>rfl
   | some k=>
    exact Gy (Gy rfl (Gy rfl ?_)) ?_<;>
    .exact xI λy=>Gy rfl (xI λz=>xI λr=> ?_);cases r<;>rfl
  let⟨r,e⟩:=e;cases r<;>rfl
 let⟨r,c⟩:=c
 cases r<;>rfl
abbrev L6 (o:gA gz)(i j:Nat):gA gz:=a.extract 0 i++b.extract 0 j++o.reverse
abbrev UU (o:gA gz)(i j:Nat):gA gz:=b.extract 0 j++a.extract 0 i++o.reverse
def Rk (mg:Nat)(i j:Nat)(o:gA gz)(ac bc:Nat):StateT Xv Sem (ForInStep (eM (gA gz)×Nat×Nat×gA gz×Nat×Nat)):=do
 let x <- elem' b (j - 1)
 let y <- elem' a (i - 1)
 let g <- lt' x y
 match g with
 | some g=>
  if g=true then do
   let x <- elem' a (i - 1)
   if(i - 1==0)=true then pure (.done (some (L6 a b (o.push x) (i - 1) j),i - 1,j,o.push x,ac+1,0))
   else if ac+1≥mg then pure (.done (none,i - 1,j,o.push x,ac+1,0))
   else pure (.yield (none,i - 1,j,o.push x,ac+1,0))
  else do
   let x <- elem' b (j - 1)
   if(j - 1==1)=true then pure (.done (some (UU a b (o.push x) i (j - 1)),i,j - 1,o.push x,0,bc+1))
   else if bc+1≥mg then pure (.done (none,i,j - 1,o.push x,0,bc+1))
   else pure (.yield (none,i,j - 1,o.push x,0,bc+1))
 | _=>pure (.done (some (L6 a b o i j),i,j,o,ac,bc))
abbrev S7:=eM (gA gz)×Nat×Nat×gA gz×Nat×Nat×Nat
def ZR (mg ac bc:Nat)(i j:Nat)(o:gA gz):StateT Xv Sem (ForInStep S7):=do
 let x <- elem' a (i - 1)
 if(i - 1==0)=true then pure (.done (some (L6 a b (o.push x) (i - 1) j),i - 1,j,o.push x,mg,ac,bc))
 else if(decide (ac<7) && decide (bc<7))=true then pure (.done (none,i - 1,j,o.push x,mg,ac,bc))
 else pure (.yield (none,i - 1,j,o.push x,mg,ac,bc))
def ZT (mg ac bc:Nat)(i j:Nat)(o:gA gz):StateT Xv Sem (ForInStep S7):=do
 let x <- elem' b (j - 1)
 if(j - 1==1)=true then pure (.done (some (UU a b (o.push x) i (j - 1)),i,j - 1,o.push x,mg,ac,bc))
 else do
  let y <- elem' a (i - 1)
  let r <- N_ true y b 0 (j - 1) (j - 1 - 1)
  match r with
  | some k=>
   if j - 1 - k >0 then
    if(k==1)=true then pure (.done (some (UU a b (o.push x++(b.extract k (j - 1)).reverse) i k),i,k,o.push x++(b.extract k (j - 1)).reverse,mg,ac,j - 1 - k))
    else if(k==0)=true then pure (.done (some (L6 a b (o.push x++(b.extract k (j - 1)).reverse) i k),i,k,o.push x++(b.extract k (j - 1)).reverse,mg,ac,j - 1 - k))
    else ZR a b mg ac (j - 1 - k) i k (o.push x++(b.extract k (j - 1)).reverse)
   else ZR a b mg ac (j - 1 - k) i (j - 1) (o.push x)
  | _=>pure (.done (some (L6 a b (o.push x) i (j - 1)),i,j - 1,o.push x,mg,ac,bc))
def ZV (mg ac bc:Nat)(i j:Nat)(o:gA gz):StateT Xv Sem (ForInStep S7):=do
 modify λs=>cR s mg
 let x <- elem' b (j - 1)
 let r <- N_ false x a 0 i (i - 1)
 match r with
 | some k=>
  if i - k >0 then
   if(k==0)=true then pure (.done (some (L6 a b (o++(a.extract k i).reverse) k j),k,j,o++(a.extract k i).reverse,mg,i - k,bc))
   else ZT a b mg (i - k) bc k j (o++(a.extract k i).reverse)
  else ZT a b mg (i - k) bc i j o
 | _=>pure (.done (some (L6 a b o i j),i,j,o,mg,ac,bc))
abbrev S5:=eM (gA gz)×Nat×Nat×gA gz×Nat
def WW (c:S5):StateT Xv Sem (ForInStep S5):=do
 let d <- forIn [:a.size+b.size] ((none,c.2.1,c.2.2.1,c.2.2.2.1,0,0):eM (gA gz)×Nat×Nat×gA gz×Nat×Nat) λ_ d=>Rk a b c.2.2.2.2 d.2.1 d.2.2.1 d.2.2.2.1 d.2.2.2.2.1 d.2.2.2.2.2
 match d.1 with
 | some r=>pure (.done (some r,d.2.1,d.2.2.1,d.2.2.2.1,c.2.2.2.2))
 | none=>do
  liftM (rule "list.sort.gallop")
  let e <- forIn [:a.size+b.size] ((none,d.2.1,d.2.2.1,d.2.2.2.1,c.2.2.2.2+1,d.2.2.2.2.1,d.2.2.2.2.2):S7) λ_ e=>if e.2.2.2.2.1 >1 then ZV a b (e.2.2.2.2.1 - 1) e.2.2.2.2.2.1 e.2.2.2.2.2.2 e.2.1 e.2.2.1 e.2.2.2.1 else ZV a b e.2.2.2.2.1 e.2.2.2.2.2.1 e.2.2.2.2.2.2 e.2.1 e.2.2.1 e.2.2.2.1
  match e.1 with
  | some r=>pure (.done (some r,e.2.1,e.2.2.1,e.2.2.2.1,e.2.2.2.2.1))
  | none=>do
   modify λs=>cR s (e.2.2.2.2.1+1)
   pure (.yield (none,e.2.1,e.2.2.1,e.2.2.2.1,e.2.2.2.2.1+1))
theorem Gm:mHi a b=(do
  liftM (rule "list.sort.merge-hi")
  let x <- elem' a (a.size - 1)
  if(a.size - 1==0)=true then pure (L6 a b #[x] (a.size - 1) b.size)
  else if(b.size==1)=true then pure (UU a b #[x] (a.size - 1) b.size)
  else do
   let g <- get
   let c <- forIn [:a.size+b.size] ((none,a.size - 1,b.size, #[x],gallopOf g):S5) λ_ c=>WW a b c
   match c.1 with
   | some r=>pure r
   | none=>unsupported "internal:list.sort.merge-bound"):=by
 exact xI λ_=>xI λx=> ?_
 exact Gy rfl (Gy rfl (xI λg=>GV (GG λ_ c=> ?_) λc=> ?_))
 exact GV (GG λ_ d=>rfl) λd=> ?_
 let⟨r,d⟩:=d
 cases r with
 | some r=>rfl
 | none =>
  exact xI λ_=>GV (GG λ_ e=> ?_) λe=> ?_;exact Gy ?_ ?_<;>
  .refine xI λ_=>xI λx=>xI λr=> ?_;cases r with
   | none=>rfl
   | some k=>
    exact Gy (Gy rfl ?_) ?_<;>
    .exact xI λy=>Gy rfl (xI λz=>xI λr=> ?_);cases r<;>rfl
  let⟨r,e⟩:=e;cases r<;>rfl
 let⟨r,c⟩:=c
 cases r<;>rfl
end
def gH (h:i<xs.size):xs.toList[i]? =some (cC xs i):=by rw[<- La h];simp
def GJ (h:i<xs.size):xs.toList.drop i=cC xs i::xs.toList.drop (i+1):=by have h':i<xs.toList.length:= ⇑h;have e:=gH h;rw[aC h'] at e;rw[List.drop_eq_getElem_cons h',bp e]
def zG (h:i<xs.size):(xs.toList.drop i).take 1= [cC xs i]:=by rw[GJ h];rfl
def ja (h:y∈xs.toList.drop i): ∃k,cW (i<=k) (k<xs.size) (y=cC xs k):=by let⟨n,hn⟩:=List.mem_iff_getElem?.mp h;rw[List.getElem?_drop] at hn;have hl:=(bq.mp hn).1;have rK:i+n<xs.size:= ⇑hl;rw[gH rK] at hn;show#[i+n, ∅,rK,(bp hn).symm]
def ya (h:y∈(xs.toList.drop i).take k): ∃n,fg (i<=n) (n<i+k) (n<xs.size) (y=cC xs n):=by let⟨n,hn⟩:=List.mem_iff_getElem?.mp h;rw[List.getElem?_take] at hn;split at hn;rename_i hk;rw[List.getElem?_drop] at hn;have hl:=(bq.mp hn).1;have rK:i+n<xs.size:= ⇑hl;rw[gH rK] at hn;show#[i+n, ∅, ∅,rK,(bp hn).symm];cases hn
def nh (O:Ord less)(h:xs.toList.Pairwise (LE less))(kx:i<=j)(hj:j<xs.size):LE less (cC xs i) (cC xs j):=by
 by_cases c:i=j;subst c;show O.refl _;rw[List.pairwise_iff_getElem] at h;have rL:i<xs.toList.length:=by simp;lia
 have Tv:j<xs.toList.length:= ⇑hj;have:=h i j rL Tv ∅;have e1:=gH (xs:=xs) (i:=i) ∅;have e2:=gH hj;rw[aC rL] at e1;rw[aC Tv] at e2;rwa [bp e1,bp e2] at this
theorem yf (O:Ord less)(h:xs.toList.Pairwise (LE less))(hn:i+n<=xs.size):Sg less xs i (i+n):=λx y _ _h hy=>nh O h _h ∅
def AW (xs:gA gz)(i k:Nat):(xs.extract i (i+k)).toList=(xs.toList.drop i).take k:=by rw[Array.toList_extract,List.extract_eq_take_drop];congr 1;lia
def tU (xs:gA gz)(i:Nat):(xs.extract i xs.size).toList=xs.toList.drop i:=by rw[Array.toList_extract,List.extract_eq_take_drop];show List.take_of_length_le (by simp)
section
variable {prog:Program}{w:World}{A:Around}{E:c5 ->dq ->Prop}{s:dq}{kd:SortKind}{a₀:gA gz}{less:gz ->gz ->Bool}
structure xN (less:Keyed ->Keyed ->Bool)(a₀ a b:Array Keyed):Prop where
 sa:a.toList.Pairwise (LE less)
 sb:b.toList.Pairwise (LE less)
 ma: ∀i,i<a.size ->cC a i∈a₀.toList
 mb: ∀i,i<b.size ->cC b i∈a₀.toList
 na:1<=a.size
 nb:1<=b.size
 h0:less (cC b 0) (cC a 0)=true
 hl: ∀j,j<b.size ->less (cC b j) (cC a (a.size - 1))=true
def vF (less:gz ->gz ->Bool)(a b r:gA gz):Prop:=r.toList.Perm (a.toList++b.toList) /\ r.toList.Pairwise (LE less)
structure JL (less:Keyed ->Keyed ->Bool)(a b o:Array Keyed)(i j:Nat):Prop where
 mi:MI less a.toList b.toList o.toList i j
 hi:i+1<a.size
 hj:j<b.size
variable {a b:gA gz}
def ym (T:xN less a₀ a b)(h:MI less a.toList b.toList o.toList i j)(hj:b.size<=j \/ a.size<=i):vF less a b (L5 a b o i j):=by
 unfold vF L5;rw[bQ,bQ,tU,tU];have:=h.swap.fin T.sb T.sa λx hx y hy=>by obtain hj | hj:=hj;let⟨k,h1,h2,_⟩:=ja hy;lia;let⟨k,h1,h2,_⟩:=ja hx;lia
 show#[this.1.trans dB,this.2]
def yl (O:Ord less)(T:xN less a₀ a b)(h:MI less a.toList b.toList o.toList i j)(hi:i+1=a.size):vF less a b (UM a b o i j):=by unfold vF UM;rw[bQ,bQ,tU,tU];exact h.fin T.sa T.sb λx hx y hy=> ?_;let⟨k,h1,h2,rfl⟩:=ja hx;let⟨k',_t,Qx,rfl⟩:=ja hy;rw[show k'=a.size - 1 by lia];show O.le (T.hl k h2)
def B7 (O:Ord less)(T:xN less a₀ a b){o:gA gz}(h:MI less a.toList b.toList o.toList i j)(hj:j<b.size)(hc:i<a.size ->LE less (cC b j) (cC a i)):MI less a.toList b.toList (o.push (cC b j)).toList i (j+1):=by have:=(h.swap.OA T.sb 1 λx hx y hy=>by rw[zG hj] at hx;rw[aV.mp hx];let⟨k,h1,h2,rfl⟩:=ja hy;show O.trans _ _ _ (hc ∅) (nh O T.sa h1 h2)).swap;rw[zG hj] at this;rwa [Array.toList_push]
def IF (O:Ord less)(T:xN less a₀ a b){o:gA gz}(h:MI less a.toList b.toList o.toList i j)(hi:i<a.size)(hc:j<b.size ->LE less (cC a i) (cC b j)):MI less a.toList b.toList (o.push (cC a i)).toList (i+1) j:=by
 have:=h.OA T.sa 1 λx hx y hy=>by rw[zG hi] at hx;rw[aV.mp hx];let⟨k,h1,h2,rfl⟩:=ja hy;show O.trans _ _ _ (hc ∅) (nh O T.sb h1 h2)
 rw[zG hi] at this;rwa [Array.toList_push]
def Ur (less:gz ->gz ->Bool)(a b:gA gz)(st:Xv)(N:Nat)(r:ForInStep R7)(bG:Xv):Prop:=(∃g,bG=cR st g) /\ ((cc λx c=>r= .done (some x,c) /\ vF less a b x) \/ (fQ λo i j c=>cW (r= .done (none,o,i,j,c) \/ r= .yield (none,o,i,j,c)) (JL less a b o i j) (N<=i+j)))
def wp_p3L (O:Ord less)(T:xN less a₀ a b){st bG:Xv}(hg: ∃g,bG=cR st g)(J:JL less a b o i j)(hc:LE less (cC a i) (cC b j))(hN:N<=i+j):wpS (model prog w) A E s (ZQ a b mg ac bc o i j) (Ur less a b st N) bG:=by
 unfold ZQ;have hi:=J.hi;exact ay (wp_elem ∅ ?_);have m:=IF O T J.mi ∅ λ_=>hc;by_cases c:i+1+1=a.size;rw[am ⇑c];show aG #[hg, .inl #[_,_,rfl,yl O T m c]];rw[ak ⇑c];have J':JL less a b (o.push (cC a i)) (i+1) j:=#[m, ∅,J.hj]
 split;show aG #[hg, .inr #[_,_,_,_, .inl rfl,J', ∅]];show aG #[hg, .inr #[_,_,_,_, .inr rfl,J', ∅]]
def wp_p2L (O:Ord less)(L:iT prog w A E s kd a₀ less)(T:xN less a₀ a b){st bG:Xv}(hk:kindOf bG=kd)(hg: ∃g,bG=cR st g)(J:JL less a b o i j)(hc:less (cC b j) (cC a i)=true)(hN:N<=i+j):wpS (model prog w) A E s (ZS a b mg ac bc o i j) (Ur less a b st N) bG:=by
 unfold ZS;have hi:=J.hi;have hj:=J.hj;exact ay (wp_elem hj ?_);have m:=B7 O T J.mi hj λ_=>O.le hc;by_cases c:j+1=b.size;rw[am ⇑c];show aG #[hg, .inl #[_,_,rfl,ym T m (.inl ∅)]];rw [ak ⇑c];exact ay (wp_elem ∅ ?_);exact ay (wp_galL O L hk (T.ma i ∅) (λk hk=>#[∅,T.mb _ ∅]) ∅ (yf O T.sb ∅) λk h1 h2 h3=> ?_);dsimp only;by_cases ck:k >0;rw[am ck];have m2:MI less a.toList b.toList (o.push (cC b j)++b.extract (j+1) (j+1+k)).toList i (j+1+k):=by rw[bQ,AW];exact(m.swap.OA T.sb k λx hx y hy=> ?_).swap;let⟨n,n1,n2,n3,rfl⟩:=ya hx;let⟨k',k1,k2,rfl⟩:=ja hy;have:=h2 (n - (j+1)) ∅;rw[show j+1+(n - (j+1))=n by lia] at this;show O.trans _ _ _ (O.le this) (nh O T.sa k1 k2)
 by_cases c2:j+1+k=b.size;rw[am ⇑c2];show aG #[hg, .inl #[_,_,rfl,ym T m2 (.inl ∅)]];rw[ak ⇑c2];show wp_p3L O T hg #[m2,hi, ∅] (h3 k (aq _) ∅) ∅;rw[ak ck];have:k=0:= ∅;subst this;show wp_p3L O T hg #[m,hi, ∅] (h3 0 (aq _) ∅) ∅
def wp_p1L (O:Ord less)(L:iT prog w A E s kd a₀ less)(T:xN less a₀ a b){st bG:Xv}(hk:kindOf st=kd)(hg: ∃g,bG=cR st g)(J:JL less a b o i j)(hN:N<=i+j):wpS (model prog w) A E s (ZU a b mg ac bc o i j) (Ur less a b st N) bG:=by
 unfold ZU;have hi:=J.hi;have hj:=J.hj;exact ay (wpS_modify ?_);have yU: ∃g,cR bG mg=cR st g:=by let⟨g,rfl⟩:=hg;show#[mg,rfl]
 have xl:kindOf (cR bG mg)=kd:=by let⟨g,rfl⟩:=hg;show hk
 exact ay (wp_elem hj ?_);exact ay (wp_galR O L xl (T.mb j hj) (λk hk=>#[∅,T.ma _ ∅]) ∅ (yf O T.sa ∅) λk h1 h2 h3=> ?_);dsimp only;have hkl:i+k<a.size:=by by_cases c:i+k<a.size;show c;have:=h2 (a.size - 1 - i) ∅;rw[show i+(a.size - 1 - i)=a.size - 1 by lia] at this;unfold LE at this;rw[T.hl j hj] at this;cases this
 have Qr:=h3 k (aq _) ∅;by_cases ck:k >0;rw[am ck];have m2:MI less a.toList b.toList (o++a.extract i (i+k)).toList (i+k) j:=by rw[bQ,AW];exact J.mi.OA T.sa k λx hx y hy=> ?_;let⟨n,n1,n2,n3,rfl⟩:=ya hx;let⟨k',k1,k2,rfl⟩:=ja hy;have:=h2 (n - i) ∅;rw[show i+(n - i)=n by lia] at this;show O.trans _ _ _ this (nh O T.sb k1 k2)
 by_cases c2:i+k+1=a.size;rw[am ⇑c2];show aG #[yU, .inl #[_,_,rfl,yl O T m2 c2]];rw[ak ⇑c2,ak (by simp;lia)];show wp_p2L O L T xl yU #[m2, ∅,hj] Qr ∅;rw[ak ck];have:k=0:= ∅;subst this;show wp_p2L O L T xl yU J Qr hN
def wp_one1 (O:Ord less)(L:iT prog w A E s kd a₀ less)(T:xN less a₀ a b)(hk:kindOf bG=kd)(J:JL less a b o i j)(h1: ∀x c,vF less a b x ->Q (.done (some x,c)) bG)(h2: ∀o i' j' c,JL less a b o i' j' ->i'+j'=i+j+1 ->Q (.done (none,o,i',j',c)) bG /\ Q (.yield (none,o,i',j',c)) bG): wpS (model prog w) A E s (Sn a b mg o i j ac bc) Q bG:=by
 unfold Sn;have hi:=J.hi;have hj:=J.hj;exact ay (wp_elem hj (ay (wp_elem ∅ (ay (L _ _ _ _ (T.mb j hj) (T.ma i ∅) hk ?_)))));dsimp only;cases e:less (cC b j) (cC a i) with
 | true=>simp![bV];exact ay (wp_elem hj ?_);have m:=B7 O T J.mi hj λ_=>O.le e;by_cases c:j+1=b.size;rw[am ⇑c];show aG (h1 _ _ (ym T m (.inl ∅)));rw[ak ⇑c];have:=h2 _ i (j+1) (0,bc+1) #[m,hi, ∅] ∅;split;show aG this.1;show aG this.2
 | false=>simp![aA,bC];exact ay (wp_elem ∅ ?_);have m:=IF O T J.mi ∅ λ_=>e;by_cases c:i+1+1=a.size;rw[am ⇑c];show aG (h1 _ _ (yl O T m c));rw[ak ⇑c];have:=h2 _ (i+1) j (ac+1,0) #[m, ∅,hj] ∅;split;show aG this.1;show aG this.2
def wp_mLo (O:Ord less)(L:iT prog w A E s kd a₀ less)(T:xN less a₀ a b){st:Xv}(hk:kindOf st=kd)(h: ∀r g,vF less a b r ->Q r (cR st g)):wpS (model prog w) A E s (mLo a b) Q st:=by
 rw[Gk];have na:=T.na;have nb:=T.nb;exact ay (wpS_lift (wpAny_rule #[rfl,?_]));exact ay (wp_elem ∅ ?_);have h': ∀r,vF less a b r ->Q r st:=λr hr=>h r (gallopOf st) hr;have m:MI less a.toList b.toList (#[cC b 0]:gA gz).toList 0 1:=by
  have m0:MI less a.toList b.toList (#[]:gA gz).toList 0 0:=#[by simp,by simp,by simp,by simp]
  show B7 O T m0 ∅ λ_=>O.le T.h0
 by_cases c:1=b.size;rw[am ⇑c];show aG (h' _ (ym T m (.inl ∅)));rw[ak ⇑c];by_cases c2:0+1=a.size;rw[am ⇑c2];show aG (h' _ (yl O T m c2));rw[ak ⇑c2];exact ay (wpS_get ?_);exact ay (wpS_mono (cx (I:=λn c bG=>(∃g,bG=cR st g) /\ fQ λo i j mg=>cW (c=(none,o,i,j,mg)) (JL less a b o i j) (n+1<=i+j)) (Q:=λc bG=>(∃g,bG=cR st g) /\ cc λx d=>c=(some x,d) /\ vF less a b x) ?_ ?_ #[#[gallopOf st,rfl],_,0,1,_,rfl,#[m, ∅, ∅], ∅]) ?_)
 .rintro n c bG _ hn ⟨hg,o,i,j,mg,rfl,J,hN⟩;unfold WV;dsimp only;have xl:kindOf bG=kd:=by let⟨g,rfl⟩:=hg;show hk
  exact ay (wpS_mono (cx (I:=λx c ot=>ot=bG /\ fQ λo' i' j' d=>cW (c=(none,o',i',j',d)) (JL less a b o' i' j') (i'+j'=i+j+x)) (Q:=λc ot=>ot=bG /\ ((cc λx d=>c=(some x,d) /\ vF less a b x) \/ fQ λo' i' j' d=>cW (c=(none,o',i',j',d)) (JL less a b o' i' j') (i+j+1<=i'+j'))) ?_ ?_ #[rfl,o,i,j,_,rfl,J,rfl]) ?_);rintro x c ot _ hx ⟨rfl,o',i',j',⟨ac,bc⟩,rfl,J',N4⟩;dsimp only;exact wp_one1 O L T xl J' (λx c hr=>#[rfl, .inl #[x,c,rfl,hr]]) λo2 i2 j2 c J2 h2=>#[#[rfl, .inr #[o2,i2,j2,c,rfl,J2, ∅]],#[rfl,o2,i2,j2,c,rfl,J2, ∅]]
  rintro c ot ⟨rfl,o',i',j',d,rfl,J',N4⟩;show#[rfl, .inr #[o',i',j',d,rfl,J', ∅]]
  .rintro c ot ⟨rfl,⟨x,d,rfl,hr⟩ | ⟨o',i',j',⟨ac,bc⟩,rfl,J',N4⟩⟩;show aG #[hg,x,_,rfl,hr]
   .dsimp only;exact ay (wpS_lift (wpAny_rule #[rfl,?_]));exact ay (wpS_mono (cx (I:=λx c vR=>(∃g,vR=cR st g) /\ fQ λo' i' j' d=>cW (c=(none,o',i',j',d)) (JL less a b o' i' j') (i+j+1<=i'+j')) (Q:=λc vR=>(∃g,vR=cR st g) /\ ((cc λx d=>c=(some x,d) /\ vF less a b x) \/ fQ λo' i' j' d=>cW (c=(none,o',i',j',d)) (JL less a b o' i' j') (i+j+1<=i'+j'))) ?_ ?_ #[hg,o',i',j',_,rfl,J',N4]) ?_)
    .rintro x c vR _ hx ⟨GC,o3,i3,j3,⟨mg3,ac3,bc3⟩,rfl,J3,kA⟩;dsimp only;split;all_goals
      exact wpS_mono (wp_p1L O L T hk GC J3 kA) ?_
      rintro r fS ⟨Tw,⟨x,c,rfl,hr⟩ | ⟨o,i,j,c,rfl | rfl,J4,h4⟩⟩
      show#[Tw, .inl #[x,c,rfl,hr]]
      show#[Tw, .inr #[o,i,j,c,rfl,J4,h4]]
      show#[Tw,o,i,j,c,rfl,J4,h4]
    rintro c vR ⟨GC,o3,i3,j3,d,rfl,J3,kA⟩;show#[GC, .inr #[o3,i3,j3,d,rfl,J3,kA]];rintro c vR ⟨GC,⟨x,d,rfl,hr⟩ | ⟨o3,i3,j3,⟨mg3,ac3,bc3⟩,rfl,J3,kA⟩⟩;show aG #[GC,x,_,rfl,hr];dsimp only;exact ay (wpS_modify (aG #[?_,o3,i3,j3,_,rfl,J3, ∅]));let⟨g,rfl⟩:=GC;show#[_,rfl]
 rintro c bG ⟨hg,o,i,j,mg,rfl,J,hN⟩;have:=J.hi;have:=J.hj;lia;rintro c bG ⟨⟨g,rfl⟩,x,d,rfl,hr⟩;show aG (h x g hr)
end
def wP (h:y∈xs.toList.take i): ∃n,cW (n<i) (n<xs.size) (y=cC xs n):=by let⟨n,hn⟩:=List.mem_iff_getElem?.mp h;rw[List.getElem?_take] at hn;split at hn;have hl:=(bq.mp hn).1;have rK:n<xs.size:= ⇑hl;rw[gH rK] at hn;show#[n, ∅,rK,(bp hn).symm];cases hn
def Du (h:y∈(xs.toList.take i).drop k): ∃n,fg (k<=n) (n<i) (n<xs.size) (y=cC xs n):=by rw[List.drop_take] at h;let⟨n,h1,h2,h3,e⟩:=ya h;show#[n,h1, ∅,h3,e]
def ZH (h0:1<=i)(h:i<=xs.size):(xs.toList.take i).drop (i - 1)= [cC xs (i - 1)]:=by rw[List.drop_take,show i - (i - 1)=1 by lia,zG ∅]
def nV (xs:gA gz)(k i:Nat):(xs.extract k i).toList=(xs.toList.take i).drop k:=by rw[Array.toList_extract,List.extract_eq_take_drop,List.drop_take]
def E6 (xs:gA gz)(i:Nat):(xs.extract 0 i).toList=xs.toList.take i:=by rw[nV,List.drop_zero]
section
variable {prog:Program}{w:World}{A:Around}{E:c5 ->dq ->Prop}{s:dq}{kd:SortKind}{a₀:gA gz}{less:gz ->gz ->Bool}
structure JH (less:Keyed ->Keyed ->Bool)(a b o:Array Keyed)(i j:Nat):Prop where
 mi:MH less a.toList b.toList o.toList.reverse i j
 hi:1<=i
 hj:2<=j
 ia:i<=a.size
 jb:j<=b.size
variable {a b:gA gz}
def oJ (T:xN less a₀ a b)(h:MH less a.toList b.toList o.toList.reverse i j)(hj:i=0 \/ j=0):vF less a b (L6 a b o i j):=by unfold vF L6;rw[bQ,bQ,E6,E6,Array.toList_reverse];exact h.fin T.sa T.sb λx hx y hy=> ?_;obtain hj | hj:=hj;subst hj;simp at hx;subst hj;simp at hy
def tJ (O:Ord less)(T:xN less a₀ a b)(h:MH less a.toList b.toList o.toList.reverse i j)(hj:j=1):vF less a b (UU a b o i j):=by
 unfold vF UU;rw[bQ,bQ,E6,E6,Array.toList_reverse];have:=h.swap.fin T.sb T.sa λx hx y hy=>by let⟨n,n1,n2,rfl⟩:=wP hx;let⟨k,k1,k2,rfl⟩:=wP hy;rw[show n=0 by lia];show O.trans _ _ _ (O.le T.h0) (nh O T.sa (dc _) k2)
 show#[this.1.trans dB,this.2]
def yq (O:Ord less)(T:xN less a₀ a b){o:gA gz}(h:MH less a.toList b.toList o.toList.reverse i j)(h1:1<=i)(hi:i<=a.size)(hj:j<=b.size)(hc:1<=j ->LE less (cC b (j - 1)) (cC a (i - 1))):MH less a.toList b.toList (o.push (cC a (i - 1))).toList.reverse (i - 1) j:=by
 have:=h.OA T.sa (k:=i - 1) ∅ λx hx y hy=>by rw[ZH h1 hi] at hx;rw[aV.mp hx];let⟨k,k1,k2,rfl⟩:=wP hy;show O.trans _ _ _ (nh O T.sb (show k<=j - 1 by lia) ∅) (hc ∅)
 rw[ZH h1 hi] at this;rw[Array.toList_push,List.reverse_append];show this
def D_ (O:Ord less)(T:xN less a₀ a b){o:gA gz}(h:MH less a.toList b.toList o.toList.reverse i j)(h1:1<=j)(hi:i<=a.size)(hj:j<=b.size)(hc:1<=i ->LE less (cC a (i - 1)) (cC b (j - 1))):MH less a.toList b.toList (o.push (cC b (j - 1))).toList.reverse i (j - 1):=by have:=(h.swap.OA T.sb (k:=j - 1) ∅ λx hx y hy=>by rw[ZH h1 hj] at hx;rw[aV.mp hx];let⟨k,k1,k2,rfl⟩:=wP hy;show O.trans _ _ _ (nh O T.sa (show k<=i - 1 by lia) ∅) (hc ∅)).swap;rw[ZH h1 hj] at this;rw[Array.toList_push,List.reverse_append];show this
def DP (o x:gA gz):(o++x.reverse).toList.reverse=x.toList++o.toList.reverse:=by rw[bQ,Array.toList_reverse,List.reverse_append,List.reverse_reverse]
def Uq (less:gz ->gz ->Bool)(a b:gA gz)(st:Xv)(N:Nat)(r:ForInStep S7)(bG:Xv):Prop:=(∃g,bG=cR st g) /\ ((cc λx c=>r= .done (some x,c) /\ vF less a b x) \/ (fQ λi j o c=>cW (r= .done (none,i,j,o,c) \/ r= .yield (none,i,j,o,c)) (JH less a b o i j) (i+j<=N)))
def wp_p3H (O:Ord less)(T:xN less a₀ a b){st bG:Xv}(hg: ∃g,bG=cR st g)(J:JH less a b o i j)(hc:LE less (cC b (j - 1)) (cC a (i - 1)))(hN:i+j<=N):wpS (model prog w) A E s (ZR a b mg ac bc i j o) (Uq less a b st N) bG:=by
 unfold ZR;have hi:=J.hi;have ia:=J.ia;exact ay (wp_elem ∅ ?_);have m:=yq O T J.mi J.hi J.ia J.jb λ_=>hc;by_cases c:i - 1=0;rw[am ⇑c];show aG #[hg, .inl #[_,_,rfl,oJ T m (.inl c)]];rw[ak ⇑c];have J':JH less a b (o.push (cC a (i - 1))) (i - 1) j:=#[m, ∅,J.hj, ∅,J.jb]
 split;show aG #[hg, .inr #[_,_,_,_, .inl rfl,J', ∅]];show aG #[hg, .inr #[_,_,_,_, .inr rfl,J', ∅]]
def wp_p2H (O:Ord less)(L:iT prog w A E s kd a₀ less)(T:xN less a₀ a b){st bG:Xv}(hk:kindOf bG=kd)(hg: ∃g,bG=cR st g)(J:JH less a b o i j)(hc:LE less (cC a (i - 1)) (cC b (j - 1)))(hN:i+j<=N):wpS (model prog w) A E s (ZT a b mg ac bc i j o) (Uq less a b st N) bG:=by
 unfold ZT;have hi:=J.hi;have hj:=J.hj;have ia:=J.ia;have jb:=J.jb;exact ay (wp_elem ∅ ?_);have m:=D_ O T J.mi ∅ ia jb λ_=>hc;by_cases c:j - 1=1;rw[am ⇑c];show aG #[hg, .inl #[_,_,rfl,tJ O T m c]];rw [ak ⇑c];exact ay (wp_elem ∅ ?_);have sg:=yf O T.sb (i:=0) (n:=j - 1) ∅;exact ay (wp_galL O L hk (T.ma (i - 1) ∅) (λk hk=>#[∅,T.mb _ ∅]) ∅ sg λk h1 h2 h3=> ?_);dsimp only;simp![Nat.zero_add] at h2 h3;by_cases ck:j - 1 - k >0;rw[am ck];have m2:MH less a.toList b.toList (o.push (cC b (j - 1))++(b.extract k (j - 1)).reverse).toList.reverse i k:=by rw[DP,nV];exact(m.swap.OA T.sb ∅ λx hx y hy=> ?_).swap;let⟨n,n1,n2,n3,rfl⟩:=Du hx;let⟨k',k1,k2,rfl⟩:=wP hy;show O.trans _ _ _ (nh O T.sa (show k'<=i - 1 by lia) ∅) (h3 n n1 n2)
 by_cases c2:k=1;rw[am ⇑c2];show aG #[hg, .inl #[_,_,rfl,tJ O T m2 c2]];rw[ak ⇑c2];by_cases c3:k=0;rw[am ⇑c3];show aG #[hg, .inl #[_,_,rfl,oJ T m2 (.inr c3)]];rw[ak ⇑c3];show wp_p3H O T hg #[m2,hi, ∅,ia, ∅] (O.le (h2 (k - 1) ∅)) ∅;rw[ak ck];show wp_p3H O T hg #[m,hi, ∅,ia, ∅] (O.le (h2 (j - 1 - 1) ∅)) ∅
def wp_p1H (O:Ord less)(L:iT prog w A E s kd a₀ less)(T:xN less a₀ a b){st bG:Xv}(hk:kindOf st=kd)(hg: ∃g,bG=cR st g)(J:JH less a b o i j)(hN:i+j<=N):wpS (model prog w) A E s (ZV a b mg ac bc i j o) (Uq less a b st N) bG:=by
 unfold ZV;have hi:=J.hi;have hj:=J.hj;have ia:=J.ia;have jb:=J.jb;exact ay (wpS_modify ?_);have yU: ∃g,cR bG mg=cR st g:=by let⟨g,rfl⟩:=hg;show#[mg,rfl]
 have xl:kindOf (cR bG mg)=kd:=by let⟨g,rfl⟩:=hg;show hk
 exact ay (wp_elem ∅ ?_);have sg:=yf O T.sa (i:=0) (n:=i) ∅;exact ay (wp_galR O L xl (T.mb (j - 1) ∅) (λk hk=>#[∅,T.ma _ ∅]) ∅ sg λk h1 h2 h3=> ?_);dsimp only;simp![Nat.zero_add] at h2 h3;by_cases ck:i - k >0;rw[am ck];have m2:MH less a.toList b.toList (o++(a.extract k i).reverse).toList.reverse k j:=by rw[DP,nV];exact J.mi.OA T.sa ∅ λx hx y hy=> ?_;let⟨n,n1,n2,n3,rfl⟩:=Du hx;let⟨k',k1,k2,rfl⟩:=wP hy;show O.trans _ _ _ (nh O T.sb (show k'<=j - 1 by lia) ∅) (O.le (h3 n n1 n2))
 by_cases c2:k=0;rw[am ⇑c2];show aG #[yU, .inl #[_,_,rfl,oJ T m2 (.inl c2)]];rw[ak ⇑c2];show wp_p2H O L T xl yU #[m2, ∅,hj, ∅,jb] (h2 (k - 1) ∅) ∅;rw[ak ck];show wp_p2H O L T xl yU J (h2 (i - 1) ∅) hN
def wp_two1 (O:Ord less)(L:iT prog w A E s kd a₀ less)(T:xN less a₀ a b)(hk:kindOf bG=kd)(J:JH less a b o i j)(h1: ∀x c,vF less a b x ->Q (.done (some x,c)) bG)(h2: ∀i' j' o c,JH less a b o i' j' ->i'+j'+1=i+j ->Q (.done (none,i',j',o,c)) bG /\ Q (.yield (none,i',j',o,c)) bG): wpS (model prog w) A E s (Rk a b mg i j o ac bc) Q bG:=by
 unfold Rk;have hi:=J.hi;have hj:=J.hj;have ia:=J.ia;have jb:=J.jb;exact ay (wp_elem ∅ (ay (wp_elem ∅ (ay (L _ _ _ _ (T.mb (j - 1) ∅) (T.ma (i - 1) ∅) hk ?_)))));dsimp only;cases e:less (cC b (j - 1)) (cC a (i - 1)) with
 | true=>simp![bV];exact ay (wp_elem ∅ ?_);have m:=yq O T J.mi hi ia jb λ_=>O.le e;by_cases c:i - 1=0;rw[am ⇑c];show aG (h1 _ _ (oJ T m (.inl c)));rw[ak ⇑c];have:=h2 (i - 1) j _ (ac+1,0) #[m, ∅,hj, ∅,jb] ∅;split;show aG this.1;show aG this.2
 | false=>simp![aA,bC];exact ay (wp_elem ∅ ?_);have m:=D_ O T J.mi ∅ ia jb λ_=>e;by_cases c:j - 1=1;rw[am ⇑c];show aG (h1 _ _ (tJ O T m c));rw[ak ⇑c];have:=h2 i (j - 1) _ (0,bc+1) #[m,hi, ∅,ia, ∅] ∅;split;show aG this.1;show aG this.2
def wp_mHi (O:Ord less)(L:iT prog w A E s kd a₀ less)(T:xN less a₀ a b){st:Xv}(hk:kindOf st=kd)(h: ∀r g,vF less a b r ->Q r (cR st g)):wpS (model prog w) A E s (mHi a b) Q st:=by
 rw[Gm];have na:=T.na;have nb:=T.nb;exact ay (wpS_lift (wpAny_rule #[rfl,?_]));exact ay (wp_elem ∅ ?_);have h': ∀r,vF less a b r ->Q r st:=λr hr=>h r (gallopOf st) hr;have m:MH less a.toList b.toList (#[cC a (a.size - 1)]:gA gz).toList.reverse (a.size - 1) b.size:=by
  have m0:MH less a.toList b.toList (#[]:gA gz).toList.reverse a.size b.size:=#[by simp,by simp,by simp,by simp]
  show yq O T m0 ∅ (aq _) (aq _) λ_=>O.le (T.hl _ ∅)
 by_cases c:a.size - 1=0;rw[am ⇑c];show aG (h' _ (oJ T m (.inl c)));rw[ak ⇑c];by_cases c2:b.size=1;rw[am ⇑c2];show aG (h' _ (tJ O T m c2));rw[ak ⇑c2];exact ay (wpS_get ?_);exact ay (wpS_mono (cx (I:=λn c bG=>(∃g,bG=cR st g) /\ fQ λi j o mg=>cW (c=(none,i,j,o,mg)) (JH less a b o i j) (i+j+n<a.size+b.size)) (Q:=λc bG=>(∃g,bG=cR st g) /\ cc λx d=>c=(some x,d) /\ vF less a b x) ?_ ?_ #[#[gallopOf st,rfl],_,_,_,_,rfl,#[m, ∅, ∅, ∅, ∅], ∅]) ?_)
 .rintro n c bG _ hn ⟨hg,i,j,o,mg,rfl,J,hN⟩;unfold WW;dsimp only;have xl:kindOf bG=kd:=by let⟨g,rfl⟩:=hg;show hk
  exact ay (wpS_mono (cx (I:=λx c ot=>ot=bG /\ fQ λi' j' o' d=>cW (c=(none,i',j',o',d)) (JH less a b o' i' j') (i'+j'+x=i+j)) (Q:=λc ot=>ot=bG /\ ((cc λx d=>c=(some x,d) /\ vF less a b x) \/ fQ λi' j' o' d=>cW (c=(none,i',j',o',d)) (JH less a b o' i' j') (i'+j'+1<=i+j))) ?_ ?_ #[rfl,i,j,o,_,rfl,J,rfl]) ?_);rintro x c ot _ hx ⟨rfl,i',j',o',⟨ac,bc⟩,rfl,J',N4⟩;dsimp only;exact wp_two1 O L T xl J' (λx c hr=>#[rfl, .inl #[x,c,rfl,hr]]) λi2 j2 o2 c J2 h2=>#[#[rfl, .inr #[i2,j2,o2,c,rfl,J2, ∅]],#[rfl,i2,j2,o2,c,rfl,J2, ∅]]
  rintro c ot ⟨rfl,i',j',o',d,rfl,J',N4⟩;show#[rfl, .inr #[i',j',o',d,rfl,J', ∅]]
  .rintro c ot ⟨rfl,⟨x,d,rfl,hr⟩ | ⟨i',j',o',⟨ac,bc⟩,rfl,J',N4⟩⟩;show aG #[hg,x,_,rfl,hr]
   .dsimp only;exact ay (wpS_lift (wpAny_rule #[rfl,?_]));exact ay (wpS_mono (cx (I:=λx c vR=>(∃g,vR=cR st g) /\ fQ λi' j' o' d=>cW (c=(none,i',j',o',d)) (JH less a b o' i' j') (i'+j'+1<=i+j)) (Q:=λc vR=>(∃g,vR=cR st g) /\ ((cc λx d=>c=(some x,d) /\ vF less a b x) \/ fQ λi' j' o' d=>cW (c=(none,i',j',o',d)) (JH less a b o' i' j') (i'+j'+1<=i+j))) ?_ ?_ #[hg,i',j',o',_,rfl,J',N4]) ?_)
    .rintro x c vR _ hx ⟨GC,i3,j3,o3,⟨mg3,ac3,bc3⟩,rfl,J3,kA⟩;dsimp only;split;all_goals
      exact wpS_mono (wp_p1H O L T (N:=i+j - 1) hk GC J3 ∅) ?_
      rintro r fS ⟨Tw,⟨x,c,rfl,hr⟩ | ⟨i4,j4,o4,c,rfl | rfl,J4,h4⟩⟩
      show#[Tw, .inl #[x,c,rfl,hr]]
      show#[Tw, .inr #[i4,j4,o4,c,rfl,J4, ∅]]
      show#[Tw,i4,j4,o4,c,rfl,J4, ∅]
    rintro c vR ⟨GC,i3,j3,o3,d,rfl,J3,kA⟩;show#[GC, .inr #[i3,j3,o3,d,rfl,J3,kA]];rintro c vR ⟨GC,⟨x,d,rfl,hr⟩ | ⟨i3,j3,o3,⟨mg3,ac3,bc3⟩,rfl,J3,kA⟩⟩;show aG #[GC,x,_,rfl,hr];dsimp only;exact ay (wpS_modify (aG #[?_,i3,j3,o3,_,rfl,J3, ∅]));let⟨g,rfl⟩:=GC;show#[_,rfl]
 rintro c bG ⟨hg,i,j,o,mg,rfl,J,hN⟩;have:=J.hi;have:=J.hj;lia;rintro c bG ⟨⟨g,rfl⟩,x,d,rfl,hr⟩;show aG (h x g hr)
end
def Dj (xs:gA gz)(at_:Nat)(l:cA (gz×Nat)):gA gz:=l.foldl (λa (p,j)=>a.setIfInBounds (at_+j) p) xs
theorem BJ (at_ n:Nat): ∀ (ms:cA gz) (k:Nat) (xs:gA gz),at_+k+ms.length<=xs.size ->(Dj xs at_ (ms.zipIdx k))[n]? =if at_+k<=n /\ n<at_+k+ms.length then ms[n - (at_+k)]? else xs[n]?
 | [],k,xs,h=>by rw[ak (by simp)];rfl
 | p ::ms,k,xs,h=>by rw[aQ] at h;change(Dj (xs.setIfInBounds (at_+k) p) at_ (ms.zipIdx (k+1)))[n]? =_;rw[BJ at_ n ms (k+1) _ (by rw[Array.size_setIfInBounds];lia)];rw[aQ];by_cases c:n=at_+k;subst c;rw[ak ∅,am ∅,Array.getElem?_setIfInBounds_self_of_lt ∅];simp;rw[Array.getElem?_setIfInBounds_ne (cX c)];by_cases c2:at_+(k+1) <=n /\ n<at_+(k+1)+ms.length;rw[am c2,am ∅,show n - (at_+k)=(n - (at_+(k+1)))+1 by lia,List.getElem?_cons_succ];rw[ak c2,ak ∅]
def Hm (h:at_+ms.length<=xs.size):(Dj xs at_ ms.zipIdx).toList=xs.toList.take at_++(ms++xs.toList.drop (at_+ms.length)):=by
 apply List.ext_getElem?;intro n;have e:=BJ at_ n ms 0 xs ∅;rw[Nat.add_zero] at e;have e':(Dj xs at_ ms.zipIdx).toList[n]? =(Dj xs at_ ms.zipIdx)[n]? :=by simp
 rw[e',e];have hx: ∀k:Nat,xs.toList[k]? =xs[k]? :=λk=>Array.getElem?_toList ..;by_cases c1:n<at_;rw[ak ∅,br (by rw[cz];simp;lia),List.getElem?_take,am c1,hx];have lt:(xs.toList.take at_).length=at_:=by rw[cz];simp;lia
 rw[a9 ∅,lt];by_cases c2:n<at_+ms.length;rw[am ∅,br ∅];rw[ak ∅,a9 ∅,List.getElem?_drop,hx];congr 1;lia
def VO (l:cA gz)(i j k:Nat)(kx:i<=j)(hjk:j<=k)(hk:k<=l.length):l=l.take i++((l.take j).drop i++((l.take k).drop j++l.drop k)):=by
 have e1:(l.take k).drop j++l.drop k=l.drop j:=by rw[List.drop_take];have:=bF (k - j) (l.drop j);rw[List.drop_drop,show j+(k - j)=k by lia] at this;show this
 have e2:(l.take j).drop i++l.drop j=l.drop i:=by rw[List.drop_take];have:=bF (j - i) (l.drop i);rw[List.drop_drop,show i+(j - i)=j by lia] at this;show this
 rw[e1,e2,bF]
def Kq (O:Ord less){i j lo hi:Nat}(h:Sg less xs lo hi)(h1:lo<=i)(h2:j<=hi)(h3:hi<=xs.size):(xs.extract i j).toList.Pairwise (LE less):=by
 rw[List.pairwise_iff_getElem];intro x y hx hy _h;have e: ∀n (hn:n< (xs.extract i j).toList.length),(xs.extract i j).toList[n]=cC xs (i+n):=λn hn=>by
  have yS:n< (xs.extract i j).size:=by rw[du] at hn;show hn
  rw[Array.size_extract] at yS;unfold cC;rw[getElem?_pos xs (i+n) ∅];simp
 rw[e x hx,e y hy];have hy':y< (xs.extract i j).size:=by rw[du] at hy;show hy
 rw[Array.size_extract] at hy';show h _ _ ∅ ∅ ∅
def mV (h:n< (xs.extract i j).size):cC (xs.extract i j) n=cC xs (i+n):=by unfold cC;rw[Array.size_extract] at h;rw[Array.getElem?_extract,am ∅]
abbrev Rn:=Nat×Nat×Nat
theorem SA (i:Nat):mergeAt' i=(do
 let s <- get
 let (some (sa,na,pw),some (sb,nb,_)):=((pendingOf s)[i]?,(pendingOf s)[i+1]?) | unsupported "internal:list.sort.pending"
 set (setPending s (((pendingOf s).setIfInBounds i (sa,na+nb,pw)).eraseIdxIfInBounds (i+1)))
 let some k <- N_ false (<- elem' (arrOf s) sb) (arrOf s) sa na 0 | return false
 let (sa,na):=(sa+k,na - k)
 if na==0 then return true
 let some nb <- N_ true (<- elem' (arrOf s) (sa+na - 1)) (arrOf s) sb nb (nb - 1) | return false
 if nb==0 then return true
 let x:=(arrOf s).extract sa sb
 let y:=(arrOf s).extract sb (sb+nb)
 let r <- if na<=nb then mLo x y else mHi x y
 modify λs=>setArr s (Dj (arrOf s) sa r.toList.zipIdx)
 return(failedOf (<- get)).isNone):=rfl
def L' {st:σ}(h:Q ⟨⟩ v):wpS M A E s (set v:StateT σ Sem PUnit) Q st:=by unfold wpS;rw[StateT.run_set];show a5 #[rfl,h]
def wp_mAt (O:Ord less)(L:iT prog w A E s kd a₀ less){st:Xv}{l1 l2:cA Rn}(B:SB kd a₀ st)(hp:pendingOf st=(l1++(sa,na,pw)::(sb,nb,pw2)::l2).toArray)(hi:i=l1.length)(XN:sb=sa+na)(h1:1<=na)(h2:1<=nb)(hz:sb+nb<=a₀.size)(s1:Sg less (arrOf st) sa sb)(s2:Sg less (arrOf st) sb (sb+nb))(h: ∀bG,SB kd a₀ bG ->pendingOf bG=(l1++(sa,na+nb,pw)::l2).toArray ->Sg less (arrOf bG) sa (sb+nb) ->tt sa (sb+nb) (arrOf st) (arrOf bG) ->Q true bG):wpS (model prog w) A E s (mergeAt' i) Q st:=by
 subst hi;rw[SA];exact ay (wpS_get ?_);have p1:(pendingOf st)[l1.length]? =some (sa,na,pw):=by rw[hp];simp
 have p2:(pendingOf st)[l1.length+1]? =some (sb,nb,pw2):=by rw[hp];simp[a9]
 rw[p1,p2];dsimp only;exact ay (L' ?_);have hpd:((pendingOf st).setIfInBounds l1.length (sa,na+nb,pw)).eraseIdxIfInBounds (l1.length+1)=(l1++(sa,na+nb,pw)::l2).toArray:=by rw[hp];simp![List.setIfInBounds_toArray,List.eraseIdxIfInBounds_toArray];congr 1;rw[List.set_append_right _ _ (aq _),Nat.sub_self,List.set_cons_zero];rw[List.eraseIdx_append_of_length_le ∅,show l1.length+1 - l1.length=1 by lia];rfl
 rw[hpd];let FJ:Xv:=setPending st (l1++(sa,na+nb,pw)::l2).toArray
 have B1:SB kd a₀ FJ:=#[B.perm,B.kd,B.fl]
 have hsz:=B.size;change wpS _ _ _ _ _ Q FJ;exact ay (wp_elem ∅ ?_);exact ay (wp_galR O L B.kd (B.mem ∅) (λk hk=>#[∅,B.mem ∅]) ∅ (by rw[<- XN];show s1) λk g1 g2 g3=> ?_);dsimp only;by_cases c1:na - k=0;rw [am ⇑c1];exact aG (h FJ B1 rfl (λi j hi kx hj=> ?_) tt.refl);change LE less (cC (arrOf st) i) (cC (arrOf st) j);by_cases c2:j<sb;show s1 i j hi kx c2;by_cases c3:sb<=i;show s2 i j c3 kx hj;have:=g2 (i - sa) ∅;rw[show sa+(i - sa)=i by lia] at this;show O.trans _ _ _ this (s2 sb j (aq _) ∅ hj);rw [ak ⇑c1];exact ay (wp_elem ∅ ?_);rw[show sa+k+(na - k) - 1=sb - 1 by lia];exact ay (wp_galL O L B.kd (B.mem ∅) (λk hk=>#[∅,B.mem ∅]) ∅ s2 λm f1 f2 f3=> ?_);dsimp only;by_cases c2:m=0;rw [am ⇑c2];exact aG (h FJ B1 rfl (λi j hi kx hj=> ?_) tt.refl);change LE less (cC (arrOf st) i) (cC (arrOf st) j);by_cases c2:j<sb;show s1 i j hi kx c2;by_cases c3:sb<=i;show s2 i j c3 kx hj;have:=f3 (j - sb) ∅ ∅;rw[show sb+(j - sb)=j by lia] at this;show O.trans _ _ _ (s1 i (sb - 1) hi ∅ ∅) this;rw [ak ⇑c2];have hxs:((arrOf st).extract (sa+k) sb).size=na - k:=by rw[Array.size_extract];lia
 have hys:((arrOf st).extract sb (sb+m)).size=m:=by rw[Array.size_extract];lia
 have T:xN less a₀ ((arrOf st).extract (sa+k) sb) ((arrOf st).extract sb (sb+m)):=by exact#[Kq O s1 ∅ (aq _) ∅,Kq O s2 (aq _) ∅ ∅,λi hi=> ?_,λi hi=> ?_, ∅, ∅,?_,λj hj=> ?_];rw[mV hi];rw[hxs] at hi;show B.mem ∅;rw[mV hi];rw[hys] at hi;show B.mem ∅;rw[mV ∅,mV ∅];show g3 k (aq _) ∅;rw[mV hj,mV ∅];rw[hys] at hj;rw[hxs,show sa+k+(na - k - 1)=sb - 1 by lia];show f2 j hj
 have fin : ∀ (r:gA gz) (g:Nat),vF less ((arrOf st).extract (sa+k) sb) ((arrOf st).extract sb (sb+m)) r ->wpS (model prog w) A E s (do modify λs=>setArr s (Dj (arrOf s) (sa+k) r.toList.zipIdx);return(failedOf (<- get)).isNone) Q (cR FJ g):=by
  rintro r g ⟨rp,rs⟩;have rl:r.toList.length=sb+m - (sa+k):=by
   rw[rp.length_eq,aD];have e1:((arrOf st).extract (sa+k) sb).toList.length=na - k:=by rw[du];show hxs
   have e2:((arrOf st).extract sb (sb+m)).toList.length=m:=by rw[du];show hys
   rw[e1,e2];lia
  have wl:=Hm (xs:=arrOf st) (at_:=sa+k) (ms:=r.toList) (by rw[rl,hsz];lia);rw[rl,show sa+k+(sb+m - (sa+k))=sb+m by lia] at wl;have wa: ∀n,cC (Dj (arrOf st) (sa+k) r.toList.zipIdx) n=if sa+k<=n /\ n<sb+m then(r.toList[n - (sa+k)]?).getD (.none, .none) else cC (arrOf st) n:=λn=>by have e:=BJ (sa+k) n r.toList 0 (arrOf st) (by rw[rl,hsz];lia);rw[Nat.add_zero,rl,show sa+k+(sb+m - (sa+k))=sb+m by lia] at e;unfold cC;rw[e];split<;>rfl
  have wm: ∀n,sa+k<=n ->n<sb+m -> ∃n',cW (sa+k<=n') (n'<sb+m) (cC (Dj (arrOf st) (sa+k) r.toList.zipIdx) n=cC (arrOf st) n'):=λn n1 n2=>by rw[wa,am #[n1,n2],aC ∅];have hm:=rp.mem_iff.mp (List.getElem_mem (l:=r.toList) (n:=n - (sa+k)) ∅);obtain hm | hm:=a8.mp hm;rw[nV] at hm;let⟨q,q1,q2,q3,e⟩:=Du hm;show#[q,q1, ∅,e];rw[nV] at hm;let⟨q,q1,q2,q3,e⟩:=Du hm;show#[q, ∅,q2,e]
  exact ay (wpS_modify ?_);exact ay (wpS_get (aG ?_));have ef:(failedOf (setArr (cR FJ g) (Dj (arrOf (cR FJ g)) (sa+k) r.toList.zipIdx))).isNone=true:=by change(failedOf st).isNone=true;rw[B.fl];rfl
  rw[ef];exact h _ #[?_,B.kd,B.fl] rfl (λi j hi kx hj=> ?_) (λn hn=> ?_);change(Dj (arrOf st) (sa+k) r.toList.zipIdx).Perm a₀;exact Array.Perm.trans ?_ B.perm;rw[Array.perm_iff_toList_perm,wl];have e3:=VO (arrOf st).toList (sa+k) sb (sb+m) ∅ ∅ (by simp;lia);exact List.Perm.trans ?_ (List.Perm.of_eq e3.symm);exact List.Perm.append_left _ ?_;rw[<- cb];exact List.Perm.append_right _ ?_;rw[nV,nV] at rp;show rp;change LE less (cC (Dj (arrOf st) (sa+k) r.toList.zipIdx) i) (cC (Dj (arrOf st) (sa+k) r.toList.zipIdx) j);have Xk: ∀x y,sa<=x ->x<sa+k ->sa+k<=y ->y<sb+nb ->LE less (cC (arrOf st) x) (cC (arrOf st) y):=λx y x1 x2 y1 y2=>by by_cases c:y<sb;show s1 x y x1 ∅ c;have:=g2 (x - sa) ∅;rw[show sa+(x - sa)=x by lia] at this;show O.trans _ _ _ this (s2 sb y (aq _) ∅ y2)
  have abb: ∀x y,sa+k<=x ->x<sb+m ->sb+m<=y ->y<sb+nb ->LE less (cC (arrOf st) x) (cC (arrOf st) y):=λx y x1 x2 y1 y2=>by by_cases c:x<sb;have:=f3 (y - sb) ∅ ∅;rw[show sb+(y - sb)=y by lia] at this;show O.trans _ _ _ (s1 x (sb - 1) ∅ ∅ ∅) this;show s2 x y ∅ ∅ y2
  by_cases i1:i<sa+k;have ei:=wa i;rw[ak ∅] at ei;rw[ei];by_cases j1:j<sa+k;have ej:=wa j;rw[ak ∅] at ej;rw[ej];show s1 i j hi kx ∅;by_cases j2:j<sb+m;let⟨n',n1,n2,e⟩:=wm j ∅ j2;rw[e];show Xk i n' hi i1 n1 ∅;have ej:=wa j;rw[ak ∅] at ej;rw[ej];show Xk i j hi i1 ∅ hj;by_cases i2:i<sb+m;by_cases j2:j<sb+m;rw[wa i,wa j,am ∅,am ∅,aC ∅,aC ∅];by_cases cij:i=j;subst cij;show O.refl _;show List.pairwise_iff_getElem.mp rs _ _ ∅ ∅ ∅;let⟨n',n1,n2,e⟩:=wm i ∅ i2;have ej:=wa j;rw[ak ∅] at ej;rw[e,ej];show abb n' j n1 n2 ∅ hj;have ei:=wa i;have ej:=wa j;rw[ak ∅] at ei ej;rw[ei,ej];show s2 i j ∅ kx hj;change cC (Dj (arrOf st) (sa+k) r.toList.zipIdx) n=_;rw[wa n,ak ∅]
 by_cases c3:na - k<=m;rw[am c3];show ay (wp_mLo O L T B.kd λr g hr=>fin r g hr);rw[ak c3];show ay (wp_mHi O L T B.kd λr g hr=>fin r g hr)
def Runs (less:gz ->gz ->Bool)(xs:gA gz):cA Rn ->Nat ->Nat ->Prop
 | [],lo,hi=>lo=hi
 | (a,n,_)::r,lo,hi=>a=lo /\ 1<=n /\ Sg less xs lo (lo+n) /\ Runs less xs r (lo+n) hi
theorem Runs.le {less:gz ->gz ->Bool}{xs:gA gz}: ∀ {l:cA Rn} {lo hi:Nat},Runs less xs l lo hi ->lo+l.length<=hi
 | [],lo,hi,h=>Nat.le_of_eq h
 | (a,n,p)::r,lo,hi,h=>by have:=Runs.le h.2.2.2;have:=h.2.1;rw[aQ];lia
theorem Runs.app {less:gz ->gz ->Bool}{xs:gA gz}: ∀ {l1 l2:cA Rn} {lo hi:Nat},Runs less xs (l1++l2) lo hi↔ ∃m,Runs less xs l1 lo m /\ Runs less xs l2 m hi
 | [],l2,lo,hi=>#[λh=>#[lo,rfl,h],λ⟨m,e,h⟩=>by cases e;show h]
 | (a,n,p)::r,l2,lo,hi=>by symm;rintro⟨h1,h2,h3,h4⟩;let⟨m,a1,a2⟩:=Runs.app.mp h4;show#[m,#[h1,h2,h3,a1],a2];rintro⟨m,⟨h1,h2,h3,a1⟩,a2⟩;show#[h1,h2,h3,Runs.app.mpr #[m,a1,a2]]
theorem Runs.out {less:gz ->gz ->Bool}{xs ys:gA gz}{e1 e2:Nat}(o:tt e1 e2 xs ys): ∀ {l:cA Rn} {lo hi:Nat},(hi<=e1 \/ e2<=lo) ->Runs less xs l lo hi ->Runs less ys l lo hi
 | [],lo,hi,_,h=>h
 | (a,n,p)::r,lo,hi,hc,⟨h1,h2,h3,h4⟩=>by have:=Runs.le h4;exact#[h1,h2,λi j hi kx hj=> ?_,Runs.out o ∅ h4];rw[o i ∅,o j ∅];show h3 i j hi kx hj
theorem Ia {e1 e2 lo hi:Nat}(o:tt e1 e2 xs ys)(hc:hi<=e1 \/ e2<=lo)(h:Sg less xs lo hi):Sg less ys lo hi:=λi j hi kx hj=>by rw[o i ∅,o j ∅];show h i j hi kx hj
def qc {l:cA α}(h:2<=l.length):eh λl1 x y=>l=l1++ [x,y]:=by exact#[l.take (l.length - 2),l[l.length - 2],l[l.length - 1],?_];have:=bF (l.length - 2) l;rw[List.drop_eq_getElem_cons ∅,List.drop_eq_getElem_cons ∅,List.drop_eq_nil_of_le ∅] at this;have e:l.length - 2+1=l.length - 1:= ∅;simp![e] at this;show this.symm
theorem fY {α:Type}{l:cA α}(h:l≠ []): ∃l1 x,l=l1++ [x]:=#[l.dropLast,l.getLast h,(List.dropLast_concat_getLast h).symm]
def Al (l1:cA Rn)(x:Rn)(f:Rn ->Rn):(l1++ [x]).modify l1.length f=l1++ [f x]:=by
 induction l1 with
 | nil=>rfl
 | cons a l ih=>rw[List.cons_append,aQ,List.modify_succ_cons,ih];rfl
def wp_mR (O:Ord less)(L:iT prog w A E s kd a₀ less){st:Xv}{x y:Rn}{i lo:Nat}(B:SB kd a₀ st)(hp:pendingOf st=(l1++x::y::l2).toArray)(hi:i=l1.length)(hz:lo<=a₀.size)(R:Runs less (arrOf st) (l1++x::y::l2) 0 lo)(h: ∀bG z,SB kd a₀ bG ->pendingOf bG=(l1++z::l2).toArray ->Runs less (arrOf bG) (l1++z::l2) 0 lo ->tt 0 lo (arrOf st) (arrOf bG) ->Q true bG):wpS (model prog w) A E s (mergeAt' i) Q st:=by let⟨sa,na,pw⟩:=x;let⟨sb,nb,pw2⟩:=y;let⟨m,r1,rfl,h1,s1,rfl,h2,s2,r2⟩:=Runs.app.mp R;have hle:=r2.le;exact wp_mAt O L B hp hi rfl h1 h2 ∅ s1 s2 λbG B' vb s' o'=>h bG _ B' vb ?_ λk hk=>o' k ∅;exact Runs.app.mpr #[_,r1.out o' (.inl (aq _)),rfl, ∅,?_,?_];rw[<- Nat.add_assoc];show s';rw[<- Nat.add_assoc];show r2.out o' (.inr (aq _))
def z4 {a n p q lo hi:Nat}(h:Runs less xs (l1++ [(a,n,p)]) lo hi):Runs less xs (l1++ [(a,n,q)]) lo hi:=by let⟨m,r1,h1,h2,h3,h4⟩:=Runs.app.mp h;show Runs.app.mpr #[m,r1,h1,h2,h3,h4]
def wp_sort (O:Ord less)(L:iT prog w A E s kd a₀ less){st:Xv}(B:SB kd a₀ st)(Tl:pendingOf st= #[])(h2:2<=a₀.size)(h: ∀bG,(arrOf bG).Perm a₀ ->failedOf bG=none ->Sg less (arrOf bG) 0 a₀.size ->Q () bG):wpS (model prog w) A E s sortRuns' Q st:=by
 rw[sortRuns'_eq];exact ay (wpS_get ?_);dsimp only;simp![B.size];generalize minRun' a₀.size a₀.size 0=mr;exact ay (wpS_mono (cx (I:=λx c bG=>cc λlo pl=>k9 (c=(none,lo)) (x<=lo) (lo<=a₀.size) (SB kd a₀ bG) (pendingOf bG=pl.toArray) (Runs less (arrOf bG) pl 0 lo)) (Q:=λc bG=> ∃pl,fg (c=(none,a₀.size)) (SB kd a₀ bG) (pendingOf bG=pl.toArray) (Runs less (arrOf bG) pl 0 a₀.size)) ?step ?fin #[0,[],rfl,aq _,dc _,B,Tl,rfl]) ?post);case fin=>
  rintro c bG ⟨lo,pl,rfl,h1,Qx,B',hp,R⟩
  have:lo=a₀.size:= ∅
  subst this
  show#[pl,rfl,B',hp,R]
 case step =>
  rintro x c bG _ hx ⟨lo,pl,rfl,h1,Qx,B',hp,R⟩
  dsimp only
  by_cases c1:lo≥a₀.size
  rw[am c1]
  have:lo=a₀.size:= ∅
  subst this
  show aG #[pl,rfl,B',hp,R]
  rw[ak c1]
  exact ay (wp_run O L ∅ ∅ B' λm ot B2 m1 m2 s2 p2 o2=> ?_)
  dsimp only
  have R2:Runs less (arrOf ot) pl 0 lo:=R.out o2 (.inl (aq _))
  by_cases c2:m<mr
  rw [am c2]
  exact ay (wpS_lift (wpAny_rule #[rfl,?_]))
  exact ay (wp_bin O L ∅ ∅ B2 s2 λvR B3 s3 p3 o3=> ?_)
  simp![aK,aA,bC]
  have R3:=R2.out o3 (.inl (aq _))
  have n1:1<=min (a₀.size - lo) mr:= ∅
  have n2:lo+min (a₀.size - lo) mr<=a₀.size:= ∅
  rw[p2,hp] at p3
  clear o3
  revert s3 n1 n2
  generalize min (a₀.size - lo) mr=n
  intro s3 n1 n2
  exact ay (wpS_get ?_)
  cases hb:(pendingOf vR).back? with
  | none=>dsimp only;exact ay (wpS_modify (aG #[lo+n,pl++ [(lo,n,0)],rfl, ∅,n2,#[B3.perm,B3.kd,B3.fl],?_,Runs.app.mpr #[lo,R3,rfl,n1,s3,rfl]]));change(pendingOf vR).push (lo,n,0)=_;rw[p3];simp
  | some q=>
   let⟨s1,Sw,p1⟩:=q;dsimp only;have ku:pl≠ []:=λe=>by subst e;rw[p3] at hb;simp at hb
   exact ay (wpS_mono (cx (I:=λ_ c fS=>c=(none,()) /\ ∃pl,f_ (pl≠ []) (SB kd a₀ fS) (Sg less (arrOf fS) lo (lo+n)) (pendingOf fS=pl.toArray) (Runs less (arrOf fS) pl 0 lo)) (Q:=λc fS=>c=(none,()) /\ ∃pl,f_ (pl≠ []) (SB kd a₀ fS) (Sg less (arrOf fS) lo (lo+n)) (pendingOf fS=pl.toArray) (Runs less (arrOf fS) pl 0 lo)) ?_ (λc fS h=>h) #[rfl,pl,ku,B3,s3,p3,R3]) ?_);rintro y c fS _ hy ⟨rfl,yu,ne4,B4,s4,p4,R4⟩;exact ay (wpS_get ?_);by_cases c2:(pendingOf fS).size >1;rw[am c2];have hl:2<=yu.length:=by rw[p4] at c2;simp at c2;lia
   let⟨l1,u,v,e4⟩:=qc hl;have e5:(pendingOf fS).size - 2=l1.length:=by rw[p4,e4];simp
   have e6:(pendingOf fS)[(pendingOf fS).size - 2]? =some u:=by rw[e5,p4,e4];simp
   rw[e6];let⟨u1,u2,u3⟩:=u;dsimp only;split;show aG #[rfl,yu,ne4,B4,s4,p4,R4];subst e4;exact ay (wp_mR O L (l2:= []) B4 p4 e5 ∅ R4 λUE z B5 p5 R5 o5=> ?_);simp![aK,aA,bC];show aG #[rfl,_,by simp,B5,Ia o5 (.inr (aq _)) s4,p5,R5];rw[ak c2];show aG #[rfl,yu,ne4,B4,s4,p4,R4];rintro c fS ⟨rfl,yu,ne4,B4,s4,p4,R4⟩;dsimp only;exact ay (wpS_modify (ay (wpS_modify (aG ?_))));let⟨l1,⟨u1,u2,u3⟩,rfl⟩:=fY ne4;exact#[lo+n,(l1++ [(u1,u2,power' a₀.size (2*s1+Sw) (2*s1+Sw+Sw+n) a₀.size)])++ [(lo,n,0)],rfl, ∅,n2,#[B4.perm,B4.kd,B4.fl],?_,Runs.app.mpr #[lo,z4 R4,rfl,n1,s4,rfl]];change((pendingOf fS).modify ((pendingOf fS).size - 1) _).push (lo,n,0)=_;rw[p4];simp![List.modify_toArray,List.push_toArray,aI];congr 2;rw[aD,List.length_singleton,Nat.add_sub_cancel];show Al l1 _ _
  rw [ak c2]
  have s3:=s2
  have n1:=m1
  have n2:lo+m<=a₀.size:= ∅
  have p3:pendingOf ot=pl.toArray:=by rw[p2,hp]
  have B3:=B2
  have R3:=R2
  clear p2 o2 B2 R2 s2 m1 m2 c2
  revert s3 n1 n2
  generalize m=n
  intro s3 n1 n2
  revert p3 B3 R3 s3
  generalize ot=vR
  intro p3 B3 R3 s3
  exact ay (wpS_get ?_)
  cases hb:(pendingOf vR).back? with
  | none=>dsimp only;exact ay (wpS_modify (aG #[lo+n,pl++ [(lo,n,0)],rfl, ∅,n2,#[B3.perm,B3.kd,B3.fl],?_,Runs.app.mpr #[lo,R3,rfl,n1,s3,rfl]]));change(pendingOf vR).push (lo,n,0)=_;rw[p3];simp
  | some q=>
   let⟨s1,Sw,p1⟩:=q;dsimp only;have ku:pl≠ []:=λe=>by subst e;rw[p3] at hb;simp at hb
   exact ay (wpS_mono (cx (I:=λ_ c fS=>c=(none,()) /\ ∃pl,f_ (pl≠ []) (SB kd a₀ fS) (Sg less (arrOf fS) lo (lo+n)) (pendingOf fS=pl.toArray) (Runs less (arrOf fS) pl 0 lo)) (Q:=λc fS=>c=(none,()) /\ ∃pl,f_ (pl≠ []) (SB kd a₀ fS) (Sg less (arrOf fS) lo (lo+n)) (pendingOf fS=pl.toArray) (Runs less (arrOf fS) pl 0 lo)) ?_ (λc fS h=>h) #[rfl,pl,ku,B3,s3,p3,R3]) ?_);rintro y c fS _ hy ⟨rfl,yu,ne4,B4,s4,p4,R4⟩;exact ay (wpS_get ?_);by_cases c2:(pendingOf fS).size >1;rw[am c2];have hl:2<=yu.length:=by rw[p4] at c2;simp at c2;lia
   let⟨l1,u,v,e4⟩:=qc hl;have e5:(pendingOf fS).size - 2=l1.length:=by rw[p4,e4];simp
   have e6:(pendingOf fS)[(pendingOf fS).size - 2]? =some u:=by rw[e5,p4,e4];simp
   rw[e6];let⟨u1,u2,u3⟩:=u;dsimp only;split;show aG #[rfl,yu,ne4,B4,s4,p4,R4];subst e4;exact ay (wp_mR O L (l2:= []) B4 p4 e5 ∅ R4 λUE z B5 p5 R5 o5=> ?_);simp![aK,aA,bC];show aG #[rfl,_,by simp,B5,Ia o5 (.inr (aq _)) s4,p5,R5];rw[ak c2];show aG #[rfl,yu,ne4,B4,s4,p4,R4];rintro c fS ⟨rfl,yu,ne4,B4,s4,p4,R4⟩;dsimp only;exact ay (wpS_modify (ay (wpS_modify (aG ?_))));let⟨l1,⟨u1,u2,u3⟩,rfl⟩:=fY ne4;exact#[lo+n,(l1++ [(u1,u2,power' a₀.size (2*s1+Sw) (2*s1+Sw+Sw+n) a₀.size)])++ [(lo,n,0)],rfl, ∅,n2,#[B4.perm,B4.kd,B4.fl],?_,Runs.app.mpr #[lo,z4 R4,rfl,n1,s4,rfl]];change((pendingOf fS).modify ((pendingOf fS).size - 1) _).push (lo,n,0)=_;rw[p4];simp![List.modify_toArray,List.push_toArray,aI];congr 2;rw[aD,List.length_singleton,Nat.add_sub_cancel];show Al l1 _ _
 case post =>
  rintro c bG ⟨pl,rfl,B',hp,R⟩
  dsimp only
  have hle:=R.le
  exact ay (wpS_mono (cx (I:=λx c fS=>c=(none,()) /\ ∃pl,fg (SB kd a₀ fS) (pendingOf fS=pl.toArray) (Runs less (arrOf fS) pl 0 a₀.size) (pl.length<=1 \/ pl.length+x<=a₀.size)) (Q:=λc fS=>c=(none,()) /\ ∃pl,cW (SB kd a₀ fS) (Runs less (arrOf fS) pl 0 a₀.size) (pl.length<=1)) ?_ ?_ #[rfl,pl,B',hp,R, .inr ∅]) ?_)
  rintro x c fS _ hx ⟨rfl,yu,B4,p4,R4,hl⟩
  exact ay (wpS_get ?_)
  have esz:(pendingOf fS).size=yu.length:=by rw[p4];simp
  by_cases c1:(pendingOf fS).size<=1
  rw[am c1]
  show aG #[rfl,yu,B4,R4, ∅]
  rw [ak c1]
  generalize ajo:Option.any _ _=cnd
  have mk: ∀k,k+2<=yu.length -> ∀ (Q':ForInStep (eM Unit×Unit) ->Xv ->Prop),(∀bG pl,SB kd a₀ bG ->pendingOf bG=pl.toArray ->Runs less (arrOf bG) pl 0 a₀.size ->(pl.length<=1 \/ pl.length+(x+1) <=a₀.size) ->Q' (.yield (none,())) bG) ->wpS (model prog w) A E s (do
    let b <- mergeAt' k
    if(!b)=true then pure (ForInStep.done ((some (),()):eM Unit×Unit)) else pure (ForInStep.yield (none,()))) Q' fS:=by
   intro k hk Q' hQ
   have e:=bF k yu
   rw[List.drop_eq_getElem_cons ∅,List.drop_eq_getElem_cons ∅] at e
   have xl:(yu.take k).length=k:=by rw[cz];lia
   rw[<- e] at p4 R4
   exact ay (wp_mR O L B4 p4 xl.symm (aq _) R4 λUE z B5 p5 R5 o5=> ?_)
   simp![aK,aA,bC]
   exact aG (hQ _ _ B5 p5 R5 (.inr ?_))
   rw[aD,xl,aQ,List.length_drop]
   lia
  cases cnd with
  | true=>simp![bV];show mk ((pendingOf fS).size - 2 - 1) ∅ _ λbG pl b1 b2 b3 b4=>#[rfl,pl,b1,b2,b3,b4]
  | false=>simp![aA,bC];show mk ((pendingOf fS).size - 2) ∅ _ λbG pl b1 b2 b3 b4=>#[rfl,pl,b1,b2,b3,b4]
  rintro c fS ⟨rfl,yu,B4,p4,R4,hl⟩
  show#[rfl,yu,B4,R4, ∅]
  rintro c fS ⟨rfl,yu,B4,R4,hl⟩
  exact aG (h _ B4.perm B4.fl ?_)
  match yu,R4,hl with
  | [],R4,_=>show absurd R4 (by change ¬(0=a₀.size);lia)
  | [(u1,u2,u3)],⟨_,_,h3,h4⟩,_=>have h4:0+u2=a₀.size:=h4;rw[h4] at h3;show h3
  | _::_::_,_,hl=>simp at hl
def Gi (h:Heap)(a:fM)(vs:cA c5):Heap:=((h.update a (Obj.mapSeq λ_=> #[])).push (seqObj "tuple" vs.toArray 0)).push (seqObj "list" #[] 0)
def Ny (ho:h.get? a=some (seqObj "list" vs.toArray n)):(Gi h a vs).get? a=some (seqObj "list" #[] (if((#[]:gA c5)).size==vs.toArray.size then n else n+1)):=by have ha:=aN ho;unfold Gi;rw[Heap.get?_push_ne _ _ _ (by rw[size_push',Heap.size_update];show bu (Nat.lt_succ_of_lt ha)),Heap.get?_push_ne _ _ _ (by rw[Heap.size_update];show bu ha)];show get?_update_seq ho (λ_=> #[])
def zQ (O:Ord less)(ho:s.heap.get? a=some (seqObj "list" vs.toArray n))(hsz:vs.length<=sizeLine)(hk:2<=vs.length -> ∀ (Q:SortKind ->dq ->Prop),Q kd {s with heap:=Gi s.heap a vs} ->wpAny (model prog w) A (keyKind' vs.toArray) Q E {s with heap:=Gi s.heap a vs})(L:iT prog w A E {s with heap:=Gi s.heap a vs} kd (pairsOf vs) less)(h: ∀ (us:cA c5),us.Perm vs ->us.Pairwise (λx y=>less (y,y) (x,x)=false) ->P (.done (.ret .none)) {s with heap:=sortedHeap s.heap a vs us.toArray}): wpAny (model prog w) A (Builtin.«list.sort» #[[.ref a],[]]) P E s:=by
 rw[list_sort_plain];exact ax (listItems_at ho rfl ?_);exact ax (listUpdate_at ho rfl ?_ (hsz:= ⇑hsz));exact ax (seqEpoch_at (get?_update_seq ho (λ_=> #[])) rfl ?_);exact ax (wpAny_newTuple ?_);exact ax (wpAny_newList ?_);exact wpAny_holding ?_;have _j:=Ny ho;change wpAny (model prog w) A _ P E {s with heap:=Gi s.heap a vs};dsimp only;have fin: ∀xs:gA gz,xs.Perm (pairsOf vs) ->Sg less xs 0 (pairsOf vs).size ->P (.done (.ret .none)) {s with heap:=sortedHeap s.heap a vs (xs.map (·.2))}:=by
  intro xs hp hs;have hl:xs.toList.Perm (vs.zip vs):=by rw[<- pairsOf_toList];show Array.perm_iff_toList_perm.mp hp
  have X0: ∀p,p∈xs.toList ->p.1=p.2 /\ p.1∈vs:=λp vb=>mem_zip_self (hl.mem_iff.mp vb);have:=h (xs.toList.map (·.2)) ?_ ?_;have e:(xs.toList.map (·.2)).toArray=xs.map (·.2):=by apply Array.toList_inj.mp;simp
  rwa [e] at this;have h1:=hl.map (λp:gz=>p.2);rwa [List.map_snd_zip (aq _)] at h1;rw[List.pairwise_iff_getElem];intro i j hi hj kx;have rL:i<xs.size:= ⇑hi;have Tv:j<xs.size:= ⇑hj;have h1:=hs i j (dc _) (Nat.le_of_lt kx) (by rw[<- hp.size_eq];show Tv);have e1:cC xs i=((xs.toList.map (·.2))[i],(xs.toList.map (·.2))[i]):=by rw[List.getElem_map];have hm:=zb rL;have e:=gH rL;rw[aC ⇑rL] at e;have e:=bp e;rw[e];show Prod.ext (X0 _ hm).1 rfl
  have e2:cC xs j=((xs.toList.map (·.2))[j],(xs.toList.map (·.2))[j]):=by rw[List.getElem_map];have hm:=zb Tv;have e:=gH Tv;rw[aC ⇑Tv] at e;have e:=bp e;rw[e];show Prod.ext (X0 _ hm).1 rfl
  rw[e1,e2] at h1;show h1
 have ajF:vs.toArray.size=vs.length:=by simp
 by_cases h2:vs.toArray.size<2;rw[am h2,am h2];exact ax (a5 ?_);rw[StateT.run_pure];exact ax (a5 ?_);dsimp only;exact ax (seqEpoch_at _j rfl ?_);exact ax (listUpdate_at _j rfl ?_ (hsz2:=by rw[Array.size_map];change(pairsOf vs).size<=_;rw[pairsOf_size];lia));simp![bne_self_eq_false,aA,bC];exact a5 (fin (pairsOf vs) (Array.Perm.refl _) ?_);intro i j _ kx hj;have:i=j:=by rw[pairsOf_size] at hj;lia
 subst this;show O.refl _;rw[ak h2,ak h2];exact ax (hk ∅ _ ?_);exact ax (bw (wp_sort O L (st:=SortSt.mk' kd (vs.toArray.zip vs.toArray) #[] 7 none) (Q:=λ_ bG=>(arrOf bG).Perm (pairsOf vs) /\ failedOf bG=none /\ Sg less (arrOf bG) 0 (pairsOf vs).size) #[Array.Perm.refl _,rfl,rfl] rfl (by rw[pairsOf_size];lia) λbG a1 a2 a3=>#[a1,a2,a3]) ?_ λ_ _ e=>e);rintro⟨⟨⟩,bG⟩ s' ⟨rfl,hp,hf,hs⟩;dsimp only;exact ax (seqEpoch_at _j rfl ?_);exact ax (listUpdate_at _j rfl ?_ (hsz2:=by exact aw (Nat.le_of_eq ((Array.size_map ..).trans (hp.size_eq.trans (pairsOf_size _)))) ?_;lia));rw[hf];simp![bne_self_eq_false,aA,bC];show a5 (fin _ hp hs)
def uQ (x y:gz):Bool:=decide (numOf x.1<numOf y.1)
def aa2:Ord uQ:=by exact#[λx y h=> ?_,λx y z h1 h2=> ?_];unfold uQ at*;rw[cV] at h;show aE ∅;unfold LE uQ at*;rw[decide_eq_false_iff_not] at*;lia
def ltI {a₀:gA gz}(h0:IntKeys a₀):iT prog w A E s oneType' a₀ uQ:=by
 intro x y st Q hx hy hk hq;let⟨n,t,e1⟩:=h0 x hx;let⟨m,u,e2⟩:=h0 y hy;rw[lt'_eq];exact ay (wpS_get ?_);rw[hk,keyLt'_oneType,e1,e2];exact ay (wpS_lift (wpAny_attempt (oneLt_int #[rfl,?_])));have e:uQ x y=decide (n<m):=by unfold uQ;rw[e1,e2];rfl
 rw[e] at hq;show aG hq
def FL (ho:s.heap.get? a=some (seqObj "list" vs.toArray n))(hI:IntsAre vs ns)(hsz:vs.length<=sizeLine)(h: ∀ (out:gA c5) (BC:cA Int),IntsAre out.toList BC ->BC.Perm ns ->BC.Pairwise (· <= ·) ->P (.done (.ret .none)) {s with heap:=sortedHeap s.heap a vs out}): wpAny (model prog w) A (Builtin.«list.sort» #[[.ref a],[]]) P E s:=by
 exact zQ aa2 ho hsz (kd:=oneType') (λh2 Q hq=> ?_) (ltI hI.intKeys) λus hp hs=> ?_;let⟨v₁,v₂,cE,rfl⟩:eh λv₁ v₂ cE=>vs=v₁::v₂::cE:=by
  match vs,h2 with
  | [],h2=>simp at h2
  | [_],h2=>simp at h2
  | v₁::v₂::cE,_=>show#[v₁,v₂,cE,rfl]
 rw[keyKind_ints hI];show a5 hq;have wt: ∀v,v∈us -> ∃n t,v= .int n t:=λv hv=>hI.all v (hp.mem_iff.mp hv);exact h us.toArray (us.map numOf) ⇑(intsAre_map us wt) ?_ ?_;have:=hp.map numOf;rwa [hI.nums] at this;rw[List.pairwise_map];exact hs.imp λ{x y} e=> ?_;unfold uQ at e;rw[decide_eq_false_iff_not] at e;simp only at e;lia
end TS
namespace L2
open PySem PySem.Spec PyProof.Rows
abbrev bX:=Sum Int Str
def o_:bX ->c5 ->Bool
 | .inl k,v=>Value.isInt k v
 | .inr x,v=>Value.isStrOf x v
def aba (w:World):bX ->Int
 | .inl k=>hashInt k
 | .inr x=>hashStr w x
theorem db: ∀ {k:bX} {v:c5},o_ k v=true ->(cc λi t=>k=Sum.inl i /\ v=Value.int i t) \/ (cc λx t=>k=Sum.inr x /\ v=Value.str x t)
 | .inl i,v,h=>by let⟨t,e⟩:=Value.isInt_shape (k:=i) (v:=v) h;show .inl #[i,t,rfl,e]
 | .inr x,v,h=>by let⟨t,e⟩:=Value.isStrOf_shape (x:=x) (v:=v) h;show .inr #[x,t,rfl,e]
def Gr (i:Int)(t:Tok):o_ (.inl i) (.int i t)=true:=by simp[o_,Value.isInt]
def Gq (x:Str)(t:Tok):o_ (.inr x) (.str x t)=true:=by simp[o_,Value.isStrOf]
def SK (a b:Int):decide ((Sum.inl a:bX)=Sum.inl b)=(a==b):=by by_cases e:a=b;subst e;simp;have h:¬(Sum.inl a:bX)=Sum.inl b:=λq=>e (Sum.inl.inj q);rw[aE h];show(beq_eq_false_iff_ne.mpr e).symm
def SH (a b:Str):decide ((Sum.inr a:bX)=Sum.inr b)=decide (a=b):=by by_cases e:a=b;subst e;simp;have h:¬(Sum.inr a:bX)=Sum.inr b:=λq=>e (Sum.inr.inj q);rw[aE h,aE e]
theorem SJ (a:Int)(b:Str):decide ((Sum.inl a:bX)=Sum.inr b)=false:=aE (λq=>nomatch q)
theorem SI (a:Str)(b:Int):decide ((Sum.inr a:bX)=Sum.inl b)=false:=aE (λq=>nomatch q)
def cJ (prog:Program)(w:World):PySem.KeyKind prog w bX where
 is:=o_
 hash:=aba w
 inj :=λv a b ha hb=>by
  rcases db ha with⟨i,t,rfl,rfl⟩ | ⟨x,t,rfl,rfl⟩
  rcases db hb with⟨j,u,rfl,e⟩ | ⟨y,u,rfl,e⟩
  injection e with e1 _;rw[e1];show nomatch e
  rcases db hb with⟨j,u,rfl,e⟩ | ⟨y,u,rfl,e⟩
  show nomatch e
  injection e with e1 _;rw[e1]
 byValue:=λk v h=>by rcases db h with⟨i,t,rfl,rfl⟩ | ⟨x,t,rfl,rfl⟩ <;>rfl
 pyHash:=λhv h=>by
  rcases db hv with⟨i,t,rfl,rfl⟩ | ⟨x,t,rfl,rfl⟩
  show wpAny_pyHash_int h;show wpAny_pyHash_str h
 eqBool:=λhu hv h=>by
  rcases db hu with⟨i,t,rfl,rfl⟩ | ⟨x,t,rfl,rfl⟩
  rcases db hv with⟨j,u,rfl,rfl⟩ | ⟨y,u,rfl,rfl⟩
  rw[SK] at h;show wpAny_eqBool_int h;rw[SJ] at h;show SeqAt.EqAt.int_str i t y u _ _ _ _ h;rcases db hv with⟨j,u,rfl,rfl⟩ | ⟨y,u,rfl,rfl⟩
  rw[SI] at h;show SeqAt.EqAt.str_int x t j u _ _ _ _ h;rw[SH] at h;show wpAny_eqBool_str h
 «strs» :=λk x t v h=>by
  rcases db h with⟨i,u,rfl,e⟩ | ⟨y,u,rfl,e⟩
  show nomatch e
  injection e with e1 _;subst e1;cases v<;>rfl
theorem An (prog:Program)(w:World)(i:Int)(t:Tok):(cJ prog w).is (.inl i) (.int i t)=true:=Gr i t
theorem Am (prog:Program)(w:World)(x:Str)(t:Tok):(cJ prog w).is (.inr x) (.str x t)=true:=Gq x t
set_option genInjectivity true in
inductive V where
  | dG | bl (b:Bool) | int (i:Int) | str (x:Str) | CS (b:Array UInt8) | Of (b:UInt64) | ref (a:Addr) | ty (n:String)
 deriving DecidableEq
def RelV:V ->c5 ->Prop
 | .dG,u=>u=Value.none
 | .bl b,u=>u=Value.bool b
 | .int i,u=> ∃t,u=Value.int i t
 | .str x,u=> ∃t,u=Value.str x t
 | .CS b,u=> ∃t,u=Value.bytes b t
 | .Of b,u=> ∃t,u=Value.float b t
 | .ref a,u=>u=Value.ref a
 | .ty n,u=>u=Value.type n
abbrev bW:cA V ->cA c5 ->Prop:=Paired RelV
theorem bW.length (r:bW xs us):xs.length=us.length:=Paired.length r
theorem bW.get: ∀ {xs:cA V} {us:cA c5} {i:Nat} {x:V},bW xs us ->xs[i]? =some x -> ∃u,us[i]? =some u /\ RelV x u
 | _,_,_,_, .nil,e=>by simp at e
 | _,_,0,_, .cons r _,e=>by simp at e;subst e;show#[_,rfl,r]
 | _,_,i+1,x, .cons _ t,e=>by let⟨u,h1,h2⟩:=bW.get (i:=i) (x:=x) t ⇑e;show#[u, ⇑h1,h2]
theorem bW.set {x:V}{u:c5}(r:RelV x u): ∀ {xs:cA V} {us:cA c5} (i:Nat),bW xs us ->bW (xs.set i x) (us.set i u)
 | _,_,_, .nil=> .nil
 | _,_,0, .cons _ t=> .cons r t
 | _,_,i+1, .cons q t=> .cons q (bW.set r i t)
theorem bW.append: ∀ {xs ys:cA V} {us ws:cA c5},bW xs us ->bW ys ws ->bW (xs++ys) (us++ws)
 | _,_,_,_, .nil,s=>s
 | _,_,_,_, .cons r t,s=> .cons r (bW.append t s)
theorem bW.take: ∀ {xs:cA V} {us:cA c5} (n:Nat),bW xs us ->bW (xs.take n) (us.take n)
 | _,_,0,_=> .nil
 | _,_,_+1, .nil=> .nil
 | _,_,n+1, .cons r t=> .cons r (bW.take n t)
theorem bW.drop: ∀ {xs:cA V} {us:cA c5} (n:Nat),bW xs us ->bW (xs.drop n) (us.drop n)
 | _,_,0,r=>r
 | _,_,_+1, .nil=> .nil
 | _,_,n+1, .cons _ t=>bW.drop n t
def j7:eM V ->eM c5 ->Prop
 | some v,some u=>RelV v u
 | none,none=>True
 | _,_=>False
def KV {κ:Type}:cA (κ×V) ->cA (κ×c5) ->Prop:=Paired λ(p:κ×V) (q:κ×c5)=>p.1=q.1 /\ RelV p.2 q.2
def kV:bX ->V
 | .inl i=> .int i
 | .inr x=> .str x
set_option genInjectivity true in
inductive HO where
 /-- a list -/
 | lst (xs:List V)
 /-- a tuple (never changes) -/
 | tup (xs:List V)
 /-- a dict U' keys are ints and texts;one U' keys are tuples of ints and texts (UD empty one is both) -/
 | dK (kvs:List (bX×V)) | dT (kvs:List (List bX×V))
 /-- a set of ints:bI members,bI size -/
 | set (S:Int ->Bool) (n:Nat)
 /-- an instance of UD class at C,bI dict at dx,bI attributes -/
 | ins (C dx:Addr) (fs:List (Str×V))
 /-- UD dict of UD instance at x -/
 | own (x:Addr)
 /-- UD dict of an exception -/
 | xd (fs:List (Str×V))
 /-- a bound method,f of x -/
 | met (f x:Addr)
 /-- a range object lo,lo+1, .. below hi -/
 | ZO (lo hi:Int)
 /-- a thing ajx is known to UD object (UD aaP;a dict while a loop walks it):read,never written while it is so -/
 | lc (o:Obj) (u:HO)
 /-- a code W3 table -/
 | Mq (ps:Array Value)
 /-- any other thing,by ajt is true of bI one object (a def of aiK own:ajL a S n:=HO.ext λh=> ..) -/
 | ext (φ:Heap ->Prop)
abbrev Hp:=fM ->eM HO
def cf (H:Hp)(a:fM)(o:HO):Hp:=λb=>if b=a then some o else H b
def bM:cf H a o a=some o:=by unfold cf;rw[am rfl]
def bL (h:b≠a):cf H a o b=H b:=by unfold cf;rw[ak h]
def W7 {H:Hp}(h:H a=some o)(h':H b=some u)(d:o≠u):a≠b:=by intro e;subst e;rw[h] at h';show d (bp h')
def e_ {H:Hp}(h:H a=some o)(h':H b=none):a≠b:=by intro e;subst e;rw[h] at h';cases h'
def zh (h:Heap)(a:fM)(bI:gA c5):Prop:= ∃o,h.get? a=some o /\ o.cls= .type "tuple" /\ ∃n,o.data= .seq bI n /\ o.dict=none
theorem zh.t (x:zh h a bI):IsTup h a bI:=let ⟨o,e,c,n,d,_⟩:=x;#[o,e,c,n,d]
theorem zh.lt (x:zh h a bI):a<h.objs.size:=let ⟨_,e,_⟩:=x;aN e
theorem zh.new (h:Heap)(bI:gA c5):zh (h.push {cls:= .type "tuple",data:= .seq bI}) h.objs.size bI:=#[_,aW _ rfl,rfl,_,rfl,rfl]
section
variable (P:Program)(w:World)
def dX (H:Hp)(h:Heap)(a:fM):HO ->Prop
 | .lst xs=>xs.length<=sizeLine /\ cc λ(bI:cA c5) (n:Nat)=>bW xs bI /\ h.get? a=some {cls:= .type "list",data:= .seq bI.toArray n}
 | .tup xs=>xs.length<=sizeLine /\ ∃bI:cA c5,bW xs bI /\ zh h a bI.toArray
 | .dK kvs=>kvs.length<=sizeLine /\ (a==sysModules)=false /\ ∃vs,KV kvs vs /\ h.DictOf (cJ P w) a vs
 | .dT kvs=>kvs.length<=sizeLine /\ (a==sysModules)=false /\ ∃xs:cA (cA bX×fM×c5),Paired (λ(p:cA bX×V) (q:cA bX×fM×c5)=>p.1=q.1 /\ H q.2.1=some (.tup (p.1.map kV)) /\ RelV p.2 q.2.2) kvs xs /\∃o es ep,h.get? a=some o /\ o.ExactDict /\ o.data= .dict es ep /\ es.toList=xs.map (entryOfKey (tupleKind (cJ P w))) /\ (xs.map (·.1)).Nodup
 | .set S n=>h.SetOf (intKind P w) a S n
 | .ins C dx fs=>H dx=some (.own a) /\ fs.length<=1000 /\ dx≠a /\ h.get? a=some (W.instObj C dx) /\∃mA,h.Ns1 dx mA /\ (∀f,j7 (fs.lookup f) (mA f)) /\ PySem.Within mA (fs.map (·.1))
 | .own _=> ∃o,h.get? a=some o
 | .xd fs=> ∃mA,h.Ns1 a mA /\ ∀f,j7 (fs.lookup f) (mA f)
 | .ZO lo hi=>eh λt u v=>h.get? a=some {cls:= .type "range",data:= .fields (List.toArray [.int lo t, .int hi u, .int 1 v])}
 | .lc o u=>h.get? a=some o /\ dX H h a u
 | .Mq ps=>h.get? a=some {cls:= .none,data:= .fields ps}
 | .met f x=>h.get? a=some (W.methodObj (.ref f) (.ref x))
 | .ext φ=>φ h /\ (∃o,h.get? a=some o) /\ ∀h1 h2:Heap,φ h1 ->(∀o,h1.get? a=some o ->h2.get? a=some o) ->φ h2
def mJ (H:Hp)(h:Heap):Prop:= ∀a o,H a=some o ->dX P w H h a o
end
def dX.lt (x:dX P w H h a o):a<h.objs.size:=by
 cases o with
 | lst xs=>let⟨_,_,_,_,e⟩:=x;show aN e
 | tup xs=>let⟨_,_,_,p⟩:=x;show p.lt
 | dK kvs=>let⟨_,_,_,_,o,_,_,e,_⟩:=x;show aN e
 | dT kvs=>let⟨_,_,_,_,o,_,_,e,_⟩:=x;show aN e
 | set S n=>let⟨o,_,_,_,e,_⟩:=x;show aN e
 | ins C dx fs=>let⟨_,_,_,e,_⟩:=x;show aN e
 | own y=>let⟨_,e⟩:=x;show aN e
 | xd fs=>let⟨_,⟨_,_,_,e,_⟩,_⟩:=x;show aN e
 | ZO lo hi=>let⟨_,_,_,e⟩:=x;show aN e
 | lc ob u=>let⟨e,_⟩:=x;show aN e
 | Mq ps=>show aN (show h.get? a=some _ from x)
 | met f y=>show aN (show h.get? a=some _ from x)
 | ext φ=>let⟨_,⟨_,e⟩,_⟩:=x;show aN e
theorem Paired.Sy {α β:Type}{F G:α ->β ->Prop}: ∀ {l₁:cA α} {l₂:cA β},Paired F l₁ l₂ ->(∀a b,F a b ->G a b) ->Paired G l₁ l₂
 | _,_, .nil,_=> .nil
 | _,_, .cons r t,f=> .cons (f _ _ r) (Paired.Sy t f)
def dX.sB (x:dX P w H h a o)(k: ∀b u,(b=a \/ H b=some (.own a)) ->h.get? b=some u ->h'.get? b=some u)(ho: ∀b,H b=some (.own a) ->H' b=some (.own a))(ht: ∀b xs,H b=some (.tup xs) ->H' b=some (.tup xs)):dX P w H' h' a o:=by
 induction o with
 | lst xs=>let⟨z,bI,n,r,e⟩:=x;show#[z,bI,n,r,k _ _ (.inl rfl) e]
 | tup xs=>let⟨z,bI,r,ob,e,c⟩:=x;show#[z,bI,r,ob,k _ _ (.inl rfl) e,c]
 | dK kvs=>let⟨z,y,vs,r,ob,es,ep,e,c⟩:=x;show#[z,y,vs,r,ob,es,ep,k _ _ (.inl rfl) e,c]
 | dT kvs=>let⟨z,y,xs,r,ob,es,ep,e,c⟩:=x;show#[z,y,xs,Paired.Sy r λp q z=>#[z.1,ht _ _ z.2.1,z.2.2],ob,es,ep,k _ _ (.inl rfl) e,c]
 | set S n=>let⟨ob,es,ep,t,e,c⟩:=x;show#[ob,es,ep,t,k _ _ (.inl rfl) e,c]
 | ins C dx fs=>let⟨d,z,ne,e,mA,⟨od,es,ep,e2,c⟩,r⟩:=x;show#[ho _ d,z,ne,k _ _ (.inl rfl) e,mA,#[od,es,ep,k _ _ (.inr d) e2,c],r]
 | own y=>let⟨ob,e⟩:=x;show#[ob,k _ _ (.inl rfl) e]
 | xd fs=>let⟨mA,⟨od,es,ep,e,c⟩,r⟩:=x;show#[mA,#[od,es,ep,k _ _ (.inl rfl) e,c],r]
 | ZO lo hi=>let⟨t,u,v,e⟩:=x;show#[t,u,v,k _ _ (.inl rfl) e]
 | lc ob u ih=>let⟨e,q⟩:=x;show#[k _ _ (.inl rfl) e,ih q]
 | Mq ps=>have e:h.get? a=some {cls:= .none,data:= .fields ps}:=x;change h'.get? a=some {cls:= .none,data:= .fields ps};show k a _ (.inl rfl) e
 | met f y=>have e:h.get? a=some (W.methodObj (.ref f) (.ref y)):=x;change h'.get? a=some (W.methodObj (.ref f) (.ref y));show k a _ (.inl rfl) e
 | ext φ=>let⟨p,⟨o,e⟩,st⟩:=x;show#[st _ _ p λo q=>k _ _ (.inl rfl) q,#[o,k _ _ (.inl rfl) e],st]
theorem mJ.lt (x:mJ P w H h)(e:H a=some o):a<h.objs.size:=(x a o e).lt
def mJ.fresh {a:fM}(x:mJ P w H h)(e:h.objs.size<=a):H a=none:=by
 cases q:H a with
 | none=>rfl
 | some u=>show absurd (be (x.lt q) e) (Nat.lt_irrefl _)
theorem mJ.kept (x:mJ P w H h)(k: ∀b u,h.get? b=some u ->h'.get? b=some u):mJ P w H h':=λa o e=>(x a o e).sB (λb u _ q=>k b u q) (λ_ q=>q) λ_ _ q=>q
theorem mJ.laid {a:fM}(x:mJ P w H h)(k: ∀b u,h.get? b=some u ->h'.get? b=some u)(hp:h.objs.size<=a)(new:dX P w (cf H a o) h' a o):mJ P w (cf H a o) h':=λb u e=>by have hn:=x.fresh hp;by_cases hb:b=a;subst hb;rw[bM] at e;cases e;show new;rw[bL hb] at e;show(x b u e).sB (λc v _ q=>k c v q) (λc q=>by rw[bL (e_ q hn)];show q) λc xs q=>by rw[bL (e_ q hn)];show q
def Rd (H:Hp)(a:fM)(u:HO):Prop:=H a=some u \/ ∃o,H a=some (.lc o u)
def Rd.ok (r:Rd H a u)(x:mJ P w H h):dX P w H h a u:=by obtain r | ⟨o,r⟩:=r;show x a u r;let⟨_,q⟩:=x a _ r;show q
def YU:eM HO ->Prop
 | some (.lst _)=>True
 | some (.dK _)=>True
 | some (.dT _)=>True
 | some (.set _ _)=>True
 | some (.ins _ _ _)=>True
 | some (.ext _)=>True
 | _=>False
theorem mJ.write (ok:mJ P w H h)(mu:YU (H x))(he:e=x \/ H e=some (.own x))(k: ∀b u,b≠e ->h.get? b=some u ->h'.get? b=some u)(US: ∃u,h'.get? e=some u)(new:dX P w (cf H x o') h' x o'):mJ P w (cf H x o') h':=λb u q=>by
 have W5: ∀c y,H c=some (.own y) ->c≠x:=λc y r z=>by subst z;rw[r] at mu;show mu
 have aa4: ∀c xs,H c=some (.tup xs) ->c≠x:=λc xs r z=>by subst z;rw[r] at mu;show mu
 by_cases hb:b=x;subst hb;rw[bM] at q;cases q;show new;rw [bL hb] at q;by_cases TD:b=e;have q':H b=some (.own x):=by obtain z | z:=he;show absurd (TD.trans z) hb;rw[TD];show z
 rw[q] at q';cases q';let⟨v,hv⟩:=US;show#[v,by rw[TD];show hv];exact(ok b u q).sB (λc v hc r=>k c v ?_ r) (λc r=>by rw[bL (W5 c b r)];show r) λc xs r=>by rw[bL (aa4 c xs r)];show r
 obtain rfl | hc:=hc;show TD;rintro rfl;obtain z | z:=he;show W5 c b hc z;rw[hc] at z;cases z;show hb rfl
structure Un (fs ex:List Addr)(H H':Hp)(h h':Heap):Prop where
 keep: ∀b o,h.get? b=some o ->H b=none ->b∉fs ->b∉ex ->h'.get? b=some o
 slot: ∀b o,h.get? b=some o ->H b=none ->b∈fs ->b∉ex -> ∃sl,h'.get? b=some {o with slots:=sl}
 free: ∀b o,h.get? b=some o ->H b=none ->b∉ex ->H' b=none
 there: ∀b o,h.get? b=some o ->b∉ex -> ∃o',h'.get? b=some o'
 nF: ∀b xs,H b=some (.tup xs) ->H' b=some (.tup xs)
 lX: ∀b o u,H b=some (.lc o u) ->H' b=some (.lc o u)
 ol: ∀b ps,H b=some (.Mq ps) -> ∃more,H' b=some (.Mq (ps++more))
section
variable {fs fs' ex ex':cA fM}{H H1 H2:Hp}{h h1 h2 h':Heap}{a x e:fM}{o:HO}
def Un.any (u:Un fs ex H H1 h h1)(q:h.get? b=some ob)(n:H b=none)(hx:b∉ex): ∃sl,h1.get? b=some {ob with slots:=sl}:=by by_cases hb:b∈fs;show u.slot b ob q n hb hx;show#[ob.slots,u.keep b ob q n hb hx]
theorem Un.kept (k: ∀b u,h.get? b=some u ->h'.get? b=some u):Un fs ex H H h h':=#[λb ob q _ _ _=>k b ob q,λb ob q _ _ _=>#[ob.slots,k b ob q],λ_ _ _ n _=>n,λb ob q _=>#[ob,k b ob q],λ_ _ q=>q,λ_ _ _ q=>q,λ_ ps q=>#[#[],by rw[q];simp]]
theorem Un.refl:Un fs ex H H h h:=Un.kept λ_ _ q=>q
theorem Un.laid (k: ∀b u,h.get? b=some u ->h'.get? b=some u)(hp:h.objs.size<=a)(hn:H a=none):Un fs ex H (cf H a o) h h' where
 keep:=λb u q _ _ _=>k b u q
 slot:=λb u q _ _ _=>#[u.slots,k b u q]
 free:=λb u q n _=>by rw[bL (bu (be (aN q) hp))];show n
 there:=λb u q _=>#[u,k b u q]
 nF:=λb xs q=>by rw[bL (e_ q hn)];show q
 lX:=λb u xs q=>by rw[bL (e_ q hn)];show q
 ol:=λb ps q=>#[#[],by rw[bL (e_ q hn),q];simp]
def Un.write (mu:YU (H x))(he:e=x \/ H e=some (.own x))(k: ∀b u,b≠e ->h.get? b=some u ->h'.get? b=some u)(US: ∃u,h'.get? e=some u):Un fs ex H (cf H x o) h h':=by
 have hx: ∀b,H b=none ->b≠x:=λb n z=>by subst z;rw[n] at mu;show mu
 have hb: ∀b,H b=none ->b≠e:=λb n z=>by subst z;obtain r | r:=he;show hx b n r;rw[n] at r;cases r
 have hm: ∀b u,H b=some u ->¬YU (some u) ->b≠x:=λb u q nm z=>by subst z;rw[q] at mu;show nm mu
 exact#[λb u q n _ _=>k b u (hb b n) q,λb u q n _ _=>#[u.slots,k b u (hb b n) q],λb u q n _=>by rw[bL (hx b n)];show n,λb u q _=> ?_,λb xs q=>by rw[bL (hm b _ q λz=>z)];show q,λb u xs q=>by rw[bL (hm b _ q λz=>z)];show q,λb ps q=>#[#[],by rw[bL (hm b _ q λz=>z),q];simp]];by_cases TD:b=e;subst TD;show US;show#[u,k b u TD q]
end
def ZG (h:Heap)(H:Hp):cA fM:=(List.range h.objs.size).filter λa=>(H a).isSome
def yT (h:Heap)(H:Hp):Heap:=W.hideAll h (ZG h H)
theorem GB (h:Heap)(H:Hp):(yT h H).objs.size=h.objs.size:=W.hideAll_size _ _
theorem J9 (e:h.get? b=some o)(n:H b=none):(yT h H).get? b=some o:=W.hideAll_get _ e λhm=>by have q:(H b).isSome=true:=(List.mem_filter.mp hm).2;rw[n] at q;simp at q
def Ni (e:(yT h H).get? b=some o):h.get? b=some o /\ H b=none:=by
 have e':h.get? b=some o:=W.of_hideAll (ZG h H) e;exact#[e',?_];cases q:H b with
 | none=>rfl
 | some x=>have hm:b∈ZG h H:=List.mem_filter.mpr #[List.mem_range.mpr (aN e'),by simp[q]];have z:(yT h H).get? b=none:=W.hideAll_none (ZG h H) hm;rw[z] at e;cases e
def OE (g h:Heap)(L:fM):cA (fM×Obj):=(List.range h.objs.size).filterMap λa=>if a=L \/ (g.get? a).isSome=true then none else(h.get? a).map λo=>(a,o)
def cE (g h:Heap)(L d:fM):cA (fM×Obj):=(OE g h L).filter λp=>decide (p.1≠d)
structure Mod (K:PySem.W.Frag)(mg:Str ->Option Value)(base:Heap):Prop where
 NK:K.In base
 glob:base.Ns mainGlobals mg
 blt: ∃mb,base.Ns builtinsNs mb /\ ∀x:Str,x≠ "__name__" ->mb x=bootBuiltins x
 nolimit:base.NoLimit
structure Cx where
 prog:Program
 w:World
 K:PySem.W.Frag
 mg:Str ->Option Value
 base:Heap
 A:Around
 N:List Str
 s₀:Shared
 H₀:Hp
 env:Env
 outer:List Env
 stack:List Env
 ex:List Addr
 fn:Str ->Bool
 calm:Bool
 pn:List (Addr×Obj)
 xe:Value ->Shared ->Prop
def lf (l:cA Env):cA fM:=l.filterMap (·.frame)
abbrev Cx.fs (X:Cx):cA fM:=lf X.outer
def YQ (sc:Scope)(x:Str):Prop:=sc.names.lookup x=some .local \/ sc.names.lookup x=some .cell \/ sc.names.lookup x=some .free
def Loc (sc:Scope)(x:Str):Prop:=sc.names.lookup x=some .local \/ sc.names.lookup x=some .cell
def Look (env:Env)(h:Heap)(m:Str ->eM c5)(x:Str)(u:c5):Prop:=(env.kindOf x=some .local /\ m x=some u) \/ ((env.kindOf x=some .cell \/ env.kindOf x=some .free) /\ ∃c,env.cells.lookup x=some c /\ h.IsCell c (some u))
structure Cx.Ok (X:Cx):Prop where
 mod:Mod X.K X.mg X.base
 kind:X.env.scope.kind= .function
 glob:X.env.globals=mainGlobals
 blt:X.env.builtins=builtinsNs
 above:X.s₀.heap.objs.size<=X.env.locals
 inj: ∀x y c,X.env.cells.lookup x=some c ->X.env.cells.lookup y=some c ->x=y
 has: ∀x,(X.env.kindOf x=some .cell \/ X.env.kindOf x=some .free) -> ∃c,X.env.cells.lookup x=some c
 UZ: ∀x c,X.fn x=true ->X.env.cells.lookup x=some c ->X.s₀.heap.objs.size<=c
 hd:X.calm=true ->X.A.handled=none
 frames:X.A.frames=some X.stack
 Ry:X.stack=X.outer \/ (X.stack=X.env::X.outer /\ X.env.frame=some X.env.locals)
 exf: ∀b∈X.ex,b≠X.env.locals /\ ∀x c,X.env.cells.lookup x=some c ->c≠b
 bs: ∀b o,X.base.get? b=some o ->X.s₀.heap.get? b=some o /\ X.H₀ b=none
 K5:X.base.objs.size<=X.s₀.heap.objs.size
 Gg: ∀b o,X.base.get? b=some o ->b∉X.ex
 CK: ∀b∈X.ex,b∉X.fs
 nU:X.s₀.heap.FunFrames X.base X.outer
 LY: ∀b∈X.fs,X.H₀ b=none
structure Inv (X:Cx)(af:List (Addr×Obj))(σ:List (Option V))(H:Hp)(s:Shared):Prop where
 ok:X.Ok
 os:s.os=X.s₀.os
 bare:AllBare s.gens
 base:Un X.fs X.ex X.H₀ H X.s₀.heap s.heap
 loc: ∃m,s.heap.Ns X.env.locals m /\ ∀ (i:Nat) (x:Str) (v:V),X.N[i]? =some x ->σ[i]? =some (some v) ->YQ X.env.scope x -> ∃u,RelV v u /\ Look X.env s.heap m x u
 cell: ∀x c,X.env.cells.lookup x=some c -> ∃v,s.heap.IsCell c v
 free:H X.env.locals=none
 gf: ∀x c,X.env.cells.lookup x=some c ->H c=none
 pin: ∀p∈X.pn++af,s.heap.get? p.1=some p.2 /\ H p.1=none /\ p.1≠X.env.locals /\ p.1∉X.fs /\ ∀v,p.2.data≠ .cell v
 cH:mJ X.prog X.w H s.heap
 len:σ.length=X.N.length
theorem Cx.Ok.aa6 {X:Cx}(ok:X.Ok)(e:X.base.get? b=some o):b∉X.fs:=λhb=>by have:=(ok.nU.mem hb).1;rw[e] at this;cases this
theorem Inv.bs (I:Inv X af σ H s): ∀b o,X.base.get? b=some o ->s.heap.get? b=some o /\ H b=none:=λb o e=>#[I.base.keep b o (I.ok.bs b o e).1 (I.ok.bs b o e).2 (I.ok.aa6 e) (I.ok.Gg b o e),I.base.free b o (I.ok.bs b o e).1 (I.ok.bs b o e).2 (I.ok.Gg b o e)]
theorem Inv.bk (I:Inv X af σ H s): ∀b o,X.base.get? b=some o ->s.heap.get? b=some o:=λb o e=>(I.bs b o e).1
theorem Inv.mod (I:Inv X af σ H s):Mod X.K X.mg X.base:=I.ok.mod
theorem Inv.kT (I:Inv X af σ H s):X.K.In s.heap:=I.ok.mod.NK.keeps I.bk
theorem Inv.fr (I:Inv X af σ H s): ∃m,Fr X.base X.env.locals s.heap m:=
 let ⟨m,hn,_⟩:=I.loc
 #[m,hn,I.bk,aw I.ok.K5 I.ok.above]
theorem Inv.lt (I:Inv X af σ H s):X.env.locals<s.heap.objs.size:=let ⟨_,hn,_⟩:=I.loc;hn.lt
theorem Inv.sz (I:Inv X af σ H s):X.s₀.heap.objs.size<=s.heap.objs.size:=aw I.ok.above (Nat.le_of_lt I.lt)
theorem Inv.aa5 (I:Inv X af σ H s){a:fM}(h:s.heap.objs.size<=a):a∉X.fs:=λhb=>by let⟨_,o,ho,_⟩:=I.ok.nU.mem hb;show absurd (be (aN ho) (aw I.sz h)) (Nat.lt_irrefl _)
theorem Inv.KQ (I:Inv X af σ H s): ∀x c,X.env.cells.lookup x=some c ->c≠X.env.locals:=λx c e z=>by let⟨v,o,ho,hd⟩:=I.cell x c e;let⟨m,⟨o',es,ep,yR,Yd,_⟩,_⟩:=I.loc;rw[z,yR] at ho;cases ho;rw[Yd] at hd;cases hd
def Inv.nU (I:Inv X af σ H s):s.heap.FunFrames X.base X.outer:=by
 have all: ∀ (l:cA Env),(∀b∈lf l,b∈X.fs) ->X.s₀.heap.FunFrames X.base l ->s.heap.FunFrames X.base l:=by
  intro l;induction l with
  | nil=>intro _ _;trivial
  | cons env r ih=>intro hs hl;let⟨hk,⟨L,o,hf,hn,ho,hd⟩,hr⟩:=hl;have hL:L∈X.fs:=hs L (by unfold lf;rw[List.filterMap_cons,hf];show List.mem_cons_self);let⟨sl,e⟩:=I.base.slot L o ho (I.ok.LY L hL) hL λz=>I.ok.CK L z hL;show#[hk,#[L,_,hf,hn,e,hd],ih (λb hb=>hs b (by unfold lf;rw[List.filterMap_cons,hf];show df _ hb)) hr]
 show all X.outer (λ_ hb=>hb) I.ok.nU
def Inv.stack (I:Inv X af σ H s):s.heap.FunFrames X.base X.stack:=by obtain e | ⟨e,hf⟩:=I.ok.Ry;rw[e];show I.nU;rw[e];let⟨m,hn,_⟩:=I.loc;exact .cons (by rw[I.ok.kind];decide) hf hn ?_ I.nU;show Heap.get?_none_of_le (aw I.ok.K5 I.ok.above)
theorem Inv.yc (I:Inv X af σ H s): ∀b∈lf X.stack,b∈X.env.locals::X.fs:=λb hb=>by obtain e | ⟨e,hf⟩:=I.ok.Ry;rw[e] at hb;show df _ hb;rw[e] at hb;unfold lf at hb;rw[List.filterMap_cons,hf] at hb;show hb
theorem Inv.tI (I:Inv X af σ H s): ∀b∈lf X.stack,H b=none:=λb hb=>by obtain e | hb:=aS.mp (I.yc b hb);rw[e];show I.free;let⟨_,o,ho,_⟩:=I.ok.nU.mem hb;show I.base.free b o ho (I.ok.LY b hb) λz=>I.ok.CK b z hb
def Inv.step {ch:cA fM}(I:Inv X af σ H s)(LW: ∀b∈ch,(b∈X.ex \/ X.s₀.heap.objs.size<=b) /\ b≠X.env.locals /\ (∀x c,X.env.cells.lookup x=some c ->c≠b) /\ ∀p∈X.pn++af,p.1≠b)(keep: ∀b o,b≠X.env.locals ->b∉X.fs ->b∉ch ->s.heap.get? b=some o ->H b=none ->h'.get? b=some o)(slot: ∀b o,b≠X.env.locals ->b∈X.fs ->b∉ch ->s.heap.get? b=some o ->H b=none -> ∃sl,h'.get? b=some {o with slots:=sl})(free: ∀b o,b∉ch ->s.heap.get? b=some o ->H b=none ->H' b=none)(there: ∀b o,b∉ch ->s.heap.get? b=some o -> ∃o',h'.get? b=some o')(nF: ∀b xs,H b=some (.tup xs) ->H' b=some (.tup xs))(lX: ∀b o u,H b=some (.lc o u) ->H' b=some (.lc o u))(ol: ∀b ps,H b=some (.Mq ps) -> ∃more,H' b=some (.Mq (ps++more)))(ns: ∀m,s.heap.Ns X.env.locals m ->h'.Ns X.env.locals m)(cH:mJ X.prog X.w H' h')(hg:AllBare g'): Inv X af σ H' {s with heap:=h',gens:=g',drawn:=d',toks:=t'}:=by
 have neL: ∀b o,X.s₀.heap.get? b=some o ->b≠X.env.locals:=λb o e=>bu (be (aN e) I.ok.above);have Z1: ∀b o,X.s₀.heap.get? b=some o ->b∉X.ex ->b∉ch:=λb o e hx hb=>by obtain z | z:=(LW b hb).1;show hx z;show absurd (be (aN e) z) (Nat.lt_irrefl _)
 have cellK: ∀x c,X.env.cells.lookup x=some c -> ∀v,s.heap.IsCell c v ->h'.IsCell c v:=λx c e v ⟨o,ho,hd⟩=>by have W8:c∉ch:=λz=>(LW c z).2.2.1 x c e rfl;by_cases hc:c∈X.fs;let⟨sl,q⟩:=slot c o (I.KQ x c e) hc W8 ho (I.gf x c e);show#[_,q,hd];show#[o,keep c o (I.KQ x c e) hc W8 ho (I.gf x c e),hd]
 exact#[I.ok,I.os,hg,#[λb o e n hb hx=> ?_,λb o e n hb hx=> ?_,λb o e n hx=> ?_,λb o e hx=> ?_,λb xs e=>nF b xs (I.base.nF b xs e),λb o xs e=>lX b o xs (I.base.lX b o xs e),λb ps e=> ?_],?_,λx c e=> ?_,?_,λx c e=> ?_,λp hp=> ?_,cH,I.len];show keep b o (neL b o e) hb (Z1 b o e hx) (I.base.keep b o e n hb hx) (I.base.free b o e n hx);let⟨sl,e1⟩:=I.base.slot b o e n hb hx;let⟨sl',e2⟩:=slot b _ (neL b o e) hb (Z1 b o e hx) e1 (I.base.free b o e n hx);show#[sl',e2];let⟨o',e1⟩:=I.base.there b o e hx;show free b o' (Z1 b o e hx) e1 (I.base.free b o e n hx);let⟨o',e1⟩:=I.base.there b o e hx;show there b o' (Z1 b o e hx) e1;let⟨m1,e1⟩:=I.base.ol b ps e;let⟨m2,e2⟩:=ol b _ e1;show#[m1++m2,by rw[e2,Array.append_assoc]];let⟨m,hn,hl⟩:=I.loc;exact#[m,ns m hn,λi x v e1 e2 e3=> ?_];let⟨u,r,l⟩:=hl i x v e1 e2 e3;exact#[u,r,?_];obtain l | ⟨k,c,e,z⟩:=l;show .inl l;show .inr #[k,c,e,cellK x c e _ z];let⟨v,z⟩:=I.cell x c e;show#[v,cellK x c e v z];let⟨m,⟨o,_,_,ho,_⟩,_⟩:=I.loc;show free _ o (λz=>(LW _ z).2.1 rfl) ho I.free;let⟨v,o,ho,hd⟩:=I.cell x c e;show free c o (λz=>(LW c z).2.2.1 x c e rfl) ho (I.gf x c e);let⟨e,n,ne,nf,d⟩:=I.pin p hp;have W8:p.1∉ch:=λz=>(LW p.1 z).2.2.2 p hp rfl;show#[keep p.1 p.2 ne nf W8 e n,free p.1 p.2 W8 e n,ne,nf,d]
def Inv.un (I:Inv X af σ H s)(u:Un X.fs [] H H' s.heap h')(cH:mJ X.prog X.w H' h'):Inv X af σ H' {s with heap:=h',toks:=t'}:=by let⟨m,⟨o,es,ep,ho,r⟩,_⟩:=id I.loc;let⟨sl,hL⟩:=u.any ho I.free (by simp);show I.step (g':=s.gens) (d':=s.drawn) (ch:= []) (λ_ z=>nomatch z) (λb o _ hb _ e n=>u.keep b o e n hb (by simp)) (λb o _ hb _ e n=>u.slot b o e n hb (by simp)) (λb o _ e n=>u.free b o e n (by simp)) (λb o _ e=>u.there b o e (by simp)) u.nF u.lX u.ol (λm' hm=>by let⟨o',_y,_z,yR,r'⟩:=hm;rw[ho] at yR;cases yR;show#[_,_y,_z,hL,r']) cH I.bare
def Inv.call (I:Inv X af σ H s)(u:Un (lf X.stack) ch H H' s.heap h')(cH:mJ X.prog X.w H' h')(hg:AllBare g')(LW: ∀b∈ch,(b∈X.ex \/ X.s₀.heap.objs.size<=b) /\ b≠X.env.locals /\ (∀x c,X.env.cells.lookup x=some c ->c≠b) /\ ∀p∈X.pn++af,p.1≠b): Inv X af σ H' {s with heap:=h',gens:=g',drawn:=d',toks:=t'}:=by let⟨m,⟨o,es,ep,ho,r⟩,_⟩:=id I.loc;let⟨sl,hL⟩:=u.any ho I.free λz=>(LW _ z).2.1 rfl;show I.step (ch:=ch) LW (λb o hL hb hc e n=>u.keep b o e n (λz=>(aS.mp (I.yc b z)).elim hL hb) hc) (λb o _ _ hc e n=>u.any e n hc) (λb o hc e n=>u.free b o e n hc) (λb o hc e=>u.there b o e hc) u.nF u.lX u.ol (λm' hm=>by let⟨o',_y,_z,yR,r'⟩:=hm;rw[ho] at yR;cases yR;show#[_,_y,_z,hL,r']) cH hg
def Inv.turned (I:Inv X af σ H s)(k: ∀b o,b≠it ->s.heap.get? b=some o ->h'.get? b=some o)(hn:H it=none)(hL:it≠X.env.locals)(h1:it∈X.ex \/ X.s₀.heap.objs.size<=it)(h2: ∀x c,X.env.cells.lookup x=some c ->c≠it)(h3: ∀p∈X.pn++af,p.1≠it):Inv X af σ H {s with heap:=h',toks:=t'}:=by
 have nit: ∀b u,H b=some u ->b≠it:=λb u e z=>by rw[z,hn] at e;cases e
 exact I.step (g':=s.gens) (d':=s.drawn) (ch:= [it]) (λb hb=> ?_) (λb o _ _ hc e _=>k b o (λz=>hc (by simp[z])) e) (λb o _ _ hc e _=>#[o.slots,k b o (λz=>hc (by simp[z])) e]) (λ_ _ _ _ n=>n) (λb o hc e=>#[o,k b o (λz=>hc (by simp[z])) e]) (λ_ _ e=>e) (λ_ _ _ e=>e) (λb ps e=>#[#[],by rw[e];simp]) (λm hm=> ?_) (λb u e=> ?_) I.bare;have e:b=it:=by simpa using hb
 subst e;show#[h1,hL,h2,h3];let⟨o,es,ep,ho,r⟩:=hm;show#[o,es,ep,k _ o (cX hL) ho,r];exact(I.cH b u e).sB (λc v hc q=>k c v ?_ q) (λ_ q=>q) λ_ _ q=>q;obtain z | z:=hc;rw[z];show nit b u e;show nit c _ z
theorem Inv.tok (I:Inv X af σ H s)(t:Nat):Inv X af σ H {s with toks:=t}:=I.un (h':=s.heap) (t':=t) Un.refl I.cH
theorem Inv.kept (I:Inv X af σ H s)(k: ∀b u,s.heap.get? b=some u ->h'.get? b=some u):Inv X af σ H {s with heap:=h',toks:=t'}:=I.un (Un.kept k) (I.cH.kept k)
theorem Inv.laid {a:fM}(I:Inv X af σ H s)(k: ∀b u,s.heap.get? b=some u ->h'.get? b=some u)(hp:s.heap.objs.size<=a)(new:dX X.prog X.w (cf H a o) h' a o): Inv X af σ (cf H a o) {s with heap:=h',toks:=t'}:=I.un (Un.laid k hp (I.cH.fresh hp)) (I.cH.laid k hp new)
theorem Inv.write (I:Inv X af σ H s)(mu:YU (H x))(he:e=x \/ H e=some (.own x))(k: ∀b u,b≠e ->s.heap.get? b=some u ->h'.get? b=some u)(US: ∃u,h'.get? e=some u)(new:dX X.prog X.w (cf H x o) h' x o):Inv X af σ (cf H x o) {s with heap:=h',toks:=t'}:=I.un (Un.write mu he k US) (I.cH.write mu he k US new)
theorem Inv.weak (I:Inv X af σ H s)(hl:σ'.length=σ.length)(w: ∀ (i:Nat) v,σ'[i]? =some (some v) ->σ[i]? =some (some v)):Inv X af σ' H s:=#[I.ok,I.os,I.bare,I.base,let ⟨m,hn,rK⟩:=I.loc;#[m,hn,λi x v e1 e2 e3=>rK i x v e1 (w i v e2) e3],I.cell,I.free,I.gf,I.pin,I.cH,hl.trans I.len]
theorem Inv.Ea (I:Inv X af σ H s)(h: ∀p∈Eb,s.heap.get? p.1=some p.2 /\ H p.1=none /\ p.1≠X.env.locals /\ p.1∉X.fs /\ ∀v,p.2.data≠ .cell v):Inv X Eb σ H s:=#[I.ok,I.os,I.bare,I.base,I.loc,I.cell,I.free,I.gf,λp hp=>(a8.mp hp).elim (λz=>I.pin p (List.mem_append_left _ z)) (h p),I.cH,I.len]
def uK {N:cA Str}(hN:N.Nodup){i j:Nat}(a:N[i]? =some x)(b:N[j]? =some x):i=j:=by let⟨h1,e1⟩:=bq.mp a;let⟨h2,e2⟩:=bq.mp b;show(List.getElem_inj hN).mp (e1.trans e2.symm)
def wS (I:Inv X af σ H s)(hN:X.N.Nodup)(hi:X.N[i]? =some x)(hx:Loc X.env.scope x)(r:RelV v u)(h: ∀s',Inv X af (σ.set i (some v)) H s' ->(∃a,Heap.SameBut a s.heap s'.heap /\ (a=X.env.locals \/ X.env.cells.lookup x=some a)) ->Q () s')(hf:X.fn x=true \/ X.env.scope.names.lookup x=some .local:=by first | show .inl rfl | show .inr rfl | assumption):wpAny M A (storeName X.env x u) Q E s:=by
 let⟨m,hn,hl⟩:=id I.loc;have TC:(X.env.scope.kind== .class || (X.env.scope.kind== .module && X.env.locals !=X.env.globals))=false:=by rw[I.ok.kind];rfl
 have _m:i<σ.length:=by rw[I.len];show(bq.mp hi).1
 have KQ:=I.KQ;have tracked: ∀ {a:fM} {h':Heap},(∃o,s.heap.get? a=some o /\ H a=none) ->Heap.SameBut a s.heap h' ->mJ X.prog X.w H h':=λ{a h'} ha hs b ob e=>by let⟨_,_,Qu⟩:=ha;exact(I.cH b ob e).sB (λc w' hc q=>(hs.2 c ?_).trans q) (λ_ q=>q) λ_ _ q=>q;rintro rfl;obtain rfl | hc:=hc;rw[Qu] at e;cases e;rw[Qu] at hc;cases hc
 obtain hk | hk:=hx;exact wpAny_storeName_local hk hn (λh' yS hs=> ?_) TC;let⟨oL,_,_,hoL,_⟩:=id hn;exact h _ #[I.ok,I.os,I.bare,#[λb o e n hb hx=> ?_,λb o e n hb hx=> ?_,I.base.free,λb o e hx=> ?_,I.base.nF,I.base.lX,I.base.ol],#[_,yS,λj y v' e1 e2 e3=> ?_],λy c e=> ?_,I.free,I.gf,λp hp=> ?_,tracked #[oL,hoL,I.free] hs, ⇑I.len] #[_,hs, .inl rfl];show(hs.2 b (bu (be (aN e) I.ok.above))).trans (I.base.keep b o e n hb hx);let⟨sl,e1⟩:=I.base.slot b o e n hb hx;show#[sl,(hs.2 b (bu (be (aN e) I.ok.above))).trans e1];let⟨o',e1⟩:=I.base.there b o e hx;show#[o',(hs.2 b (bu (be (aN e) I.ok.above))).trans e1];by_cases hj:j=i;subst hj;rw[hi] at e1;cases e1;rw[List.getElem?_set_self _m] at e2;cases e2;show#[u,r, .inl #[hk,by simp]];rw[List.getElem?_set_ne (cX hj)] at e2;let⟨u',r',q⟩:=hl j y v' e1 e2 e3;exact#[u',r',?_];rcases q with⟨k,e⟩ | ⟨k,c,e,z⟩
 exact .inl #[k,?_];have:y≠x:=λe=>hj (uK hN e1 (e▸hi));simp[this,e];show .inr #[k,c,e,z.sameBut hs (KQ y c e)];let⟨w',z⟩:=I.cell y c e;show#[w',z.sameBut hs (KQ y c e)];let⟨e,n,ne,nf,d⟩:=I.pin p hp;show#[(hs.2 p.1 ne).trans e,n,ne,nf,d];have hfn:X.fn x=true:=by obtain z | z:=hf;show z;rw[z] at hk;cases hk
 let⟨c,hc⟩:=I.ok.has x (.inl hk);let⟨w',z⟩:=I.cell x c hc;exact wpAny_storeName_cell I.ok.kind hk hc z (λh' _o hs=> ?_);let⟨oc,hoc,abL⟩:=id z;exact h {s with heap:=h'} #[I.ok,I.os,I.bare,#[λb o e n hb hx=> ?_,λb o e n hb hx=> ?_,I.base.free,λb o e hx=> ?_,I.base.nF,I.base.lX,I.base.ol],#[m,hn.sameBut hs (cX (KQ x c hc)),λj y v' e1 e2 e3=> ?_],λy c' e=> ?_,I.free,I.gf,λp hp=> ?_,tracked #[oc,hoc,I.gf x c hc] hs, ⇑I.len] #[c,hs, .inr hc];show(hs.2 b (bu (be (aN e) (I.ok.UZ x c hfn hc)))).trans (I.base.keep b o e n hb hx);let⟨sl,e1⟩:=I.base.slot b o e n hb hx;show#[sl,(hs.2 b (bu (be (aN e) (I.ok.UZ x c hfn hc)))).trans e1];let⟨o',e1⟩:=I.base.there b o e hx;show#[o',(hs.2 b (bu (be (aN e) (I.ok.UZ x c hfn hc)))).trans e1];by_cases hj:j=i;subst hj;rw[hi] at e1;cases e1;rw[List.getElem?_set_self _m] at e2;cases e2;show#[u,r, .inr #[.inl hk,c,hc,_o]];rw[List.getElem?_set_ne (cX hj)] at e2;let⟨u',r',q⟩:=hl j y v' e1 e2 e3;exact#[u',r',?_];obtain q | ⟨k,c',e,z'⟩:=q;show .inl q;exact .inr #[k,c',e,z'.sameBut hs ?_];rintro rfl;show hj (uK hN e1 (I.ok.inj _ _ _ e hc▸hi));by_cases hcc:c'=c;subst hcc;show#[_,_o];let⟨w2,z2⟩:=I.cell y c' e;show#[w2,z2.sameBut hs hcc];let⟨e,n,ne,nf,d⟩:=I.pin p hp;exact#[(hs.2 p.1 ?_).trans e,n,ne,nf,d];intro q;rw[q,hoc] at e;have q':oc=p.2:=bp e;show d w' (by rw[<- q'];show abL)
theorem ju (I:Inv X af σ H s)(hN:X.N.Nodup)(hi:X.N[i]? =some x)(hx:Loc X.env.scope x)(r:RelV v u)(h: ∀s',Inv X af (σ.set i (some v)) H s' ->Q () s')(hf:X.fn x=true \/ X.env.scope.names.lookup x=some .local:=by first | show .inl rfl | show .inr rfl | assumption):wpAny M A (storeName X.env x u) Q E s:=wS I hN hi hx r (λs' I' _=>h s' I') hf
def Inv.K2 (I:Inv X af σ H s)(ho:s'.os=s.os)(u:Un (lf X.stack) ch H H' s.heap s'.heap)(cH:mJ X.prog X.w H' s'.heap)(hg:AllBare s'.gens)(LW: ∀b∈ch,(b∈X.ex \/ X.s₀.heap.objs.size<=b) /\ b≠X.env.locals /\ (∀x c,X.env.cells.lookup x=some c ->c≠b) /\ ∀p∈X.pn++af,p.1≠b):Inv X af σ H' s':=by let⟨h',g',d',t',o'⟩:=s';have e:o'=s.os:=ho;subst e;show I.call (g':=g') (t':=t') (d':=d') u cH hg LW
abbrev XK:=c5 ->eM fM ->Hp ->Prop
abbrev St:=cA (eM V)
abbrev VK:=V ->Hp ->Prop
abbrev TE:=St ->Hp ->VK ->Prop
abbrev TT:=St ->Hp ->(Bool ->Hp ->Prop) ->Prop
abbrev TA:=St ->Hp ->(cA V ->Hp ->Prop) ->Prop
structure j8 where
 nx:St ->Hp ->Prop
 rt:VK
 bk:St ->Hp ->Prop:=λ_ _=>False
 ct:St ->Hp ->Prop:=λ_ _=>False
abbrev TS:=j8 ->St ->Hp ->Prop
def EP (X:Cx)(af:cA (fM×Obj))(σ:St)(Q:VK)(u:c5)(s':dq):Prop:=cc λv H'=>cW (Inv X af σ H' s') (RelV v u) (Q v H')
def TP (X:Cx)(af:cA (fM×Obj))(σ:St)(Q:Bool ->Hp ->Prop)(b:Bool)(s':dq):Prop:= ∃H',Inv X af σ H' s' /\ Q b H'
def AP (X:Cx)(af:cA (fM×Obj))(σ:St)(Q:cA V ->Hp ->Prop)(us:cA c5)(s':dq):Prop:=cc λvs H'=>cW (Inv X af σ H' s') (bW vs us) (Q vs H')
def SP (X:Cx)(af:cA (fM×Obj))(D:j8)(f:Flow)(s':dq):Prop:=
 match f with
 | .next=>cc λσ' H'=>Inv X af σ' H' s' /\ D.nx σ' H'
 | .brk=>cc λσ' H'=>Inv X af σ' H' s' /\ D.bk σ' H'
 | .cont=>cc λσ' H'=>Inv X af σ' H' s' /\ D.ct σ' H'
 | .ret u=>eh λv σ' H'=>cW (Inv X af σ' H' s') (RelV v u) (D.rt v H')
def PE (X:Cx)(e:Expr)(t:TE):Prop:=∀ (af:cA (fM×Obj)) (s:dq) (σ:St) (H:Hp) (Q:VK),Inv X af σ H s ->t σ H Q ->wpAny (model X.prog X.w) X.A (eval e X.env) (EP X af σ Q) X.xe s
def PT (X:Cx)(e:Expr)(t:TT):Prop:=∀ (af:cA (fM×Obj)) (s:dq) (σ:St) (H:Hp) (Q:Bool ->Hp ->Prop),Inv X af σ H s ->t σ H Q ->wpAny (model X.prog X.w) X.A (isTrue e X.env (eval e X.env)) (TP X af σ Q) X.xe s
def PW (X:Cx)(e:Expr)(t:TT):Prop:=∀ (m7:Sem c5) (af:cA (fM×Obj)) (s:dq) (σ:St) (H:Hp) (Q:Bool ->Hp ->Prop),Inv X af σ H s ->t σ H Q ->wpAny (model X.prog X.w) X.A (isTrue e X.env m7) (TP X af σ Q) X.xe s
theorem PW.pt (h:PW X e t):PT X e t:=h _
def PA (X:Cx)(es:cA Expr)(t:TA):Prop:=∀ (pos:Pos) (af:cA (fM×Obj)) (s:dq) (σ:St) (H:Hp) (Q:cA V ->Hp ->Prop),Inv X af σ H s ->t σ H Q ->wpAny (model X.prog X.w) X.A (spliced (backTo pos (starEach es X.env))) (AP X af σ Q) X.xe s
def PS (X:Cx)(st:Stmt)(t:TS):Prop:=∀ (af:cA (fM×Obj)) (s:dq) (σ:St) (H:Hp) (D:j8),Inv X af σ H s ->t D σ H ->wpAny (model X.prog X.w) X.A (exec st X.env) (SP X af D) X.xe s
def xO (X:Cx)(st:cA Stmt)(t:TS):Prop:=∀ (af:cA (fM×Obj)) (s:dq) (σ:St) (H:Hp) (D:j8),Inv X af σ H s ->t D σ H ->wpAny (model X.prog X.w) X.A (execs st X.env) (SP X af D) X.xe s
theorem cQ {Q Q':α ->dq ->Prop}(h:wpAny M A t Q E s)(hQ: ∀a s,Q a s ->Q' a s):wpAny M A t Q' E s:=bw h hQ λ_ _ x=>x
section
variable {X:Cx}
def bin (ha:PE X a ta)(hb:PE X b tb){σ:St}{R:V ->V ->Hp ->Prop}(I:Inv X af σ H s)(h:ta σ H λx H1=>tb σ H1 λy H2=>R x y H2){f:c5 ->c5 ->Sem α}(hf: ∀v u s2 x y H2,Inv X af σ H2 s2 ->RelV x v ->RelV y u ->R x y H2 ->wpAny (model X.prog X.w) X.A (f v u) Q X.xe s2): wpAny (model X.prog X.w) X.A (eval a X.env) (λv s₁=>wpAny (model X.prog X.w) X.A (eval b X.env) (λu s₂=>wpAny (model X.prog X.w) X.A (f v u) Q X.xe s₂) X.xe s₁) X.xe s:=by exact cQ (ha af s σ H _ I h) λv s1 ⟨x,H1,I1,r1,q1⟩=> ?_;exact cQ (hb af s1 σ H1 _ I1 q1) λu s2 ⟨y,H2,I2,r2,q2⟩=> ?_;show hf v u s2 x y H2 I2 r1 r2 q2
def Mr (i:Nat):TE:=λσ H Q=> ∃v,σ[i]? =some (some v) /\ Q v H
def tC (v:V):TE:=λ_ H Q=>Q v H
def RU {pos:Pos}(hN:X.N[i]? =some x)(hv:YQ X.env.scope x)(hd:(x==("__debug__" :Str))=false:=by decide)(ES:(x==("__classdict__" :Str))=false:=by decide):PE X (.Name x pos) (Mr i):=by
 intro af s σ H Q I h;let⟨v,e,h⟩:=h;let⟨m,hn,hl⟩:=I.loc;let⟨u,r,l⟩:=hl i x v hN e hv;have fin:EP X af σ Q u s:=#[v,H,I,r,h]
 rcases l with⟨hk,hm⟩ | ⟨hk,c,hc,ER⟩
 show wpAny_Name (wpAny_loadName_local I.ok.kind hk hn hm fin) hd;obtain hk | hk:=hk;show wpAny_Name (wpAny_loadName_cell I.ok.kind hk hc ER fin) hd;show wpAny_Name (wpAny_loadName_free I.ok.kind hk hc ER fin ES) hd
theorem ai {i j pos}:PE X (.Constant (.int i) j pos) (tC (.int i)):=λ_ _ _ H _ I h=>wpAny_Constant_int #[.int i,H,I.tok _,#[_,rfl],h]
theorem fL {b j pos}:PE X (.Constant (.bool b) j pos) (tC (.bl b)):=λ_ _ _ H _ I h=>Constant_bool #[.bl b,H,I,rfl,h]
theorem lK {j pos}:PE X (.Constant .none j pos) (tC .dG):=λ_ _ _ H _ I h=>Constant_none #[.dG,H,I,rfl,h]
theorem aF {x j pos}:PE X (.Constant (.str x) j pos) (tC (.str x)):=λ_ _ _ H _ I h=>Calls.Constant_str #[.str x,H,I.tok _,#[_,rfl],h]
def Gl (X:Cx)(x:Str):Prop:=X.env.kindOf x=some .globalImplicit
theorem mT {σ:St}(I:Inv X af σ H s)(hg:Gl X x)(hm:X.mg x=some u)(h:Q u s)(hd:(x==("__debug__" :Str))=false:=by decide):wpAny (model X.prog X.w) X.A (eval (.Name x pos) X.env) Q E s:=Calls.Name_function_global I.ok.kind hg (Calls.loadGlobal_global (by rw[I.ok.glob];show I.mod.glob.keeps I.bk) hm h) hd
def yK {E:c5 ->dq ->Prop}{σ:St}{pos:Pos}(I:Inv X af σ H s)(hg:Gl X x)(hm:X.mg x=none)(hv:bootBuiltins x=some u)(h:Q u s)(hn:x≠ "__name__" :=by decide)(hd:(x==("__debug__" :Str))=false:=by decide):wpAny (model X.prog X.w) X.A (eval (.Name x pos) X.env) Q E s:=by let⟨mb,h1,h2⟩:=I.mod.blt;show Calls.Name_function_global I.ok.kind hg (Calls.loadGlobal_builtin (by rw[I.ok.glob];show I.mod.glob.keeps I.bk) hm (by rw[I.ok.blt];show h1.keeps I.bk) ((h2 x hn).trans hv) h) hd
theorem fj (hg:Gl X x)(hm:X.mg x=some u)(r:RelV v u)(hd:(x==("__debug__" :Str))=false:=by decide):PE X (.Name x pos) (tC v):=λ_ _ _ H _ I h=>mT I hg hm #[v,H,I,r,h] hd
theorem g0 {pos:Pos}(hg:Gl X x)(hm:X.mg x=none)(hv:bootBuiltins x=some u)(r:RelV v u)(hn:x≠ "__name__" :=by decide)(hd:(x==("__debug__" :Str))=false:=by decide):PE X (.Name x pos) (tC v):=λ_ _ _ H _ I h=>yK I hg hm hv #[v,H,I,r,h] hn hd
variable {a b:Expr}{ta tb:TE}{pos:Pos}
def PC (X:Cx)(op:CmpOp)(a b:Expr)(t:TE):Prop:=∀ (af:cA (fM×Obj)) (s:dq) (σ:St) (H:Hp) (Q:VK),Inv X af σ H s ->t σ H Q ->wpAny (model X.prog X.w) X.A (eval a X.env) (λv s₁=>wpAny (model X.prog X.w) X.A (eval b X.env) (λu s₂=>wpAny (model X.prog X.w) X.A (compareOp op v u) (EP X af σ Q) X.xe s₂) X.xe s₁) X.xe s
def Aj (b:Expr)(h:op≠ .In)(h2:op≠ .NotIn):behindInMarks op b=false:=by
 have e1:(op==CmpOp.In)=false:=by cases op<;>first | rfl | show absurd rfl h
 have e2:(op==CmpOp.NotIn)=false:=by cases op<;>first | rfl | show absurd rfl h2
 cases b<;>simp[behindInMarks,e1,e2]
def tB (t:TE):TT:=λσ H Q=>t σ H λx H1=> ∃c,x= .bl c /\ Q c H1
theorem RW (h:PC X op a b t)(h1:behindInMarks op b=false:=by first | show Aj _ ⋯ ⋯ | rfl):PE X (.Compare a [op] [b] pos) t:=λaf s σ H Q I hw=>wpAny_Compare1 (h af s σ H Q I hw) h1
def nI (h:PC X op a b t)(h1:behindInMarks op b=false:=by first | show Aj _ ⋯ ⋯ | rfl):PT X (.Compare a [op] [b] pos) (tB t):=by intro af s σ H Q I hw;exact wpAny_isTrue_Compare1 (cQ (h af s σ H _ I hw) λv s1 h1=>cQ h1 λu s2 h2=>cQ h2 λc s3 ⟨x,H1,I1,r1,q1⟩=> ?_) h1;let⟨d,rfl,q⟩:=q1;cases r1;show cq #[H1,I1,q]
def dw (h:PE X e t)(he: ∀m7,isTrue e X.env m7=(do let v <- m7;standAt e.pos;holding [v] (truthy v)):=by intro _;rfl):PT X e (tB t):=by intro af s σ H Q I hw;exact isTrue_plain (cQ (h af s σ H _ I hw) λv s1 ⟨x,H1,I1,r1,q1⟩=> ?_) (he _);let⟨d,rfl,q⟩:=q1;cases r1;show cq #[H1,I1,q]
variable {tA ZI:TT}{cE:cA Expr}
def V5 (t u:TT):TT:=λσ H Q=>t σ H λc H1=>if c=true then u σ H1 Q else Q false H1
def tOr (t u:TT):TT:=λσ H Q=>t σ H λc H1=>if c=true then Q true H1 else u σ H1 Q
def VW (t:TT):TT:=λσ H Q=>t σ H λc H1=>Q (!c) H1
def mO (ha:PT X a tA):PW X (.BoolOp .And [a] pos) tA:=by
 intro wh af s σ H Q I h;exact isTrue_and (cQ (ha af s σ H Q I h) λc s1 e=> ?_);cases c with
 | true=>show isTrue_and_nil e
 | false=>show e
def jg (ha:PT X a tA):PW X (.BoolOp .Or [a] pos) tA:=by
 intro wh af s σ H Q I h;exact isTrue_or (cQ (ha af s σ H Q I h) λc s1 e=> ?_);cases c with
 | false=>show isTrue_or_nil e
 | true=>show e
def qi (ha:PT X a tA)(hb:PW X (.BoolOp .And (b::cE) pos) ZI):PW X (.BoolOp .And (a::b::cE) pos) (V5 tA ZI):=by
 intro wh af s σ H Q I h;exact isTrue_and (cQ (ha af s σ H _ I h) λc s1 ⟨H1,I1,q1⟩=> ?_);cases c with
 | true=>show hb wh af s1 σ H1 Q I1 q1
 | false=>show#[H1,I1,q1]
def lH (ha:PT X a tA)(hb:PW X (.BoolOp .Or (b::cE) pos) ZI):PW X (.BoolOp .Or (a::b::cE) pos) (tOr tA ZI):=by
 intro wh af s σ H Q I h;exact isTrue_or (cQ (ha af s σ H _ I h) λc s1 ⟨H1,I1,q1⟩=> ?_);cases c with
 | true=>show#[H1,I1,q1]
 | false=>show hb wh af s1 σ H1 Q I1 q1
def dM (ha:PT X a tA):PT X (.UnaryOp .Not a pos) (VW tA):=by intro af s σ H Q I h;show isTrue_not (ha af s σ H (λc H1=>Q (!c) H1) I h)
def Pn (ta tb:TE):TE:=λσ H Q=>ta σ H λx H1=> ∃c,x= .bl c /\ if c=true then tb σ H1 Q else Q (.bl false) H1
def VU (ta tb:TE):TE:=λσ H Q=>ta σ H λx H1=> ∃c,x= .bl c /\ if c=true then Q (.bl true) H1 else tb σ H1 Q
def Pj (ta:TE):TE:=λσ H Q=>ta σ H λx H1=> ∃c,x= .bl c /\ Q (.bl (!c)) H1
theorem lJ {op}(h:PE X a t):PE X (.BoolOp op [a] pos) t:=λaf s σ H Q I hw=>BoolOp_one (h af s σ H Q I hw)
def nK (ha:PE X a ta)(hb:PE X (.BoolOp .And (b::cE) pos) tb):PE X (.BoolOp .And (a::b::cE) pos) (Pn ta tb):=by
 intro af s σ H Q I h;exact BoolOp_and (cQ (ha af s σ H _ I h) λv s1 ⟨x,H1,I1,r1,q1⟩=> ?_);let⟨c,rfl,q1⟩:=q1;cases r1;exact cq ?_;cases c with
 | true=>show hb af s1 σ H1 Q I1 q1
 | false=>show#[.bl false,H1,I1,rfl,q1]
def Wt (ha:PE X a ta)(hb:PE X (.BoolOp .Or (b::cE) pos) tb):PE X (.BoolOp .Or (a::b::cE) pos) (VU ta tb):=by
 intro af s σ H Q I h;exact BoolOp_or (cQ (ha af s σ H _ I h) λv s1 ⟨x,H1,I1,r1,q1⟩=> ?_);let⟨c,rfl,q1⟩:=q1;cases r1;exact cq ?_;cases c with
 | false=>show hb af s1 σ H1 Q I1 q1
 | true=>show#[.bl true,H1,I1,rfl,q1]
def B_ (ha:PE X a ta):PE X (.UnaryOp .Not a pos) (Pj ta):=by intro af s σ H Q I h;exact UnaryOp_ (cQ (ha af s σ H _ I h) λv s1 ⟨x,H1,I1,r1,q1⟩=> ?_);let⟨c,rfl,q1⟩:=q1;cases r1;show not_of (cq #[.bl (!c),H1,I1,rfl,q1])
end
def gY (K:Xu)(H:Hp)(a:fM)(xs:cA V):Prop:=Rd H a (.lst xs) \/eh λ(o:Obj) (bI:gA c5) (n:Nat)=>k9 (K.lookup a=some o) (o.cls= .type "list") (o.dict=none) (o.data= .seq bI n) (bI.size<=sizeLine) (bW xs bI.toList)
def kP (K:Xu)(H:Hp)(a:fM)(xs:cA V):Prop:=Rd H a (.tup xs) \/eh λ(o:Obj) (bI:gA c5) (n:Nat)=>k9 (K.lookup a=some o) (o.cls= .type "tuple") (o.dict=none) (o.data= .seq bI n) (bI.size<=sizeLine) (bW xs bI.toList)
def ail:c5 ->eM V
 | .none=>some .dG
 | .bool b=>some (.bl b)
 | .int i _=>some (.int i)
 | .str x _=>some (.str x)
 | .bytes b _=>some (.CS b)
 | .float b _=>some (.Of b)
 | .ref a=>some (.ref a)
 | .type n=>some (.ty n)
 | _=>none
def RelV.abs (r:RelV x u):ail u=some x:=by
 cases x with
 | dG=>cases r;rfl
 | bl _=>cases r;rfl
 | int _=>let⟨t,rfl⟩:=r;rfl
 | str _=>let⟨t,rfl⟩:=r;rfl
 | CS _=>let⟨t,rfl⟩:=r;rfl
 | Of _=>let⟨t,rfl⟩:=r;rfl
 | ref _=>cases r;rfl
 | ty _=>cases r;rfl
theorem RelV.inj {x y:V}{u:c5}(r:RelV x u)(q:RelV y u):x=y:=bp (r.abs.symm.trans q.abs)
theorem bW.inj: ∀ {xs ys:cA V} {us:cA c5},bW xs us ->bW ys us ->xs=ys
 | _,_,_, .nil, .nil=>rfl
 | _,_,_, .cons r t, .cons r' t'=>by rw[r.inj r',bW.inj t t']
theorem gY.of {K:Xu}(h:H a=some (.lst xs)):gY K H a xs:= .inl (.inl h)
theorem kP.of {K:Xu}(h:H a=some (.tup xs)):kP K H a xs:= .inl (.inl h)
def Inv.list {σ:St}(I:Inv X af σ H s)(h:gY X.K H a xs): ∃bI:cA c5,cW (bW xs bI) (PlainL s.heap a bI.toArray) (xs.length<=sizeLine):=by obtain h | ⟨o,bI,n,hk,hc,hd,hs,hz,r⟩:=h;let⟨z,bI,n,r,e⟩:=h.ok I.cH;show#[bI,r,#[_,n,e,rfl,rfl,rfl],z];exact#[bI.toList,r,#[o,n,I.kT a o hk,hc,hd, ⇑hs],?_];have e:=r.length;simp![du] at e;lia
def Inv.tuple {σ:St}(I:Inv X af σ H s)(h:kP X.K H a xs): ∃bI:cA c5,cW (bW xs bI) (IsTup s.heap a bI.toArray) (xs.length<=sizeLine):=by obtain h | ⟨o,bI,n,hk,hc,_,hs,hz,r⟩:=h;let⟨z,bI,r,p⟩:=h.ok I.cH;show#[bI,r,p.t,z];exact#[bI.toList,r,#[o,I.kT a o hk,hc,n, ⇑hs],?_];have e:=r.length;simp![du] at e;lia
def Inv.list_inj {σ:St}(I:Inv X af σ H s)(h:gY X.K H a xs)(h':gY X.K H a ys):xs=ys:=by let⟨bI,r,⟨o,n,e,_,_,d⟩,_⟩:=I.list h;let⟨its',r',⟨o',n',e',_,_,d'⟩,_⟩:=I.list h';rw[e] at e';cases e';rw[d] at d';injection d' with d1 _;have:bI=its':= ⇑(congrArg Array.toList d1);subst this;show r.inj r'
def Inv.wN {σ:St}(I:Inv X af σ H s)(h:kP X.K H a xs)(h':kP X.K H a ys):xs=ys:=by let⟨bI,r,⟨o,e,_,n,d⟩,_⟩:=I.tuple h;let⟨its',r',⟨o',e',_,n',d'⟩,_⟩:=I.tuple h';rw[e] at e';cases e';rw[d] at d';injection d' with d1 _;have:bI=its':= ⇑(congrArg Array.toList d1);subst this;show r.inj r'
abbrev Cx.og (X:Cx)(E:c5 ->dq ->Prop):Cx:= {X with xe:=E}
abbrev Cx.Gf (X:Cx):Cx:=X.og λ_ _=>False
theorem Cx.Ok.og {X:Cx}(ok:X.Ok)(E:c5 ->dq ->Prop):(X.og E).Ok:=#[ok.mod,ok.kind,ok.glob,ok.blt,ok.above,ok.inj,ok.has,ok.UZ,ok.hd,ok.frames,ok.Ry,ok.exf,ok.bs,ok.K5,ok.Gg,ok.CK,ok.nU,ok.LY]
theorem Cx.Ok.gN {X:Cx}(ok:(X.og E).Ok):X.Ok:=#[ok.mod,ok.kind,ok.glob,ok.blt,ok.above,ok.inj,ok.has,ok.UZ,ok.hd,ok.frames,ok.Ry,ok.exf,ok.bs,ok.K5,ok.Gg,ok.CK,ok.nU,ok.LY]
theorem Inv.og {σ:St}(I:Inv X af σ H s)(E:c5 ->dq ->Prop):Inv (X.og E) af σ H s:=#[I.ok.og E,I.os,I.bare,I.base,I.loc,I.cell,I.free,I.gf,I.pin,I.cH,I.len]
theorem Inv.gN {σ:St}(I:Inv (X.og E) af σ H s):Inv X af σ H s:=#[I.ok.gN,I.os,I.bare,I.base,I.loc,I.cell,I.free,I.gf,I.pin,I.cH,I.len]
def SP.gN (h:SP (X.og E) af D f s'):SP X af D f s':=by
 cases f with
 | next=>let⟨σ',H',I,q⟩:=h;show#[σ',H',I.gN,q]
 | brk=>let⟨σ',H',I,q⟩:=h;show#[σ',H',I.gN,q]
 | cont=>let⟨σ',H',I,q⟩:=h;show#[σ',H',I.gN,q]
 | ret u=>let⟨v,σ',H',I,r,q⟩:=h;show#[v,σ',H',I.gN,r,q]
theorem xO.Gf {st:cA Stmt}(h:xO X.Gf st t):xO X st t:=λaf s σ H D I hw=>bw (h af s σ H D (I.og _) hw) (λ_ _ q=>q.gN) λ_ _ z=>False.elim z
section
variable {X:Cx}{st:Stmt}{cE:cA Stmt}{t u:TS}{e:Expr}{te:TE}{pos:Pos}
def Pk:TS:=λD σ H=>D.nx σ H
def Ru (t u:TS):TS:=λD σ H=>t {D with nx:=u D} σ H
theorem aJ:xO X [] Pk:=λ_ _ σ H _ I h=>wpAny_execs_nil #[σ,H,I,h]
def ah (h1:PS X st t)(h2:xO X cE u):xO X (st::cE) (Ru t u):=by
 intro af s σ H D I h;exact wpAny_execs_cons (cQ (h1 af s σ H {D with nx:=u D} I h) λf s1 q=> ?_);cases f with
 | next=>let⟨σ',H',I',q⟩:=q;show h2 af s1 σ' H' D I' q
 | ret v=>show q
 | brk=>show q
 | cont=>show q
def aj (h1:PS X st t):xO X [st] t:=by
 intro af s σ H D I h;exact wpAny_execs_cons (cQ (h1 af s σ H D I h) λf s1 q=> ?_);cases f with
 | next=>show wpAny_execs_nil q
 | ret v=>show q
 | brk=>show q
 | cont=>show q
def Inv.quiet {σ:St}(I:Inv X af σ H s):interactive X.env=false:=by simp[interactive,I.ok.kind]
def Pl (te:TE):TS:=λD σ H=>te σ H λ_ H1=>D.nx σ H1
def bK (he:PE X e te)(hs:swapsWith e none pos.line X.env=pure false:=by rfl):PS X (.Expr e pos) (Pl te):=by intro af s σ H D I h;show wpAny_Expr_any (cQ (he af s σ H _ I h) λv s1 ⟨x,H1,I1,r1,q1⟩=>#[σ,H1,I1,q1]) I.quiet hs
def VT (te:TE):TS:=λD σ H=>te σ H D.rt
def aH (he:PE X e te):PS X (.Return (some e) pos) (VT te):=by intro af s σ H D I h;show wpAny_Return_some (cQ (he af s σ H _ I h) λv s1 ⟨x,H1,I1,r1,q1⟩=>#[x,σ,H1,I1,r1,q1])
def VY (c:TT)(t u:TS):TS:=λD σ H=>c σ H λb H1=>if b=true then t D σ H1 else u D σ H1
def bt (hc:PT X c tc)(ha:xO X a t)(hb:xO X b u):PS X (.If c a b pos) (VY tc t u):=by
 intro af s σ H D I h;exact wpAny_If (cQ (hc af s σ H _ I h) λd s1 ⟨H1,I1,q1⟩=> ?_);cases d with
 | true=>show ha af s1 σ H1 D I1 q1
 | false=>show hb af s1 σ H1 D I1 q1
end
abbrev TG:=V ->St ->Hp ->(St ->Hp ->Prop) ->Prop
abbrev L8:=cA V ->St ->Hp ->(St ->Hp ->Prop) ->Prop
def PG (X:Cx)(qe:Expr)(t:TG):Prop:=∀ (af:cA (fM×Obj)) (s:dq) (σ:St) (H:Hp) (v:V) (u:c5) (Q:St ->Hp ->Prop),Inv X af σ H s ->RelV v u ->t v σ H Q ->wpAny (model X.prog X.w) X.A (assign qe X.env u) (λ_ s'=>cc λσ' H'=>Inv X af σ' H' s' /\ Q σ' H') X.xe s
def _H (X:Cx)(ts:cA Expr)(t:L8):Prop:=∀ (af:cA (fM×Obj)) (s:dq) (σ:St) (H:Hp) (vs:cA V) (us:cA c5) (Q:St ->Hp ->Prop),Inv X af σ H s ->bW vs us ->t vs σ H Q ->wpAny (model X.prog X.w) X.A (assignInOrder ((assignEach ts X.env).map (·.2)) us) (λ_ s'=>cc λσ' H'=>Inv X af σ' H' s' /\ Q σ' H') X.xe s
abbrev Lh:=V ->V ->V ->Hp ->(Hp ->Prop) ->Prop
def YT (X:Cx)(t:Lh):Prop:=∀ (af:cA (fM×Obj)) (s:dq) (σ:St) (H:Hp) (o i v:V) (ov iv u:c5) (Q:Hp ->Prop),Inv X af σ H s ->RelV o ov ->RelV i iv ->RelV v u ->t o i v H Q ->wpAny (model X.prog X.w) X.A (setItem ov iv u) (λ_ s'=> ∃H',Inv X af σ H' s' /\ Q H') X.xe s
abbrev U2:=V ->V ->Hp ->VK ->Prop
def PIp (X:Cx)(op:Operator)(t:U2):Prop:=∀ (af:cA (fM×Obj)) (s:dq) (σ:St) (H:Hp) (x y:V) (v u:c5) (Q:VK),Inv X af σ H s ->RelV x v ->RelV y u ->t x y H Q ->wpAny (model X.prog X.w) X.A (inplaceOp op v u) (EP X af σ Q) X.xe s
def lW (i:Nat):TG:=λv σ H Q=>Q (σ.set i (some v)) H
def bj (hN:X.N.Nodup)(hi:X.N[i]? =some x)(hx:Loc X.env.scope x)(hf:X.fn x=true \/ X.env.scope.names.lookup x=some .local:=by first | show .inl rfl | show .inr rfl | assumption):PG X (.Name x pos) (lW i):=by intro af s σ H v u Q I r h;show wpAny_assign_Name (ju I hN hi hx r (λs' I'=>#[_,H,I',h]) hf)
def Ob:L8:=λvs σ H Q=>vs= [] /\ Q σ H
def xq (t:TG)(u:L8):L8:=λvs σ H Q=>cc λv r=>vs=v::r /\ t v σ H λσ' H'=>u r σ' H' Q
def dQ:_H X [] Ob:=by intro af s σ H vs us Q I r h;let⟨e,h⟩:=h;subst e;cases r;show assignInOrder_nil #[σ,H,I,h]
def bE (h1:PG X e t)(h2:_H X es u)(hs:(assignEach (e::es) X.env).map (·.2)=assign e X.env::(assignEach es X.env).map (·.2):=by rfl):_H X (e::es) (xq t u):=by
 intro af s σ H vs us Q I r h;let⟨v,vr,e1,h⟩:=h;subst e1;cases r with
 | cons r rr=>rw[hs];exact assignInOrder_cons (cQ (h1 af s σ H _ _ _ I r h) λ_ s1 ⟨σ1,H1,I1,q1⟩=> ?_);show h2 af s1 σ1 H1 _ _ Q I1 rr q1
def Oa (K:Xu)(n:Nat)(t:L8):TG:=λv σ H Q=>cc λa xs=>fg (v= .ref a) (kP K H a xs) (xs.length=n) (t xs σ H Q)
def eO {pos:Pos}{k:Nat}(hc:X.calm=true)(h:_H X es t)(hn:(assignEach es X.env).length=n:=by rfl)(pk:(assignEach es X.env).findIdx? (·.1)=none:=by rfl):PG X (.Tuple es k pos) (Oa X.K n t):=by intro af s σ H v u Q I r hw;let⟨a,xs,e1,hq,hl,hw⟩:=hw;subst e1;cases r;let⟨bI,rv,ht,hz⟩:=I.tuple hq;exact assign_Tuple_tuple (I.ok.hd hc) ht (by simp[hn, <- hl,rv.length]) pk λh' hx=> ?_;have I1:Inv X af σ H {s with heap:=h'}:=I.kept (t':=s.toks) λb o e=>hx b o (bu (aN e)) e;show h af _ σ H xs _ Q I1 ⇑rv hw
def Yn (to ti:TE)(t:Lh):TG:=λv σ H Q=>to σ H λo H1=>ti σ H1 λi H2=>t o i v H2 λH3=>Q σ H3
theorem qk (ho:PE X o to)(hi:PE X i ti)(hs:YT X t)(ha: ∀v,assign (.Subscript o i pos) X.env v=(do
  let ov <- holding [v] (eval o X.env)
  let iv <- holding [v,ov] (eval i X.env)
  standAt pos
  holding [v,ov,iv] (setItem ov iv v)
  release [v,ov,iv] []):=by intro _;rfl):PG X (.Subscript o i pos) (Yn to ti t):=by
 intro af s σ H v u Q I r h
 rw[ha]
 exact ax (wpAny_holding (cQ (ho af s σ H _ I h) λov s1 ⟨x,H1,I1,r1,q1⟩=> ?_))
 exact ax (wpAny_holding (cQ (hi af s1 σ H1 _ I1 q1) λiv s2 ⟨y,H2,I2,r2,q2⟩=> ?_))
 exact ax (wpAny_standAt (ax (wpAny_holding (cQ (hs af s2 σ H2 x y v ov iv u _ I2 r1 r2 r q2) λ_ s3 ⟨H3,I3,q3⟩=> ?_))))
 show wpAny_release #[σ,H3,I3,q3]
def HW (te:TE)(g:TG):TS:=λD σ H=>te σ H λx H1=>g x σ H1 D.nx
def gR {pos:Pos}(he:PE X e te)(hg:PG X tg g)(hs:swapsWithSole [tg] e pos.line X.env=pure false:=by rfl)(hw:swappedStores [tg] e X.env=pure none:=by rfl)(h1:(assignEach [tg] X.env).map (·.2)= [assign tg X.env]:=by rfl):PS X (.Assign [tg] e pos) (HW te g):=by intro af s σ H D I h;exact wpAny_Assign_stores (cQ (he af s σ H _ I h) λv s1 ⟨x,H1,I1,r1,q1⟩=> ?_) hs hw;rw[h1];show cQ (hg af s1 σ H1 x v _ I1 r1 q1) λ_ s2 q=>q
def RQ {pos:Pos}(hN:X.N.Nodup)(hi:X.N[i]? =some x)(hx:Loc X.env.scope x)(he:PE X e te)(hs:swapsWith e (some (.Name x jA)) pos.line X.env=pure false:=by rfl)(hf:X.fn x=true \/ X.env.scope.names.lookup x=some .local:=by first | show .inl rfl | show .inr rfl | assumption): PS X (.Assign [.Name x jA] e pos) (HW te (lW i)):=by intro af s σ H D I h;exact wpAny_Assign_Name (cQ (he af s σ H _ I h) λv s1 ⟨y,H1,I1,r1,q1⟩=> ?_) hs;show ju I1 hN hi hx r1 (λs2 I2=>#[_,H1,I2,q1]) hf
def V4 (i:Nat)(te:TE)(ti:U2):TS:=λD σ H=> ∃x,σ[i]? =some (some x) /\ te σ H λy H1=>ti x y H1 λz H2=>D.nx (σ.set i (some z)) H2
def RS (hN:X.N.Nodup)(hi:X.N[i]? =some x)(hx:Loc X.env.scope x)(he:PE X e te)(ho:PIp X op ti)(hf:X.fn x=true \/ X.env.scope.names.lookup x=some .local:=by first | show .inl rfl | show .inr rfl | assumption): PS X (.AugAssign (.Name x jA) op e pos) (V4 i te ti):=by
 intro af s σ H D I h;let⟨v,e1,h⟩:=h;let⟨m,hn,hl⟩:=I.loc;have vis:YQ X.env.scope x:=by obtain k | k:=hx;show .inl k;show .inr (.inl k)
 let⟨u,r,l⟩:=hl i x v hi e1 vis;exact wpAny_AugAssign_Name ?_;have go:wpAny (model X.prog X.w) X.A (eval e X.env) (λw s₂=>wpAny (model X.prog X.w) X.A (inplaceOp op u w) (λr s₃=>wpAny (model X.prog X.w) X.A (storeName X.env x r) (λ_=>SP X af D .next) X.xe s₃) X.xe s₂) X.xe s:=by exact cQ (he af s σ H _ I h) λw s1 ⟨y,H1,I1,r1,q1⟩=> ?_;exact cQ (ho af s1 σ H1 v y u w _ I1 r r1 q1) λz s2 ⟨zv,H2,I2,r2,q2⟩=> ?_;show ju I2 hN hi hx r2 (λs3 I3=>#[_,H2,I3,q2]) hf
 rcases l with⟨hk,hm⟩ | ⟨hk,c,hc,ER⟩
 show wpAny_loadName_local I.ok.kind hk hn hm go;obtain hk | hk:=hk;show wpAny_loadName_cell I.ok.kind hk hc ER go;obtain k | k:=hx;have:X.env.scope.names.lookup x=some .free:=hk;rw[k] at this;cases this;have:X.env.scope.names.lookup x=some .free:=hk;rw[k] at this;cases this
def ipI (f:Int ->Int ->Int):U2:=λx y H Q=>cc λi j=>cW (x= .int i) (y= .int j) (Q (.int (f i j)) H)
def Tc:PIp X .Add (ipI λi j=>i+j):=by intro af s σ H x y v u Q I r1 r2 h;let⟨i,j,e1,e2,q⟩:=h;subst e1;subst e2;let⟨t,rfl⟩:=r1;let⟨t',rfl⟩:=r2;show iadd_int #[.int _,H,I.tok _,#[_,rfl],q]
structure It where
 go:Nat ->Hp ->Prop
 Ut:Nat ->Hp ->V ->Hp ->Prop
 stop:Nat ->Hp ->Prop
def k_ (X:Cx)(af:cA (fM×Obj))(H:Hp)(b:fM):Prop:=H b=none /\ b≠X.env.locals /\ b∉X.fs /\ (b∈X.ex \/ X.s₀.heap.objs.size<=b) /\ (∀x c,X.env.cells.lookup x=some c ->c≠b) /\ ∀p∈X.pn++af,p.1≠b
def Inv.CI {σ:St}{b:fM}(I:Inv X af σ H s)(hb:s.heap.objs.size<=b)(hn:H' b=none):k_ X af H' b:=by exact#[hn,Nat.ne_of_gt (be I.lt hb),I.aa5 hb, .inr (aw I.sz hb),λx c e z=> ?_,λp hp z=> ?_];let⟨v,q⟩:=I.cell x c e;show absurd (be q.lt (by rw[z];show hb)) (Nat.lt_irrefl _);show absurd (be (aN (I.pin p hp).1) (by rw[z];show hb)) (Nat.lt_irrefl _)
structure ze (P:Program)(w:World)(K:PySem.W.Frag)(tg:Expr)(J:It)(fp:List Addr)(it:Addr)(tn:Nat ->Heap ->Prop):Prop where
 mem:it∈fp
 obj: ∀i h,tn i h -> ∀b∈fp, ∃o,h.get? b=some o /\ ∀v,o.data≠ .cell v
 keep: ∀i h h',tn i h ->(∀b∈fp, ∀o,h.get? b=some o ->h'.get? b=some o) ->tn i h'
 item: ∀ (X:Cx),X.prog=P ->X.w=w ->X.K=K ->X.calm=true -> ∀ (i:Nat) (af:List (Addr×Obj)) (s:Shared) (σ:St) (H:Hp) (E:Value ->Shared ->Prop),Inv X af σ H s ->(∀b∈fp,k_ X af H b) ->tn i s.heap ->J.go i H ->wpAny (model P w) X.A (pyNext (.ref it)) (λr s1=> ∃u,r=some u /\wpAny (model P w) X.A (letOwnedTupleGo tg (.ref it) u) (λ_ s2=>cc λx H'=>f_ (Inv X af σ H' s2) (RelV x u) (J.Ut i H x H') (tn (i+1) s2.heap) (∀b∈fp,H' b=none)) E s1) E s
 done: ∀ (X:Cx),X.prog=P ->X.w=w ->X.K=K ->X.calm=true -> ∀ (i:Nat) (af:List (Addr×Obj)) (s:Shared) (σ:St) (H:Hp) (E:Value ->Shared ->Prop),Inv X af σ H s ->(∀b∈fp,k_ X af H b) ->tn i s.heap ->J.stop i H ->wpAny (model P w) X.A (pyNext (.ref it)) (λr s1=>r=none /\ Inv X af σ H s1) E s
 self: ∀ (A:Around) (i:Nat) (s:Shared) (Q:Value ->Shared ->Prop) (E:Value ->Shared ->Prop),tn i s.heap ->Q (.ref it) s ->wpAny (model P w) A (pyIter (.ref it)) Q E s
abbrev TI:=St ->Hp ->(It ->Hp ->Prop) ->Prop
def PIE (X:Cx)(af:cA (fM×Obj))(σ:St)(tg:Expr)(R:It ->Hp ->Prop)(Xt:c5)(s2:dq):Prop:=tq λ(it:fM) (fp:cA fM) (tn:Nat ->Heap ->Prop) (J:It) (H':Hp)=>k9 (Xt= .ref it) (Inv X af σ H' s2) (ze X.prog X.w X.K tg J fp it tn) (tn 0 s2.heap) (∀b∈fp,k_ X af H' b) (R J H')
def PI (X:Cx)(tg iter:Expr)(wi:TI):Prop:=∀ (af:cA (fM×Obj)) (s:dq) (σ:St) (H:Hp) (R:It ->Hp ->Prop),Inv X af σ H s ->wi σ H R ->wpAny (model X.prog X.w) X.A (eval iter X.env) (λv s1=>wpAny (model X.prog X.w) X.A (pyIter v) (PIE X af σ tg R) X.xe s1) X.xe s
def xn (ho:s.heap.get? it=some o)(hc:o.cls= .type n)(hd:o.data= .fields vs)(hn: ["enumerate","zip","dict_itemiterator","dict_reverseitemiterator","odict_iterator","itertools.zip_longest","itertools.pairwise"].contains n=false)(hQ:Q () s):wpAny M A (letOwnedTupleGo tg (.ref it) u) Q E s:=by
 unfold letOwnedTupleGo;cases tg <;>first
 | show a5 hQ
 | (cases u<;>first
  | show a5 hQ
  | (exact ax (wpAny_load ho ?_)
     rw[hc,hd]
     change wpAny M A (if(["enumerate","zip","dict_itemiterator","dict_reverseitemiterator","odict_iterator","itertools.zip_longest","itertools.pairwise"].contains n && vs[0]? ==some (rawInt _))=true then _ else _) Q E s
     rw[ak (by intro h;rw[hn,Bool.false_and] at h;cases h)]
     show a5 hQ))
def _K (K:Xu)(a:fM):It:=#[λi H=>cc λxs x=>gY K H a xs /\ xs[i]? =some x,λi H x H'=>H'=H /\ ∀xs,gY K H a xs ->xs[i]? =some x,λi H=> ∃xs,gY K H a xs /\ xs.length<=i]
def _I (K:Xu)(a:fM):It:=#[λi H=>cc λxs x=>kP K H a xs /\ xs[i]? =some x,λi H x H'=>H'=H /\ ∀xs,kP K H a xs ->xs[i]? =some x,λi H=> ∃xs,kP K H a xs /\ xs.length<=i]
def _J (lo:Int)(n:Nat):It:=#[λi _=>i<n,λi H x H'=>H'=H /\ x= .int (lo+i),λi _=>n<=i]
def wM {P:Program}{w:World}{K:Xu}{tg:Expr}(a it:fM):ze P w K tg (_K K a) [it] it (λi h=>h.IsListIter it a i) where
 mem:=by simp
 obj:=λi h st b hb=>by have e:b=it:= ⇑hb;subst e;let⟨o,e,c,d⟩:=st;show#[o,e,λv z=>by rw[d] at z;cases z]
 keep:=λi h h' st k=>st.at λo e=>k it (by simp) o e
 item:=by intro X hP hw hK hc i af s σ H E I hf st hg;subst hP hw hK;let⟨xs,x,hq,hx⟩:=hg;let⟨bI,rv,p,hz⟩:=I.list hq;let⟨u,hu,ru⟩:=rv.get hx;let⟨f0,f1,f2,f3,f4,f5⟩:=hf it (by simp);exact wpAny_pyNext_list_item st p.isList (x:=u) ⇑hu λh' bG sb=> ?_;have I1:Inv X af σ H {s with heap:=h'}:=I.turned (t':=s.toks) (λb o hb e=>(sb.2 b hb).trans e) f0 f1 f3 f4 f5;let⟨o,e,c,d⟩:=id bG;show#[u,rfl,xn (s:= {s with heap:=h'}) e c d ⋯ #[x,H,I1,ru,#[rfl,λys hy=>by rw[I.list_inj hy hq];show hx],bG,λb hb=>(hf b hb).1]]
 done:=by intro X hP hw hK hc i af s σ H E I hf st hg;subst hP hw hK;let⟨xs,hq,hx⟩:=hg;let⟨bI,rv,p,hz⟩:=I.list hq;let⟨f0,f1,f2,f3,f4,f5⟩:=hf it (by simp);have hl:=rv.length;show wpAny_pyNext_list_end (I.ok.hd hc) st p.isList (by simp;lia) λh' eb=>#[rfl,I.turned (t':=s.toks) (λb o hb e=>eb b o hb e) f0 f1 f3 f4 f5]
 self:=λ_ _ _ _ _ st h=>wpAny_pyIter_listiter st h
def uf {P:Program}{w:World}{K:Xu}{tg:Expr}(a it:fM):ze P w K tg (_I K a) [it] it (λi h=>h.IsTupleIter it a i) where
 mem:=by simp
 obj:=λi h st b hb=>by have e:b=it:= ⇑hb;subst e;let⟨o,e,c,d⟩:=st;show#[o,e,λv z=>by rw[d] at z;cases z]
 keep:=λi h h' st k=>st.at λo e=>k it (by simp) o e
 item:=by intro X hP hw hK hc i af s σ H E I hf st hg;subst hP hw hK;let⟨xs,x,hq,hx⟩:=hg;let⟨bI,rv,p,hz⟩:=I.tuple hq;let⟨u,hu,ru⟩:=rv.get hx;let⟨f0,f1,f2,f3,f4,f5⟩:=hf it (by simp);exact wpAny_pyNext_tuple_item st (show s.heap.IsTuple a bI.toArray from p) (x:=u) ⇑hu λh' bG sb=> ?_;have I1:Inv X af σ H {s with heap:=h'}:=I.turned (t':=s.toks) (λb o hb e=>(sb.2 b hb).trans e) f0 f1 f3 f4 f5;let⟨o,e,c,d⟩:=id bG;show#[u,rfl,xn (s:= {s with heap:=h'}) e c d ⋯ #[x,H,I1,ru,#[rfl,λys hy=>by rw[I.wN hy hq];show hx],bG,λb hb=>(hf b hb).1]]
 done:=by intro X hP hw hK hc i af s σ H E I hf st hg;subst hP hw hK;let⟨xs,hq,hx⟩:=hg;let⟨bI,rv,p,hz⟩:=I.tuple hq;let⟨f0,f1,f2,f3,f4,f5⟩:=hf it (by simp);have hl:=rv.length;show wpAny_pyNext_tuple_end (I.ok.hd hc) st (show s.heap.IsTuple a bI.toArray from p) (by simp;lia) λh' eb=>#[rfl,I.turned (t':=s.toks) (λb o hb e=>eb b o hb e) f0 f1 f3 f4 f5]
 self:=λ_ _ _ _ _ st h=>wpAny_pyIter_tupleiter st h
def BP {P:Program}{w:World}{K:Xu}{tg:Expr}(it:fM)(lo:Int)(n:Nat):ze P w K tg (_J lo n) [it] it (λi h=>IsRangeIter h it (lo+(i:Nat)*1) ((n:Int) - (i:Nat)) 1) where
 mem:=by simp
 obj :=λi h st b hb=>by have e:b=it:= ⇑hb;subst e;show#[_,st,λv z=>by have z':Data.fields _=Data.cell v:=z;cases z']
 keep:=λi h h' st k=>k it (by simp) _ st
 item:=by intro X hP hw hK hc i af s σ H E I hf st hg;subst hP hw hK;let⟨f0,f1,f2,f3,f4,f5⟩:=hf it (by simp);have W:=Walks.range (prog:=X.prog) (w:=X.w) (I.ok.hd hc) it lo 1 n;exact W.item i s _ _ hg st λv h' tk hv bG kk=> ?_;let⟨t,rfl⟩:=hv;have I1:Inv X af σ H {s with heap:=h',toks:=tk}:=I.turned (λb o hb e=>kk b o ⇑hb e) f0 f1 f3 f4 f5;exact#[_,rfl,xn (s:= {s with heap:=h',toks:=tk}) (n:= "range_iterator") bG rfl rfl ⋯ #[.int (lo+i),H,I1,#[t,?_],#[rfl,rfl],bG,λb hb=>(hf b hb).1]];rw[Int.mul_one]
 done:=by intro X hP hw hK hc i af s σ H E I hf st hg;subst hP hw hK;let⟨f0,f1,f2,f3,f4,f5⟩:=hf it (by simp);show wpAny_pyNext_range_end (I.ok.hd hc) st (by have:n<=i:=hg;lia) λh' eb=>#[rfl,I.turned (t':=s.toks) (λb o hb e=>eb b o hb e) f0 f1 f3 f4 f5]
 self:=λ_ _ _ _ _ st h=>wpAny_pyIter_rangeiter st h
def JT (K:Xu)(tl:TE):TI:=λσ H R=>tl σ H λx H1=> ∃a,cW (x= .ref a) (∃xs,gY K H1 a xs) (R (_K K a) H1)
def Td (K:Xu)(tl:TE):TI:=λσ H R=>tl σ H λx H1=> ∃a,cW (x= .ref a) (∃xs,kP K H1 a xs) (R (_I K a) H1)
def tL (hl:PE X l tl):PI X tg l (JT X.K tl):=by intro af s σ H R I h;exact cQ (hl af s σ H _ I h) λv s1 ⟨x,H1,I1,r1,q1⟩=> ?_;let⟨a,e,⟨xs,hq⟩,q⟩:=q1;subst e;cases r1;let⟨bI,rv,p,hz⟩:=I1.list hq;exact wpAny_pyIter_list p.isList ?_;exact#[s1.heap.objs.size,[s1.heap.objs.size],_,_,H1,rfl,I1.kept (t':=s1.toks) λb o e=>av _ e,wM a _,#[_,aW _ rfl,rfl,rfl],λb hb=> ?_,q];have e:b=s1.heap.objs.size:= ⇑hb;subst e;show I1.CI (aq _) (I1.cH.fresh (aq _))
def qj (hl:PE X l tl):PI X tg l (Td X.K tl):=by intro af s σ H R I h;exact cQ (hl af s σ H _ I h) λv s1 ⟨x,H1,I1,r1,q1⟩=> ?_;let⟨a,e,⟨xs,hq⟩,q⟩:=q1;subst e;cases r1;let⟨bI,rv,p,hz⟩:=I1.tuple hq;exact wpAny_pyIter_tuple (show s1.heap.IsTuple a bI.toArray from p) ?_;exact#[s1.heap.objs.size,[s1.heap.objs.size],_,_,H1,rfl,I1.kept (t':=s1.toks) λb o e=>av _ e,uf a _,#[_,aW _ rfl,rfl,rfl],λb hb=> ?_,q];have e:b=s1.heap.objs.size:= ⇑hb;subst e;show I1.CI (aq _) (I1.cH.fresh (aq _))
def Iv {σ:St}{lo hi:Int}(I:Inv X af σ H s)(h1: -(2 ^ 62) <=lo)(h2:lo<2 ^ 62)(h3: -(2 ^ 62) <=hi)(h4:hi<2 ^ 62)(q:R (_J lo (hi - lo).toNat) H):wpAny (model X.prog X.w) X.A (pyIter (.ref s.heap.objs.size)) (PIE X af σ tg R) E {s with heap:=s.heap.push {cls:= .type "range",data:= .fields (List.toArray [.int lo t, .int hi u, .int 1 v])},toks:=tk}:=by
 exact wpAny_pyIter_range (IsRange.new ..) (small_one h1 h2 h3 h4) ?_;have I1:Inv X af σ H {s with heap:=s.heap.push {cls:= .type "range",data:= .fields (List.toArray [.int lo t, .int hi u, .int 1 v])},toks:=tk}:=I.kept λb o e=>av _ e;exact#[(s.heap.push {cls:= .type "range",data:= .fields (List.toArray [.int lo t, .int hi u, .int 1 v])}).objs.size,[(s.heap.push {cls:= .type "range",data:= .fields (List.toArray [.int lo t, .int hi u, .int 1 v])}).objs.size],_,_,H,rfl,I1.kept (t':=tk) λb o e=>av _ e,BP _ lo (hi - lo).toNat,?_,λb hb=> ?_,q];have e1:lo+((0:Nat):Int)*1=lo:=by simp
 have e2:(((hi - lo).toNat:Nat):Int) - ((0:Nat):Int)=Builtin.Range.rangeSize lo hi 1:=by rw[rangeSize_one];split<;>lia
 change IsRangeIter _ _ (lo+((0:Nat):Int)*1) ((((hi - lo).toNat:Nat):Int) - ((0:Nat):Int)) 1;rw[e1,e2];show aW _ rfl;have e:b=(s.heap.push {cls:= .type "range",data:= .fields (List.toArray [.int lo t, .int hi u, .int 1 v])}).objs.size:=by simpa using hb
 subst e;show I1.CI (aq _) (I1.cH.fresh (aq _))
def Qo (ta:TA):TI:=λσ H R=>ta σ H λvs H1=> ∃j:Int,fg (vs= [.int j]) (-(2 ^ 62) <=j) (j<2 ^ 62) (R (_J 0 j.toNat) H1)
def fi (hg:Gl X "range")(hm:X.mg "range" =none)(ha:PA X [a] ta)(hs:starEach [a] X.env= [(false,eval a X.env)]:=by rfl):PI X tg (.Call (.Name "range" p) [a] [] pos) (Qo ta):=by
 intro af s σ H R I h;exact Call_ (yK I hg hm boot_range (PyProof.Rows.callWith_type1 (cQ (ha pos af s σ H _ I h) λus s1 ⟨vs,H1,I1,r1,q1⟩=> ?_) hs rfl));let⟨j,e,q1,q2,q⟩:=q1;subst e;cases r1 with
 | cons r rr=>cases rr;let⟨t,rfl⟩:=r;show call_range_1 (Iv I1 ∅ ∅ q1 q2 ⇑q)
def V1 (wi:TI)(g:TG)(tb:TS):TS:=λD σ H=>wi σ H λJ H1=> ∃W:Nat ->Nat ->St ->Hp ->Prop,(∃m,W 0 m σ H1) /\ ∀i m σ H,W i m σ H ->(J.stop i H /\ D.nx σ H) \/ (J.go i H /\ ∃N:St ->Hp ->Prop,(∀σ' H',N σ' H' -> ∃m',m'<m /\ W (i+1) m' σ' H') /\ ∀x H',J.Ut i H x H' ->g x σ H' λσ2 H2=>tb {D with nx:=N,ct:=N,bk:=D.nx} σ2 H2)
def iJ (fp:cA fM)(h:Heap):cA (fM×Obj):=fp.filterMap λb=>(h.get? b).map λo=>(b,o)
theorem fb (hb:b∈fp)(e:h.get? b=some o):(b,o)∈iJ fp h:=List.mem_filterMap.mpr #[b,hb,by rw[e];rfl]
def Ge (hp:p∈iJ fp h):p.1∈fp /\ h.get? p.1=some p.2:=by
 let⟨b,hb,e⟩:=List.mem_filterMap.mp hp;cases q:h.get? b with
 | none=>rw[q] at e;cases e
 | some o=>rw[q] at e;have e':(b,o)=p:=bp e;subst e';show#[hb,q]
theorem Inv.pinned {σ:St}(I:Inv X af σ H s)(hf: ∀b∈fp,k_ X af H b)(ho: ∀b∈fp, ∃o,s.heap.get? b=some o /\ ∀v,o.data≠ .cell v):Inv X (af++iJ fp s.heap) σ H s:=I.Ea λp hp=>(a8.mp hp).elim (λz=>I.pin p (aX _ z)) λz=>by let⟨hb,e⟩:=Ge z;let⟨f0,f1,f2,_⟩:=hf p.1 hb;let⟨o,e',d⟩:=ho p.1 hb;rw[e] at e';cases e';show#[e,f0,f1,f2,d]
theorem Inv.jq {σ:St}(I:Inv X (af++pl) σ H s):Inv X af σ H s:=I.Ea λp hp=>I.pin p (aX _ (List.mem_append_left _ hp))
def iH (hp:PassesOwn (model X.prog X.w) X.A X.env X.xe)(hc:X.calm=true)(hi:PI X tg iter wi)(hg:PG X tg g)(hb:xO X body tb)(hs: ∀x,foldedSetIterable iter X.env x=pure x:=by intro _;rfl):PS X (.For tg iter body [] pos) (V1 wi g tb):=by
 intro af s σ H D I h;exact wpAny_For (cQ (hi af s σ H _ I h) λv s1 h1=>cQ h1 λXt s2 h2=> ?_) hs;let⟨it,fp,tn,J,H2,e,I2,T,ot,f2,W,⟨m0,w0⟩,turn⟩:=h2;subst e;have uj: ∀ {H':Hp},(∀b∈fp,H' b=none) -> ∀b∈fp,k_ X af H' b:=λhn b hb=>#[hn b hb,(f2 b hb).2]
 exact codeAny_forLoop_any (λn s'=>eh λi σ' H'=>fg (Inv X af σ' H' s') (tn i s'.heap) (∀b∈fp,H' b=none) (W i n σ' H')) ?_ m0 #[0,σ,H2,I2,ot,λb hb=>(f2 b hb).1,w0];rintro n s3 ⟨i,σ3,H3,I3,vR,fr3,w3⟩;rcases turn i n σ3 H3 w3 with⟨stop,qn⟩ | ⟨go,N,hN,step⟩
 .exact wpAny_passesOwn hp (cQ (T.done X rfl rfl rfl hc i af s3 σ3 H3 X.xe I3 (uj fr3) vR stop) λr s4 ⟨hr,I4⟩=> ?_);subst hr;show wpAny_execs_nil #[σ3,H3,I4,qn]
 .exact wpAny_passesOwn hp (cQ (T.item X rfl rfl rfl hc i af s3 σ3 H3 X.xe I3 (uj fr3) vR go) λr s4 ⟨u,hr,h4⟩=> ?_);subst hr;exact wpAny_passesOwn hp (cQ h4 λ_ s5 ⟨x,H5,I5,r5,y5,UE,fr5⟩=> ?_);have I5':=I5.pinned (uj fr5) (T.obj _ _ UE);exact wpAny_passesOwn hp (cQ (hg _ s5 σ3 H5 x u _ I5' r5 (step x H5 y5)) λ_ s6 ⟨σ6,H6,I6,q6⟩=> ?_);exact wpAny_passesOwn hp (cQ (hb _ s6 σ6 H6 _ I6 q6) λf s7 q7=> ?_);have again: ∀ {σ7:St} {H7:Hp},Inv X (af++iJ fp s5.heap) σ7 H7 s7 ->N σ7 H7 -> ∃m,m<n /\ eh λi σ' H'=>fg (Inv X af σ' H' s7) (tn i s7.heap) (∀b∈fp,H' b=none) (W i m σ' H'):=λ{σ7 H7} I7 n7=>by let⟨m',hm,w7⟩:=hN σ7 H7 n7;exact#[m',hm,i+1,σ7,H7,I7.jq,T.keep _ _ _ UE λb hb o e=>(I7.pin (b,o) (aX _ (aX _ (fb hb e)))).1,λb hb=> ?_,w7];let⟨o,e,d⟩:=T.obj _ _ UE b hb;show(I7.pin (b,o) (aX _ (aX _ (fb hb e)))).2.1
  cases f with
  | next=>let⟨σ7,H7,I7,n7⟩:=q7;show again I7 n7
  | cont=>let⟨σ7,H7,I7,n7⟩:=q7;show again I7 n7
  | brk=>let⟨σ7,H7,I7,q7⟩:=q7;show#[σ7,H7,I7.jq,q7]
  | ret v=>let⟨x7,σ7,H7,I7,r7,q7⟩:=q7;show#[x7,σ7,H7,I7.jq,r7,q7]
abbrev R2:=V ->V ->Hp ->VK ->Prop
def gI (X:Cx)(f:c5 ->c5 ->Sem c5)(r:R2):Prop:=∀ (af:cA (fM×Obj)) (s:dq) (σ:St) (H:Hp) (x y:V) (v u:c5) (Q:VK),Inv X af σ H s ->RelV x v ->RelV y u ->r x y H Q ->wpAny (model X.prog X.w) X.A (f v u) (EP X af σ Q) X.xe s
def UnR (X:Cx)(f:c5 ->Sem c5)(r:V ->Hp ->VK ->Prop):Prop:=∀ (af:cA (fM×Obj)) (s:dq) (σ:St) (H:Hp) (x:V) (v:c5) (Q:VK),Inv X af σ H s ->RelV x v ->r x H Q ->wpAny (model X.prog X.w) X.A (f v) (EP X af σ Q) X.xe s
def eY (X:Cx)(f:c5)(r:cA V ->Hp ->VK ->Prop):Prop:=∀ (af:cA (fM×Obj)) (s:dq) (σ:St) (H:Hp) (xs:cA V) (us:cA c5) (Q:VK),Inv X af σ H s ->bW xs us ->r xs H Q ->wpAny (model X.prog X.w) X.A (call f us) (EP X af σ Q) X.xe s
def aim (X:Cx)(r:V ->Hp ->(Bool ->Hp ->Prop) ->Prop):Prop:=∀ (af:cA (fM×Obj)) (s:dq) (σ:St) (H:Hp) (x:V) (v:c5) (Q:Bool ->Hp ->Prop),Inv X af σ H s ->RelV x v ->r x H Q ->wpAny (model X.prog X.w) X.A (truthy v) (TP X af σ Q) X.xe s
def VV (r:R2)(ta tb:TE):TE:=λσ H Q=>ta σ H λx H1=>tb σ H1 λy H2=>r x y H2 Q
def tUn (r:V ->Hp ->VK ->Prop)(ta:TE):TE:=λσ H Q=>ta σ H λx H1=>r x H1 Q
def rI (C:Int ->Int ->Prop)(g:Int ->Int ->V):R2:=λx y H Q=>cc λi j=>fg (x= .int i) (y= .int j) (C i j) (Q (g i j) H)
def MC (g:Int ->Int ->V):R2:=λx y H Q=>cc λi j=>cW (x= .int i) (y= .int j) (Q (g i j) H)
def rU (g:Int ->V):V ->Hp ->VK ->Prop:=λx H Q=> ∃i,x= .int i /\ Q (g i) H
def Ud (ha:PE X a ta)(hb:PE X b tb){σ:St}{R:V ->V ->Hp ->Prop}(I:Inv X af σ H s)(h:ta σ H λx H1=>tb σ H1 λy H2=>R x y H2){f:c5 ->c5 ->Sem c5}(hf: ∀v u s2 x y H2,Inv X af σ H2 s2 ->RelV x v ->RelV y u ->R x y H2 ->wpAny (model X.prog X.w) X.A (f v u) Q X.xe s2): wpAny (model X.prog X.w) X.A (eval a X.env) (λv s₁=>wpAny (model X.prog X.w) X.A (eval b X.env) (λu s₂=>wpAny (model X.prog X.w) X.A (f v u) Q X.xe s₂) X.xe s₁) X.xe s:=by exact cQ (ha af s σ H _ I h) λv s1 ⟨x,H1,I1,r1,q1⟩=> ?_;exact cQ (hb af s1 σ H1 _ I1 q1) λu s2 ⟨y,H2,I2,r2,q2⟩=> ?_;show hf v u s2 x y H2 I2 r1 r2 q2
def bH (ho:gI X (binaryOp op) r)(ha:PE X a ta)(hb:PE X b tb):PE X (.BinOp a op b pos) (VV r ta tb):=by intro af s σ H Q I h;show wpAny_BinOp (Ud ha hb I h λv u s2 x y H2 I2 rx ry q=>ho af s2 σ H2 x y v u Q I2 rx ry q)
def fZ (ho:UnR X (unaryOp op) r)(ha:PE X a ta):PE X (.UnaryOp op a pos) (tUn r ta):=by intro af s σ H Q I h;show UnaryOp_ (cQ (ha af s σ H _ I h) λv s1 ⟨x,H1,I1,r1,q1⟩=>ho af s1 σ H1 x v Q I1 r1 q1)
def ZW {g:Int ->Int ->Int}(rule: ∀ (i j:Int) (t u:Tok) (s:dq) (Q:c5 ->dq ->Prop) (E:c5 ->dq ->Prop),C i j ->Q (.int (g i j) s.toks) {s with toks:=s.toks+1} ->wpAny (model X.prog X.w) X.A (f (.int i t) (.int j u)) Q E s): gI X f (rI C λi j=> .int (g i j)):=by intro af s σ H x y v u Q I rx ry h;let⟨i,j,rfl,rfl,hc,q⟩:=h;let⟨t,rfl⟩:=rx;let⟨t',rfl⟩:=ry;show rule i j t t' s _ _ hc #[.int (g i j),H,I.tok _,#[_,rfl],q]
def WY {g:Int ->Int ->Int}(rule: ∀ (i j:Int) (t u:Tok) (s:dq) (Q:c5 ->dq ->Prop) (E:c5 ->dq ->Prop),Q (.int (g i j) s.toks) {s with toks:=s.toks+1} ->wpAny (model X.prog X.w) X.A (f (.int i t) (.int j u)) Q E s): gI X f (MC λi j=> .int (g i j)):=by intro af s σ H x y v u Q I rx ry h;let⟨i,j,rfl,rfl,q⟩:=h;let⟨t,rfl⟩:=rx;let⟨t',rfl⟩:=ry;show rule i j t t' s _ _ #[.int (g i j),H,I.tok _,#[_,rfl],q]
def Nd {g:Int ->Int ->Bool}(rule: ∀ (i j:Int) (t u:Tok) (s:dq) (Q:c5 ->dq ->Prop) (E:c5 ->dq ->Prop),Q (.bool (g i j)) s ->wpAny (model X.prog X.w) X.A (f (.int i t) (.int j u)) Q E s): gI X f (MC λi j=> .bl (g i j)):=by intro af s σ H x y v u Q I rx ry h;let⟨i,j,rfl,rfl,q⟩:=h;let⟨t,rfl⟩:=rx;let⟨t',rfl⟩:=ry;show rule i j t t' s _ _ #[.bl (g i j),H,I,rfl,q]
def LG (i j:Int):Prop:=0<j /\ j<1073741824
def zq (i j:Int):Prop:=0<=j /\ j<=1000000 /\ i.natAbs<2 ^ 64
def gK (i j:Int):Prop:=(-(2 ^ 64) <i /\ i<2 ^ 64) \/ (-(2 ^ 64) <j /\ j<2 ^ 64)
def gK.ok (h:gK i j):IntMulOk i j:=by
 rcases h with⟨h1,h2⟩ | ⟨h1,h2⟩
 show .of_left (intBits_le_64 h1 h2);show .of_right (intBits_le_64 h1 h2)
theorem dY:gI X (binaryOp .Add) (MC λi j=> .int (i+j)):=WY λ_ _ _ _ _ _ _ q=>add_int q
theorem nM:gI X (binaryOp .Sub) (MC λi j=> .int (i - j)):=WY λ_ _ _ _ _ _ _ q=>sub_int q
theorem eQ:gI X (binaryOp .Mult) (rI gK λi j=> .int (i*j)):=ZW λ_ _ _ _ _ _ _ hc q=>mul_int q hc.ok
theorem Eh:gI X (binaryOp .FloorDiv) (rI LG λi j=> .int (i / j)):=ZW λi j _ _ _ _ _ hc q=>by have h1:(0:Int) <j:=hc.1;have h2:j<1073741824:=hc.2;show floordiv_int ∅ (by rw[Int.fdiv_eq_ediv_of_nonneg i ∅];show q) (.inl (PyProof.noPylong_small ∅))
theorem lM:gI X (binaryOp .Mod) (rI (λ_ j=>0<j) λi j=> .int (i % j)):=ZW λi j _ _ _ _ _ hc q=>by have h1:(0:Int) <j:=hc;show mod_int' ∅ (by rw[Int.fmod_eq_emod_of_nonneg i ∅];show q)
theorem nN:gI X (binaryOp .Pow) (rI zq λi j=> .int (i ^ j.toNat)):=ZW λ_ _ _ _ _ _ _ hc q=>pow_int_small hc.1 hc.2.1 hc.2.2 q
def unI {g:Int ->Int}(rule: ∀ (i:Int) (t:Tok) (s:dq) (Q:c5 ->dq ->Prop) (E:c5 ->dq ->Prop),Q (.int (g i) s.toks) {s with toks:=s.toks+1} ->wpAny (model X.prog X.w) X.A (f (.int i t)) Q E s): UnR X f (rU λi=> .int (g i)):=by intro af s σ H x v Q I rx h;let⟨i,rfl,q⟩:=h;let⟨t,rfl⟩:=rx;show rule i t s _ _ #[.int (g i),H,I.tok _,#[_,rfl],q]
theorem eE:UnR X (unaryOp .USub) (rU λi=> .int (-i)):=unI λ_ _ _ _ _ q=>neg_int q
def Mw:V ->V ->Bool
 | .dG, .dG=>true | .dG, .int _=>true | .int _, .dG=>true | .dG, .bl _=>true | .bl _, .dG=>true | .dG, .str _=>true | .str _, .dG=>true
 | .int _, .int _=>true | .bl _, .bl _=>true | .str _, .str _=>true | .CS _, .CS _=>true
 | .int _, .str _=>true | .str _, .int _=>true | .bl _, .str _=>true | .str _, .bl _=>true
 | _,_=>false
def rEq:R2:=λx y H Q=>Mw x y=true /\ Q (.bl (decide (x=y))) H
def rNe:R2:=λx y H Q=>Mw x y=true /\ Q (.bl (!decide (x=y))) H
def Fb:decide (V.int i=V.int j)=(i==j):=by rw[Bool.eq_iff_iff];simp
def KD:decide (V.bl i=V.bl j)=(i==j):=by rw[Bool.eq_iff_iff];simp
def Fa:decide (V.str i=V.str j)=(i==j):=by rw[Bool.eq_iff_iff];simp
def Fc:decide (V.CS i=V.CS j)=(i.toList==j.toList):=by rw[Bool.eq_iff_iff];cases i;cases j;simp
section
variable {X:Cx}{a b c:Expr}{ta tb tc:TE}{pos:Pos}
def cO {σ:St}(I:Inv X af σ H s)(q:Q (.bl k) H)(e:k=k'):EP X af σ Q (.bool k') s:=by subst e;show#[.bl k,H,I,rfl,q]
def dn:gI X (compareOp .Eq) rEq:=by
 intro af s σ H x y v u Q I rx ry h;let⟨hs,q⟩:=h;cases x with
 | dG=>
  cases rx;cases y with
  | dG=>cases ry;show PySem.EqNone.eq_none_none (cO I q (by simp))
  | bl j=>cases ry;show PySem.EqNone.eq_none_bool (cO I q (by simp))
  | int j=>let⟨t',rfl⟩:=ry;show PySem.EqNone.eq_none_int (cO I q (by simp))
  | str j=>let⟨t',rfl⟩:=ry;show PySem.EqNone.eq_none_str (cO I q (by simp))
  | _=>show absurd (show false=true from hs) bf
 | bl i=>
  cases rx;cases y with
  | dG=>cases ry;show PySem.EqNone.eq_bool_none (cO I q (by simp))
  | bl j=>cases ry;show eq_bool (cO I q KD)
  | str j=>let⟨t',rfl⟩:=ry;show PySem.EqMixed.eq_bool_str (cO I q (by simp))
  | _=>show absurd (show false=true from hs) bf
 | int i=>
  let⟨t,rfl⟩:=rx;cases y with
  | dG=>cases ry;show PySem.EqNone.eq_int_none (cO I q (by simp))
  | int j=>let⟨t',rfl⟩:=ry;show eq_int (cO I q Fb)
  | str j=>let⟨t',rfl⟩:=ry;show PySem.EqMixed.eq_int_str (cO I q (by simp))
  | _=>show absurd (show false=true from hs) bf
 | str i=>
  let⟨t,rfl⟩:=rx;cases y with
  | dG=>cases ry;show PySem.EqNone.eq_str_none (cO I q (by simp))
  | bl j=>cases ry;show PySem.EqMixed.eq_str_bool (cO I q (by simp))
  | int j=>let⟨t',rfl⟩:=ry;show PySem.EqMixed.eq_str_int (cO I q (by simp))
  | str j=>let⟨t',rfl⟩:=ry;show eq_str (cO I q Fa)
  | _=>show absurd (show false=true from hs) bf
 | CS i=>
  let⟨t,rfl⟩:=rx;cases y with
  | CS j=>let⟨t',rfl⟩:=ry;show W.eq_bytes (cO I q Fc)
  | _=>show absurd (show false=true from hs) bf
 | _=>cases y<;>show absurd (show false=true from hs) bf
def rA:gI X (compareOp .NotEq) rNe:=by
 intro af s σ H x y v u Q I rx ry h;let⟨hs,q⟩:=h;cases x with
 | dG=>
  cases rx;cases y with
  | dG=>cases ry;show PySem.EqNone.ne_none_none (cO I q (by simp))
  | bl j=>cases ry;show PySem.EqNone.ne_none_bool (cO I q (by simp))
  | int j=>let⟨t',rfl⟩:=ry;show PySem.EqNone.ne_none_int (cO I q (by simp))
  | str j=>let⟨t',rfl⟩:=ry;show PySem.EqNone.ne_none_str (cO I q (by simp))
  | _=>show absurd (show false=true from hs) bf
 | bl i=>
  cases rx;cases y with
  | dG=>cases ry;show PySem.EqNone.ne_bool_none (cO I q (by simp))
  | bl j=>cases ry;show ne_bool (cO I q (congrArg not KD))
  | str j=>let⟨t',rfl⟩:=ry;show PySem.EqMixed.ne_bool_str (cO I q (by simp))
  | _=>show absurd (show false=true from hs) bf
 | int i=>
  let⟨t,rfl⟩:=rx;cases y with
  | dG=>cases ry;show PySem.EqNone.ne_int_none (cO I q (by simp))
  | int j=>let⟨t',rfl⟩:=ry;show ne_int (cO I q (congrArg not Fb))
  | str j=>let⟨t',rfl⟩:=ry;show PySem.EqMixed.ne_int_str (cO I q (by simp))
  | _=>show absurd (show false=true from hs) bf
 | str i=>
  let⟨t,rfl⟩:=rx;cases y with
  | dG=>cases ry;show PySem.EqNone.ne_str_none (cO I q (by simp))
  | bl j=>cases ry;show PySem.EqMixed.ne_str_bool (cO I q (by simp))
  | int j=>let⟨t',rfl⟩:=ry;show PySem.EqMixed.ne_str_int (cO I q (by simp))
  | str j=>let⟨t',rfl⟩:=ry;show ne_str (cO I q (congrArg not Fa))
  | _=>show absurd (show false=true from hs) bf
 | CS i=>
  let⟨t,rfl⟩:=rx;cases y with
  | CS j=>let⟨t',rfl⟩:=ry;show W.ne_bytes (cO I q (congrArg not Fc))
  | _=>show absurd (show false=true from hs) bf
 | _=>cases y<;>show absurd (show false=true from hs) bf
theorem lN:gI X (compareOp .Lt) (MC λi j=> .bl (decide (i<j))):=Nd λ_ _ _ _ _ _ _ q=>lt_int q
theorem rB:gI X (compareOp .LtE) (MC λi j=> .bl (decide (i<=j))):=Nd λ_ _ _ _ _ _ _ q=>le_int q
theorem Ae:gI X (compareOp .Gt) (MC λi j=> .bl (decide (j<i))):=Nd λ_ _ _ _ _ _ _ q=>gt_int q
theorem Af:gI X (compareOp .GtE) (MC λi j=> .bl (decide (j<=i))):=Nd λ_ _ _ _ _ _ _ q=>ge_int q
def FY:gI X (compareOp .In) (λx y H Q=>cc λi j=>cW (x= .str i) (y= .str j) (Q (.bl (!(Builtin.Str.occurrences j i 0 j.length 1).isEmpty)) H)):=by intro af s σ H x y v u Q I rx ry h;let⟨i,j,rfl,rfl,q⟩:=h;let⟨t,rfl⟩:=rx;let⟨t',rfl⟩:=ry;show in_str (cO I q rfl)
def Nb:gI X (compareOp .IsNot) (λx y H Q=>y= .dG /\ Q (.bl (!decide (x= .dG))) H):=by
 intro af s σ H x y v u Q I rx ry h;let⟨rfl,q⟩:=h;cases ry;exact isnot_none_gen (cO I q ?_);cases x<;>first
 | (cases rx;rfl)
 | (let⟨t,rfl⟩:=rx;rfl)
def a7 (b:Expr)(h:op≠ .In:=by decide)(h2:op≠ .NotIn:=by decide):behindInMarks op b=false:=by
 have e1:(op==CmpOp.In)=false:=by cases op<;>first | rfl | show absurd rfl h
 have e2:(op==CmpOp.NotIn)=false:=by cases op<;>first | rfl | show absurd rfl h2
 cases b<;>simp[behindInMarks,e1,e2]
def eU (ho:gI X (compareOp op) r)(ha:PE X a ta)(hb:PE X b tb)(hm:behindInMarks op b=false):PE X (.Compare a [op] [b] pos) (VV r ta tb):=by intro af s σ H Q I h;show wpAny_Compare1 (Ud ha hb I h λv u s2 x y H2 I2 rx ry q=>ho af s2 σ H2 x y v u Q I2 rx ry q) hm
def HL (t:TE):TT:=λσ H Q=>t σ H λx H'=> ∃k,x= .bl k /\ Q k H'
def aR (ho:gI X (compareOp op) r)(ha:PE X a ta)(hb:PE X b tb)(hm:behindInMarks op b=false):PT X (.Compare a [op] [b] pos) (HL (VV r ta tb)):=by intro af s σ H Q I h;exact wpAny_isTrue_Compare1 (cQ (ha af s σ H _ I h) λv s1 ⟨x,H1,I1,r1,q1⟩=>cQ (hb af s1 σ H1 _ I1 q1) λu s2 ⟨y,H2,I2,r2,q2⟩=>cQ (ho af s2 σ H2 x y v u _ I2 r1 r2 q2) λc s3 ⟨z,H3,I3,r3,k,e,q3⟩=> ?_) hm;subst e;cases r3;show cq #[H3,I3,q3]
def BU (r r':R2)(ta tb tc:TE):TE:=λσ H Q=>ta σ H λx H1=>tb σ H1 λy H2=>r x y H2 λz H3=> ∃k,z= .bl k /\(if k=true then tc σ H3 λw' H4=>r' y w' H4 Q else Q (.bl false) H3)
def IP (ho:gI X (compareOp op) r)(yR:gI X (compareOp Sk) r')(ha:PE X a ta)(hb:PE X b tb)(hc:PE X c tc)(hm:lastMarks [op,Sk] [b,c]=false:=by with_unfolding_all rfl):PE X (.Compare a [op,Sk] [b,c] pos) (BU r r' ta tb tc):=by
 intro af s σ H Q I h;exact Compare_chain (cQ (ha af s σ H _ I h) λv s1 ⟨x,H1,I1,r1,q1⟩=>chain_link (cQ (hb af s1 σ H1 _ I1 q1) λu s2 ⟨y,H2,I2,r2,q2⟩=>cQ (ho af s2 σ H2 x y v u _ I2 r1 r2 q2) λd s3 ⟨z,H3,I3,r3,k,e,q3⟩=> ?_)) hm;subst e;cases r3;exact cq ?_;cases k with
 | false=>show ite_ff #[.bl false,H3,I3,rfl,q3]
 | true=>show ite_tt (chain_last (cQ (hc af s3 σ H3 _ I3 q3) λw' s4 ⟨z',H4,I4,r4,q4⟩=>yR af s4 σ H4 y z' u w' Q I4 r2 r4 q4))
def ut (ho:gI X (compareOp op) r)(yR:gI X (compareOp Sk) r')(ha:PE X a ta)(hb:PE X b tb)(hc:PE X c tc)(hm:lastMarks [op,Sk] [b,c]=false:=by with_unfolding_all rfl):PT X (.Compare a [op,Sk] [b,c] pos) (HL (BU r r' ta tb tc)):=by
 intro af s σ H Q I h;exact isTrue_chain (cQ (ha af s σ H _ I h) λv s1 ⟨x,H1,I1,r1,q1⟩=>test_link (cQ (hb af s1 σ H1 _ I1 q1) λu s2 ⟨y,H2,I2,r2,q2⟩=>cQ (ho af s2 σ H2 x y v u _ I2 r1 r2 q2) λd s3 ⟨z,H3,I3,r3,k,e,q3⟩=> ?_)) hm;subst e;cases r3;exact cq ?_;cases k with
 | false=>let⟨k',e',q'⟩:=q3;cases e';show ite_ff #[H3,I3,q']
 | true=>exact ite_tt (test_last (cQ (hc af s3 σ H3 _ I3 q3) λw' s4 ⟨z',H4,I4,r4,q4⟩=>cQ (yR af s4 σ H4 y z' u w' _ I4 r2 r4 q4) λd' s5 ⟨z2,H5,I5,r5,k2,e2,q5⟩=> ?_));subst e2;cases r5;show cq #[H5,I5,q5]
def OH (K:Xu)(x:V)(H:Hp)(k:Bool):Prop:=
 match x with
 | .dG=>k=false
 | .bl b=>k=b
 | .int i=>k=(i !=0)
 | .str y=>y.length<=sizeLine /\ k=((y.length:Int) !=0)
 | .CS y=>y.size<=sizeLine /\ k=((y.size:Int) !=0)
 | .ref p=>(∃xs,gY K H p xs /\ k= !xs.isEmpty) \/ (∃xs,kP K H p xs /\ k= !xs.isEmpty) \/ ∃kvs,H p=some (.dK kvs) /\ k= !kvs.isEmpty
 | _=>False
def Cy {vs:cA (κ×c5)}(r:KV kvs vs):(!vs.isEmpty)= !kvs.isEmpty:=by cases r<;>rfl
def uV (r:bW xs bI):(!bI.toArray.isEmpty)= !xs.isEmpty:=by cases r<;>simp
def nQ:(sizeLine:Nat) <2 ^ 63:=by rw[sizeLine_eq];decide
def Rr:aim X (λx H Q=> ∃k,OH X.K x H k /\ Q k H):=by
 intro af s σ H x v Q I rx h;let⟨k,e,q⟩:=h;have hl:=nQ;have hs:sizeLine=16777216:=sizeLine_eq;cases x with
 | dG=>cases rx;have e':k=false:=e;subst e';show truthy_none #[H,I,q]
 | bl b=>cases rx;have e':k=b:=e;subst e';show cq #[H,I,q]
 | int i=>let⟨t,rfl⟩:=rx;have e':k=(i !=0):=e;subst e';show PySem.P.truthy_int #[H,I,q]
 | str y=>let⟨t,rfl⟩:=rx;let⟨hy,e'⟩:y.length<=sizeLine /\ k=((y.length:Int) !=0):=e;subst e';show PySem.P.truthy_str ∅ #[H,I.tok _,q]
 | CS y=>let⟨t,rfl⟩:=rx;let⟨hy,e'⟩:y.size<=sizeLine /\ k=((y.size:Int) !=0):=e;subst e';show W.truthy_bytes ∅ #[H,I.tok _,q]
 | ref p=>
  cases rx;have e':(∃xs,gY X.K H p xs /\ k= !xs.isEmpty) \/ (∃xs,kP X.K H p xs /\ k= !xs.isEmpty) \/ ∃kvs,H p=some (.dK kvs) /\ k= !kvs.isEmpty:=e;rcases e' with⟨xs,hx,e'⟩ | ⟨xs,hx,e'⟩ | ⟨kvs,hx,e'⟩
  subst e';let⟨bI,r,pl,hz⟩:=I.list hx;have dO:=r.length;show wpAny_truthy_list pl.isList (by simp![aI];lia) #[H,I.tok _,by rw[uV r];show q];subst e';let⟨bI,r,pl,hz⟩:=I.tuple hx;have dO:=r.length;show truthy_tuple pl (by simp![aI];lia) #[H,I.tok _,by rw[uV r];show q];subst e';let⟨hz,hS,vs,r,m⟩:kvs.length<=sizeLine /\ (p==sysModules)=false /\ ∃vs,KV kvs vs /\ s.heap.DictOf (cJ X.prog X.w) p vs:=I.cH p _ hx;have dO:kvs.length=vs.length:=Paired.length r;show wpAny_truthy_dict hS m ∅ #[H,I.tok _,by rw[Cy r];show q]
 | _=>show(show False from e).elim
def IH (ha:PE X a ta)(he: ∀m7,isTrue a X.env m7=(do let v <- m7;standAt a.pos;holding [v] (truthy v))): PT X a (λσ H Q=>ta σ H λx H'=> ∃k,OH X.K x H' k /\ Q k H'):=by intro af s σ H Q I h;show isTrue_plain (cQ (ha af s σ H _ I h) λv s1 ⟨x,H1,I1,r1,q1⟩=>Rr af s1 σ H1 x v Q I1 r1 q1) (he _)
def Ce:gI X (binaryOp .Add) (λx y H Q=>cc λi j=>fg (x= .str i) (y= .str j) (i.length+j.length<=sizeLine) (Q (.str (i++j)) H)):=by intro af s σ H x y v u Q I rx ry h;let⟨i,j,rfl,rfl,hz,q⟩:=h;let⟨t,rfl⟩:=rx;let⟨t',rfl⟩:=ry;show add_str (λt' tk=>#[.str (i++j),H,I.tok _,#[_,rfl],q]) hz
def vals1 (r:bW [x] us): ∃u,us= [u] /\ RelV x u:=by
 cases r with
 | cons r1 r2=>cases r2;show#[_,rfl,r1]
def vals2 (r:bW [x,y] us):cc λu w'=>cW (us= [u,w']) (RelV x u) (RelV y w'):=by
 cases r with
 | cons r1 r2=>
  cases r2 with
  | cons r3 r4=>cases r4;show#[_,_,rfl,r1,r3]
def K0:eY X (.builtin "abs") (λxs H Q=> ∃i,xs= [.int i] /\ Q (.int (if i<0 then -i else i)) H):=by intro af s σ H xs us Q I r h;let⟨i,rfl,q⟩:=h;let⟨u,rfl,t,rfl⟩:=vals1 r;show call_abs_int λu tk=>#[.int (if i<0 then -i else i),H,I.tok _,#[_,rfl],q]
end
structure C1 (h:Heap)(x dx C:Addr)(mA:Str ->Option Value):Prop where
 obj:h.get? x=some (PySem.W.instObj C dx)
 ns:h.Ns1 dx mA
 ne:dx≠x
def Gn {h:Heap}(n:h.Ns1 dx mA): ∃od,h.get? dx=some od /\ ∀name,W.lookIn name od=some (mA name):=by
 let⟨o,es,ep,ho,hd,hk,_,hm⟩:=n;exact#[o,ho,λname=> ?_];have e:=hm name;unfold nsFind findBy at e;rw[<- Array.find?_toList] at e;unfold W.lookIn;rw[hd];dsimp only;split;rename_i y q;rw[q] at e;show congrArg some e;rename_i q;rw[q] at e;have a:es.toList.any (·.refKey)=false:=by rw[List.any_eq_false];intro y hy;let⟨z,t,Tu⟩:=hk y (Array.mem_toList_iff.mp hy);simp[DictEntry.refKey,Tu]
 have a':¬es.toList.any (·.refKey)=true:=by rw[a];show bf
 rw[ak a'];show congrArg some e
theorem C1.look (I:C1 h x dx C mA): ∃od,W.InstAt h x (W.instObj C dx) C (some od) /\ ∀name,W.lookIn name od=some (mA name):=
 let ⟨od,ho,hl⟩:=Gn I.ns
 #[od,#[I.obj,rfl,rfl,ho],hl]
def N8 {K:Xu}(X:K.In s.heap)(I:C1 s.heap x dx C mA)(hg:W.plainGet K C name=true)(hh:W.hasDictIn K C=true)(ha:W.findIn K (.ref C) name=some none)(hv:mA name=some v)(NQ:W.handedIn v=true)(h:Q v {s with toks:=s.toks+1}): wpAny (model prog w) A (getAttr (.ref x) name Kr) Q E s:=by let⟨od,J,hl⟩:=I.look;show W.get_value X J (W.plainGet_of hg).1 (W.findObj_own hh ha rfl (by rw[hl,hv])) NQ h
def Ke {K:Xu}(X:K.In s.heap)(I:C1 s.heap x dx C mA)(hg:W.plainGet K C name=true)(hf:W.findIn K (.ref C) name=some (some (.ref f)))(ht:W.isFn K (.ref f)=true)(hv:mA name=none)(h:Q (.ref f,[.ref x]) s): wpAny (model prog w) A (getMethod (.ref x) name pl) Q E s:=by let⟨od,J,hl⟩:=I.look;show W.method_fn X J (W.plainGet_of hg).1 (W.plainGet_of hg).2 hf (beq_iff_eq.mp ht) (by change(W.lookIn name od).map (·.isSome)=some false;rw[hl,hv];rfl) h
def Mu {K:Xu}(X:K.In s.heap)(I:C1 s.heap x dx C mA)(hs:W.findIn K (.ref C) "__setattr__" =some (some (.builtin "object.__setattr__")))(hp:W.plainOver K C=true)(ht:W.takerIn K C name=some none)(hh:W.hasDictIn K C=true)(hw:PySem.Within mA ns)(hsz:ns.length<=sizeLine)(h: ∀h',C1 h' x dx C (λy=>if y=name then some v else mA y) ->Heap.SameBut dx s.heap h' ->Q () {s with heap:=h',toks:=s.toks+2}): wpAny (model prog w) A (setAttr (.ref x) name v) Q E s:=by let⟨od,J,hl⟩:=I.look;exact W.set_plain X J hs (W.osa_open (s:= {s with toks:=s.toks+1}) (r:=none) X J hp ht λb=> ?_);let⟨cd,hc,Yd⟩:=W.any_some hh;have hx:s.heap.get? x=some #[.ref C,some dx, .plain, #[]]:=I.obj;exact ax (a5 (ax (ax (wpAny_loadPart hx (ax (W.Looks.here (s:= {s with toks:=s.toks+1}) (W.looks_clsIn X hc) ?_))))));rw[Yd];exact a5 (a:=some dx) (ax (a5 (ax ?_)));exact wpAny_nsSet1 (s:= {s with toks:=s.toks+1}) I.ns λh' GA EN=> ?_;let⟨oD,esD,epD,hoD,hdD,NZ⟩:=GA.count (PySem.Within.cons name v hw);exact ax (wpAny_lookBehind hoD (by rw[hdD];show pastItsLine_dict (aw NZ (by rw[aQ];lia))) ?_);show a5 (h _ #[(EN.2 _ (cX I.ne)).trans I.obj,GA,I.ne] EN)
def Aq {K:Xu}(X:K.In s.heap)(hm:W.makesIn K C=true)(hi:W.findIn K (.ref C) "__init__" =some (some (.ref f)))(hf:W.typeIn K (.ref f)=some (.type "function"))(h:codeAny (model prog w) (A.under (.builtin "type.__call__" #[.ref C::vs,kw])) (.call (.ref f) #[.ref (s.heap.objs.size+1)::vs,kw]) (W.InitBack (s.heap.objs.size+1) R) {s with heap:=(s.heap.push W.emptyDict).push (W.instObj C s.heap.objs.size)}): codeAny (model prog w) A (.call (.ref C) #[vs,kw]) R s:=by let⟨hh,g,d,t,os⟩:=s;show W.make_core (W.makes_of X hm) (W.looks_findIn X hi) (λself=>W.bind_fn X self hf) (.inl rfl) h
def jz (f:Str)(v:V):cA (Str×V) ->cA (Str×V)
 | []=> [(f,v)]
 | (g,x)::r=>if g=f then(g,v)::r else(g,x)::jz f v r
theorem rC (f g:Str)(v:V): ∀fs:cA (Str×V),(jz f v fs).lookup g=if g=f then some v else fs.lookup g
 | []=>by change List.lookup g [(f,v)]=_;by_cases h:g=f;have hb:(g==f)=true:=beq_iff_eq.mpr h;simp![List.lookup,hb,am h];have hb:(g==f)=false:=beq_eq_false_iff_ne.mpr h;simp![List.lookup,hb,ak h]
 | (k, x)::r=>by have ih:=rC f g v r;rw[show jz f v ((k,x)::r)=(if k=f then(k,v)::r else(k,x)::jz f v r) from rfl];by_cases hk:k=f;rw[am hk];by_cases h:g=k;have hb:(g==k)=true:=beq_iff_eq.mpr h;simp![List.lookup,hb,am (h.trans hk)];have hb:(g==k)=false:=beq_eq_false_iff_ne.mpr h;simp![List.lookup,hb,ak (λe:g=f=>h (e.trans hk.symm))];rw[ak hk];by_cases h:g=k;have hb:(g==k)=true:=beq_iff_eq.mpr h;simp![List.lookup,hb,ak (λe:g=f=>hk (h.symm.trans e))];have hb:(g==k)=false:=beq_eq_false_iff_ne.mpr h;simp![List.lookup,hb];show ih
theorem qy (f:Str)(v:V): ∀fs:cA (Str×V),f∈(jz f v fs).map (·.1) /\ ∀g,g∈fs.map (·.1) ->g∈(jz f v fs).map (·.1)
 | []=>#[by simp[jz],λg h=>by simp at h]
 | (k, x)::r=>by let⟨i1,i2⟩:=qy f v r;rw[show jz f v ((k,x)::r)=(if k=f then(k,v)::r else(k,x)::jz f v r) from rfl];by_cases hk:k=f;rw[am hk];subst hk;show#[by simp,λg h=> ⇑h];rw[ak hk];exact#[?_,λg h=> ?_];rw[aT];show df _ i1;rw[aT] at h ⊢;obtain e | e:=aS.mp h;show aS.mpr (.inl e);show df _ (i2 g e)
theorem rE (f:Str)(v:V): ∀fs:cA (Str×V),(jz f v fs).length<=fs.length+1
 | []=>by simp[jz]
 | (k,x)::r=>by have ih:=rE f v r;rw[show jz f v ((k,x)::r)=(if k=f then(k,v)::r else(k,x)::jz f v r) from rfl];by_cases hk:k=f;rw[am hk,aQ,aQ];lia;rw[ak hk,aQ,aQ];lia
def j7.some_of (r:j7 (some v) o): ∃u,o=some u /\ RelV v u:=by
 cases o with
 | none=>show(show False from r).elim
 | some u=>show#[u,rfl,r]
def j7.none_of (r:j7 none o):o=none:=by
 cases o with
 | none=>rfl
 | some u=>show(show False from r).elim
def GF (r:RelV v u):W.handedIn u=true:=by
 cases v with
 | dG=>cases (show u=Value.none from r);rfl
 | bl b=>cases (show u=Value.bool b from r);rfl
 | int i=>let⟨t,e⟩:=(show ∃t,u=Value.int i t from r);cases e;rfl
 | str x=>let⟨t,e⟩:=(show ∃t,u=Value.str x t from r);cases e;rfl
 | CS b=>let⟨t,e⟩:=(show ∃t,u=Value.bytes b t from r);cases e;rfl
 | Of b=>let⟨t,e⟩:=(show ∃t,u=Value.float b t from r);cases e;rfl
 | ref a=>cases (show u=Value.ref a from r);rfl
 | ty n=>cases (show u=Value.type n from r);rfl
def tO (cH:mJ P w H h)(e:H a=some (.ins C dx fs)): ∃mA,f_ (C1 h a dx C mA) (∀f,j7 (fs.lookup f) (mA f)) (PySem.Within mA (fs.map (·.1))) (fs.length<=1000) (H dx=some (.own a)):=by
 let⟨d,z,ne,ob,mA,n,r,q⟩:=(show dX P w H h a (.ins C dx fs) from cH a _ e)
 show#[mA,#[ob,n,ne],r,q,z,d]
structure wE (K:PySem.W.Frag)(C:Addr):Prop where
 pg:PySem.W.plainGet K C Str.empty=true
 hd:PySem.W.hasDictIn K C=true
 po:PySem.W.plainOver K C=true
 sa:PySem.W.findIn K (.ref C) "__setattr__" =some (some (.builtin "object.__setattr__"))
theorem wE.get {K:Xu}{C:fM}(c:wE K C)(f:Str):W.plainGet K C f=true:=c.pg
def dZ (K:Xu)(C:fM)(f:Str):Prop:=W.findIn K (.ref C) f=some none
def dZ.VP {K:Xu}(n:dZ K C f):W.takerIn K C f=some none:=by unfold W.takerIn;rw[show W.findIn K (.ref C) f=some none from n];rfl
structure Lj (K:PySem.W.Frag)(C:Addr)(m:Str)(f:Addr):Prop where
 at_:PySem.W.findIn K (.ref C) m=some (some (.ref f))
 fn:PySem.W.isFn K (.ref f)=true
 kp:PySem.W.keepIn K (.ref f)=true
def CH {σ:St}(I:Inv X af σ H s)(e:H a=some (.ins C dx fs))(c:wE X.K C)(n:dZ X.K C f)(l:fs.lookup f=some v)(h: ∀u s',Inv X af σ H s' ->RelV v u ->Q u s'):wpAny (model X.prog X.w) A (getAttr (.ref a) f b) Q E s:=by let⟨mA,O,r,_,_,_⟩:=tO I.cH e;let⟨u,hu,ru⟩:=j7.some_of (v:=v) (o:=mA f) (by rw[<- l];show r f);show N8 I.kT O (c.get f) c.hd n hu (GF ru) (h u _ (I.tok _) ru)
def jY {σ:St}(I:Inv X af σ H s)(e:H a=some (.ins C dx fs))(c:wE X.K C)(k:Lj X.K C m g)(l:fs.lookup m=none)(h:Q (.ref g,[.ref a]) s):wpAny (model X.prog X.w) A (getMethod (.ref a) m pl) Q E s:=by let⟨mA,O,r,_,_,_⟩:=tO I.cH e;have hn:mA m=none:=j7.none_of (by rw[<- l];show r m);show Ke I.kT O (c.get m) k.at_ k.fn hn h
def BV {σ:St}(I:Inv X af σ H s)(e:H a=some (.ins C dx fs))(c:wE X.K C)(n:dZ X.K C f)(hl:fs.length<1000)(ry:RelV y u)(h: ∀s',Inv X af σ (cf H a (.ins C dx (jz f y fs))) s' ->Q () s'):wpAny (model X.prog X.w) A (setAttr (.ref a) f u) Q E s:=by
 let⟨mA,O,r,wi,_,ho⟩:=tO I.cH e;have hz:(fs.map (·.1)).length<=sizeLine:=by rw[ag,sizeLine_eq];lia
 exact Mu I.kT O c.sa c.po n.VP c.hd wi hz λh' O' sb=>h _ ?_;have hd: ∃o,h'.get? dx=some o:=let ⟨o,_,_,e',_⟩:=O'.ns;#[o,e']
 exact I.write (x:=a) (e:=dx) (by rw[e];show True.intro) (.inr ho) (λb q hb z=>(sb.2 b hb).trans z) hd ?_;exact#[by rw[bL O.ne];show ho,?_,O.ne,O'.obj,_,O'.ns,λg=> ?_,λg hg=> ?_];have:=rE f y fs;lia;change j7 ((jz f y fs).lookup g) (if g=f then some u else mA g);rw[rC];by_cases q:g=f;rw[am q,am q];show ry;rw[ak q,ak q];show r g;by_cases q:g=f;rw[q];show(qy f y fs).1;exact(qy f y fs).2 g (wi g λz=>hg ?_);change(if g=f then some u else mA g)=none;rw[ak q];show z
def Inv.made {σ:St}(I:Inv X af σ H s):Inv X af σ (cf (cf H s.heap.objs.size (.own (s.heap.objs.size+1))) (s.heap.objs.size+1) (.ins C s.heap.objs.size [])) {s with heap:=(s.heap.push W.emptyDict).push (W.instObj C s.heap.objs.size)}:=by
 have e1:(s.heap.push W.emptyDict).get? s.heap.objs.size=some W.emptyDict:=aW s.heap rfl;have e2:((s.heap.push W.emptyDict).push (W.instObj C s.heap.objs.size)).get? (s.heap.objs.size+1)=some (W.instObj C s.heap.objs.size):=by have:=aW (s.heap.push W.emptyDict) (o:=W.instObj C s.heap.objs.size) rfl;rwa [Heap.size_push] at this
 have e3:(s.heap.push W.emptyDict).Ns s.heap.objs.size (λ_=>none):=#[W.emptyDict, #[],_,e1,rfl,(λe he=>absurd he (by simp)),λ_=>rfl]
 have I1:=I.laid (a:=s.heap.objs.size) (o:= .own (s.heap.objs.size+1)) (h':=s.heap.push W.emptyDict) (t':=s.toks) (λb u q=>av _ q) (aq _) #[_,e1];exact I1.laid (a:=s.heap.objs.size+1) (o:= .ins C s.heap.objs.size []) (t':=s.toks) (λb u q=>av _ q) (Nat.le_of_eq (Heap.size_push _ _)) ?_;have ne:s.heap.objs.size≠s.heap.objs.size+1:=bu (Nat.lt_succ_self _);exact#[by rw[bL ne,bM],dc _,ne,e2,λ_=>none,(Heap.Ns1.of_empty e3).at λo q=>av _ q,λ_=>True.intro,λy hy=>absurd rfl hy]
theorem OD (hb:attributeBase e f env (eval e env)=eval e env)(h:wpAny (model prog w) A (eval e env) (λo s₁=>wpAny (model prog w) A (getAttr o f true) Q E s₁) E s):wpAny (model prog w) A (eval (.Attribute e f pos) env) Q E s:=Attribute_any_ h (by rw[arm_eval_Attribute,hb])
def Rv (K:Xu)(ta:TE)(f:Str):TE:=λσ H Q=>ta σ H λx H1=>tq λa C dx fs v=>k9 (x= .ref a) (H1 a=some (.ins C dx fs)) (wE K C) (dZ K C f) (fs.lookup f=some v) (Q v H1)
def Wc (K:Xu)(ta tv:TE)(f:Str):TS:=λD σ H=>tv σ H λy H1=>ta σ H1 λx H2=>fQ λa C dx fs=>k9 (x= .ref a) (H2 a=some (.ins C dx fs)) (wE K C) (dZ K C f) (fs.length<1000) (D.nx σ (cf H2 a (.ins C dx (jz f y fs))))
def RV (he:PE X e ta)(hb:attributeBase e f X.env (eval e X.env)=eval e X.env):PE X (.Attribute e f pos) (Rv X.K ta f):=by intro af s σ H Q I h;exact OD hb (cQ (he af s σ H _ I h) λu s1 ⟨x,H1,I1,rx,a,C,dx,fs,v,ex,ea,c,n,l,q⟩=> ?_);subst ex;obtain rfl:u=Value.ref a:=rx;show CH I1 ea c n l λu' s2 I2 ru=>#[v,H1,I2,ru,q]
def iI (ha:PE X o ta)(hv:PE X value tv)(hs:swapsWith value (some (.Attribute o f jA)) pos.line X.env=pure false):PS X (.Assign [.Attribute o f jA] value pos) (Wc X.K ta tv f):=by intro af s σ H D I h;exact plainObj_wpAny_Assign_Attribute (cQ (hv af s σ H _ I h) λu s1 ⟨y,H1,I1,ry,q⟩=>cQ (ha af s1 σ H1 _ I1 q) λov s2 ⟨x,H2,I2,rx,a,C,dx,fs,ex,ea,c,n,l,q2⟩=> ?_) hs;subst ex;obtain rfl:ov=Value.ref a:=rx;show BV I2 ea c n l ry λs3 I3=>#[σ,_,I3,q2]
theorem P' {σ:St}(he:PE X e te)(I:Inv X af σ H s)(h:te σ H λx H1=>tq λa C dx fs g=>k9 (x= .ref a) (H1 a=some (.ins C dx fs)) (wE X.K C) (Lj X.K C m g) (fs.lookup m=none) (∀s1,Inv X af σ H1 s1 ->wpAny (model X.prog X.w) X.A (callWith pos (.ref g) [.ref a] (backTo pos (starEach args X.env)) (backToKw pos (keywordEach [] X.env))) Q X.xe s1))(ht:eval (.Call (.Attribute e m dD) args [] pos) X.env=(do
   let ov <- eval e X.env
   standAt dD.atName
   let (f,first) <- holding [ov] (getMethod ov m pl)
   callWith pos f first (backTo pos (starEach args X.env)) (backToKw pos (keywordEach [] X.env)))):
  wpAny (model X.prog X.w) X.A (eval (.Call (.Attribute e m dD) args [] pos) X.env) Q X.xe s:=by
 exact W.methodCall_KW (pl:=pl) (cQ (he af s σ H _ I h) λu s1 ⟨x,H1,I1,rx,a,C,dx,fs,g,ex,ea,c,k,l,q⟩=> ?_) ht
 subst ex
 obtain rfl:u=Value.ref a:=rx
 show jY I1 ea c k l (q s1 I1)
section
variable {X:Cx}{af:cA (fM×Obj)}{σ:St}{H:Hp}{s:dq}{A:Around}{E:c5 ->dq ->Prop}{Q:c5 ->dq ->Prop}{c:c5}{b:Bool}
inductive qY (K:PySem.W.Frag)(H:Hp):V ->Value ->Prop where
 | dG:qY K H .dG (.type "NoneType")
 | bl (x:Bool):qY K H (.bl x) (.type "bool")
 | int (i:Int):qY K H (.int i) (.type "int")
 | str (x:Str):qY K H (.str x) (.type "str")
 | Of (x:UInt64):qY K H (.Of x) (.type "float")
 | lst {a:Addr} {xs:List V} (e:H a=some (.lst xs)):qY K H (.ref a) (.type "list")
 | lc {a:Addr} {o:Obj} {xs:List V} (e:H a=some (.lc o (.lst xs))):qY K H (.ref a) (.type "list")
 | tup {a:Addr} {xs:List V} (e:H a=some (.tup xs)):qY K H (.ref a) (.type "tuple")
 | dK {a:Addr} {kvs:List (bX×V)} (e:H a=some (.dK kvs)):qY K H (.ref a) (.type "dict")
 | dT {a:Addr} {kvs:List (List bX×V)} (e:H a=some (.dT kvs)):qY K H (.ref a) (.type "dict")
 | ins {a C dx:Addr} {fs:List (Str×V)} (e:H a=some (.ins C dx fs)) (cl:wE K C) (ha:PySem.W.findIn K (.ref C) "__class__" =some (some (.builtin "object.__class__"))) (hn:PySem.W.specialIn K (.builtin "object.__class__") "__get__" =some (some (.builtin "getset_descriptor.__get__"))) (htk:PySem.W.takesIn K (.builtin "object.__class__")=some true) (hm:PySem.W.mroIn K C (.type "object")=some true):qY K H (.ref a) (.ref C)
def Gw (I:Inv X af σ H s)(rx:RelV x u)(ty:qY X.K H x t)(e:W.kitOne X.K t c=some b)(h: ∀tk,Q (.bool b) {s with toks:=tk}): wpAny (model X.prog X.w) A (call (.builtin "isinstance") [u,c]) Q E s:=by
 cases ty with
 | dG=>cases (show u=Value.none from rx);show cy W.kitx_none I.kT True.intro e (λz=>nomatch z) h
 | bl y=>cases (show u=Value.bool y from rx);show cy W.kitx_bool I.kT True.intro e (λz=>nomatch z) h
 | int i=>let⟨t,q⟩:=(show ∃t,u=Value.int i t from rx);cases q;show cy W.kitx_int I.kT True.intro e (λz=>nomatch z) h
 | str y=>let⟨t,q⟩:=(show ∃t,u=Value.str y t from rx);cases q;show cy W.kitx_str I.kT True.intro e (λz=>nomatch z) h
 | Of y=>let⟨t,q⟩:=(show ∃t,u=Value.float y t from rx);cases q;show cy W.kitx_float I.kT True.intro e (λz=>nomatch z) h
 | @lst a xs ea=>
  cases (show u=Value.ref a from rx);let⟨_,_,n,_,h1⟩:=(show dX X.prog X.w H s.heap a (.lst xs) from I.cH a _ ea)
  show cy W.kitx_list I.kT #[_,h1,rfl] e (λz=>nomatch z) h
 | @lc a ob xs ea=>
  cases (show u=Value.ref a from rx);let⟨_,_,_,n,_,h1⟩:=(show dX X.prog X.w H s.heap a (.lc ob (.lst xs)) from I.cH a _ ea)
  show cy W.kitx_list I.kT #[_,h1,rfl] e (λz=>nomatch z) h
 | @tup a xs ea=>
  cases (show u=Value.ref a from rx);let⟨_,_,_,p⟩:=(show dX X.prog X.w H s.heap a (.tup xs) from I.cH a _ ea)
  let⟨o,h1,h2,_⟩:=p;show cy W.kitx_tuple I.kT #[o,h1,h2] e (λz=>nomatch z) h
 | @dK a kvs ea=>
  cases (show u=Value.ref a from rx);let⟨_,_,vs,_,p⟩:=(show dX X.prog X.w H s.heap a (.dK kvs) from I.cH a _ ea)
  let⟨o,es,ep,h1,h2,_⟩:=p;show cy W.kitx_dict I.kT #[o,h1,h2.1] e (λz=>nomatch z) h
 | @dT a kvs ea=>
  cases (show u=Value.ref a from rx);let⟨_,_,xs,_,o,es,ep,h1,h2,_⟩:=(show dX X.prog X.w H s.heap a (.dT kvs) from I.cH a _ ea)
  show cy W.kitx_dict I.kT #[o,h1,h2.1] e (λz=>nomatch z) h
 | @ins a C dx fs ea cl ha hn htk hm=>cases (show u=Value.ref a from rx);let⟨mA,O,_⟩:=tO I.cH ea;let⟨od,J,_⟩:=O.look;show cy (W.kitx_own (cl.get _) cl.hd ha hn htk hm) I.kT J e (λz=>nomatch z) h
end
structure d7 (k:Nat)(A:Around):Prop where
 hd:A.handled=none
 dp:A.depth+3*k+5<recursionLimit
 un:A.units+16*k+200<cLine
theorem d7.mono (r:d7 k A)(h:j<=k):d7 j A:=#[r.hd,by have:=r.dp;lia,by have:=r.un;lia]
theorem d7.deeper (r:d7 (k+1) A)(env:Env):d7 k (A.deeper env):=#[r.hd,by have:=r.dp;change A.depth+1+3*k+5<_;lia,by have:=r.un;change A.units+3+16*k+200<_;lia]
def Cs {A:Around}:(A.under (.builtin "type.__call__" #[.ref C::us,kw])).depth=A.depth+1:=by first | rfl | simp[Around.under,Code.weight,Code.isCreation,Code.isGuard,Code.isCaller,Code.frames,Code.isFrame,guardIds]
def Cr {A:Around}:(A.under (.builtin "type.__call__" #[.ref C::us,kw])).units=A.units+1:=by first | rfl | simp[Around.under,Code.cUnits,Code.frames,Code.isFrame]
theorem d7.make (r:d7 (k+1) A)(C:fM)(us:cA c5)(kw:cA (Str×c5)):d7 k (A.under (.builtin "type.__call__" #[.ref C::us,kw])):=#[r.hd,by have:=r.dp;rw[Cs];lia,by have:=r.un;rw[Cr];lia]
def d7.depth (r:d7 k A):A.depth<recursionLimit:=by have:=r.dp;lia
def d7.units (r:d7 k A):A.units+64<cLine:=by have:=r.un;lia
def FG:TA:=λ_ H Q=>Q [] H
def HU (ta:TE)(tr:TA):TA:=λσ H Q=>ta σ H λx H1=>tr σ H1 λxs H2=>Q (x::xs) H2
section
variable {X:Cx}{e:Expr}{es:cA Expr}{te:TE}{t:TA}{pos:Pos}
theorem ae:PA X [] FG:=λ_ _ _ _ H Q I h=>Calls.spliced_nil #[[],H,I, .nil,h]
def aa (ha:PE X e te)(hr:PA X es t)(hs:starEach (e::es) X.env=(false,eval e X.env)::starEach es X.env:=by rfl):PA X (e::es) (HU te t):=by intro pos af s σ H Q I h;rw[hs];change wpAny _ _ (spliced ((false,eval e X.env)::backTo pos (starEach es X.env))) _ _ s;exact Calls.spliced_cons (cQ (ha af s σ H _ I h) λu s1 ⟨x,H1,I1,r1,q1⟩=> ?_);show cQ (hr pos af s1 σ H1 _ I1 q1) λus s2 ⟨xs,H2,I2,r2,q2⟩=>#[x::xs,H2,I2, .cons r1 r2,q2]
def VR (t:TA):TE:=λσ H Q=>t σ H λxs H1=>xs.length<=sizeLine /\ ∀p,H1 p=none ->Q (.ref p) (cf H1 p (.tup xs))
def VX (t:TA):TE:=λσ H Q=>t σ H λxs H1=>xs.length<=sizeLine /\ ∀p,H1 p=none ->Q (.ref p) (cf H1 p (.lst xs))
def aM {x1}(h:PA X es t):PE X (.Tuple es x1 pos) (VR t):=by intro af s σ H Q I hq;exact wpAny_Tuple_spliced (cQ (h pos af s σ H _ I hq) λus s1 ⟨xs,H1,I1,r,z,q⟩=>#[by rw[<- r.length];show z,?_]);have hf:H1 s1.heap.objs.size=none:=I1.cH.fresh (aq _);exact#[.ref s1.heap.objs.size,cf H1 s1.heap.objs.size (.tup xs),I1.laid (t':=s1.toks) (λb u e=>av _ e) (aq _) ?_,rfl,q _ hf];show#[z,us,r,#[_,aW _ rfl,rfl,_,rfl,rfl]]
def eP (h:PA X es t):PE X (.List es pos) (VX t):=by intro af s σ H Q I hq;exact wpAny_List_spliced (cQ (h pos af s σ H _ I hq) λus s1 ⟨xs,H1,I1,r,z,q⟩=>#[by rw[<- r.length];show z,?_]);have hf:H1 s1.heap.objs.size=none:=I1.cH.fresh (aq _);exact#[.ref s1.heap.objs.size,cf H1 s1.heap.objs.size (.lst xs),I1.laid (t':=s1.toks) (λb u e=>av _ e) (aq _) ?_,rfl,q _ hf];show#[z,us,0,r,aW _ rfl]
end
abbrev Sp:=cA V ->Hp ->VK ->XK ->Prop
abbrev BH:=cA Env ->Hp ->dq ->XK ->c5 ->dq ->Prop
structure Dd (P:Program)(w:World)(K:PySem.W.Frag)(mg:Str ->Option Value)(base:Heap)(A:Around)(outer:List Env)(s:Shared)(H:Hp):Prop where
 frames:A.frames=some outer
 mod:Mod K mg base
 bs: ∀b o,base.get? b=some o ->s.heap.get? b=some o /\ H b=none
 K5:base.objs.size<=s.heap.objs.size
 nU:s.heap.FunFrames base outer
 LY: ∀b∈lf outer,H b=none
 cH:mJ P w H s.heap
 bare:AllBare s.gens
def CE (outer:cA Env)(P:Program)(w:World)(H:Hp)(s:dq)(Q:VK)(u:c5)(s':dq):Prop:=cc λv H'=>k9 (s'.os=s.os) (AllBare s'.gens) (Un (lf outer) [] H H' s.heap s'.heap) (mJ P w H' s'.heap) (RelV v u) (Q v H')
def CR (CX:BH)(outer:cA Env)(P:Program)(w:World)(H:Hp)(s:dq)(Q:VK)(E:XK)(r:Result)(s':dq):Prop:=
 match r with
 | .ok (.ret u)=>CE outer P w H s Q u s'
 | .ok _=>False
 | .error e=>CX outer H s E e s'
structure bD (P:Program)(w:World)(K:PySem.W.Frag)(mg:Str ->Option Value)(base:Heap)(CX:BH)(k:Nat)(f:Addr)(fd:FuncData)(ps:List Str)(sp:Sp):Prop where
 len: ∀vs H Q E,sp vs H Q E ->vs.length=ps.length
 run: ∀ (A:Around) (outer:List Env) (s:Shared) (H:Hp) (args:Args) (us:List Value) (vs:List V) (Q:VK) (E:XK),d7 k A ->Dd P w K mg base A outer s H ->BindsTo s fd args (ps.zip us) ->bW vs us ->sp vs H Q E ->codeAny (model P w) A (.call (.ref f) args) (CR CX outer P w H s Q E) s
theorem bD.mono {K:Xu}(F:bD P w K mg base CX j f fd ps sp)(h:j<=k): bD P w K mg base CX k f fd ps sp:=#[F.len,λA outer s H args us vs Q E hr=>F.run A outer s H args us vs Q E (hr.mono h)]
theorem bD.imp {K:Xu}(F:bD P w K mg base CX k f fd ps sp)(h: ∀vs H Q E,V_ vs H Q E ->sp vs H Q E):bD P w K mg base CX k f fd ps V_:=#[λvs H Q E q=>F.len vs H Q E (h _ _ _ _ q),λA outer s H args us vs Q E hr he hb hv hs=>F.run A outer s H args us vs Q E hr he hb hv (h _ _ _ _ hs)]
theorem Dd.make {K:Xu}(e:Dd P w K mg base A outer s H)(C:fM)(us:cA c5)(kw:cA (Str×c5)): Dd P w K mg base (A.under (.builtin "type.__call__" #[.ref C::us,kw])) outer s H:=#[by first | show e.frames | (simpa [Around.under,Code.envs,Code.isFrame,pushEnvs] using e.frames),e.mod,e.bs,e.K5,e.nU,e.LY,e.cH,e.bare]
theorem Inv.Ky {σ:St}(I:Inv X af σ H s):Dd X.prog X.w X.K X.mg X.base X.A X.stack s H:=#[I.ok.frames,I.ok.mod,I.bs,aw I.ok.K5 I.sz,I.stack,I.tI,I.cH,I.bare]
def Inv.after {σ:St}(I:Inv X af σ H s)(h:CE X.stack X.prog X.w H s Q u s'):EP X af σ Q u s':=by let⟨v,H',os,bare,un,cH,r,q⟩:=h;let⟨hh,g,d,t,os'⟩:=s';obtain rfl:os'=s.os:=os;show#[v,H',I.call (h':=hh) (g':=g) (d':=d) (t':=t) (ch:= []) un cH bare (λb z=>absurd z (by simp)),r,q]
def wQ (sp:Sp)(tf:cA V)(E:XK)(t:TA):TE:=λσ H Q=>t σ H λvs H1=>sp (vs++tf) H1 Q E
def re (C:fM)(m:Str)(sp:Sp)(tf:cA V)(E:XK)(ta:TE)(t:TA):TE:=λσ H Q=>ta σ H λx H1=>eh λa dx fs=>fg (x= .ref a) (H1 a=some (.ins C dx fs)) (fs.lookup m=none) (t σ H1 λvs H2=>sp (x::(vs++tf)) H2 Q E)
def HM (C:fM)(sp:Sp)(tf:cA V)(E:XK)(t:TA):TE:=λσ H Q=>t σ H λvs H1=> ∀x dx,H1 x=none ->H1 dx=none ->dx≠x ->sp (.ref x::(vs++tf)) (cf (cf H1 dx (.own x)) x (.ins C dx [])) (λv H2=>v= .dG /\ Q (.ref x) H2) E
def Binds (K:Xu)(fd:FuncData)(ps:cA Str)(ds:cA c5):Prop:=∀ (s:dq) (us:cA c5),K.In s.heap ->(us++ds).length=ps.length ->BindsTo s fd #[us,[]] (ps.zip (us++ds))
theorem Binds.all {K:Xu}(h: ∀us:cA c5,us.length=ps.length ->bindArgs fd #[us,[]]=pure (ps.zip us)):Binds K fd ps []:=λs us _ hl=>by rw[c4] at hl ⊢;show .of_eq (h us hl)
def gU (CX:BH)(X:Cx)(E:XK):Prop:= ∀ (af:cA (fM×Obj)) (σ:St) (H:Hp) (s:dq) (e:c5) (s':dq),Inv X af σ H s ->CX X.stack H s E e s' ->X.xe e s'
section
variable {X:Cx}{CX:BH}{k:Nat}{f C:fM}{fd:FuncData}{ps:cA Str}{sp:Sp}{tf:cA V}{ds:cA c5}{E:XK}{x m:Str}{p pos dD:Pos}{e o:Expr}{es:cA Expr}{ta:TE}{t:TA}
def B0 {σ:St}(F:bD X.prog X.w X.K X.mg X.base CX k f fd ps sp)(hr:d7 k X.A)(hb:Binds X.K fd ps ds)(hd:bW tf ds)(hx:gU CX X E)(I:Inv X af σ H s)(r:bW vs us)(h:sp (vs++tf) H Q E):wpAny (model X.prog X.w) X.A (call (.ref f) us) (EP X af σ Q) X.xe s:=by
 have r2:bW (vs++tf) (us++ds):=r.append hd;have hl:(us++ds).length=ps.length:=by rw[<- r2.length];show F.len _ _ _ _ h
 exact wpAny_call (codeAny_mono (F.run X.A X.stack s H #[us,[]] (us++ds) (vs++tf) Q E hr I.Ky (hb s us I.kT hl) r2 h) λr s' hq=> ?_);cases r with
 | error e=>show hx af σ H s e s' I hq
 | ok fl=>
  cases fl with
  | ret u=>show I.after hq
  | next=>show False.elim hq
  | brk=>show False.elim hq
  | cont=>show False.elim hq
def Ef (F:bD X.prog X.w X.K X.mg X.base CX k f fd ps sp)(hr:d7 k X.A)(hg:Gl X x)(hm:X.mg x=some (.ref f))(hk:W.keepIn X.K (.ref f)=true)(hb:Binds X.K fd ps ds)(hd:bW tf ds)(hx:gU CX X E) (ha:PA X (e::es) t) (n_:(x==("__debug__" :Str))=false:=by decide) (he:starEach (e::es) X.env=(false,eval e X.env)::starEach es X.env:=by rfl) (no:(backTo pos (starEach es X.env)).any (·.1)=false:=by rfl): PE X (.Call (.Name x p) (e::es) [] pos) (wQ sp tf E t):=by intro af s σ H Q I h;exact wpAny_Call_Name_kw (mT I hg hm ?_ n_);exact W.callWith_K (h₀:=X.base) I.ok.mod.NK hk (cQ (ha pos af s σ H _ I h) λus s1 ⟨vs,H1,I1,r,q⟩=>#[I1.kT,?_]) he no;show B0 F hr hb hd hx I1 r q
theorem Ee {pl:Sem Bool}(he:PE X o ta)(c:wE X.K C)(hm:Lj X.K C m f)(F:bD X.prog X.w X.K X.mg X.base CX k f fd ps sp)(hr:d7 k X.A)(hb:Binds X.K fd ps ds)(hd:bW tf ds)(hx:gU CX X E)(ha:PA X (e::es) t) (pk:starEach (e::es) X.env=(false,eval e X.env)::starEach es X.env:=by rfl) (no:(backTo pos (starEach es X.env)).any (·.1)=false:=by rfl) (ht:eval (.Call (.Attribute o m dD) (e::es) [] pos) X.env=(do
   let ov <- eval o X.env
   standAt dD.atName
   let (f,first) <- holding [ov] (getMethod ov m pl)
   callWith pos f first (backTo pos (starEach (e::es) X.env)) (backToKw pos (keywordEach [] X.env))):=by rfl):
  PE X (.Call (.Attribute o m dD) (e::es) [] pos) (re C m sp tf E ta t):=by
 intro af s σ H Q I h
 exact W.methodCall_KW (pl:=pl) (cQ (he af s σ H _ I h) λu s1 ⟨x,H1,I1,rx,a,dx,fs,ex,ea,l,q⟩=> ?_) ht
 subst ex
 obtain rfl:u=Value.ref a:=rx
 exact jY I1 ea c hm l ?_
 exact W.callWith_K (first:= [.ref a]) (h₀:=X.base) I.ok.mod.NK hm.kp (cQ (ha pos af s1 σ H1 _ I1 q) λus s2 ⟨vs,H2,I2,r,q2⟩=>#[I2.kT,?_]) pk no
 show B0 (us:= .ref a::us) (vs:= .ref a::vs) F hr hb hd hx I2 (.cons rfl r) q2
theorem Aa (he:PE X o ta)(c:wE X.K C)(hm:Lj X.K C m f)(F:bD X.prog X.w X.K X.mg X.base CX k f fd ps sp)(hr:d7 k X.A)(hb:Binds X.K fd ps ds)(hd:bW tf ds)(hx:gU CX X E)(ht:eval (.Call (.Attribute o m dD) [] [] pos) X.env=(do
   let ov <- eval o X.env
   standAt dD.atName
   let (f,first) <- holding [ov] (getMethod ov m pl)
   callWith pos f first (backTo pos (starEach [] X.env)) (backToKw pos (keywordEach [] X.env))):=by rfl):
  PE X (.Call (.Attribute o m dD) [] [] pos) (re C m sp tf E ta FG):=by
 intro af s σ H Q I h
 exact W.methodCall_KW (pl:=pl) (cQ (he af s σ H _ I h) λu s1 ⟨x,H1,I1,rx,a,dx,fs,ex,ea,l,q⟩=> ?_) ht
 subst ex
 obtain rfl:u=Value.ref a:=rx
 exact jY I1 ea c hm l ?_
 show W.callWith_K0 (first:= [.ref a]) I1.kT hm.kp (B0 (us:= [.ref a]) (vs:= [.ref a]) F hr hb hd hx I1 (.cons rfl .nil) q)
structure Mk (K:PySem.W.Frag)(C f:Addr):Prop where
 makes:PySem.W.makesIn K C=true
 init:PySem.W.findIn K (.ref C) "__init__" =some (some (.ref f))
 fn:PySem.W.isFn K (.ref f)=true
 kp:PySem.W.keepIn K (.ref C)=true
def Im {σ:St}(M:Mk X.K C f)(F:bD X.prog X.w X.K X.mg X.base CX k f fd ps sp)(hr:d7 (k+1) X.A)(hb:Binds X.K fd ps ds)(hd:bW tf ds)(hx:gU CX X E)(I:Inv X af σ H s)(r:bW vs us)(h: ∀x dx,H x=none ->H dx=none ->dx≠x ->sp (.ref x::(vs++tf)) (cf (cf H dx (.own x)) x (.ins C dx [])) (λv H2=>v= .dG /\ Q (.ref x) H2) E): wpAny (model X.prog X.w) X.A (call (.ref C) us) (EP X af σ Q) X.xe s:=by
 have hq:=h (s.heap.objs.size+1) s.heap.objs.size (I.cH.fresh (Nat.le_succ _)) (I.cH.fresh (aq _)) (bu (Nat.lt_succ_self _));have I2:=Inv.made (C:=C) I;have r2:bW (V.ref (s.heap.objs.size+1)::(vs++tf)) (Value.ref (s.heap.objs.size+1)::(us++ds)):= .cons rfl (r.append hd);have hl:(Value.ref (s.heap.objs.size+1)::us++ds).length=ps.length:=by have e:=r2.length;rw[F.len _ _ _ _ hq] at e;show e.symm
 exact wpAny_call (Aq (f:=f) I.kT M.makes M.init (beq_iff_eq.mp M.fn) (codeAny_mono (F.run _ X.stack _ _ #[Value.ref (s.heap.objs.size+1)::us,[]] (Value.ref (s.heap.objs.size+1)::(us++ds)) _ _ E (hr.make C us []) (I2.Ky.make C us []) (hb _ (Value.ref (s.heap.objs.size+1)::us) I2.kT hl) r2 hq) λr s' JX=> ?_));cases r with
 | error e=>show hx af σ _ _ e s' I2 JX
 | ok fl=>
  cases fl with
  | ret u=>let⟨v,H',I3,rv,ev,q3⟩:=I2.after JX;subst ev;show#[rv,#[V.ref (s.heap.objs.size+1),H',I3,rfl,q3]]
  | next=>show False.elim JX
  | brk=>show False.elim JX
  | cont=>show False.elim JX
def MN (M:Mk X.K C f)(F:bD X.prog X.w X.K X.mg X.base CX k f fd ps sp)(hr:d7 (k+1) X.A)(hg:Gl X x)(hm:X.mg x=some (.ref C))(hb:Binds X.K fd ps ds)(hd:bW tf ds)(hx:gU CX X E) (ha:PA X (e::es) t) (n_:(x==("__debug__" :Str))=false:=by decide) (he:starEach (e::es) X.env=(false,eval e X.env)::starEach es X.env:=by rfl) (no:(backTo pos (starEach es X.env)).any (·.1)=false:=by rfl): PE X (.Call (.Name x p) (e::es) [] pos) (HM C sp tf E t):=by intro af s σ H Q I h;exact wpAny_Call_Name_kw (mT I hg hm ?_ n_);exact W.callWith_K (h₀:=X.base) I.ok.mod.NK M.kp (cQ (ha pos af s σ H _ I h) λus s1 ⟨vs,H1,I1,r,q⟩=>#[I1.kT,?_]) he no;show Im M F hr hb hd hx I1 r q
end
structure b_ (N P:List Str)(sc:Scope):Prop where
 kind:sc.kind= .function
 co:sc.isCoroutine=false
 gen:sc.isGenerator=false
 nd:N.Nodup
 pre:N.take P.length=P
 par: ∀x∈P,sc.names.lookup x=some .local \/ sc.names.lookup x=some .cell
 Sr: ∀y∈sc.names,y.2≠ .free
theorem xJ {kindOf:Str ->eM NameKind}{x:Str}: ∀ {binds:cA (Str×c5)} {m:Str ->eM c5},(∀v,(x,v)∉binds) ->bindL kindOf binds m x=m x
 | [],_,_=>rfl
 | (n,v)::r,m,h=>by
  unfold bindL;rw[xJ λw hw=>h w (df _ hw)];split;have:x≠n:=by rintro rfl;show h v List.mem_cons_self
  simp[this];rfl
theorem xL {kindOf:Str ->eM NameKind}{x:Str}: ∀ {binds:cA (Str×c5)} {m:Str ->eM c5},(∀v,(x,v)∉binds) ->bindC kindOf binds m x=m x
 | [],_,_=>rfl
 | (n,v)::r,m,h=>by
  unfold bindC;rw[xL λw hw=>h w (df _ hw)];split;rfl;have:x≠n:=by rintro rfl;show h v List.mem_cons_self
  simp[this]
theorem xK {kindOf:Str ->eM NameKind}{x:Str}{v:c5}: ∀ {P:cA Str} {vs:cA c5} {i:Nat} {m:Str ->eM c5},P.Nodup ->P[i]? =some x ->vs[i]? =some v ->kindOf x=some .local ->bindL kindOf (P.zip vs) m x=some v
 | [],_,_,_,_,h,_,_=>by simp at h
 | _::_,[],_,_,_,_,h,_=>by simp at h
 | p::P,w::vs,0,m,nd,h1,h2,hk=>by simp at h1 h2;subst h1;subst h2;change bindL kindOf ((p,w)::P.zip vs) m p=_;unfold bindL;rw[xJ λv hv=>(List.nodup_cons.mp nd).1 (List.of_mem_zip hv).1,am hk];simp
 | p::P,w::vs,i+1,m,nd,h1,h2,hk=>by change bindL kindOf ((p,w)::P.zip vs) m x=_;unfold bindL;show xK (i:=i) (List.nodup_cons.mp nd).2 ⇑h1 ⇑h2 hk
theorem xM {kindOf:Str ->eM NameKind}{x:Str}{v:c5}: ∀ {P:cA Str} {vs:cA c5} {i:Nat} {m:Str ->eM c5},P.Nodup ->P[i]? =some x ->vs[i]? =some v ->kindOf x≠some .local ->bindC kindOf (P.zip vs) m x=some v
 | [],_,_,_,_,h,_,_=>by simp at h
 | _::_,[],_,_,_,_,h,_=>by simp at h
 | p::P,w::vs,0,m,nd,h1,h2,hk=>by simp at h1 h2;subst h1;subst h2;change bindC kindOf ((p,w)::P.zip vs) m p=_;unfold bindC;rw[xL λv hv=>(List.nodup_cons.mp nd).1 (List.of_mem_zip hv).1,ak hk];simp
 | p::P,w::vs,i+1,m,nd,h1,h2,hk=>by change bindC kindOf ((p,w)::P.zip vs) m x=_;unfold bindC;show xM (i:=i) (List.nodup_cons.mp nd).2 ⇑h1 ⇑h2 hk
def start (N:cA Str)(vs:cA V):St:=vs.map some++List.replicate (N.length - vs.length) none
def d9 (CX:BH)(P:Program)(w:World)(K:Xu)(mg:Str ->eM c5)(base:Heap)(N:cA Str)(qual:Str)(scope:Scope)(f:fM)(cd:c5)(A:Around)(outer:cA Env)(s:dq)(H:Hp)(E:XK):Cx where
 prog:=P
 w:=w
 K:=K
 mg:=mg
 base:=base
 A:=A.deeper (envOfC qual scope s.heap.objs.size f cd)
 N:=N
 s₀:=s
 H₀:=H
 env:=envOfC qual scope s.heap.objs.size f cd
 outer:=outer
 stack:=envOfC qual scope s.heap.objs.size f cd::outer
 ex:= []
 calm:=true
 fn:=λ_=>true
 pn:= []
 xe:=λe s'=>wpAny (model P w) (A.deeper (envOfC qual scope s.heap.objs.size f cd)) (leaving (envOfC qual scope s.heap.objs.size f cd) e) (λ_ s''=>CX outer H s E e s'') (λe' s''=>CX outer H s E e' s'') s'
def Bc {sc:Scope}(h:sc.names.lookup x=some .cell): ∃c,(cellsFrom n sc.names []).lookup x=some c:=by have q:=W.cellsFrom_some sc.names n [] (.inl h);show cZ.mp q
def Gx {K:Xu}(S:b_ N ps scope)(hd:A.handled=none)(e0:Dd P w K mg base A outer s H)(hl:vs.length=ps.length)(r:bW vs us)(x:InCallC s s.heap.objs.size (bindL (envOfC qual scope s.heap.objs.size f cd).kindOf (ps.zip us) λ_=>none) (cellsFrom (s.heap.objs.size+1) scope.names []) (bindC (envOfC qual scope s.heap.objs.size f cd).kindOf (ps.zip us) λ_=>none) s1): Inv (d9 CX P w K mg base N qual scope f cd A outer s H E) [] (start N vs) H s1:=by
 have no:ps.length<=N.length:=by have:=congrArg List.length S.pre;rw[cz] at this;lia
 let⟨h1,tk,rfl,hk⟩:=x.done;have PX: ∀b:fM,b∉(d9 CX P w K mg base N qual scope f cd A outer s H E).ex:=λb z=>absurd (show b∈([]:cA fM) from z) (by simp);exact#[#[e0.mod,S.kind,rfl,rfl,aq _,λy z c h1 h2=> ?_,λy hy=> ?_,λy c _ h=> ?_,λ_=>hd,Around.frames_deeper e0.frames, .inr #[rfl,rfl],λb z=>absurd z (PX b),e0.bs,e0.K5,λb _ _=>PX b,λb z=>absurd z (PX b),e0.nU,e0.LY],
  rfl,e0.bare,Un.kept hk,#[_,x.toInCall.ns,λi y v h1 h2 h3=> ?_],λy c h=>#[_,x.cell y c h],e0.cH.fresh (aq _),λy c h=> ?_,λp hp=>absurd (show p∈([]:cA (fM×Obj)) from hp) (by simp),e0.cH.kept hk,?_]
 show name_of_addr x.apart (dt h1) (dt h2);have hy:scope.names.lookup y=some .cell \/ scope.names.lookup y=some .free:=hy;obtain hy | hy:=hy;show Bc hy;show absurd rfl (S.Sr _ (dt hy));show Nat.le_of_lt (x.above y c (dt h));have hi:i<vs.length:=by unfold start at h2;by_cases hi:i<vs.length;show hi;rw[a9 ⇑hi] at h2;rw[dg] at h2;split at h2<;>cases h2
 have ha:vs[i]? =some v:=by
  unfold start at h2;rw[br ⇑hi,aL] at h2;cases e:vs[i]? with
  | none=>rw[e] at h2;cases h2
  | some a=>rw[e] at h2;cases h2;rfl
 let⟨u,hu,rv⟩:=r.get ha;have hp:ps[i]? =some y:=by rw[<- S.pre,List.getElem?_take_of_lt ∅];show h1
 have ndP:ps.Nodup:=by rw[<- S.pre];show S.nd.sublist (List.take_sublist _ _)
 exact#[u,rv,?_];obtain k | k:=S.par y (a_ hp);show .inl #[k,xK ndP hp hu k];let⟨c,e⟩:=Bc (n:=s.heap.objs.size+1) k;exact .inr #[.inl k,c,e,?_];have q:=x.cell y c e;rw[xM ndP hp hu (by change scope.names.lookup y≠_;rw[k];decide)] at q;show q;show e0.cH.fresh (Nat.le_of_lt (x.above y c (dt h)));unfold start;change _=N.length;rw[aD,ag,List.length_replicate];lia
def QC {K:Xu}{dV kV jj pm cdv ct oc:c5}(lk:K.lookup f=some #[oc,od, .func (W.fnOf name qual params body scope dV kV jj pm an cdv ct),Cd])(ES:W.codeIn K cdv qual=true)(S:b_ N ps scope)(len: ∀vs H Q E,sp vs H Q E ->vs.length=ps.length)(jH: ∀ (A:Around) (outer:cA Env) (s:dq) (H:Hp) (vs:cA V) (Q:VK) (E:XK),d7 k (A.deeper (envOfC qual scope s.heap.objs.size f cdv)) ->sp vs H Q E ->∃t,xO (d9 CX P w K mg base N qual scope f cdv A outer s H E) body t /\ t {nx:=λ_ H'=>Q .dG H',rt:=Q} (start N vs) H): bD P w K mg base CX (k+1) f (W.fnOf name qual params body scope dV kV jj pm an cdv ct) ps sp:=by
 exact#[len,λA outer s H args us vs Q E hr e0 hb r BD=> ?_];have hl:=len _ _ _ _ BD;have KX:K.In s.heap:=e0.mod.NK.keeps λb o e=>(e0.bs b o e).1;have lim:s.heap.NoLimit:=e0.mod.nolimit.keeps λb o e=>(e0.bs b o e).1;have X9: ∀y∈ps.zip us,scope.names.lookup y.1=some .local \/ (scope.names.lookup y.1=some .cell /\ ((cellsFrom (s.heap.objs.size+1) scope.names []).lookup y.1).isSome=true):=λ⟨n,v⟩ hy=>by obtain q | q:=S.par n (List.of_mem_zip hy).1;show .inl q;show .inr #[q,W.cellsFrom_some _ _ _ (.inl q)]
 exact codeAny_call_function hr.depth (KX _ _ lk) rfl S.co S.gen rfl (W.codeRec_of KX ES) (hb _ _ _ _ ?_);exact wpAny_newFunctionEnv_cells S.kind X9 λenv he s1 x=> ?_;subst he;exact#[lim.keeps x.toInCall.keep,codeAny_func ?_];let⟨t,ht,hq⟩:=jH A outer s H vs Q E (hr.deeper _) BD;have I:Inv (d9 CX P w K mg base N qual scope f cdv A outer s H E) [] (start N vs) H s1:=Gx S hr.hd e0 hl r x;exact bw (ht [] s1 (start N vs) H _ I hq) (λfl s' hs=> ?_) λe s' hs=>hs;have fin: ∀ {σ':St} {H':Hp} {v:V} {u:c5},Inv (d9 CX P w K mg base N qual scope f cdv A outer s H E) [] σ' H' s' ->RelV v u ->Q v H' ->CE outer P w H s Q u s':=λ{σ' H' v u} J rv q=>#[v,H',J.os,J.bare,J.base,J.cH,rv,q]
 cases fl with
 | ret u=>let⟨v,σ',H',J,rv,q⟩:=hs;show fin J rv q
 | next=>let⟨σ',H',J,q⟩:=hs;show fin (v:=V.dG) (u:=Value.none) J rfl q
 | brk=>let⟨_,_,_,q⟩:=hs;show False.elim q
 | cont=>let⟨_,_,_,q⟩:=hs;show False.elim q
section
variable {X:Cx}{x:Str}{p pos:Pos}{e:Expr}{es:cA Expr}{t:TA}{id T:String}{r:cA V ->Hp ->VK ->Prop}
def tCB (r:cA V ->Hp ->VK ->Prop)(t:TA):TE:=λσ H Q=>t σ H λvs H1=>r vs H1 Q
def bg (hc:eY X (.builtin id) r)(hg:Gl X x)(hm:X.mg x=none)(hv:bootBuiltins x=some (.builtin id))(ha:PA X (e::es) t)(hn:x≠ "__name__" :=by decide)(n_:(x==("__debug__" :Str))=false:=by decide) (he:starEach (e::es) X.env=(false,eval e X.env)::starEach es X.env:=by rfl) (no:(backTo pos (starEach es X.env)).any (·.1)=false:=by rfl):PE X (.Call (.Name x p) (e::es) [] pos) (tCB r t):=by intro af s σ H Q I h;exact wpAny_Call_Name_kw (yK I hg hm hv ?_ hn n_);show PyProof.Rows.callWith_builtin1 (cQ (ha pos af s σ H _ I h) λus s1 ⟨vs,H1,I1,r1,q1⟩=>hc af s1 σ H1 vs us Q I1 r1 q1) he no
def cT (hc:eY X (.type T) r)(hg:Gl X x)(hm:X.mg x=none)(hv:bootBuiltins x=some (.type T))(ha:PA X (e::es) t)(hn:x≠ "__name__" :=by decide)(n_:(x==("__debug__" :Str))=false:=by decide) (he:starEach (e::es) X.env=(false,eval e X.env)::starEach es X.env:=by rfl) (no:(backTo pos (starEach es X.env)).any (·.1)=false:=by rfl):PE X (.Call (.Name x p) (e::es) [] pos) (tCB r t):=by intro af s σ H Q I h;exact wpAny_Call_Name_kw (yK I hg hm hv ?_ hn n_);show PyProof.Rows.callWith_type1 (cQ (ha pos af s σ H _ I h) λus s1 ⟨vs,H1,I1,r1,q1⟩=>hc af s1 σ H1 vs us Q I1 r1 q1) he no
end
end L2
namespace HT
open PySem PyProof.Rows
def Ou (ht:IsTup s.heap t vs.toArray)(hb:IsTup s.heap b ws.toArray)(hv:vs≠ [])(h1:ws= [] ->Q (.ref t) s)(h2:ws≠ [] ->Q (.ref s.heap.objs.size) {s with heap:=s.heap.push {cls:= .type "tuple",data:= .seq (vs++ws).toArray}})(hsz:vs.length+ws.length<=sizeLine):wpAny (model prog w) A (binaryOp .Add (.ref t) (.ref b)) Q E s:=by
 let⟨⟨cls,dd,data,sl⟩,ho,hc,n,hd⟩:=id ht;let⟨⟨aih,_A,data2,Pp⟩,To,GD,n2,hd2⟩:=id hb;simp only at hc hd GD hd2;subst hc hd GD hd2;have e:vs.toArray++ws.toArray=(vs++ws).toArray:=by simp
 by_cases hw:ws= []
 show concat_meets #[_,ho,rfl] #[_,To,rfl] noFill_tuple_add seq_tuple_add PySem.F.slot_tuple_add PySem.F.entry_tuple_add (PySem.F.args_tuple_add_2 _ _) (tuple_addW1 t b vs.toArray ws.toArray n n2 dd _A sl Pp ⇑hv (by simp[hw])) #[ho,To,h1 hw];exact concat_meets #[_,ho,rfl] #[_,To,rfl] noFill_tuple_add seq_tuple_add PySem.F.slot_tuple_add PySem.F.entry_tuple_add (PySem.F.args_tuple_add_2 _ _) (tuple_addW2 t b vs.toArray ws.toArray n n2 dd _A sl Pp ⇑hv ⇑hw (by rw[aI,aI];show hsz)) #[ho,To,?_];rw[e];show h2 hw
def zr (n d:Nat):eM Int ->Nat
 | none=>d
 | some v=>if v<0 then(v+(n:Int)).toNat else min v.toNat n
end HT
namespace L2
open PySem PySem.Spec PyProof.Rows
abbrev TO:=St ->Hp ->(eM Int ->Hp ->Prop) ->Prop
def PO (X:Cx)(e:eM Expr)(t:TO):Prop:=∀ (af:cA (fM×Obj)) (s:dq) (σ:St) (H:Hp) (Q:eM Int ->Hp ->Prop),Inv X af σ H s ->t σ H Q ->wpAny (model X.prog X.w) X.A (evalPart e X.env) (λu s'=>cc λo H'=>cW (Inv X af σ H' s') (IsPart u o) (Q o H')) X.xe s
def Dw:TO:=λ_ H Q=>Q none H
def Ph (t:TE):TO:=λσ H Q=>t σ H λx H1=> ∃i,x= .int i /\ Q (some i) H1
section
variable {X:Cx}{e:Expr}{te:TE}{lo hi:eM Expr}{tl th:TO}{pos p2:Pos}
def yt:PO X none Dw:=by intro af s σ H Q I h;rw[evalPart_none];show a5 #[none,H,I, .none,h]
def yr (h:PE X e te):PO X (some e) (Ph te):=by intro af s σ H Q I hw;rw[evalPart_some];exact cQ (h af s σ H _ I hw) λu s1 ⟨x,H1,I1,r1,q1⟩=> ?_;let⟨i,rfl,q⟩:=q1;let⟨t,rfl⟩:=r1;show#[some i,H1,I1, .int i t,q]
def SlR (X:Cx)(r:V ->eM Int ->eM Int ->Hp ->VK ->Prop):Prop:=∀ (af:cA (fM×Obj)) (s:dq) (σ:St) (H:Hp) (x:V) (v vl vu:c5) (lo hi:eM Int) (sl:fM) (Q:VK),Inv X af σ H s ->RelV x v ->s.heap.IsSliceOf sl vl vu .none ->IsPart vl lo ->IsPart vu hi ->r x lo hi H Q ->cc λT id=>cW (typeLookup (.type T) "__getitem__" =pure (some (.builtin id))) (s.TypeIs v T) (wpAny (model X.prog X.w) X.A (getItem v (.ref sl)) (EP X af σ Q) X.xe s)
def tSl (r:V ->eM Int ->eM Int ->Hp ->VK ->Prop)(te:TE)(tl th:TO):TE:=λσ H Q=>te σ H λx H1=>tl σ H1 λl H2=>th σ H2 λu H3=>r x l u H3 Q
def uu (hr:SlR X r)(he:PE X e te)(hl:PO X lo tl)(hu:PO X hi th):PE X (.Subscript e (.Slice lo hi none p2) pos) (tSl r te tl th):=by intro af s σ H Q I h;exact Subscript_ (cQ (he af s σ H _ I h) λv s1 ⟨x,H1,I1,r1,q1⟩=> ?_);exact wpAny_Slice (cQ (hl af s1 σ H1 _ I1 q1) λvl s2 ⟨l,H2,I2,pl,q2⟩=>cQ (hu af s2 σ H2 _ I2 q2) λvu s3 ⟨u,H3,I3,pu,q3⟩=> ?_);rw[evalPart_none];exact a5 ?_;have I4:Inv X af σ H3 {s3 with heap:=s3.heap.push {cls:= .type "slice",data:= .fields (List.toArray [vl,vu, .none])}}:=I3.kept (t':=s3.toks) λb ob q=>av _ q;let⟨T,id,hT,ht,hg⟩:=hr af {s3 with heap:=s3.heap.push {cls:= .type "slice",data:= .fields (List.toArray [vl,vu, .none])}} σ H3 x v vl vu l u s3.heap.objs.size Q I4 r1 (Heap.IsSliceOf.new ..) pl pu q3;change wpAny (model X.prog X.w) X.A (subscriptTail e (.Slice lo hi none p2) v (.ref s3.heap.objs.size)) (EP X af σ Q) X.xe {s3 with heap:=s3.heap.push {cls:= .type "slice",data:= .fields (List.toArray [vl,vu, .none])}};show tail_any (ops:= [.ref s3.heap.objs.size,v]) ht hT hg (by with_unfolding_all rfl)
def GP (xs:cA V)(lo hi:eM Int):cA V:=(xs.drop (HT.zr xs.length 0 lo)).take (HT.zr xs.length xs.length hi - HT.zr xs.length 0 lo)
def A_ (xs:cA V)(lo hi:eM Int):(GP xs lo hi).length<=xs.length:=by unfold GP;rw[cz,List.length_drop];lia
def Wo (K:Xu):R2:=λx y H Q=>fQ λa b xs ys=>BG (x= .ref a) (y= .ref b) (kP K H a xs) (kP K H b ys) (xs≠ []) (xs.length+ys.length<=sizeLine) (ys= [] ->Q (.ref a) H) (ys≠ [] -> ∀p,H p=none ->Q (.ref p) (cf H p (.tup (xs++ys))))
def bW.jV (r:bW xs us):us= []↔xs= []:=by
 cases r with
 | nil=>simp
 | cons _ _=>simp
def Nc:gI X (binaryOp .Add) (Wo X.K):=by intro af s σ H x y v u Q I rx ry h;let⟨a,b,xs,ys,rfl,rfl,ha,hb,hx,hz,q1,q2⟩:=h;cases rx;cases ry;let⟨bI,r1,p1,_⟩:=I.tuple ha;let⟨yP,r2,p2,_⟩:=I.tuple hb;exact HT.Ou p1 p2 (λz=>hx (r1.jV.mp z)) (λz=>#[.ref a,H,I,rfl,q1 (r2.jV.mp z)]) (λz=> ?_) (by rw[<- r1.length, <- r2.length];show hz);exact#[.ref s.heap.objs.size,_,I.laid (t':=s.toks) (o:= .tup (xs++ys)) (λb ob q=>av _ q) (aq _) ?_,rfl,q2 (λw=>z (r2.jV.mpr w)) _ (I.cH.fresh (aq _))];show#[by rw[aD];show hz,_,r1.append r2,zh.new _ _]
end
def Az (n:Nat)(i:Int):eM Nat:=if 0<=i then(if i<n then some i.toNat else none) else if -(n:Int) <=i then some (i+n).toNat else none
def fE {α:Type}(xs:cA α)(i:Int):eM α:=(Az xs.length i).bind λj=>xs[j]?
def EI (h:Az n i=some j): seqIndex? i n=some j /\ j<n /\ -(n:Int) <=i /\ i<n:=by unfold Az at h;by_cases h0:0<=i;rw[am h0] at h;by_cases h1:i<n;rw[am h1] at h;have e:i.toNat=j:=bp h;show#[by rw[seqIndex_of h0 h1,e], ∅, ∅,h1];rw[ak h1] at h;cases h;rw[ak h0] at h;by_cases h1: -(n:Int) <=i;rw[am h1] at h;have e:(i+n).toNat=j:=bp h;show#[by rw[seqIndex_neg ∅ h1,e], ∅,h1, ∅];rw[ak h1] at h;cases h
def zc {v:α}(h:fE xs i=some v): ∃j,f_ (seqIndex? i xs.length=some j) (xs[j]? =some v) (j<xs.length) (-(xs.length:Int) <=i) (i<xs.length):=by
 unfold fE at h;cases e:Az xs.length i with
 | none=>rw[e] at h;cases h
 | some j=>rw[e] at h;let⟨h1,h2,h3,h4⟩:=EI e;show#[j,h1,h,h2,h3,h4]
def fK {j:Nat}{v:α}(h:xs[j]? =some v):fE xs (j:Int)=some v:=by
 have hj:j<xs.length:=(bq.mp h).1;have e:Az xs.length (j:Int)=some j:=by unfold Az;rw[am ∅,am ∅];simp
 unfold fE;rw[e];show h
def OI (b:Expr):Prop:= ∀o i,subscripted b false o i=operate [o,i] (getItem o i)
def U3 (X:Cx)(r:R2):Prop:=∀ (value slice:Expr) (af:cA (fM×Obj)) (s:dq) (σ:St) (H:Hp) (x y:V) (v u:c5) (Q:VK),Inv X af σ H s ->RelV x v ->RelV y u ->r x y H Q ->subscripted slice false v u=operate [v,u] (getItem v u) ->wpAny (model X.prog X.w) X.A (subscriptTail value slice v u) (EP X af σ Q) X.xe s
def YV (X:Cx)(id:String)(r:V ->cA V ->Hp ->VK ->Prop):Prop:=∀ (af:cA (fM×Obj)) (s:dq) (σ:St) (H:Hp) (x:V) (xs:cA V) (v:c5) (us:cA c5) (Q:VK),Inv X af σ H s ->RelV x v ->bW xs us ->r x xs H Q ->wpAny (model X.prog X.w) X.A (call (.builtin id) (v::us)) (EP X af σ Q) X.xe s
section
variable {X:Cx}{a b:Expr}{ta tb:TE}{pos:Pos}
def uv (hr:U3 X r)(ha:PE X a ta)(hb:PE X b tb)(hs:OI b):PE X (.Subscript a b pos) (VV r ta tb):=by intro af s σ H Q I h;show Subscript_ (Ud ha hb I h λv u s2 x y H2 I2 rx ry q=>hr a b af s2 σ H2 x y v u Q I2 rx ry q (hs _ _))
def RN (K:Xu):R2:=λx y H Q=>fQ λp xs i v=>f_ (x= .ref p) (y= .int i) (gY K H p xs) (fE xs i=some v) (Q v H)
def RM (K:Xu):R2:=λx y H Q=>fQ λp xs i v=>f_ (x= .ref p) (y= .int i) (kP K H p xs) (fE xs i=some v) (Q v H)
def Wl:R2:=λx y H Q=>eh λz i c=>f_ (x= .str z) (y= .int i) (z.length<=sizeLine) (fE z.cps.toList i=some c) (Q (.str ⟨#[c]⟩) H)
def NN:U3 X (RN X.K):=by
 intro value slice af s σ H x y v u Q I rx ry h hs;let⟨p,xs,i,z,rfl,rfl,hq,he,q⟩:=h;cases rx;let⟨t,rfl⟩:=ry;let⟨bI,r,pl,hz⟩:=I.list hq;let⟨j,h1,h2,h3,h4,h5⟩:=zc he;let⟨w,ew,vY⟩:=r.get h2;have hl:=r.length;have hn:=nQ;have fin:EP X af σ Q w s:=#[z,H,I,vY,q]
 by_cases h0:0<=i;have hj:i.toNat=j:=by rw[seqIndex_of h0 h5] at h1;show bp h1
 show item_listR pl.isList h0 ∅ (by rw[hj];simpa using ew) fin hs;have hj:(i+(bI.toArray.size:Int)).toNat=j:=by rw[seqIndex_neg ∅ h4] at h1;rw[aI, <- hl];show bp h1
 show subscriptTail_builtinR (x:=w) pl.isList.typeIs slot_list_getitem.lookup (wpAny_getItem_list_neg (Q:=λr s'=>r=w /\ EP X af σ Q r s') pl.isList ∅ (by rw[aI] <;>lia) ∅ (by rw[hj];simpa using ew) #[rfl,fin]) hs
def yO:U3 X (RM X.K):=by
 intro value slice af s σ H x y v u Q I rx ry h hs;let⟨p,xs,i,z,rfl,rfl,hq,he,q⟩:=h;cases rx;let⟨t,rfl⟩:=ry;let⟨bI,r,pl,hz⟩:=I.tuple hq;let⟨j,h1,h2,h3,h4,h5⟩:=zc he;let⟨w,ew,vY⟩:=r.get h2;have hl:=r.length;have hn:=nQ;have fin:EP X af σ Q w s:=#[z,H,I,vY,q]
 show subscriptTail_builtinR (x:=w) pl.typeIs slot_tuple_getitem.lookup (getItem_tuple (j:=j) (Q:=λr s'=>r=w /\ EP X af σ Q r s') pl ∅ ∅ (by rw[aI, <- hl];show h1) ⇑ew #[rfl,fin]) hs
def JM:U3 X Wl:=by
 intro value slice af s σ H x y v u Q I rx ry h hs;let⟨z,i,c,rfl,rfl,hz,he,q⟩:=h;let⟨t,rfl⟩:=rx;let⟨t',rfl⟩:=ry;let⟨j,h1,h2,h3,h4,h5⟩:=zc he;have hl:z.cps.toList.length=z.length:=by simp[Str.length]
 rw[hl] at h1 h4 h5;have hn:=nQ;show tail_any (typeIs_str s z t) slot_str_getitem.lookup (getItem_str (c:=c) (by have e1:decide (i< -(2 ^ 63:Int))=false:=aE ∅;have e2:decide (i≥2 ^ 63)=false:=aE ∅;rw[e1,e2,Bool.or_false]) (by rw[h1];simpa using h2) #[.str ⟨#[c]⟩,H,I.tok _,#[_,rfl],q]) hs
def Cq (bI:cA c5)(n j:Nat)(u:c5):Obj.mapSeq (·.setIfInBounds j u) {cls:= .type "list",data:= .seq bI.toArray n}= {cls:= .type "list",data:= .seq (bI.set j u).toArray n}:=by simp[Obj.mapSeq]
def Inv.lst {af:cA (fM×Obj)}{σ:St}{H:Hp}{s:dq}{p:fM}{xs:cA V}(I:Inv X af σ H s)(h:H p=some (.lst xs)): cc λ(bI:cA c5) (n:Nat)=>cW (bW xs bI) (s.heap.get? p=some {cls:= .type "list",data:= .seq bI.toArray n}) (xs.length<=sizeLine):=by let⟨z,bI,n,r,e⟩:=I.cH p _ h;show#[bI,n,r,e,z]
def Inv.SD {σ:St}{bI its':cA c5}(I:Inv X af σ H s)(h:H p=some (.lst xs))(ho:s.heap.get? p=some {cls:= .type "list",data:= .seq bI.toArray n})(hf:f {cls:= .type "list",data:= .seq bI.toArray n}= {cls:= .type "list",data:= .seq its'.toArray n'})(r:bW ys its')(hz:ys.length<=sizeLine)(t:Nat): Inv X af σ (cf H p (.lst ys)) {s with heap:=s.heap.update p f,toks:=t}:=by
 have e:(s.heap.update p f).get? p=some {cls:= .type "list",data:= .seq its'.toArray n'}:=by rw[Heap.get?_update_self f ho (by rw[hf] <;>rfl),hf]
 exact I.write (x:=p) (e:=p) (by rw[h];trivial) (.inl rfl) (λb u hb q=>(Heap.get?_update_other _ _ (cX hb)).trans q) #[_,e] ?_;show#[hz,its',n',r,e]
def Py:V ->V ->V ->Hp ->(Hp ->Prop) ->Prop:=λo i v H Q=>fQ λp xs k j=>f_ (o= .ref p) (i= .int k) (H p=some (.lst xs)) (Az xs.length k=some j) (Q (cf H p (.lst (xs.set j v))))
def jv:YT X Py:=by
 intro af s σ H o i v ov iv u Q I ro ri rv h;let⟨p,xs,k,j,rfl,rfl,hp,hj,q⟩:=h;cases ro;let⟨t,rfl⟩:=ri;let⟨bI,n,r,ho,hz⟩:=I.lst hp;let⟨h1,h2,h3,h4⟩:=EI hj;have hl:=r.length;have hn:=nQ;have I':Inv X af σ (cf H p (.lst (xs.set j v))) {s with heap:=s.heap.update p (Obj.mapSeq (·.setIfInBounds j u))}:=I.SD hp ho (Cq bI n j u) (r.set rv j) (by rw[List.length_set];show hz) s.toks;by_cases h0:0<=k;have hk:k.toNat=j:=by rw[seqIndex_of h0 h4] at h1;show bp h1
 show W.ki_setAt ho h0 ∅ (by rw[aI, <- hl];show h4) (by rw[hk];show#[_,I',q]);have hk:(k+(bI.toArray.size:Int)).toNat=j:=by rw[seqIndex_neg ∅ h3] at h1;rw[aI, <- hl];show bp h1
 show W.ki_setBack ho ∅ (by rw[aI, <- hl];show h3) ∅ (by rw[hk];show#[_,I',q])
def yd (lo hi:eM Int)(n:Nat):(sliceBounds lo hi none n).1=((HT.zr n 0 lo:Nat):Int) /\ (sliceBounds lo hi none n).2.1=((HT.zr n n hi:Nat):Int) /\ (sliceBounds lo hi none n).2.2=1:=by
 exact#[?_,?_,rfl];cases lo with
 | none=>simp[sliceBounds,HT.zr]
 | some i=>simp![sliceBounds,HT.zr,Option.getD_none,show(1:Int) >0 by decide,bV];by_cases h:i<0;simp![h,bV] <;>lia;simp![h,bC] <;>lia
 cases hi with
 | none=>simp[sliceBounds,HT.zr]
 | some i=>simp![sliceBounds,HT.zr,Option.getD_none,show(1:Int) >0 by decide,bV];by_cases h:i<0;simp![h,bV] <;>lia;simp![h,bC] <;>lia
def vX (bI:cA c5)(lo hi:eM Int):slicePick bI.toArray lo hi none=((bI.drop (HT.zr bI.length 0 lo)).take (HT.zr bI.length bI.length hi - HT.zr bI.length 0 lo)).toArray:=by let⟨h1,h2,h3⟩:=yd lo hi bI.toArray.size;unfold slicePick;rw[h1,h2,h3];simp![sliceRange_one,pick_run,aI] <;>rfl
def aaX (K:Xu):V ->eM Int ->eM Int ->Hp ->VK ->Prop:=λx lo hi H Q=>cc λa xs=>cW (x= .ref a) (gY K H a xs) (∀p,H p=none ->Q (.ref p) (cf H p (.lst (GP xs lo hi))))
def Mt:SlR X (aaX X.K):=by intro af s σ H x v vl vu lo hi sl Q I rx hs pl pu h;let⟨a,xs,rfl,hx,q⟩:=h;cases rx;let⟨bI,r,ht,hz⟩:=I.list hx;have dO:=r.length;exact#["list",_,slot_list_getitem.lookup,ht.isList.typeIs,?_];exact wpAny_getItem_list_slice ht.isList hs pl pu .none (by simp) ?_ (by rw[aI] <;>lia);rw[vX, <- dO];exact#[.ref s.heap.objs.size,_,I.laid (t':=s.toks) (o:= .lst (GP xs lo hi)) (λb ob q=>av _ q) (aq _) ?_,rfl,q _ (I.cH.fresh (aq _))];show#[aw (A_ xs lo hi) hz,_,0,(r.drop (HT.zr xs.length 0 lo)).take (HT.zr xs.length xs.length hi - HT.zr xs.length 0 lo),aW _ rfl]
def lZ:V ->Bool
 | .dG=>true
 | .bl _=>true
 | .int _=>true
 | .str _=>true
 | _=>false
def zt:V ->V ->Bool
 | .dG, .dG=>true
 | .bl a, .bl b=>a==b
 | .bl a, .int b=>(if a then 1 else 0)==b
 | .int a, .bl b=>a==(if b then 1 else 0)
 | .int a, .int b=>a==b
 | .str a, .str b=>a==b
 | _,_=>false
def Kw (ry:RelV y u)(rx:RelV x v)(fy:lZ y=true)(fx:lZ x=true):SeqAt.EqAt A s u v (zt y x):=by
 cases y with
 | dG=>
  cases ry;cases x with
  | dG=>cases rx;show SeqAt.EqAt.same _
  | bl b=>cases rx;show SeqAt.EqAt.none_bool b
  | int b=>let⟨t,rfl⟩:=rx;show SeqAt.EqAt.none_int b t
  | str b=>let⟨t,rfl⟩:=rx;show SeqAt.EqAt.none_str b t
  | _=>show absurd (show false=true from fx) bf
 | bl a=>
  cases ry;cases x with
  | dG=>cases rx;show SeqAt.EqAt.bool_none a
  | bl b=>cases rx;show SeqAt.EqAt.bool_bool a b
  | int b=>let⟨t,rfl⟩:=rx;show SeqAt.EqAt.bool_int a b t
  | str b=>let⟨t,rfl⟩:=rx;show SeqAt.EqAt.bool_str a b t
  | _=>show absurd (show false=true from fx) bf
 | int a=>
  let⟨t',rfl⟩:=ry;cases x with
  | dG=>cases rx;show SeqAt.EqAt.int_none a t'
  | bl b=>cases rx;show SeqAt.EqAt.int_bool a t' b
  | int b=>let⟨t,rfl⟩:=rx;show SeqAt.EqAt.int_int a t' b t
  | str b=>let⟨t,rfl⟩:=rx;show SeqAt.EqAt.int_str a t' b t
  | _=>show absurd (show false=true from fx) bf
 | str a=>
  let⟨t',rfl⟩:=ry;cases x with
  | dG=>cases rx;show SeqAt.EqAt.str_none a t'
  | bl b=>cases rx;show SeqAt.EqAt.str_bool a t' b
  | int b=>let⟨t,rfl⟩:=rx;show SeqAt.EqAt.str_int a t' b t
  | str b=>let⟨t,rfl⟩:=rx;show SeqAt.EqAt.str_str a t' b t
  | _=>show absurd (show false=true from fx) bf
 | _=>show absurd (show false=true from fy) bf
def CM (x:V)(u:c5):Bool:=match u with
 | .none=>zt .dG x
 | .bool b=>zt (.bl b) x
 | .int i _=>zt (.int i) x
 | .str z _=>zt (.str z) x
 | _=>false
def Kv (r:RelV y u)(f:lZ y=true):CM x u=zt y x:=by
 cases y with
 | dG=>cases r;rfl
 | bl b=>cases r;rfl
 | int i=>let⟨t,rfl⟩:=r;rfl
 | str z=>let⟨t,rfl⟩:=r;rfl
 | _=>show absurd (show false=true from f) bf
theorem pW {x:V}: ∀ {xs:cA V} {us:cA c5},bW xs us ->xs.all lZ=true ->us.any (CM x)=xs.any λy=>zt y x
 | _,_, .nil,_=>rfl
 | y::xs,u::us, .cons r t,f=>by rw[List.all_cons,cP] at f;rw[List.any_cons,List.any_cons,Kv r f.1,pW t f.2]
theorem lR {A:Around}{s:dq}{x:V}{v:c5}(rx:RelV x v)(fx:lZ x=true): ∀ {xs:cA V} {us:cA c5},bW xs us ->xs.all lZ=true -> ∀u∈us,SeqAt.EqAt A s u v (CM x u)
 | _,_, .nil,_=>λu hu=>by cases hu
 | y::xs,u::us, .cons r t,f=>λu' hu=>by rw[List.all_cons,cP] at f;obtain rfl | hu:=aS.mp hu;rw[Kv r f.1];show Kw r rx f.1 fx;show lR rx fx t f.2 u' hu
def CA (x:V)(xs:cA V):Bool:=xs.any λy=>zt y x
def Wn (K:Xu)(UH:Bool):R2:=λx y H Q=>cc λp xs=>f_ (y= .ref p) (gY K H p xs \/ kP K H p xs) (lZ x=true) (xs.all lZ=true) (Q (.bl (if UH then !CA x xs else CA x xs)) H)
def FZ:gI X (compareOp .In) (Wn X.K false):=by intro af s σ H x y v u Q I rx ry h;let⟨p,xs,rfl,hq,fx,fs,q⟩:=h;cases ry;obtain hq | hq:=hq;let⟨bI,r,pl,hz⟩:=I.list hq;exact SeqAt.in_listAt (CM x) pl.isList (λw hw=>lR rx fx r fs w ⇑hw) #[.bl _,H,I,rfl,?_];rw[show bI.toArray.any (CM x)=bI.any (CM x) by simp,pW r fs];show q;let⟨bI,r,pl,hz⟩:=I.tuple hq;exact SeqAt.in_tupleAt (CM x) pl (λw hw=>lR rx fx r fs w ⇑hw) #[.bl _,H,I,rfl,?_];rw[show bI.toArray.any (CM x)=bI.any (CM x) by simp,pW r fs];show q
def yA:gI X (compareOp .NotIn) (Wn X.K true):=by intro af s σ H x y v u Q I rx ry h;let⟨p,xs,rfl,hq,fx,fs,q⟩:=h;cases ry;obtain hq | hq:=hq;let⟨bI,r,pl,hz⟩:=I.list hq;exact SeqAt.notIn_listAt (CM x) pl.isList (λw hw=>lR rx fx r fs w ⇑hw) #[.bl _,H,I,rfl,?_];rw[show bI.toArray.any (CM x)=bI.any (CM x) by simp,pW r fs];show q;let⟨bI,r,pl,hz⟩:=I.tuple hq;exact SeqAt.notIn_tupleAt (CM x) pl (λw hw=>lR rx fx r fs w ⇑hw) #[.bl _,H,I,rfl,?_];rw[show bI.toArray.any (CM x)=bI.any (CM x) by simp,pW r fs];show q
def yz:gI X (compareOp .NotIn) (λx y H Q=>cc λi j=>cW (x= .str i) (y= .str j) (Q (.bl (!(!(Builtin.Str.occurrences j i 0 j.length 1).isEmpty))) H)):=by intro af s σ H x y v u Q I rx ry h;let⟨i,j,rfl,rfl,q⟩:=h;let⟨t,rfl⟩:=rx;let⟨t',rfl⟩:=ry;show notIn_str #[.bl _,H,I,rfl,q]
def y8:eY X (.builtin "len") (λxs H Q=>cc λp ys=>cW (xs= [.ref p]) (gY X.K H p ys \/ kP X.K H p ys) (Q (.int ys.length) H)):=by intro af s σ H xs us Q I r h;let⟨p,ys,rfl,hq,q⟩:=h;let⟨u,rfl,rx⟩:=vals1 r;cases rx;have hn:=nQ;obtain hq | hq:=hq;let⟨bI,r',pl,hz⟩:=I.list hq;have dO:=r'.length;show Calls.call_len_list pl.isList (by simp![aI] <;>lia) #[.int ys.length,H,I.tok _,#[s.toks+1,by rw[aI,dO]],q];let⟨bI,r',pl,hz⟩:=I.tuple hq;have dO:=r'.length;show len_tuple pl (by simp![aI] <;>lia) #[.int ys.length,H,I.tok _,#[s.toks+1,by rw[aI,dO]],q]
def y3:eY X (.builtin "len") (λxs H Q=> ∃z,cW (xs= [.str z]) (z.length<=sizeLine) (Q (.int z.length) H)):=by intro af s σ H xs us Q I r h;let⟨z,rfl,hz,q⟩:=h;let⟨u,rfl,t,rfl⟩:=vals1 r;have hn:=nQ;show len_str ∅ #[.int z.length,H,I.tok _,#[_,rfl],q]
def yZ:eY X (.type "list") (λxs H Q=>cc λp ys=>cW (xs= [.ref p]) (gY X.K H p ys \/ kP X.K H p ys) (∀l,H l=none ->Q (.ref l) (cf H l (.lst ys)))):=by
 intro af s σ H xs us Q I r h;let⟨p,ys,rfl,hq,q⟩:=h;let⟨u,rfl,rx⟩:=vals1 r;cases rx;have fin: ∀ (bI:cA c5),bW ys bI ->ys.length<=sizeLine -> ∀ (h':Heap) (c':Nat),(∀b o',s.heap.get? b=some o' ->h'.get? b=some o') ->h'.get? s.heap.objs.size=some {cls:= .type "list",dict:=none,data:= .seq bI.toArray c',slots:= #[]} ->EP X af σ Q (.ref s.heap.objs.size) {s with heap:=h'}:=λbI r' hz h' c' kp e=>#[.ref s.heap.objs.size,_,I.laid (t':=s.toks) kp (aq _) (show dX X.prog X.w _ h' _ (.lst ys) from#[hz,bI,c',r',e]),rfl,q _ (I.cH.fresh (aq _))]
 obtain hq | hq:=hq;let⟨bI,r',pl,hz⟩:=I.list hq;have dO:=r'.length;let⟨o,ho,hc,n,hd⟩:=pl.isList;show call_list_seq p (.inl rfl) ho hc hd (λh' c' kp e=>fin bI r' hz h' c' kp e) (by simp![aI] <;>lia);let⟨bI,r',pl,hz⟩:=I.tuple hq;have dO:=r'.length;let⟨o,ho,hc,n,hd⟩:=pl;show call_list_seq p (.inr rfl) ho hc hd (λh' c' kp e=>fin bI r' hz h' c' kp e) (by simp![aI] <;>lia)
def wu:eY X (.type "tuple") (λxs H Q=>cc λp ys=>xs= [.ref p] /\ ((gY X.K H p ys /\ ∀l,H l=none ->Q (.ref l) (cf H l (.tup ys))) \/ (kP X.K H p ys /\ Q (.ref p) H))):=by
 intro af s σ H xs us Q I r h;let⟨p,ys,rfl,h⟩:=h;let⟨u,rfl,rx⟩:=vals1 r;cases rx;rcases h with⟨hq,q⟩ | ⟨hq,q⟩
 let⟨bI,r',pl,hz⟩:=I.list hq;have dO:=r'.length;exact call_tuple_list pl.isList (λh' kp=> ?_) (by simp![aI] <;>lia);have I1:Inv X af σ H {s with heap:=h'}:=I.kept (t':=s.toks) kp;have I2:Inv X af σ (cf H h'.objs.size (.tup ys)) {s with heap:=h'.push {cls:= .type "tuple",data:= .seq bI.toArray}}:=I1.laid (t':=s.toks) (λb o e=>av _ e) (aq _) (show dX X.prog X.w _ _ _ (.tup ys) from#[hz,bI,r',zh.new _ _]);show#[.ref h'.objs.size,_,I2,rfl,q _ (I1.cH.fresh (aq _))];let⟨bI,r',pl,hz⟩:=I.tuple hq;show call_tuple_same pl #[.ref p,H,I,rfl,q]
def ZF (K:Xu)(T:String)(x:V)(H:Hp):Prop:=match x with
 | .str _=>T= "str"
 | .int _=>T= "int"
 | .ref p=>(T= "list" /\ ∃xs,gY K H p xs) \/ (T= "tuple" /\ ∃o,cW (K.lookup p=some o) (o.cls= .type "tuple") (o.dict=none)) \/(T= "dict" /\ ((∃kvs,H p=some (.dK kvs)) \/ ∃kvs,H p=some (.dT kvs))) \/ (T= "set" /\ ∃S n,H p=some (.set S n))
 | _=>False
def HF {σ:St}(I:Inv X af σ H s)(r:RelV x v)(ty:ZF X.K T x H): s.TypeIs v T /\ ∀a,v= .ref a -> ∃ob,s.heap.get? a=some ob /\ ob.dict=none:=by
 cases x with
 | str z=>let⟨t,rfl⟩:=r;cases (show T= "str" from ty);show#[typeIs_str s z t,λ_ e=>nomatch e]
 | int i=>let⟨t,rfl⟩:=r;cases (show T= "int" from ty);show#[typeIs_int s i t,λ_ e=>nomatch e]
 | ref p =>
  cases r;rcases ty with⟨rfl,xs,hq⟩ | ⟨rfl,o,hk,hc,hd⟩ | ⟨rfl,hk⟩ | ⟨rfl,S,n,hk⟩
  let⟨bI,_,pl,_⟩:=I.list hq;exact#[pl.isList.typeIs,λa e=> ?_];cases e;let⟨o,n,e,c,hd,_⟩:=pl;show#[o,e,hd];exact#[#[o,I.kT p o hk,hc],λa e=> ?_];cases e;show#[o,I.kT _ o hk,hd];have z: ∃o,s.heap.get? p=some o /\ o.ExactDict:=by
   rcases hk with⟨kvs,hk⟩ | ⟨kvs,hk⟩
   let⟨_,_,_,_,o,_,_,e,ex,_⟩:=I.cH p _ hk;show#[o,e,ex];let⟨_,_,_,_,o,_,_,e,ex,_⟩:=I.cH p _ hk;show#[o,e,ex]
  let⟨o,e,ex⟩:=z;exact#[#[o,e,ex.1],λa e2=> ?_];cases e2;show#[o,e,ex.2.1];let⟨o,_,_,_,e,ex,_⟩:=I.cH p _ hk;exact#[#[o,e,ex.1],λa e2=> ?_];cases e2;show#[o,e,ex.2.1]
 | _=>show False.elim ty
def V3 (K:Xu)(T:String)(r:V ->cA V ->Hp ->VK ->Prop)(to:TE):TE:=λσ H Q=>to σ H λx H1=>ZF K T x H1 /\ r x [] H1 Q
def tBM (K:Xu)(T:String)(r:V ->cA V ->Hp ->VK ->Prop)(to:TE)(t:TA):TE:=λσ H Q=>to σ H λx H1=>ZF K T x H1 /\ t σ H1 λxs H2=>r x xs H2 Q
variable {o e:Expr}{es:cA Expr}{to:TE}{t:TA}{name:Str}{dD dE:Pos}{T id:String}{r:V ->cA V ->Hp ->VK ->Prop}
def uw (pa:PlainAttrs T)(slot:Slot T name id)(hty:typeOf (.builtin id)=pure (.type "method_descriptor"))(hm:YV X id r)(ho:PE X o to) (AJ:attributeBase o name X.env (eval o X.env)=eval o X.env:=by rfl) (AG:(dD.endLine==dE.line)=true:=by rfl):PE X (.Call (.Attribute o name dD) [] [] dE) (V3 X.K T r to):=by intro af s σ H Q I h;exact wpAny_Call_method0_late AJ AG (cQ (ho af s σ H _ I h) λv s1 ⟨x,H1,I1,r1,ty,q1⟩=> ?_);let⟨h1,h2⟩:=HF I1 r1 ty;show#[T,id,pa,slot,hty,h1,h2,Calls.callWith_builtin rfl (PySem.evalArgs_none (hm af s1 σ H1 x [] v [] Q I1 r1 .nil q1))]
def gw (pa:PlainAttrs T)(slot:Slot T name id)(hty:typeOf (.builtin id)=pure (.type "method_descriptor"))(hm:YV X id r)(ho:PE X o to)(ha:PA X (e::es) t) (AJ:attributeBase o name X.env (eval o X.env)=eval o X.env:=by rfl) (abR:((backTo dE (starEach (e::es) X.env)).all (λx=> !x.1) && (backToKw dE (keywordEach [] X.env)).all (λx=>x.1.isSome) && decide ((e::es).length+([]:cA Keyword).length+(if([]:cA Keyword).isEmpty then 0 else 1) <30))=true:=by rfl) (AG:(dD.endLine==dE.line)=true:=by rfl) (hs:starEach (e::es) X.env=(false,eval e X.env)::starEach es X.env:=by rfl) (Tk:(backTo dE (starEach es X.env)).any (·.1)=false:=by rfl): PE X (.Call (.Attribute o name dD) (e::es) [] dE) (tBM X.K T r to t):=by intro af s σ H Q I h;exact wpAny_Call_method_late AJ abR AG rfl (cQ (ho af s σ H _ I h) λv s1 ⟨x,H1,I1,r1,ty,q1⟩=> ?_);let⟨h1,h2⟩:=HF I1 r1 ty;exact#[T,id,pa,slot,hty,h1,h2,?_];have hA:=ha dE af s1 σ H1 _ I1 q1;rw[hs] at hA ⊢;exact Calls.callWith_builtin (by change(false || (backTo dE (starEach es X.env)).any (·.1))=false;rw[Tk] <;>rfl) (Calls.evalArgs_plain ?_);show cQ hA λus s2 ⟨vs,H2,I2,r2,q2⟩=>hm af s2 σ H2 x vs v us Q I2 r1 r2 q2
end
def YW (X:Cx)(id:String)(r:V ->cA V ->Hp ->VK ->Prop):Prop:=∀ (af:cA (fM×Obj)) (s:dq) (σ:St) (H:Hp) (x:V) (xs:cA V) (v:c5) (us:cA c5) (Q:VK),Inv X af σ H s ->RelV x v ->bW xs us ->r x xs H Q ->wpAny (model X.prog X.w) X.A (call (.builtin id) (v::us)) (EP X af σ Q) X.xe s
def bW.one: ∀ {x:V} {us:cA c5},bW [x] us -> ∃u,us= [u] /\ RelV x u :=by intro x us h;cases h with | cons r t=>cases t;show#[_,rfl,r]
def bW.two: ∀ {x y:V} {us:cA c5},bW [x,y] us ->cc λu v=>cW (us= [u,v]) (RelV x u) (RelV y v) :=by intro x y us h;cases h with | cons r t=>cases t with | cons q t=>cases t;show#[_,_,rfl,r,q]
theorem bW.zero: ∀ {us:cA c5},bW [] us ->us= []
 | _, .nil=>rfl
def bW.dropLast (h:bW xs us):bW xs.dropLast us.dropLast:=by
 induction h with
 | nil=>show .nil
 | cons r t ih=>
  cases t with
  | nil=>show .nil
  | cons q t'=>show .cons r ih
def CL {α:Type}(l:cA α):l.eraseIdx (l.length - 1)=l.dropLast:=by
 induction l with
 | nil=>rfl
 | cons a r ih=>
  cases r with
  | nil=>rfl
  | cons b r=>
   have e:(a::b::r).length - 1=((b::r).length - 1)+1:=by have h1:(a::b::r).length=r.length+2:=rfl;have h2:(b::r).length=r.length+1:=rfl;lia
   rw[e,List.eraseIdx_cons_succ,ih];all_goals rfl
def Inv.Jr {σ:St}{bI its':cA c5}(I:Inv X af σ H s)(hH:H l=some (.lst xs))(e:s.heap.get? l=some {cls:= .type "list",data:= .seq bI.toArray n})(hf:f bI.toArray=its'.toArray)(hv:bW ys its')(hz:ys.length<=sizeLine): Inv X af σ (cf H l (.lst ys)) {s with heap:=s.heap.update l (Obj.mapSeq f),toks:=t'}:=by have q:=PySem.IsL.update e f;rw[hf] at q;exact I.write (x:=l) (e:=l) (by rw[hH];show trivial) (.inl rfl) (λb' u hb hu=>(Heap.get?_update_other s.heap (Obj.mapSeq f) (cX hb)).trans hu) #[_,q] ?_;show#[hz,its',_,hv,q]
theorem Inv.aa9 {σ:St}(I:Inv X af σ H s)(hv:bW ys bI)(hz:ys.length<=sizeLine): Inv X af σ (cf H s.heap.objs.size (.lst ys)) {s with heap:=s.heap.push {cls:= .type "list",data:= .seq bI.toArray},toks:=t'}:=I.laid (λ_ _ q=>av _ q) (aq _) #[hz,bI,0,hv,aW _ rfl]
theorem Inv.fresh {σ:St}(I:Inv X af σ H s):H s.heap.objs.size=none:=I.cH.fresh (aq _)
def Inv.Ar {σ:St}(I:Inv X af σ H s)(hH:H l=some (.lst xs)):xs.length<=sizeLine /\ cc λ(bI:cA c5) (n:Nat)=>cW (bW xs bI) (xs.length=bI.length) (s.heap.get? l=some {cls:= .type "list",data:= .seq bI.toArray n}):=by let⟨z,bI,n,r,e⟩:=I.cH l _ hH;show#[z,bI,n,r,r.length,e]
def Jn (h:n<=sizeLine):Builtin.List.listTooLong n=false:=by unfold Builtin.List.listTooLong;show aE ∅
def DY:V ->cA V ->Hp ->VK ->Prop:=λx vs H Q=>eh λl xs y=>f_ (x= .ref l) (vs= [y]) (H l=some (.lst xs)) (xs.length<sizeLine) (Q .dG (cf H l (.lst (xs++ [y]))))
def dk:YW X "list.append" DY:=by intro af s σ H x vs v us Q I rx rv h;let⟨l,xs,y,rfl,rfl,hH,hz,q⟩:=h;cases rx;let⟨u,rfl,ru⟩:=rv.one;let⟨z,bI,n,r,hl,e⟩:=I.Ar hH;exact call_meets F.slot_list_append #[_,e,rfl] F.entry_list_append (F.args_list_append_2 _ _) (PySem.list_append l bI.toArray n u (by rw[aI];lia)) #[e,?_];exact#[.dG,_,I.Jr (its':=bI++ [u]) hH e (by simp) (r.append (.cons ru .nil)) ?_,rfl,q];rw[aD,List.length_singleton];lia
def DX:V ->cA V ->Hp ->VK ->Prop:=λx vs H Q=>fQ λl b xs zs=>k9 (x= .ref l) (vs= [.ref b]) (H l=some (.lst xs)) (H b=some (.lst zs)) (xs.length+zs.length<=sizeLine) (Q .dG (cf H l (.lst (xs++zs))))
def Gh:YW X "list.extend" DX:=by
 intro af s σ H x vs v us Q I rx rv h;let⟨l,b,xs,zs,rfl,rfl,hH,hB,hz,q⟩:=h;cases rx;let⟨u,rfl,ru⟩:=rv.one;cases ru;let⟨z,bI,n,r,hl,e⟩:=I.Ar hH;let⟨z2,yP,n2,r2,hl2,e2⟩:=I.Ar hB;have hsz:bI.toArray.size+yP.toArray.size<=sizeLine:=by rw[aI,aI];lia
 have X4:¬(!bI.toArray.isEmpty && Builtin.List.listTooLong (bI.toArray.size+yP.toArray.size))=true:=by rw[Jn hsz,Bool.and_false];show bf
 exact call_meets F.slot_list_extend #[_,e,rfl] F.entry_list_extend (F.args_list_extend_2 _ _) (AutoSeq1.list_extend_list_list_0 l bI.toArray n b yP.toArray n2 X4 (by rw[aI];lia) ∅) #[e,e2,?_];exact#[.dG,_,I.Jr (its':=bI++yP) hH e (by simp) (r.append r2) ?_,rfl,q];rw[aD];lia
def Wj:V ->cA V ->Hp ->VK ->Prop:=λx vs H Q=>eh λl xs y=>f_ (x= .ref l) (vs= []) (H l=some (.lst xs)) (xs[xs.length - 1]? =some y) (Q y (cf H l (.lst xs.dropLast)))
def Cn:YW X "list.pop" Wj:=by
 intro af s σ H x vs v us Q I rx rv h;let⟨l,xs,y,rfl,rfl,hH,hy,q⟩:=h;cases rx;have xk:=rv.zero;subst xk;let⟨z,bI,n,r,hl,e⟩:=I.Ar hH;let⟨u,hu,ru⟩:=r.get hy;have hy':bI.toArray[bI.toArray.size - 1]? =some u:=by change bI.toArray[bI.length - 1]? =some u;rw[<- Array.getElem?_toList, <- hl];show hu
 exact call_meets F.slot_list_pop #[_,e,rfl] F.entry_list_pop (F.args_list_pop_1 _) (MeetsSeq.list_pop_last l bI.toArray n u hy' (by rw[aI];lia)) #[e,?_];exact#[y,_,I.Jr (its':=bI.dropLast) hH e ?_ r.dropLast ?_,ru,q];change bI.toArray.eraseIdxIfInBounds (bI.toArray.size - 1)=bI.dropLast.toArray;rw[aI,List.eraseIdxIfInBounds_toArray,CL];rw[List.length_dropLast];lia
def Iz:V ->cA V ->Hp ->VK ->Prop:=λx vs H Q=>cc λl xs=>fg (x= .ref l) (vs= []) (H l=some (.lst xs)) (Q .dG (cf H l (.lst [])))
def Ak:YW X "list.clear" Iz:=by intro af s σ H x vs v us Q I rx rv h;let⟨l,xs,rfl,rfl,hH,q⟩:=h;cases rx;have xk:=rv.zero;subst xk;let⟨z,bI,n,r,hl,e⟩:=I.Ar hH;exact call_meets F.slot_list_clear #[_,e,rfl] F.entry_list_clear (F.args_list_clear_1 _) (AutoSeq1.list_clear_list_0 l bI.toArray n (by rw[aI];lia)) #[e,?_];show#[.dG,_,I.Jr (its':= []) (ys:= []) hH e rfl .nil (dc _),rfl,q]
def Wp:R2:=λx y H Q=>fQ λl b xs zs=>k9 (x= .ref l) (y= .ref b) (H l=some (.lst xs)) (H b=some (.lst zs)) (xs.length+zs.length<=sizeLine) (∀p,H p=none ->Q (.ref p) (cf H p (.lst (xs++zs))))
def Jc:gI X (binaryOp .Add) Wp:=by
 intro af s σ H x y v u Q I rx ry h;let⟨l,b,xs,zs,rfl,rfl,hH,hB,hz,q⟩:=h;cases rx;cases ry;let⟨z,bI,n,r,hl,e⟩:=I.Ar hH;let⟨z2,yP,n2,r2,hl2,e2⟩:=I.Ar hB;exact PySem.P.add_list e e2 ?_ (by rw[aI,aI];lia);have ea:bI.toArray++yP.toArray=(bI++yP).toArray:=by simp
 rw[ea];show#[.ref _,_,I.aa9 (t':=s.toks) (r.append r2) (by rw[aD];lia),rfl,q _ I.fresh]
section
variable {κ:Type} [DecidableEq κ]
def iV (kvs:cA (κ×V))(k:κ):eM V:=(kvs.find? λkv=>decide (kv.1=k)).map (·.2)
def mW (kvs:cA (κ×V))(k:κ)(v:V):cA (κ×V):=if(kvs.any λkv=>decide (kv.1=k))=true then kvs.map (λkv=>if kv.1=k then(kv.1,v) else kv) else kvs++ [(k,v)]
def mj (kvs:cA (κ×V))(k:κ):cA (κ×V):=kvs.filter λkv=>decide (kv.1≠k)
def ua {k:κ}(e:p.1=k):iV (p::r) k=some p.2:=by simp[iV,cL,e]
def ub {k:κ}(e:¬p.1=k):iV (p::r) k=iV r k:=by simp[iV,cL,e]
theorem zC (k:κ): ∀kvs:cA (κ×V),(kvs.any λkv=>decide (kv.1=k))=(iV kvs k).isSome
 | []=>rfl
 | p::r=>by rw[List.any_cons];by_cases e:p.1=k;simp![ua e,bh e,Bool.true_or,cj];rw[ub e,aE e,Bool.false_or];show zC k r
def rD (kvs:cA (κ×V))(k:κ)(v:V):(mW kvs k v).length<=kvs.length+1:=by unfold mW;split;rw[ag];lia;rw[aD,aQ,List.length_nil];lia
def j7.ip (r:j7 o u):o.isSome=u.isSome:=by
 cases o with
 | none=>cases u with
  | none=>rfl
  | some _=>show(show False from r).elim
 | some _=>cases u with
  | none=>show(show False from r).elim
  | some _=>rfl
def j7.getD (r:j7 o u)(rd:RelV d d'):RelV (o.getD d) (u.getD d'):=by
 cases o with
 | none=>cases u with
  | none=>show rd
  | some _=>show(show False from r).elim
 | some _=>cases u with
  | none=>show(show False from r).elim
  | some _=>show r
def KV.val (r:KV kvs vs)(k:κ):j7 (iV kvs k) (valueAt vs k):=by
 unfold KV at r;induction r with
 | nil=>show True.intro
 | @cons p q ps qs h t ih=>
  let⟨h1,h2⟩:=h;by_cases e:p.1=k;have e':q.1=k:=h1.symm.trans e;have b:valueAt (q::qs) k=some q.2:=by simp[valueAt,cL,e']
  rw[ua e,b];show h2;have e':¬q.1=k:=λz=>e (h1.trans z);have b:valueAt (q::qs) k=valueAt qs k:=by simp[valueAt,cL,e']
  rw[ub e,b];show ih
def KV.any (r:KV kvs vs)(k:κ):(kvs.any λkv=>decide (kv.1=k))=vs.any λkv=>decide (kv.1=k):=by
 unfold KV at r;induction r with
 | nil=>rfl
 | cons h t ih=>rw[List.any_cons,List.any_cons,ih,h.1]
def KV.RI (r:KV kvs vs)(k:κ)(ry:RelV y u): KV (kvs.map λkv=>if kv.1=k then(kv.1,y) else kv) (vs.map λkv=>if kv.1=k then(kv.1,u) else kv):=by
 unfold KV at r ⊢;induction r with
 | nil=>show .nil
 | @cons p q ps qs h t ih=>rw[aT,aT];exact .cons ?_ ih;let⟨h1,h2⟩:=h;by_cases e:p.1=k;rw[am e,am (h1.symm.trans e)];show#[h1,ry];rw[ak e,ak (λz=>e (h1.trans z))];show#[h1,h2]
def KV.put (r:KV kvs vs)(k:κ)(ry:RelV y u):KV (mW kvs k y) (stored vs k u):=by unfold mW stored;rw[r.any k];by_cases e:(vs.any λkv=>decide (kv.1=k))=true;rw[am e,am e];show r.RI k ry;rw[ak e,ak e];show Paired.snoc r #[rfl,ry]
def KV.drop (r:KV kvs vs)(k:κ):KV (mj kvs k) (without vs k):=by
 unfold KV at r ⊢;unfold mj without;induction r with
 | nil=>show .nil
 | @cons p q ps qs h t ih=>
  let⟨h1,h2⟩:=h;rw[List.filter_cons,List.filter_cons];by_cases e:p.1=k;have a:¬decide (p.1≠k)=true:=by simp[e]
  have b:¬decide (q.1≠k)=true:=by simp[h1.symm.trans e]
  rw[ak a,ak b];show ih;have e':¬q.1=k:=λz=>e (h1.trans z);have a:decide (p.1≠k)=true:=by simp[e]
  have b:decide (q.1≠k)=true:=by simp[e']
  rw[am a,am b];show .cons #[h1,h2] ih
def KV.keys {vs:cA (κ×c5)}(r:KV kvs vs):kvs.map (·.1)=vs.map (·.1):=by
 unfold KV at r;induction r with
 | nil=>rfl
 | cons h t ih=>rw[aT,aT,ih,h.1]
theorem KV.length {vs:cA (κ×c5)}(r:KV kvs vs):kvs.length=vs.length:=Paired.length r
theorem AX (kvs:cA (κ×V))(k:κ):(mj kvs k).length<=kvs.length:=List.length_filter_le _ _
end
def rH (r:RelV (kV k) u):(cJ P w).is k u=true:=by
 cases k with
 | inl i=>let⟨t,e⟩:=(show ∃t,u=Value.int i t from r);subst e;show An P w i t
 | inr x=>let⟨t,e⟩:=(show ∃t,u=Value.str x t from r);subst e;show Am P w x t
theorem xj {P:Program}{w:World}: ∀ {ks:cA bX} {us:cA c5},bW (ks.map kV) us ->ItemsAre (cJ P w) ks us
 | [],_,r=>by rw[List.map_nil] at r;cases r;show .nil
 | k::ks,_,r=>by
  rw[aT] at r;cases r with
  | cons h t=>show .cons (rH h) (xj t)
abbrev KT (H:Hp):cA (cA bX×V) ->cA (cA bX×fM×c5) ->Prop:=Paired λp q=>p.1=q.1 /\ H q.2.1=some (.tup (p.1.map kV)) /\ RelV p.2 q.2.2
def KT.val (r:KT H kvs xs)(k:cA bX):j7 (iV kvs k) ((atKey xs k).map (·.2)):=by
 induction r with
 | nil=>show True.intro
 | @cons p q ps qs h t ih=>
  let⟨h1,_,h2⟩:=h;by_cases e:p.1=k;have e':q.1=k:=h1.symm.trans e;have b:atKey (q::qs) k=some q.2:=by simp[atKey,cL,e']
  rw[ua e,b];show h2;have e':¬q.1=k:=λz=>e (h1.trans z);have b:atKey (q::qs) k=atKey qs k:=by simp[atKey,cL,e']
  rw[ub e,b];show ih
def KT.RI (r:KT H kvs xs)(k:cA bX)(ry:RelV y u): KT H (kvs.map λkv=>if kv.1=k then(kv.1,y) else kv) (xs.map (putAt k u)):=by
 induction r with
 | nil=>show .nil
 | @cons p q ps qs h t ih=>rw[aT,aT];exact .cons ?_ ih;let⟨h1,h2,h3⟩:=h;unfold putAt;by_cases e:p.1=k;rw[am e,am (h1.symm.trans e)];show#[h1,h2,ry];rw[ak e,ak (λz=>e (h1.trans z))];show#[h1,h2,h3]
def KT.put (r:KT H kvs xs)(k:cA bX)(hb:H b=some (.tup (k.map kV)))(ry:RelV y u): KT H (mW kvs k y) (storedH xs k b u):=by
 have e:(kvs.any λkv=>decide (kv.1=k))=(atKey xs k).isSome:=by rw[zC,(r.val k).ip,bT]
 unfold mW storedH;rw[e];by_cases q:(atKey xs k).isSome=true;rw[am q,am q];show r.RI k ry;rw[ak q,ak q];show Paired.snoc r #[rfl,hb,ry]
theorem KT.keeps (r:KT H kvs xs)(ht: ∀b ys,H b=some (.tup ys) ->H' b=some (.tup ys)):KT H' kvs xs:=Paired.Sy r λ_ _ z=>#[z.1,ht _ _ z.2.1,z.2.2]
theorem Px (ok:mJ P w H h)(e:Rd H a u):dX P w H h a u:=e.ok ok
theorem pJ (ok:mJ P w H h)(e:Rd H a (.dK kvs)):kvs.length<=sizeLine /\ (a==sysModules)=false /\ ∃vs,KV kvs vs /\ h.DictOf (cJ P w) a vs:=
 show dX P w H h a (.dK kvs) from Px ok e
theorem xz (ok:mJ P w H h)(e:H a=some (.dK kvs)):kvs.length<=sizeLine /\ (a==sysModules)=false /\ ∃vs,KV kvs vs /\ h.DictOf (cJ P w) a vs:=pJ ok (.inl e)
def qz (ok:mJ P w H h)(e:H a=some (.tup (ks.map kV))):(tupleKind (cJ P w)).is h ks a:=by
 let⟨_,bI,r,o,h1,h2,n,h3,_⟩:=(show dX P w H h a (.tup (ks.map kV)) from ok a _ e)
 show#[o,bI.toArray,n,h1,h2,h3, ⇑(xj r)]
def vm (ok:mJ P w H h)(e:Rd H a (.dT kvs)):kvs.length<=sizeLine /\ (a==sysModules)=false /\∃xs,KT H kvs xs /\ h.DictOfH (tupleKind (cJ P w)) a xs:=by
 let⟨z,y,xs,r,o,es,ep,h1,h2,h3,h4,h5⟩:=(show dX P w H h a (.dT kvs) from Px ok e)
 exact#[z,y,xs,r,o,es,ep,h1,h2,h3,h4,λx hx=> ?_,h5];have all: ∀ {l:cA (cA bX×V)} {m:cA (cA bX×fM×c5)},KT H l m -> ∀x∈m,(tupleKind (cJ P w)).is h x.1 x.2.1:=by
  intro l m q;induction q with
  | nil=>intro x hx;show nomatch hx
  | @cons p q ps qs hq t ih=>intro x hx;obtain e | hx:=aS.mp hx;subst e;show qz ok (by rw[<- hq.1];show hq.2.1);show ih x hx
 show all r x hx
theorem Yy (ok:mJ P w H h)(e:H a=some (.dT kvs)):kvs.length<=sizeLine /\ (a==sysModules)=false /\∃xs,KT H kvs xs /\ h.DictOfH (tupleKind (cJ P w)) a xs:=vm ok (.inl e)
def mZ (H:Hp)(a:fM)(y:V)(r:eM V):Prop:=(cc λkvs k=>cW (Rd H a (.dK kvs)) (y=kV k) (r=iV kvs k)) \/ eh λkvs k b=>fg (Rd H a (.dT kvs)) (y= .ref b) (H b=some (.tup (k.map kV))) (r=iV kvs k)
def LF (H:Hp)(a:fM)(y v:V)(H':Hp):Prop:=(cc λkvs k=>fg (H a=some (.dK kvs)) (y=kV k) (kvs.length<sizeLine) (H'=cf H a (.dK (mW kvs k v)))) \/eh λkvs k b=>f_ (H a=some (.dT kvs)) (y= .ref b) (H b=some (.tup (k.map kV))) (kvs.length<sizeLine) (H'=cf H a (.dT (mW kvs k v)))
theorem mZ.k {k:bX}(e:H a=some (.dK kvs)):mZ H a (kV k) (iV kvs k):= .inl #[kvs,k, .inl e,rfl,rfl]
theorem LF.k {k:bX}(e:H a=some (.dK kvs))(hl:kvs.length<sizeLine):LF H a (kV k) v (cf H a (.dK (mW kvs k v))):= .inl #[kvs,k,e,rfl,hl,rfl]
def Inv.big {σ:St}(I:Inv X af σ H s):sysModules<s.heap.objs.size:=by have h:mainGlobals<s.heap.objs.size:=(I.mod.glob.keeps I.bk).lt;show Nat.lt_trans ⋯ h
def GL {σ:St}(hu:A.units+1<cLine)(I:Inv X af σ H s)(g:mZ H a y (some v))(ry:RelV y u)(h: ∀w' s',Inv X af σ H s' ->RelV v w' ->Q w' s'): wpAny (model X.prog X.w) A (getItem (.ref a) u) Q E s:=by
 rcases g with⟨kvs,k,e,ey,l⟩ | ⟨kvs,k,b,e,ey,eb,l⟩
 subst ey;let⟨z,hd,vs,gc,dd⟩:=pJ I.cH e;let⟨w',hw,vY⟩:=j7.some_of (v:=v) (o:=valueAt vs k) (by rw[l];show gc.val k);show wpAny_getItem_of (rH ry) dd.mapOf hw (h w' _ (I.tok _) vY);subst ey;cases (show u=Value.ref b from ry);let⟨z,hd,xs,gc,dd⟩:=vm I.cH e;let⟨w',hw,vY⟩:=j7.some_of (v:=v) (o:=(atKey xs k).map (·.2)) (by rw[l];show gc.val k);let⟨p,hp,hp2⟩:=Option.map_eq_some_iff.mp hw;exact wpAny_getItem_heap (tupleKind_room_in1 hu) (qz I.cH eb) dd hp ?_;rw[hp2];show h w' _ (I.tok _) vY
def aie {σ:St}(hu:A.units+1<cLine)(I:Inv X af σ H s)(g:mZ H a y o)(ry:RelV y u)(h: ∀s',Inv X af σ H s' ->Q (.bool o.isSome) s'): wpAny (model X.prog X.w) A (compareOp .In u (.ref a)) Q E s:=by
 rcases g with⟨kvs,k,e,ey,l⟩ | ⟨kvs,k,b,e,ey,eb,l⟩
 subst ey;let⟨z,hd,vs,gc,dd⟩:=pJ I.cH e;exact wpAny_in_of (rH ry) hd dd.mapOf ?_;rw[<- (gc.val k).ip, <- l];show h _ (I.tok _);subst ey;cases (show u=Value.ref b from ry);let⟨z,hd,xs,gc,dd⟩:=vm I.cH e;exact wpAny_in_heap (tupleKind_room_in1 hu) (qz I.cH eb) hd dd ?_;have q:=(gc.val k).ip;rw[bT] at q;rw[<- q, <- l];show h _ (I.tok _)
def Ol {σ:St}(hu:A.units+1<cLine)(I:Inv X af σ H s)(g:mZ H a y o)(ry:RelV y u)(h: ∀s',Inv X af σ H s' ->Q (.bool (!o.isSome)) s'): wpAny (model X.prog X.w) A (compareOp .NotIn u (.ref a)) Q E s:=by
 rcases g with⟨kvs,k,e,ey,l⟩ | ⟨kvs,k,b,e,ey,eb,l⟩
 subst ey;let⟨z,hd,vs,gc,dd⟩:=pJ I.cH e;exact wpAny_notIn_of (rH ry) hd dd.mapOf ?_;rw[<- (gc.val k).ip, <- l];show h _ (I.tok _);subst ey;cases (show u=Value.ref b from ry);let⟨z,hd,xs,gc,dd⟩:=vm I.cH e;exact wpAny_notIn_heap (tupleKind_room_in1 hu) (qz I.cH eb) hd dd ?_;have q:=(gc.val k).ip;rw[bT] at q;rw[<- q, <- l];show h _ (I.tok _)
theorem tW {σ:St}(I:Inv X af σ H s)(mu:YU (H a))(hs:Heap.SameBut a s.heap h')(he: ∃q,h'.get? a=some q)(new:dX X.prog X.w (cf H a ob) h' a ob): Inv X af σ (cf H a ob) {s with heap:=h',toks:=t'}:=I.write (x:=a) (e:=a) mu (.inl rfl) (λb q hb z=>(hs.2 b hb).trans z) he new
theorem CN (z:kvs.length<=sizeLine)(hd:(a==sysModules)=false)(gc:KV kvs vs)(dd:h'.DictOf (cJ P w) a vs): dX P w H' h' a (.dK kvs):=#[z,hd,vs,gc,dd]
def GK {σ:St}(hu:A.units+1<cLine)(I:Inv X af σ H s)(g:LF H a y v H')(ry:RelV y u)(rv:RelV v r)(h: ∀s',Inv X af σ H' s' ->Q () s'): wpAny (model X.prog X.w) A (setItem (.ref a) u r) Q E s:=by
 rcases g with⟨kvs,k,e,ey,l,eH⟩ | ⟨kvs,k,b,e,ey,eb,l,eH⟩
 subst ey eH;let⟨z,hd,vs,gc,dd⟩:=xz I.cH e;have hz:vs.length<=sizeLine:=by rw[<- gc.length];show z
 have hl:(mW kvs k v).length<=sizeLine:=by have:=rD kvs k v;lia
 exact wpAny_setItem_pairs (hsz:=hz) (rH ry) dd λh' L7 hs=>h _ ?_;have he: ∃q,h'.get? a=some q:=let ⟨q,_,_,hq,_⟩:=L7;#[q,hq]
 show tW I (by rw[e];show True.intro) hs he (CN hl hd (gc.put k rv) L7);subst ey eH;cases (show u=Value.ref b from ry);let⟨z,hd,xs,gc,dd⟩:=Yy I.cH e;have hz:xs.length<=sizeLine:=by rw[<- Paired.length gc];show z
 have hl:(mW kvs k v).length<=sizeLine:=by have:=rD kvs k v;lia
 exact wpAny_setItem_heap (hsz:=hz) (tupleKind_room_in1 hu) (qz I.cH eb) dd λh' L7 hs=>h _ ?_;let⟨q,es,ep,hq,h2,h3,h4,_,h5⟩:=L7;exact tW I (by rw[e];show True.intro) hs #[q,hq] #[hl,hd,_,(gc.put k eb rv).keeps λc ys ec=> ?_,q,es,ep,hq,h2,h3,h4,h5];rw[bL (W7 ec e (λz=>nomatch z))];show ec
def GN {σ:St}(I:Inv X af σ H s)(e:H a=some (.dK kvs))(ry:RelV (kV k) u)(l:(iV kvs k).isSome=true)(h: ∀s',Inv X af σ (cf H a (.dK (mj kvs k))) s' ->Q () s'): wpAny (model X.prog X.w) A (delItem (.ref a) u) Q E s:=by
 let⟨z,hd,vs,gc,dd⟩:=xz I.cH e;exact wpAny_delItem_slot dd.typeIs ⋯ PySem.F.slot_dict_delitem (call_meetsIn PySem.F.slot_dict_delitem dd.typeIs PySem.F.entry_dict_delitem (PySem.F.args_dict_delitem_2 _ _) (meets_dict_delitem_pairs (cJ X.prog X.w) a (rH ry)) #[vs,dd,by rw[<- gc.length];show z,by rw[<- (gc.val k).ip];show l,λh' L7 hs=>h _ ?_]);have he: ∃q,h'.get? a=some q:=let ⟨q,_,_,hq,_⟩:=L7;#[q,hq]
 show tW I (by rw[e];show True.intro) hs he (CN (aw (AX kvs k) z) hd (gc.drop k) L7)
def YA {σ:St}(I:Inv X af σ H s)(e:H a=some (.dK kvs))(ry:RelV (kV k) u)(l:iV kvs k=some v)(hm:more= [] \/ ∃x,more= [x])(h: ∀w' s',Inv X af σ (cf H a (.dK (mj kvs k))) s' ->RelV v w' ->Q w' s'):wpAny (model X.prog X.w) A (call (.builtin "dict.pop") (.ref a::u::more)) Q E s:=by
 let⟨z,hd,vs,gc,dd⟩:=xz I.cH e;let⟨w',hw,vY⟩:=j7.some_of (v:=v) (o:=valueAt vs k) (by rw[<- l];show gc.val k);have hp:(keyPart u).isSome=true:=by
  cases k with
  | inl i=>let⟨t,q⟩:=(show ∃t,u=Value.int i t from ry);subst q;rfl
  | inr x=>let⟨t,q⟩:=(show ∃t,u=Value.str x t from ry);subst q;rfl
 have ha:argsOk "dict.pop" #[.ref a::u::more,[]]:=by obtain q | ⟨x,q⟩:=hm;subst q;show PySem.F.args_dict_pop_2 _ _;subst q;show PySem.F.args_dict_pop_3 _ _ _
 exact call_meetsIn PySem.F.slot_dict_pop dd.typeIs PySem.F.entry_dict_pop ha (meets_dict_pop_there (cJ X.prog X.w) a (rH ry) more hm hp) #[vs,w',dd,by rw[<- gc.length];show z,hw,λh' L7 hs=>h w' _ ?_ vY];have he: ∃q,h'.get? a=some q:=let ⟨q,_,_,hq,_⟩:=L7;#[q,hq]
 show tW I (by rw[e];show True.intro) hs he (CN (aw (AX kvs k) z) hd (gc.drop k) L7)
def Ul (i:Expr):Prop:= ∀ov iv,subscripted i false ov iv=operate [ov,iv] (getItem ov iv)
def Ms {T id:String}(hl:typeLookup (.type T) "__getitem__" =pure (some (.builtin id)))(hs:Ul slice)(h:wpAny (model prog w) A (eval value env) (λo s₁=>wpAny (model prog w) A (eval slice env) (λi s₂=>s₂.TypeIs o T /\ wpAny (model prog w) A (getItem o i) Q E s₂) E s₁) E s): wpAny (model prog w) A (eval (.Subscript value slice pos) env) Q E s:=by
 exact Subscript_ (bw h (λo s₁ h₁=>bw h₁ (λi s₂ h₂=> ?_) λ_ _ x=>x) λ_ _ x=>x);let⟨hT,h₂⟩:=h₂;unfold subscriptTail;exact ax ?_;rw[getitemInPython_of_ne hT.not_modules];exact ax (wpAny_specialOf hT hl ?_);have fin:wpAny (model prog w) A (subscripted slice false o i) (λr s₃=>wpAny (model prog w) A (letTemporaryGo value o r >>=λ_=>pure r) Q E s₃) E s₂:=by rw[hs o i];show wpAny_operating (bw h₂ (λr s₃ h₃=>ax (wpAny_letTemporaryGo (a5 h₃))) λ_ _ x=>x)
 first
 | show a5 (ax fin)
 | show ax (a5 (ax fin))
 | show ax fin
def AZ {σ:St}(I:Inv X af σ H s)(g:mZ H a y o):s.TypeIs (.ref a) "dict" :=by
 rcases g with⟨kvs,k,e,_,_⟩ | ⟨kvs,k,b,e,_,_,_⟩
 let⟨_,_,vs,_,dd⟩:=pJ I.cH e;show dd.typeIs;let⟨_,_,xs,_,dd⟩:=vm I.cH e;show dd.typeIs
def HS (td ty:TE):TE:=λσ H Q=>td σ H λx H1=>ty σ H1 λy H2=>cc λa v=>cW (x= .ref a) (mZ H2 a y (some v)) (Q v H2)
def V2 (ty td:TE):TE:=λσ H Q=>ty σ H λy H1=>td σ H1 λx H2=>cc λa o=>cW (x= .ref a) (mZ H2 a y o) (Q (.bl o.isSome) H2)
def Dx (ty td:TE):TE:=λσ H Q=>ty σ H λy H1=>td σ H1 λx H2=>cc λa o=>cW (x= .ref a) (mZ H2 a y o) (Q (.bl (!o.isSome)) H2)
def Pr (td ty tv:TE):TS:=λD σ H=>tv σ H λv H1=>td σ H1 λx H2=>ty σ H2 λy H3=>cc λa H4=>cW (x= .ref a) (LF H3 a y v H4) (D.nx σ H4)
def Ps (td ty:TE):TS:=λD σ H=>td σ H λx H1=>ty σ H1 λy H2=>eh λa kvs k=>f_ (x= .ref a) (H2 a=some (.dK kvs)) (y=kV k) ((iV kvs k).isSome=true) (D.nx σ (cf H2 a (.dK (mj kvs k))))
def eT (hu:X.A.units+1<cLine)(ho:PE X o td)(hi:PE X i ty)(hs:Ul i):PE X (.Subscript o i pos) (HS td ty):=by intro af s σ H Q I h;exact Ms PySem.F.slot_dict_getitem.lookup hs (cQ (ho af s σ H _ I h) λu s1 ⟨x,H1,I1,rx,q1⟩=>cQ (hi af s1 σ H1 _ I1 q1) λiv s2 ⟨y,H2,I2,ry,a,v,ex,g,q2⟩=> ?_);subst ex;obtain rfl:u=Value.ref a:=rx;show#[AZ I2 g,GL hu I2 g ry λw' s3 I3 vY=>#[v,H2,I3,vY,q2]]
def Ca (hu:X.A.units+1<cLine)(hi:PE X i ty)(ho:PE X o td):PC X .In i o (V2 ty td):=by intro af s σ H Q I h;exact cQ (hi af s σ H _ I h) λiv s1 ⟨y,H1,I1,ry,q1⟩=>cQ (ho af s1 σ H1 _ I1 q1) λu s2 ⟨x,H2,I2,rx,a,ov,ex,g,q2⟩=> ?_;subst ex;obtain rfl:u=Value.ref a:=rx;show aie hu I2 g ry λs3 I3=>#[.bl ov.isSome,H2,I3,rfl,q2]
def jB (hu:X.A.units+1<cLine)(hi:PE X i ty)(ho:PE X o td):PC X .NotIn i o (Dx ty td):=by intro af s σ H Q I h;exact cQ (hi af s σ H _ I h) λiv s1 ⟨y,H1,I1,ry,q1⟩=>cQ (ho af s1 σ H1 _ I1 q1) λu s2 ⟨x,H2,I2,rx,a,ov,ex,g,q2⟩=> ?_;subst ex;obtain rfl:u=Value.ref a:=rx;show Ol hu I2 g ry λs3 I3=>#[.bl (!ov.isSome),H2,I3,rfl,q2]
def mQ (hu:X.A.units+1<cLine)(ho:PE X o td)(hi:PE X i ty)(hv:PE X value tv)(hs:swapsWith value (some (.Subscript o i jA)) pos.line X.env=pure false): PS X (.Assign [.Subscript o i jA] value pos) (Pr td ty tv):=by intro af s σ H D I h;exact wpAny_Assign_Subscript (cQ (hv af s σ H _ I h) λr s1 ⟨v,H1,I1,rv,q1⟩=>cQ (ho af s1 σ H1 _ I1 q1) λu s2 ⟨x,H2,I2,rx,q2⟩=>cQ (hi af s2 σ H2 _ I2 q2) λiv s3 ⟨y,H3,I3,ry,a,H4,ex,g,q3⟩=> ?_) hs;subst ex;obtain rfl:u=Value.ref a:=rx;show GK hu I3 g ry rv λs4 I4=>#[σ,H4,I4,q3]
def MF (ho:PE X o td)(hi:PE X i ty):PS X (.Delete [.Subscript o i VM] pos) (Ps td ty):=by intro af s σ H D I h;exact wpAny_Delete (wpAny_deleteEach_cons (wpAny_delete_Subscript (cQ (ho af s σ H _ I h) λu s1 ⟨x,H1,I1,rx,q1⟩=>cQ (hi af s1 σ H1 _ I1 q1) λiv s2 ⟨y,H2,I2,ry,a,kvs,k,ex,e,ey,l,q2⟩=> ?_)));subst ex ey;obtain rfl:u=Value.ref a:=rx;show GN I2 e ry l λs3 I3=>wpAny_deleteEach_nil #[σ,_,I3,q2]
theorem KA (h:Heap)(hb:sysModules<h.objs.size):dX P w H (h.push {cls:= .type "dict",data:= .dict #[]}) h.objs.size (.dK []):=#[dc _,beq_eq_false_iff_ne.mpr (cX (bu hb)),[], .nil,Heap.DictOf.new h]
def HP:TE:=λ_ H Q=> ∀p,H p=none ->Q (.ref p) (cf H p (.dK []))
theorem gv:PE X (.Dict [] [] pos) HP:=λaf s σ H Q I h=>wpAny_Dict_empty #[.ref s.heap.objs.size,_,I.laid (a:=s.heap.objs.size) (o:= .dK []) (t':=s.toks) (λ_ _ q=>av _ q) (aq _) (KA s.heap I.big),rfl,h _ (I.cH.fresh (aq _))]
structure M1 (X:Cx)(o:Expr)(m:Str)(dD:Pos)(e:Expr)(dE:Pos):Prop where
 base:attributeBase o m X.env (eval o X.env)=eval o X.env
 CJ:((backTo dE (starEach [e] X.env)).all (λx=> !x.1) && (backToKw dE (keywordEach [] X.env)).all (λx=>x.1.isSome) && decide (([e]:List Expr).length+([]:List Keyword).length+(if([]:List Keyword).isEmpty then 0 else 1) <30))=true
 line:(dD.endLine==dE.line)=true
 trees:backTo dE (starEach [e] X.env)= [(false,eval e X.env)]
structure M2 (X:Cx)(o:Expr)(m:Str)(dD:Pos)(e f:Expr)(dE:Pos):Prop where
 base:attributeBase o m X.env (eval o X.env)=eval o X.env
 CJ:((backTo dE (starEach [e,f] X.env)).all (λx=> !x.1) && (backToKw dE (keywordEach [] X.env)).all (λx=>x.1.isSome) && decide (([e,f]:List Expr).length+([]:List Keyword).length+(if([]:List Keyword).isEmpty then 0 else 1) <30))=true
 line:(dD.endLine==dE.line)=true
 trees:backTo dE (starEach [e,f] X.env)= [(false,eval e X.env),(false,eval f X.env)]
def IsD (H:Hp)(a:fM):Prop:=(∃kvs,Rd H a (.dK kvs)) \/ ∃kvs,Rd H a (.dT kvs)
def Cz {σ:St}(I:Inv X af σ H s)(d:IsD H a): s.TypeIs (.ref a) "dict" /\ (∀b,Value.ref a= .ref b -> ∃ob,s.heap.get? b=some ob /\ ob.dict=none) /\ (a==sysModules)=false:=by
 rcases d with⟨kvs,e⟩ | ⟨kvs,e⟩
 let⟨_,hd,vs,_,dd⟩:=pJ I.cH e;exact#[dd.typeIs,λb q=> ?_,hd];cases q;let⟨ob,_,_,h1,h2,_⟩:=dd;show#[ob,h1,h2.2.1];let⟨_,hd,xs,_,dd⟩:=vm I.cH e;exact#[dd.typeIs,λb q=> ?_,hd];cases q;let⟨ob,_,_,h1,h2,_⟩:=dd;show#[ob,h1,h2.2.1]
def Ua {σ:St}(hu:A.units+1<cLine)(I:Inv X af σ H s)(g:mZ H a y o)(ry:RelV y u)(rd:RelV d r)(h: ∀w' s',Inv X af σ H s' ->RelV (o.getD d) w' ->Q w' s'): wpAny (model X.prog X.w) A (call (.builtin "dict.get") [.ref a,u,r]) Q E s:=by
 rcases g with⟨kvs,k,e,ey,l⟩ | ⟨kvs,k,b,e,ey,eb,l⟩
 subst ey;let⟨z,hd,vs,gc,dd⟩:=pJ I.cH e;exact call_meetsIn PySem.F.slot_dict_get dd.typeIs PySem.F.entry_dict_get (PySem.F.args_dict_get_3 _ _ _) (meets_dict_get_default (cJ X.prog X.w) a (rH ry) hd r) #[_,dd.mapOf,h _ _ (I.tok _) ?_];rw[l];show(gc.val k).getD rd;subst ey;cases (show u=Value.ref b from ry);let⟨z,hd,xs,gc,dd⟩:=vm I.cH e;exact call_meetsIn PySem.F.slot_dict_get dd.typeIs PySem.F.entry_dict_get (PySem.F.args_dict_get_3 _ _ _) (meetsH_dict_get_default (tupleKind (cJ X.prog X.w)) a b hd r) #[tupleKind_room_in1 hu,k,xs,qz I.cH eb,dd,h _ _ (I.tok _) ?_];rw[l];show(gc.val k).getD rd
def HR (td ty tx:TE):TE:=λσ H Q=>td σ H λx H1=> ∃a,cW (x= .ref a) (IsD H1 a) (ty σ H1 λy H2=>tx σ H2 λz H3=> ∃o,mZ H3 a y o /\ Q (o.getD z) H3)
def HN (td ty:TE):TE:=λσ H Q=>td σ H λx H1=> ∃a,cW (x= .ref a) (IsD H1 a) (ty σ H1 λy H2=>eh λkvs k v=>fg (H2 a=some (.dK kvs)) (y=kV k) (iV kvs k=some v) (Q v (cf H2 a (.dK (mj kvs k)))))
def Ac (hu:X.A.units+1<cLine)(ho:PE X o td)(he:PE X e ty)(hf:PE X f tx)(m:M2 X o "get" dD e f dE):PE X (.Call (.Attribute o "get" dD) [e,f] [] dE) (HR td ty tx):=by intro af s σ H Q I h;exact wpAny_Call_method m.base m.CJ m.line PySem.F.plainAttrs_dict PySem.F.slot_dict_get PySem.F.type_dict_get (cQ (ho af s σ H _ I h) λu s1 ⟨x,H1,I1,rx,a,ex,d,q1⟩=> ?_);subst ex;obtain rfl:u=Value.ref a:=rx;let⟨t1,t2,_⟩:=Cz I1 d;exact#[t1,t2,?_];rw[m.trees];exact Calls.callWith_builtin rfl (Calls.evalArgs_plain (Calls.spliced_cons (cQ (he af s1 σ H1 _ I1 q1) λiv s2 ⟨y,H2,I2,ry,q2⟩=>Calls.spliced_cons (cQ (hf af s2 σ H2 _ I2 q2) λfv s3 ⟨z,H3,I3,rz,ov,g,q3⟩=>Calls.spliced_nil ?_))));show Ua hu I3 g ry rz λw' s4 I4 vY=>#[_,H3,I4,vY,q3]
def Ab (ho:PE X o td)(he:PE X e ty)(m:M1 X o "pop" dD e dE):PE X (.Call (.Attribute o "pop" dD) [e] [] dE) (HN td ty):=by intro af s σ H Q I h;exact wpAny_Call_method m.base m.CJ m.line PySem.F.plainAttrs_dict PySem.F.slot_dict_pop PySem.F.type_dict_pop (cQ (ho af s σ H _ I h) λu s1 ⟨x,H1,I1,rx,a,ex,d,q1⟩=> ?_);subst ex;obtain rfl:u=Value.ref a:=rx;let⟨t1,t2,_⟩:=Cz I1 d;exact#[t1,t2,?_];rw[m.trees];exact Calls.callWith_builtin rfl (Calls.evalArgs_plain (Calls.spliced_cons (cQ (he af s1 σ H1 _ I1 q1) λiv s2 ⟨y,H2,I2,ry,kvs,k,v,ea,ey,l,q2⟩=>Calls.spliced_nil ?_)));subst ey;show YA I2 ea ry l (.inl rfl) λw' s3 I3 vY=>#[v,_,I3,vY,q2]
end L2
namespace Att
open PySem PySem.W PySem.Calls PyProof.Rows
def sL: ∀ (ns:cA Int) (vs:cA c5),WellAll P h vs (ns.map WData.int) ->IntsAre vs ns:=by
 intro ns;induction ns with
 | nil=>intro vs w;rw[List.map_nil] at w;cases w;show .nil
 | cons n ns ih=>
  intro vs w;rw[aT] at w;cases w with
  | cons a b=>cases a;show .cons _ _ (ih _ b)
def FM {l:OpenLaw}(hn:l.most=some n)(NT:l.row.toRowW.claim.pre args=true)(hwl:WellAll P h vals args): eh λa vs ns=>f_ (vals= [Value.ref a]) (args= [WData.list (ns.map WData.int)]) (h.get? a=some {cls:= .type "list",data:= .seq vs.toArray}) (IntsAre vs ns) (ns.length<=n):=by
 have hsh:WShape.hasAll [] args [.list .int]=true:=(pre_splitW NT).1;have hc:l.pre.holds [] {args:=args}=true:=(pre_splitW NT).2;let⟨d,r,rfl,h1,h2⟩:=hasAllW_cons hsh;obtain rfl:=hasAllW_nil h2;let⟨xs,rfl,h3⟩:=hasW_list h1;let⟨ns,rfl⟩:=items_int h3;have dO:ns.length<=n:=by
  unfold OpenLaw.pre at hc;have h4:(WTm.not (.lt (.lit (.int (n:Int))) (.len (.arg 0)))).holds [] {args:= [.list (ns.map .int)]}=true:=by have h4:=(holds_andW hc).1;rw[hn] at h4;show h4
  have h5:=condW_of h4 (w_not (w_lt w_lit (w_len_list (w_arg rfl))));rw[ag] at h5;exact Nat.le_of_not_lt λq=> ?_;have q':(n:Int) < ((ns.length:Nat):Int):= ∅;first
  | (rw[bh q'] at h5;show absurd h5 ⋯)
  | (simp at h5;lia)
 cases hwl with
 | cons w1 w2=>
  cases w2;cases w1 with
  | list ho wt=>show#[_,_,ns,rfl,rfl,ho,sL ns _ wt,dO]
theorem FS (l:OpenLaw)(args:cA WData):l.row.toRowW.claim.post args (.bool true) args=true:=postW_of (r:=l.row.toRowW) (X:=(true==true)) (show WShape.has [] (.bool true) .bool=true by first | rfl | decide | simp[WShape.has,WShape.arms,WShape.armsAll]) (show(WTm.eq .res (.lit (.bool true))).value [] {args:=args,res:=some (.bool true),after:=args}=some (.bool (true==true)) from w_eq_bool (w_res rfl) w_lit) rfl
def Bi {l:OpenLaw}(hn:l.most=some n)(Tz:d.params.defaults= [])(call: ∀ (w:World) (s₀ s₁:dq) (mg mb:Str ->eM c5) (fa:fM) (o:Obj) (pm cd jj:c5) (a:fM) (vs:cA c5) (ns:cA Int),Ground q xb [] XP w s₀ mg mb s₁.heap ->YP w s₁.heap ->s₁.heap.get? fa=some o ->o.data= .func (docDef d.name d.params d.body d.scope pm cd jj) ->s₁.heap.CodeRec cd d.name ->mg d.name=some (.ref fa) ->s₁.heap.get? a=some {cls:= .type "list",data:= .seq vs.toArray} ->IntsAre vs ns ->ns.length<=n ->s₁.gens= #[] ->codeAny (model l.prog w) callerA (.call (.ref fa) #[[.ref a],[]]) (λr s'=>r= .ok (.ret (.bool true)) /\ OldK s₁.heap s'.heap /\ s'.os=s₁.os /\ AllBare s'.gens) s₁): WalkO q xb XP YP l.row.toRowW d [] (λf vs=>PySem.call f vs):=by intro w s₀ s₁ mg mb G Y fa o pm cd jj dV kV ho hd ES hD hmg hg args vals as NT ajJ hrd hwl Tr;obtain rfl:dV= .none:=Dflts.none hD Tz;obtain rfl:kV= .none:=Dflts.noKw hD;let⟨a,vs,ns,rfl,rfl,Tn,J8,dO⟩:=FM hn NT hwl;exact enter_call (codeAny_mono (call w s₀ s₁ mg mb fa o pm cd jj a vs ns G Y ho (fd_plain hd) ES hmg Tn J8 dO hg) λr s' hq=> ?_);let⟨rfl,h2,h3,h4⟩:=hq;show#[.inl #[.bool true, .bool true,[],rfl,λ_=>rfl, .bool true,FS l _,λ_=>#[List.Pairwise.nil,λ_ hm=>(nomatch hm)]],h2,h3,h4]
end Att
namespace L2
open PySem PySem.Spec PyProof.Rows
theorem qa: ∀ {vs:cA c5} {ns:cA Int},IntsAre vs ns ->bW (ns.map V.int) vs
 | _,_, .nil=> .nil
 | _,_, .cons n t h=> .cons #[t,rfl] (qa h)
def Uk (H:Hp):Prop:= ∀b,H b=none \/ ∃o xs,H b=some (.lc o (.lst xs))
def Jt {K:Xu}(KX:K.In s₁.heap)(vU:s₁.heap.Ns mainGlobals mg)(hb:s₁.heap.Ns builtinsNs mb)(hbb: ∀x:Str,x≠ "__name__" ->mb x=bootBuiltins x)(abP:s₁.heap.NoLimit)(hg:s₁.gens= #[])(ha:s₁.heap.get? a=some {cls:= .type "list",data:= .seq vs.toArray})(hi:IntsAre vs ns)(hl:ns.length<=sizeLine)(hr:d7 k callerA)(F: ∀base:Heap,K.In base ->base.Ns mainGlobals mg ->bD P w K mg base CX k fa fd [x] sp)(Yf: ∀ (s:dq) (u:c5),BindsTo s fd #[[u],[]] [(x,u)])(BD: ∀H:Hp,Uk H ->gY K H a (ns.map V.int) ->sp [.ref a] H (λv _=>v= .bl true) λ_ _ _=>False)(hCX: ∀H e s',CX [] H s₁ (λ_ _ _=>False) e s' ->False): codeAny (model P w) callerA (.call (.ref fa) #[[.ref a],[]]) (λr s'=>r= .ok (.ret (.bool true)) /\ OldK s₁.heap s'.heap /\ s'.os=s₁.os /\ AllBare s'.gens) s₁:=by
 have rv:=qa hi;have aa':=hi.length;have core : ∀H:Hp,Uk H ->gY K H a (ns.map V.int) ->mJ P w H s₁.heap ->(∀b,H b≠none ->b=a) ->(H a≠none ->K.lookup a=none) ->codeAny (model P w) callerA (.call (.ref fa) #[[.ref a],[]]) (λr s'=>r= .ok (.ret (.bool true)) /\ OldK s₁.heap s'.heap /\ s'.os=s₁.os /\ AllBare s'.gens) s₁:=by
  intro H hO hS cH hA hK;have Fn: ∀ {b:fM} {o:Obj},s₁.heap.get? b=some o ->H b=none ->(yT s₁.heap H).get? b=some o:=λe n=>J9 e n;have PX: ∀ {b:fM} {o:Obj} {es:gA DictEntry} {ep:Nat},s₁.heap.get? b=some o ->o.data= .dict es ep ->H b=none:=λ{b o es ep} e d=>by
   cases q:H b with
   | none=>rfl
   | some u=>have e':b=a:=hA b (by rw[q];simp);subst e';rw[ha] at e;cases e;have d':Data.seq vs.toArray _=Data.dict es ep:=d;cases d'
  have ZZ: ∀ {b:fM} {m:Str ->eM c5},s₁.heap.Ns b m ->(yT s₁.heap H).Ns b m:=λ{b m} ⟨o,es,ep,e,d,r⟩=>#[o,es,ep,Fn e (PX e d),d,r]
  have hKb:K.In (yT s₁.heap H):=λb o e=>Fn (KX b o e) (by
   cases q:H b with
   | none=>rfl
   | some u=>have e':b=a:=hA b (by rw[q];simp);subst e';rw[hK (by rw[q];simp)] at e;cases e)
  have hM:Mod K mg (yT s₁.heap H):=#[hKb,ZZ vU,#[mb,ZZ hb,hbb],let ⟨mc,h1,h2⟩:=abP;#[mc,ZZ h1,h2]]
  have e0:Dd P w K mg (yT s₁.heap H) callerA [] s₁ H:=#[rfl,hM,λb o e=>Ni e,Nat.le_of_eq (GB _ _),trivial,λb hb=>absurd (show b∈([]:cA fM) from hb) (by simp),cH, .of_eq hg]
  exact codeAny_mono ((F _ hKb (ZZ vU)).run callerA [] s₁ H #[[.ref a],[]] [.ref a] [.ref a] _ _ hr e0 (Yf s₁ (.ref a)) (.cons rfl .nil) (BD H hO hS)) λr s' h=> ?_;cases r with
  | error e=>show(hCX H e s' h).elim
  | ok fl =>
   cases fl with
   | next=>show False.elim h
   | brk=>show False.elim h
   | cont=>show False.elim h
   | ret u=>
    let⟨v,H',os,bare,un,abK,r',q⟩:=h;have q':v= .bl true:=q;subst q';obtain rfl:u=Value.bool true:=r';exact#[rfl,OldK.of_keep λb o e=> ?_,os,bare];cases q:H b with
    | none=>show un.keep b o e q (by intro z;show absurd (show b∈([]:cA fM) from z) (by simp)) (by simp)
    | some u=>obtain z | ⟨ob,xs,z⟩:=hO b;rw[q] at z;cases z;have z2:=un.lX b ob _ z;let⟨e1,_⟩:=cH b _ z;let⟨e2,_⟩:=abK b _ z2;rw[e] at e1;cases e1;show e2
 cases hk:K.lookup a with
 | some o=>have e:=KX a o hk;rw[ha] at e;cases e;exact core (λ_=>none) (λ_=> .inl rfl) (.inr #[_,vs.toArray,_,hk,rfl,rfl,rfl,by rw[aI,aa'];show hl, ⇑rv]) (λb u z=>by have z':(none:eM HO)=some u:=z;cases z') (λb z=>absurd rfl z) λz=>absurd rfl z
 | none=>exact core (λb=>if b=a then some (.lc {cls:= .type "list",data:= .seq vs.toArray} (.lst (ns.map V.int))) else none) (λb=> ?_) (.inl (.inr #[{cls:= .type "list",data:= .seq vs.toArray},am rfl])) (λb u z=> ?_) (λb z=> ?_) λ_=>hk;by_cases hb:b=a;show .inr #[_,_,am hb];show .inl (ak hb);by_cases hb:b=a;have z':=(am hb).symm.trans z;cases z';subst hb;show#[ha,by rw[ag];show hl,vs,_,rv,ha];have z':=(ak hb).symm.trans z;cases z';by_cases hb:b=a;show hb;show absurd (ak hb) z
def L_ {l:W.OpenLaw}{K:Params ->Xu}{CX:World ->BH}{sp:World ->Sp}(hn:l.most=some n)(GA:n<=sizeLine)(Tz:d.params.defaults= [])(hr:d7 k callerA)(hY: ∀ (w:World) (h:Heap),YP w h ->(K w.params).In h)(F : ∀ (w:World) (mg:Str ->eM c5) (fa:fM) (h:Heap),(K w.params).In h ->h.Ns mainGlobals mg ->mg d.name=some (.ref fa) ->∃ fd:FuncData,(∀ (s:dq) (u:c5),BindsTo s fd #[[u],[]] [(x,u)]) /\∀base:Heap,(K w.params).In base ->base.Ns mainGlobals mg ->bD l.prog w (K w.params) mg base (CX w) k fa fd [x] (sp w))(BD: ∀ (w:World) (H:Hp) (a:fM) (ns:cA Int),ns.length<=n ->Uk H ->gY (K w.params) H a (ns.map V.int) ->sp w [.ref a] H (λv _=>v= .bl true) λ_ _ _=>False)(hCX: ∀ (w:World) (H:Hp) (s:dq) (e:c5) (s':dq),CX w [] H s (λ_ _ _=>False) e s' ->False): W.WalkO q xb XP YP l.row.toRowW d [] (λf vs=>PySem.call f vs):=by exact Att.Bi hn Tz λw s₀ s₁ mg mb fa o pm cd jj a vs ns G Y ho hd ES hmg Tn J8 dO hg=> ?_;have KX:=hY w _ Y;let⟨fd,hb,hF⟩:=F w mg fa _ KX G.T.g hmg;show Jt KX G.T.g G.T.b G.T.builtins G.T.nolimit hg Tn J8 (aw dO GA) hr hF hb (λH hO hS=>BD w H a ns dO hO hS) λH e s'=>hCX w H s₁ e s'
nonrec def eX (s:Stmt):Arguments:=match s with
 | .FunctionDef _ a _ _ _ _ _ _ _ _=>a
 | _=> {posonlyargs:= [],args:= [],vararg:=none,kwonlyargs:= [],kw_defaults:= [],kwarg:=none,defaults:= []}
nonrec def dA (s:Stmt):cA Stmt:=match s with
 | .FunctionDef _ _ b _ _ _ _ _ _ _=>b
 | _=> []
nonrec def aU (s:Stmt):Scope:=match s with
 | .FunctionDef _ _ _ _ _ _ sc _ _ _=>sc
 | _=> {kind:= .function,names:= [],isGenerator:=false,isCoroutine:=false}
abbrev fh:BH:=λ_ _ _ _ _ _=>False
abbrev E0:XK:=λ_ _ _=>False
theorem Eg:gU fh X E0:=λ_ _ _ _ _ _ _ h=>h.elim
structure Bp (K:PySem.W.Frag)(x qual:Str)(st:Stmt)(f:Addr)(fd:FuncData):Prop where
 ex:XE8 λ(oc:Value) (od:Option Addr) (kV jj pm:Value) (an:Option Addr) (cdv ct:Value)=> ∃ (Cd:Array (Option Value)),cW (fd=PySem.W.fnOf x qual (eX st) (dA st) (aU st) .none kV jj pm an cdv ct) (K.lookup f=some #[oc,od, .func fd,Cd]) (PySem.W.codeIn K cdv qual=true)
 kp:PySem.W.keepIn K (.ref f)=true
def Bp.ok {K:Xu}{st:Stmt}(F:Bp K x qual st f fd)(S:b_ N ps (aU st))(len: ∀vs H Q E,sp vs H Q E ->vs.length=ps.length)(jH: ∀ (cdv:c5) (A:Around) (outer:cA Env) (s:dq) (H:Hp) (vs:cA V) (Q:VK) (E:XK),d7 k (A.deeper (envOfC qual (aU st) s.heap.objs.size f cdv)) ->sp vs H Q E ->∃t,xO (d9 fh P w K mg base N qual (aU st) f cdv A outer s H E).Gf (dA st) t /\ t {nx:=λ_ H'=>Q .dG H',rt:=Q} (start N vs) H):bD P w K mg base fh (k+1) f fd ps sp:=by let⟨oc,od,kV,jj,pm,an,cdv,ct,Cd,rfl,lk,ES⟩:=F.ex;exact QC lk ES S len λA outer s H vs Q E hr BD=> ?_;let⟨t,h,q⟩:=jH cdv A outer s H vs Q E hr BD;show#[t,h.Gf,q]
def Bp.binds {K:Xu}{st:Stmt}(F:Bp K x qual st f fd)(h: ∀ (kV jj pm:c5) (an:eM fM) (cdv ct:c5) (us:cA c5),us.length=ps.length ->bindArgs (W.fnOf x qual (eX st) (dA st) (aU st) .none kV jj pm an cdv ct) #[us,[]]=pure (ps.zip us)):Binds K fd ps []:=by let⟨oc,od,kV,jj,pm,an,cdv,ct,Cd,rfl,lk,ES⟩:=F.ex;show .all (h kV jj pm an cdv ct)
theorem qR {K:Xu}{st:Stmt}{kV jj pm cdv ct:c5}(l:K.lookup f=some #[oc,od, .func (W.fnOf x qual (eX st) (dA st) (aU st) .none kV jj pm an cdv ct),Cd])(c:W.codeIn K cdv qual=true)(k:W.keepIn K (.ref f)=true):Bp K x qual st f (W.fnOf x qual (eX st) (dA st) (aU st) .none kV jj pm an cdv ct):=#[#[oc,od,kV,jj,pm,an,cdv,ct,Cd,rfl,l,c],k]
theorem dW (hr:d7 k A):A.units+1<cLine:=Nat.lt_of_le_of_lt (Nat.add_le_add_left (by decide:1<=64) _) hr.units
theorem pv {X:Cx}(i:Nat){pos:Pos}(hN:X.N[i]? =some x:=by rfl)(hv:YQ X.env.scope x:=by first | show Or.inl rfl | show Or.inr (Or.inl rfl) | show Or.inr (Or.inr rfl))(hd:(x==("__debug__" :Str))=false:=by decide)(ES:(x==("__classdict__" :Str))=false:=by decide):PE X (.Name x pos) (Mr i):=RU hN hv hd ES
def fF (H H':Hp):Prop:= ∀b o,H b=some o ->H' b=some o
section
variable {κ:Type} [DecidableEq κ]
theorem En: ∀ {l:cA κ} {k:κ},l.Nodup ->¬k∈l ->(l++ [k]).Nodup
 | [],k,_,_=>by simp
 | a::r,k,h,hk=>by let⟨h1,h2⟩:=List.nodup_cons.mp h;change(a::(r++ [k])).Nodup;exact List.nodup_cons.mpr #[λm=> ?_,En h2 λm=>hk (aS.mpr (Or.inr m))];obtain q | q:=a8.mp m;show h1 q;show hk (aS.mpr (Or.inl (aV.mp q).symm))
end
def cM {α:Type}{c:α}{l:cA (Str×α)}:((y,c)::l).lookup x=if x=y then some c else l.lookup x:=by by_cases h:x=y;subst h;simp[List.lookup_cons];rw[ak h,List.lookup_cons];have:(x==y)=false:= ⇑h;rw[this]
theorem j5 {env:Env}: ∀ (names:cA (Str×NameKind)) (fV:cA (Str×fM)),(∀y∈names,y.2= .free -> ∃c,env.cells.lookup y.1=some c) ->(∀x c,fV.lookup x=some c ->env.cells.lookup x=some c) ->∃cl,fg ((forIn names fV λx s=>if(x.snd==NameKind.free)=true then(do let c <- cellOf env x.fst;pure (ForInStep.yield ((x.fst,c)::s)):Sem _) else pure (ForInStep.yield s))=(pure cl:Sem (cA (Str×fM)))) (∀x c,cl.lookup x=some c ->env.cells.lookup x=some c) (∀x,(fV.lookup x).isSome=true ->(cl.lookup x).isSome=true) (∀y∈names,y.2= .free ->(cl.lookup y.1).isSome=true)
 | [],fV,_,h2=>#[fV,rfl,h2,λ_ h=>h,λ_ h=>absurd h (by simp)]
 | (n, k)::r,fV,h1,h2=>by
  by_cases hk:k=NameKind.free;subst hk;let⟨c,hc⟩:=h1 (n, .free) List.mem_cons_self rfl;have Qx: ∀x c',((n,c)::fV).lookup x=some c' ->env.cells.lookup x=some c':=λx c' e=>by rw[cM] at e;by_cases hx:x=n;rw[am hx] at e;cases e;rw[hx];show hc;rw[ak hx] at e;show h2 x c' e
  let⟨cl,e1,e2,e3,e4⟩:=j5 r ((n,c)::fV) (λy hy=>h1 y (df _ hy)) Qx;exact#[cl,?_,e2,λx hx=>e3 x ?_,λy hy hf=> ?_];rw[List.forIn_cons];have:cellOf env n=pure c:=by unfold cellOf;rw[hc]
  simp![beq_self_eq_true,bV,this,pure_bind];show e1;rw[cM];by_cases XD:x=n;rw[am XD];rfl;rw[ak XD];show hx;obtain rfl | hy:=aS.mp hy;exact e3 n ?_;rw[cM,am rfl];rfl;show e4 y hy hf;let⟨cl,e1,e2,e3,e4⟩:=j5 r fV (λy hy=>h1 y (df _ hy)) h2;exact#[cl,?_,e2,e3,λy hy hf=> ?_];rw[List.forIn_cons];have:(k==NameKind.free)=false:= ⇑hk;simp![this,aA,bC,pure_bind];show e1;obtain rfl | hy:=aS.mp hy;show absurd hf hk;show e4 y hy hf
def vz (h: ∀y∈scope.names,y.2= .free -> ∃c,env.cells.lookup y.1=some c): ∃cl,cW (closureFor scope env=pure cl) (∀x c,cl.lookup x=some c ->env.cells.lookup x=some c) (∀y∈scope.names,y.2= .free ->(cl.lookup y.1).isSome=true):=by let⟨cl,e1,e2,_,e4⟩:=j5 scope.names [] h (λ_ _ e=>by simp at e);exact#[cl,?_,e2,e4];simp![closureFor];rw[e1,pure_bind]
theorem iG {env:Env}: ∀ {names:cA (Str×NameKind)} {x:Str} {k:NameKind},(names.map λ(n,k)=>if(k==NameKind.free && env.scope.kind== .function && env.kindOf n==some .cell) then(n,NameKind.cell) else(n,k)).lookup x=some k ->names.lookup x=some k \/ (k= .cell /\ names.lookup x=some .free)
 | [],_,_,h=>by simp at h
 | (n, j)::r,x,k,h=>by
  have ih:= @iG env r x k;rw[aT] at h;by_cases hc:(j==NameKind.free && env.scope.kind== .function && env.kindOf n==some .cell)=true;simp![hc,bV] at h;rw[cM] at h;rw[cM];by_cases hx:x=n;rw[am hx] at h ⊢;cases h;have hj:j=NameKind.free:=by rw[cP,cP] at hc;show eq_of_beq hc.1.1
  show .inr #[rfl,by rw[hj]];rw[ak hx] at h ⊢;show ih h;simp![hc,aA,bC] at h;rw[cM] at h;rw[cM];by_cases hx:x=n;rw[am hx] at h ⊢;show .inl h;rw[ak hx] at h ⊢;show ih h
theorem gX {env:Env}: ∀ {names:cA (Str×NameKind)} {x:Str},names.lookup x=some .free ->(names.map λ(n,k)=>if(k==NameKind.free && env.scope.kind== .function && env.kindOf n==some .cell) then(n,NameKind.cell) else(n,k)).lookup x=some .cell \/(names.map λ(n,k)=>if(k==NameKind.free && env.scope.kind== .function && env.kindOf n==some .cell) then(n,NameKind.cell) else(n,k)).lookup x=some .free
 | [],_,h=>by simp at h
 | (n,j)::r,x,h=>by have ih:= @gX env r x;rw[aT];rw[cM] at h;by_cases hc:(j==NameKind.free && env.scope.kind== .function && env.kindOf n==some .cell)=true;simp![hc,bV];rw[cM];by_cases hx:x=n;rw[am hx];show .inl rfl;rw[ak hx] at h ⊢;show ih h;simp![hc,aA,bC];rw[cM];by_cases hx:x=n;rw[am hx] at h ⊢;cases h;show .inr rfl;rw[ak hx] at h ⊢;show ih h
abbrev bR (X:Cx)(N':cA Str)(scope:Scope)(cl:cA (Str×fM))(fp:cA fM)(s3:dq)(H3:Hp):Cx:={X with N:=N',s₀:=s3,H₀:=H3,env:=compEnvC scope cl s3.heap.objs.size X.env,outer:=X.stack,stack:=X.stack,ex:=fp,fn:=λ_=>false,pn:= [],xe:=λ_ _=>False}
def k7 (own:Nat)(fr:cA Nat)(σ:St):St:=List.replicate own none++fr.map λj=>(σ[j]?).join
structure dh (X:Cx)(own:List Str)(fr:List Nat)(N':List Str)(scope:Scope):Prop where
 kind:scope.kind= .function
 names:N'=own++fr.filterMap (λj=>X.N[j]?)
 len:N'.length=own.length+fr.length
 nd:N'.Nodup
 uL: ∀y∈scope.names,y.2≠ .cell
 loc: ∀y∈scope.names,y.2= .local ->scope.names.lookup y.1=some .local
 UY: ∀x∈fr.filterMap (λj=>X.N[j]?),scope.names.lookup x=some .free
 free: ∀y∈scope.names,y.2= .free ->X.env.kindOf y.1=some .cell \/ X.env.kindOf y.1=some .free
theorem pz {N:cA Str}: ∀ {fr:cA Nat} {k:Nat} {x:Str},(fr.filterMap (λj=>N[j]?)).length=fr.length ->(fr.filterMap (λj=>N[j]?))[k]? =some x -> ∃j,fr[k]? =some j /\ N[j]? =some x
 | [],_,_,_,e=>by simp at e
 | j ::r,k,x,hl,e=>by
  cases hj:N[j]? with
  | none=>rw[List.filterMap_cons,hj] at hl;have:=List.length_filterMap_le (λj=>N[j]?) r;simp![aQ] at hl;lia
  | some y=>
   rw[List.filterMap_cons,hj] at hl e;simp![aQ,Nat.add_right_cancel_iff] at hl;cases k with
   | zero=>simp at e;show#[j,by simp,by rw[hj,e]]
   | succ k=>show pz (k:=k) hl ⇑e
def AB {σ:St}{fp:cA fM}(S:dh X own fr N' scope)(I:Inv X af σ H s)(kz: ∀x c,cl.lookup x=some c ->X.env.cells.lookup x=some c)(wq: ∀y∈scope.names,y.2= .free ->(cl.lookup y.1).isSome=true)(AI: ∀b∈fp,k_ X af H b)(hft: ∀b∈fp,b<s.heap.objs.size)(vU:h'.Ns s.heap.objs.size (λ_=>none))(hk: ∀b o,s.heap.get? b=some o ->h'.get? b=some o): Inv (bR X N' scope cl fp s H) [] (k7 own.length fr σ) H {s with heap:=h',toks:=t}:=by
 have look: ∀x,(compEnvC scope cl s.heap.objs.size X.env).kindOf x=(relabel scope X.env).names.lookup x:=λ_=>rfl
 have Yo:(fr.filterMap (λj=>X.N[j]?)).length=fr.length:=by have:=S.len;rw[S.names,aD] at this;lia
 exact#[#[I.ok.mod,?_,I.ok.glob,I.ok.blt,aq _,λx y c e1 e2=>I.ok.inj x y c (kz _ _ e1) (kz _ _ e2),λx hx=> ?_,(λx c z _=>nomatch z),I.ok.hd,I.ok.frames, .inl rfl,λb hb=>#[?_,λx c e=>(AI b hb).2.2.2.2.1 x c (kz x c e)],I.bs,aw I.ok.K5 I.sz,λb o e hb=> ?_,λb hb hz=> ?_,I.stack,I.tI],
  rfl,I.bare,Un.kept hk,#[_,vU,λi x v e1 e2 e3=> ?_],λx c e=> ?_,I.cH.fresh (aq _),λx c e=>I.gf x c (kz x c e),λp hp=>absurd (show p∈([]:cA (fM×Obj)) from hp) (by simp),I.cH.kept hk,?_]
 change(relabel scope X.env).kind=_
 show S.kind
 have XD:scope.names.lookup x=some .free:=by obtain hx | hx:=hx;obtain q | ⟨_,q⟩:=iG hx;show absurd rfl (S.uL _ (dt q));show q;obtain q | ⟨q,_⟩:=iG hx;show q;cases q
 show cZ.mp (wq _ (dt XD) rfl)
 show bu (hft b hb)
 obtain z | z:=(AI b hb).2.2.2.1
 show I.ok.Gg b o e z
 show absurd (be (aN e) (aw I.ok.K5 z)) (Nat.lt_irrefl _)
 obtain q | q:=aS.mp (I.yc b hz)
 show(AI b hb).2.1 q
 show(AI b hb).2.2.1 q
 -- a aa7 value
 have e1:(own++fr.filterMap (λj=>X.N[j]?))[i]? =some x:=by rw[<- S.names];show e1
 unfold k7 at e2
 by_cases hi:i<own.length
 rw[br ⇑hi,dg,am hi] at e2
 cases e2
 rw [a9 ⇑hi,List.length_replicate] at e2
 rw[a9 ⇑hi] at e1
 let⟨j,ej,ex⟩:=pz Yo e1
 rw[aL,ej] at e2
 have e2:(σ[j]?).join=some v:= ⇑e2
 have e2':σ[j]? =some (some v):=by
  cases q:σ[j]? with
  | none=>rw[q] at e2;cases e2
  | some w=>rw[q] at e2;simp at e2;rw[e2]
 have hf:=S.UY x (a_ e1)
 have hm:=dt hf
 let⟨m,_,hl⟩:=I.loc
 have vis:YQ X.env.scope x:=by obtain q | q:=S.free _ hm rfl;show .inr (.inl q);show .inr (.inr q)
 let⟨u,r,l⟩:=hl j x v ex e2' vis
 exact#[u,r, .inr #[?_,?_]]
 show gX hf
 rcases l with⟨k,_⟩ | ⟨_,c,ec,z⟩
 obtain q | q:=S.free _ hm rfl
 rw[k] at q;cases q
 rw[k] at q;cases q
 let⟨c',ec'⟩:=cZ.mp (wq _ hm rfl)
 have:=kz _ _ ec'
 rw[ec] at this
 cases this
 show#[c,ec',z.keeps hk]
 let⟨v,z⟩:=I.cell x c (kz x c e)
 show#[v,z.keeps hk]
 change(k7 own.length fr σ).length=N'.length
 unfold k7
 rw[aD,List.length_replicate,ag,S.len]
def QN (X:Cx)(cs:cA Expr)(t:TT):Prop:=∀ (af:cA (fM×Obj)) (s:dq) (σ:St) (H:Hp) (Q:Bool ->Hp ->Prop),Inv X af σ H s ->t σ H Q ->wpAny (model X.prog X.w) X.A (forIn cs true λc r=>if r=true then do let ok <- isTrue c X.env (eval c X.env);pure (ForInStep.yield ok) else pure (ForInStep.yield r)) (TP X af σ Q) X.xe s
def VQ:TT:=λ_ H Q=>Q true H
theorem dP:QN X [] VQ:=λaf s σ H Q I h=>wpAny_tests_nil #[H,I,h]
theorem tK (h:PT X c t):QN X [c] t:=λaf s σ H Q I q=>wpAny_tests_one (h af s σ H Q I q)
theorem GR (I:Nat ->dq ->Prop)(turn : ∀n s,I n s ->wpAny (model prog w) A (pyNext it) (λr s₁=>match r with
   | none=>R (.ok .next) s₁
   | some v=>wpAny (model prog w) A (letOwnedTupleGo qe it v) (λ_ s₀=>wpAny (model prog w) A (assign qe env v) (λ_ s₂=>
    wpAny (model prog w) A (forIn iY true λc r=>if r=true then do let ok <- isTrue c env (eval c env);pure (ForInStep.yield ok) else pure (ForInStep.yield r)) (λok s₃=>if ok=true then wpAny (model prog w) A (eval iZ env) (λx s₄=>wpAny (model prog w) A (call (.builtin "list.append") [fV,x]) (λ_ s₅=> ∃m,m<n /\ I m s₅) (λ_ _=>False) s₄) (λ_ _=>False) s₃ else ∃m,m<n /\ I m s₃) (λ_ _=>False) s₂)
    (λ_ _=>False) s₀) (λ_ _=>False) s₁) (λ_ _=>False) s)(n:Nat)(h:I n s):codeAny (model prog w) A (.compLoop (.ListComp iZ [#[qe,iter,iY,0]] scope pos) 0 it fV env) R s:=by
 exact codeAny_loop rfl I (λn s hI=> ?_) n h
 change wpAny _ A ((compTurn (.ListComp iZ [#[qe,iter,iY,0]] scope pos) 0 it fV env).onRaise (λx=>do noteFrame x env;theTreesLotGoes x)) _ _ s
 exact wpAny_noted ?_
 rw[compTurn_list]
 exact ax (wpAny_standAt (ax (bw (turn n s hI) (λr s₁ h₁=> ?_) λ_ _ h'=>h'.elim)))
 cases r with
 | none=>show a5 h₁
 | some v=>
  exact ax (bw h₁ (λ_ s₀ XA=> ?_) λ_ _ h'=>h'.elim);exact ax (bw XA (λ_ s₂ h₂=> ?_) λ_ _ h'=>h'.elim);exact ax (bw h₂ (λWZ s₃ h₃=> ?_) λ_ _ h'=>h'.elim);cases WZ with
  | false=>show a5 #[rfl,h₃]
  | true=>show ax (ax (bw h₃ (λx s₄ h₄=>ax (bw h₄ (λ_ s₅ h₅=>a5 (a5 #[rfl,h₅])) λ_ _ h'=>h'.elim)) λ_ _ h'=>h'.elim))
def Wk (σ0 σ2:St):Prop:=σ2.length=σ0.length /\ ∀ (i:Nat) v,σ0[i]? =some (some v) ->σ2[i]? =some (some v)
def OY (own:Nat)(g:TG):Prop:= ∀ (c:St) (v:V) (H:Hp) (Q:St ->Hp ->Prop),g v (List.replicate own none++c) H Q ->g v (List.replicate own none++c) H λσ2 H2=>Wk (List.replicate own none++c) σ2 /\ Q σ2 H2
def eo:OY 1 (lW 0):=by
 intro c v H Q h;exact#[#[by simp,λi u e=> ?_],h];cases i with
 | zero=>simp at e
 | succ i=>simpa using e
def iQ {K:Xu}:OY 2 (Oa K 2 (xq (lW 0) (xq (lW 1) Ob))):=by
 rintro c v H Q ⟨a,xs,e,hs,hl,x,r,rfl,y,r',rfl,rfl,h⟩;exact#[a,_,e,hs,hl,x,_,rfl,y,_,rfl,rfl,#[by simp,λi u e=> ?_],h];match i with
 | 0=>simp at e
 | 1=>simp at e
 | i+2=>simpa using e
def QJ (J:It)(own:Nat)(fr:cA Nat)(g:TG)(tc:TT)(te:TE)(σ:St)(p:fM)(H1:Hp)(Q:VK):Prop:=∃ W :Nat ->Nat ->cA V ->Hp ->Prop,(∃m,W 0 m [] (cf H1 p (.lst []))) /\ ∀i m ys H',W i m ys H' ->H' p=some (.lst ys) /\((J.stop i H' /\ Q (.ref p) H') \/ (J.go i H' /\ ys.length<sizeLine /\ ∀x H2,J.Ut i H' x H2 ->g x (k7 own fr σ) H2 λσ2 H3=>tc σ2 H3 λb H4=>if b=true then te σ2 H4 λy H5=> ∃zs,H5 p=some (.lst zs) /\ zs.length<sizeLine /\ ∃m',m'<m /\ W (i+1) m' (zs++ [y]) (cf H5 p (.lst (zs++ [y]))) else ∃zs m',m'<m /\ W (i+1) m' zs H4))
def Pm (wi:TI)(own:Nat)(fr:cA Nat)(g:TG)(tc:TT)(te:TE):TE:=λσ H Q=>wi σ H λJ H1=> ∀p,H1 p=none ->QJ J own fr g tc te σ p H1 Q
theorem xG {σ:St}{σ':St}(I3:Inv X af σ H s3)(AI: ∀b∈fp,k_ X af H b)(Ic:Inv (bR X N' scope cl fp s3 H) Eb σ' H' s'):Inv X af σ H' s':=I3.K2 (ch:=fp) Ic.os Ic.base Ic.cH Ic.bare λb hb=>#[(AI b hb).2.2.2.1,(AI b hb).2.1,(AI b hb).2.2.2.2.1,(AI b hb).2.2.2.2.2]
def xF {σ:St}{C:fM}{σ':St}(I3:Inv X af σ H s3)(hC:C=s3.heap.objs.size)(J:Inv X af σ' H' s')(hn:H' C=none)(hs:Heap.SameBut C s'.heap h'):Inv X af σ' H' {s' with heap:=h'}:=by subst hC;exact J.turned (t':=s'.toks) (it:=s3.heap.objs.size) (λb o hb e=>hs.extBut b o hb e) hn (Nat.ne_of_gt I3.lt) (.inr I3.sz) (λx c e z=> ?_) λp hp z=> ?_;let⟨v,q⟩:=I3.cell x c e;show absurd q.lt (by rw[z];show Nat.lt_irrefl _);show absurd (aN (I3.pin p hp).1) (by rw[z];show Nat.lt_irrefl _)
def CO {σ:St}{RR:c5 ->fM ->Result ->dq ->Prop}(lV:X.calm=true)(S:dh X own fr N' scope)(hg: ∀s3 H3,PG (bR X N' scope cl fp s3 H3) tg g)(hw:OY own.length g)(hc: ∀s3 H3,QN (bR X N' scope cl fp s3 H3) iY tc)(he: ∀s3 H3,PE (bR X N' scope cl fp s3 H3) iZ te)(kz: ∀x c,cl.lookup x=some c ->X.env.cells.lookup x=some c)(wq: ∀y∈scope.names,y.2= .free ->(cl.lookup y.1).isSome=true)(I:Inv X af σ H s)(T:ze X.prog X.w X.K tg J fp it tn)(st:tn 0 s.heap)(AI: ∀b∈fp,k_ X af H b)(h: ∀p,H p=none ->QJ J own.length fr g tc te σ p H Q)(fin: ∀ (s3:dq) (H3:Hp),Inv X af σ H3 s3 ->(∀b∈fp,k_ X af H3 b) -> ∀ (D:fM) (σ':St) (H':Hp) (s':dq) (t:Nat),D<s3.heap.objs.size ->Inv (bR X N' scope cl fp s3 H3) [] σ' H' s' ->Q (.ref D) H' ->RR (.ref D) s3.heap.objs.size (.ok .next) s'): wpAny (model X.prog X.w) X.A (newList []) (λfV s₃=>wpAny (model X.prog X.w) X.A (newFunctionEnv scope X.env.globals cl [] X.env.qual none .none (some X.env)) (λKU s₄=>codeAny (model X.prog X.w) X.A (.compStart (.ListComp iZ [#[tg,iter,iY,0]] scope pos) 0 (.ref it) fV {KU with scope:=relabel scope X.env}) (RR fV KU.locals) s₄) E s₃) E s:=by
 exact wpAny_newObj_type ?_;have hf:H s.heap.objs.size=none:=I.cH.fresh (aq _);let⟨W,⟨m0,w0⟩,turn⟩:=h _ hf;generalize e3:({s with heap:=s.heap.push {cls:= .type "list",dict:=none,data:= .seq ([]:cA c5).toArray}}:dq)=s3;have Rw:s3.heap.objs.size=s.heap.objs.size+1:=by rw[<- e3];show Heap.size_push ..
 have up3: ∀b o,s.heap.get? b=some o ->s3.heap.get? b=some o:=λb o e=>by rw[<- e3];show av _ e
 have I3:Inv X af σ (cf H s.heap.objs.size (.lst [])) s3:=by rw[<- e3];show I.laid (t':=s.toks) (λb u e=>av _ e) (aq _) #[dc _,[],0, .nil,aW _ rfl]
 have TV: ∀b∈fp,b<s.heap.objs.size:=λb hb=>by let⟨o,e,_⟩:=T.obj 0 _ st b hb;show aN e
 have CD: ∀b∈fp,k_ X af (cf H s.heap.objs.size (.lst [])) b:=λb hb=>#[by rw[bL (bu (TV b hb))];show(AI b hb).1,(AI b hb).2]
 exact wpAny_newFunctionEnv S.uL (by intro y hy;simp at hy) (λh₁ Tp Tj=> ?_) S.kind;have old: ∀b o,s3.heap.get? b=some o ->h₁.get? b=some o:=λb o e=>Tj.extBut b o (bu (aN e)) (av _ e);have Ic:=AB (t:=s3.toks+([]:cA (Str×c5)).length) S I3 kz wq CD (λb hb=>by rw[Rw];show Nat.lt_succ_of_lt (TV b hb)) Tp old;have FJ:tn 0 h₁:=T.keep 0 _ _ st λb hb o e=>old b o (up3 b o e);have uj: ∀ {H':Hp},(∀b∈fp,H' b=none) -> ∀b∈fp,k_ (bR X N' scope cl fp s3 (cf H s.heap.objs.size (.lst []))) [] H' b:=λhn b hb=>by exact#[hn b hb,?_,?_, .inl hb,λx c e=>(AI b hb).2.2.2.2.1 x c (kz x c e),λp hp=>absurd (show p∈([]:cA (fM×Obj)) from hp) (by simp)];change b≠s3.heap.objs.size;rw[Rw];show bu (Nat.lt_succ_of_lt (TV b hb));show Ic.ok.CK b hb
 have loop:codeAny (model X.prog X.w) X.A (.compLoop (.ListComp iZ [#[tg,iter,iY,0]] scope pos) 0 (.ref it) (.ref s.heap.objs.size) (compEnvC scope cl s3.heap.objs.size X.env)) (RR (.ref s.heap.objs.size) s3.heap.objs.size) {s3 with heap:=h₁,toks:=s3.toks+([]:cA (Str×c5)).length}:=by
  exact GR (λn s'=>eh λi ys H'=>fg (Inv (bR X N' scope cl fp s3 (cf H s.heap.objs.size (.lst []))) [] (k7 own.length fr σ) H' s') (tn i s'.heap) (∀b∈fp,H' b=none) (W i n ys H')) ?_ m0 #[0,[],_,Ic,FJ,λb hb=>(CD b hb).1,w0];rintro n s4 ⟨i,ys,H4,I4,fS,LZ,w4⟩;let⟨CG,alt⟩:=turn i n ys H4 w4;rcases alt with⟨stop,q⟩ | ⟨go,hsz,step⟩
  .exact cQ (T.done (bR X N' scope cl fp s3 (cf H s.heap.objs.size (.lst []))) rfl rfl rfl lV i [] s4 _ H4 (λ_ _=>False) I4 (uj LZ) fS stop) λr s5 ⟨hr,I5⟩=> ?_;subst hr;show fin s3 _ I3 CD _ _ H4 s5 s5.toks (by rw[Rw];show Nat.lt_succ_self _) I5 q
  exact cQ (T.item (bR X N' scope cl fp s3 (cf H s.heap.objs.size (.lst []))) rfl rfl rfl lV i [] s4 _ H4 (λ_ _=>False) I4 (uj LZ) fS go) λr s5 ⟨u,hr,h5⟩=> ?_;subst hr;exact cQ h5 λ_ s6 ⟨x,H6,I6,r6,y6,Rz,fr6⟩=> ?_;have I6':=I6.pinned (uj fr6) (T.obj _ _ Rz);have ZJ:=hw _ x H6 _ (step x H6 y6);exact cQ (hg s3 _ _ s6 _ H6 x u _ I6' r6 ZJ) λ_ s7 ⟨σ7,H7,I7,wk,q7⟩=> ?_;have again: ∀ {H9:Hp} {s9:dq} {QQ:cA V},Inv (bR X N' scope cl fp s3 (cf H s.heap.objs.size (.lst []))) ([]++iJ fp s6.heap) σ7 H9 s9 ->(∃m',m'<n /\ W (i+1) m' QQ H9) ->∃m,m<n /\ eh λi ys H'=>fg (Inv (bR X N' scope cl fp s3 (cf H s.heap.objs.size (.lst []))) [] (k7 own.length fr σ) H' s9) (tn i s9.heap) (∀b∈fp,H' b=none) (W i m ys H'):=λ{H9 s9 QQ} I9 ⟨m',hm,w9⟩=>by exact#[m',hm,i+1,QQ,H9,(I9.jq).weak ?_ wk.2,T.keep _ _ _ Rz λb hb o e=>(I9.pin (b,o) (aX _ (aX _ (fb hb e)))).1,λb hb=> ?_,w9];show wk.1.symm;let⟨o,e,d⟩:=T.obj _ _ Rz b hb;show(I9.pin (b,o) (aX _ (aX _ (fb hb e)))).2.1
  exact cQ (hc s3 _ _ s7 σ7 H7 _ I7 q7) λok s8 ⟨H8,I8,q8⟩=> ?_;cases ok with
  | false=>simp![aA,bC] at q8 ⊢;let⟨zs,q8⟩:=q8;show again I8 q8
  | true=>simp![bV] at q8 ⊢;exact cQ (he s3 _ _ s8 σ7 H8 _ I8 q8) λy s9 ⟨yv,H9,I9,ry,zs,hp9,hz9,q9⟩=> ?_;exact cQ (dk _ s9 σ7 H9 (.ref s.heap.objs.size) [yv] (.ref s.heap.objs.size) [y] (λv H'=>H'=cf H9 s.heap.objs.size (.lst (zs++ [yv]))) I9 rfl (.cons ry .nil) #[_,zs,yv,rfl,rfl,hp9,hz9,rfl]) λv s10 ⟨_,U4,I10,_,e10⟩=> ?_;subst e10;show again I10 q9
 show codeAny_compStart_list loop (T.self _ 0 _ _ _ FJ loop)
theorem Cx.Ok.cellsOf (ok:X.Ok)(S:dh X own fr N' scope): ∀y∈scope.names,y.2= .free -> ∃c,X.env.cells.lookup y.1=some c:=λy hy hf=>ok.has y.1 (S.free y hy hf)
def dR (lV:X.calm=true)(S:dh X own fr N' scope)(hi:PI X tg iter wi)(hg: ∀cl fp s3 H3,PG (bR X N' scope cl fp s3 H3) tg g)(hw:OY own.length g)(hc: ∀cl fp s3 H3,QN (bR X N' scope cl fp s3 H3) iY tc)(he: ∀cl fp s3 H3,PE (bR X N' scope cl fp s3 H3) iZ te)(hs: ∀x,foldedSetIterable iter X.env x=pure x:=by intro _;rfl):PE X (.ListComp iZ [#[tg,iter,iY,0]] scope pos) (Pm wi own.length fr g tc te):=by intro af s σ H Q I h;let⟨cl,Kb,kz,wq⟩:=vz (I.ok.cellsOf S);rw[eval_ListComp];exact wpAny_comprehension_free (use:=none) rfl hs Kb S.kind S.loc (cQ (hi af s σ H _ I h) λv s1 h1=>cQ h1 λXt s2 h2=> ?_);let⟨it,fp,tn,J,H2,e,I2,T,ot,f2,h2⟩:=h2;subst e;exact CO (RR:=λfV C=>compPost (model X.prog X.w) X.A X.xe none (EP X af σ Q) fV C) lV S (hg cl fp) hw (hc cl fp) (he cl fp) kz wq I2 T ot f2 h2 ?_;intro s3 H3 I3 f3 D σ' H' s' t hD Ic q;let⟨m,hn,_⟩:=Ic.loc;exact#[m,hn,λh' XN=>#[.ref D,H',?_,rfl,q]];show xF I3 rfl (xG I3 f3 Ic) Ic.free XN
set_option genInjectivity true in
inductive Dt where
 | dG | bl (b:Bool) | int (i:Int) | str (x:Str) | tup (l:List Dt) | lst (l:List Dt)
mutual
def Rep (K:Xu)(H:Hp):Dt ->V ->Prop
 | .dG,v=>v= .dG
 | .bl b,v=>v= .bl b
 | .int i,v=>v= .int i
 | .str x,v=>v= .str x
 | .tup l,v=>cc λa vs=>cW (v= .ref a) (kP K H a vs) (ge K H l vs)
 | .lst l,v=>cc λa vs=>cW (v= .ref a) (gY K H a vs) (ge K H l vs)
def ge (K:Xu)(H:Hp):cA Dt ->cA V ->Prop
 | [],vs=>vs= []
 | d::r,vs=>cc λv t=>cW (vs=v::t) (Rep K H d v) (ge K H r t)
end
mutual
def vk:Dt ->Dt ->Bool
 | .dG, .dG=>true
 | .bl a, .bl b=>a==b
 | .bl a, .int b=>(if a then 1 else 0)==b
 | .int a, .bl b=>a==(if b then 1 else 0)
 | .int a, .int b=>a==b
 | .str a, .str b=>a==b
 | .tup a, .tup b=>yW a b
 | .lst a, .lst b=>yW a b
 | _,_=>false
def yW:cA Dt ->cA Dt ->Bool
 | [],[]=>true
 | x::xs,y::ys=>vk x y && yW xs ys
 | _,_=>false
end
mutual
def qV:Dt ->Nat
 | .tup l=>kZ l+1
 | .lst l=>kZ l+1
 | _=>0
def kZ:cA Dt ->Nat
 | []=>0
 | d::r=>max (qV d) (kZ r)
end
theorem ge.length {K:Xu}{H:Hp}: ∀ {l:cA Dt} {vs:cA V},ge K H l vs ->l.length=vs.length
 | [],_,h=>by simp![ge] at h;subst h;rfl
 | d::r,vs,h=>by simp![ge] at h;let⟨v,t,rfl,_,h⟩:=h;simp[ge.length h]
theorem ge.at {K:Xu}{H:Hp}: ∀ {l:cA Dt} {vs:cA V} {j:Nat} {d:Dt},ge K H l vs ->l[j]? =some d -> ∃v,vs[j]? =some v /\ Rep K H d v
 | [],_,_,_,_,e=>by simp at e
 | d::r,vs,j,d',h,e=>by
  simp![ge] at h;let⟨v,t,rfl,h1,h⟩:=h;cases j with
  | zero=>simp at e;subst e;show#[v,rfl,h1]
  | succ j=>simpa using ge.at (j:=j) h ⇑e
theorem pI: ∀ {l:cA Dt} {d:Dt},d∈l ->qV d<=kZ l
 | [],_,h=>by simp at h
 | x::r,d,h=>by simp![kZ];obtain rfl | h:=aS.mp h;show Nat.le_max_left _ _;show aw (pI h) (Nat.le_max_right _ _)
theorem jZ: ∀ (a b:cA Dt),yW a b=((List.range (min a.length b.length)).all (λj=>vk (a.getD j .dG) (b.getD j .dG)) && a.length==b.length)
 | [],[]=>rfl
 | [],y::ys=>by simp[yW]
 | x::xs,[]=>by simp[yW]
 | x::xs,y::ys=>by
  have e:min (x::xs).length (y::ys).length=min xs.length ys.length+1:=by simp![aQ];lia
  rw[yW,jZ xs ys,e,List.range_succ_eq_map,List.all_cons,List.all_map];have e2:((x::xs).length==(y::ys).length)=(xs.length==ys.length):=by simp
  rw[e2,Bool.and_assoc];rfl
mutual
theorem jJ: ∀d:Dt,vk d d=true
 | .dG=>rfl
 | .bl b=>by simp[vk]
 | .int i=>by simp[vk]
 | .str x=>by simp[vk]
 | .tup l=>by simp![vk];show qT l
 | .lst l=>by simp![vk];show qT l
theorem qT: ∀l:cA Dt,yW l l=true
 | []=>rfl
 | x::xs=>by simp![yW,jJ x,qT xs,Bool.and_self]
end
def Un.sqT {K:Xu}(h: ∀b xs,Rd H b (.tup xs) ->Rd H' b (.tup xs))(q:kP K H a xs):kP K H' a xs:=by obtain q | q:=q;show .inl (h _ _ q);show .inr q
section
variable {X:Cx}{af:cA (fM×Obj)}{σ:St}{H:Hp}{s:dq}
mutual
theorem Rep.inj (I:Inv X af σ H s): ∀ (d e:Dt) (v:V),Rep X.K H d v ->Rep X.K H e v ->d=e
 | .dG,e,v,h1,h2=>by simp![Rep] at h1;subst h1;cases e<;>simp![Rep] at h2<;>first | rfl | (cases h2;done) | (let⟨_,_,q,_⟩:=h2;cases q)
 | .bl b,e,v,h1,h2=>by simp![Rep] at h1;subst h1;cases e<;>simp![Rep] at h2<;>first | (cases h2;rfl) | (cases h2;done) | (let⟨_,_,q,_⟩:=h2;cases q)
 | .int b,e,v,h1,h2=>by simp![Rep] at h1;subst h1;cases e<;>simp![Rep] at h2<;>first | (cases h2;rfl) | (cases h2;done) | (let⟨_,_,q,_⟩:=h2;cases q)
 | .str b,e,v,h1,h2=>by simp![Rep] at h1;subst h1;cases e<;>simp![Rep] at h2<;>first | (cases h2;rfl) | (cases h2;done) | (let⟨_,_,q,_⟩:=h2;cases q)
 | .tup l,e,v,h1,h2=>by
  simp![Rep] at h1;let⟨a,vs,rfl,hs,hr⟩:=h1;cases e<;>simp![Rep] at h2<;>first | (cases h2;done) | skip
  let⟨a',Rg,q,gD,jG⟩:=h2;cases q;have:=I.wN hs gD;subst this;rw[ge.inj I l _ vs hr jG];let⟨a',Rg,q,gD,jG⟩:=h2;cases q;let⟨bI,_,ht,_⟩:=I.tuple hs;let⟨its',_,hl,_⟩:=I.list gD;show absurd rfl (SeqAt.ne_of_list_tuple (s:=s) hl.isList ht)
 | .lst l,e,v,h1,h2=>by
  simp![Rep] at h1;let⟨a,vs,rfl,hs,hr⟩:=h1;cases e<;>simp![Rep] at h2<;>first | (cases h2;done) | skip
  let⟨a',Rg,q,gD,jG⟩:=h2;cases q;let⟨bI,_,ht,_⟩:=I.tuple gD;let⟨its',_,hl,_⟩:=I.list hs;show absurd rfl (SeqAt.ne_of_list_tuple (s:=s) hl.isList ht);let⟨a',Rg,q,gD,jG⟩:=h2;cases q;have:=I.list_inj hs gD;subst this;rw[ge.inj I l _ vs hr jG]
theorem ge.inj (I:Inv X af σ H s): ∀ (l m:cA Dt) (vs:cA V),ge X.K H l vs ->ge X.K H m vs ->l=m
 | [],m,vs,h1,h2=>by
  simp![ge] at h1;subst h1;cases m with
  | nil=>rfl
  | cons _ _=>simp![ge] at h2;let⟨_,_,q,_⟩:=h2;cases q
 | d ::r,m,vs,h1,h2=>by
  simp![ge] at h1;let⟨v,t,rfl,h1,h3⟩:=h1;cases m with
  | nil=>simp![ge] at h2;cases h2
  | cons d' r'=>simp![ge] at h2;let⟨v',t',q,h4,h5⟩:=h2;cases q;rw[Rep.inj I d d' v h1 h4,ge.inj I r r' t h3 h5]
end
def ge.items (h:ge X.K H l vs)(r:bW vs bI)(hj:j<bI.length):Rep X.K H (l.getD j .dG) (vs.getD j .dG) /\ RelV (vs.getD j .dG) bI[j] /\ l.getD j .dG∈l:=by
 have e1:=h.length;have e2:=r.length;have hl:j<l.length:= ∅;let⟨v,hv,hr⟩:=h.at (aC hl);let⟨u,hu,ru⟩:=r.get hv;have e3:l.getD j .dG=l[j]:=by simp[List.getD,hl]
 have e4:vs.getD j .dG=v:=by simp[List.getD,hv]
 rw[aC hj] at hu;cases hu;rw[e3,e4];show#[hr,ru,List.getElem_mem hl]
def Rep.vW (I:Inv X af σ H s)(h:Rep X.K H (.tup l) x)(r:RelV x u):cc λa i=>u= .ref a /\ IsTup s.heap a i:=by simp![Rep] at h;let⟨a,vs,rfl,hs,hr⟩:=h;cases r;let⟨bI,_,ht,_⟩:=I.tuple hs;show#[a,_,rfl,ht]
def Rep.we (I:Inv X af σ H s)(h:Rep X.K H (.lst l) x)(r:RelV x u):cc λa i=>u= .ref a /\ s.heap.IsList a i:=by simp![Rep] at h;let⟨a,vs,rfl,hs,hr⟩:=h;cases r;let⟨bI,_,ht,_⟩:=I.list hs;show#[a,_,rfl,ht.isList]
def Kx (I:Inv X af σ H s)(n:Nat): ∀ (A:Around) (d e:Dt) (x y:V) (u v:c5),qV d<=n ->A.units+n<cLine ->Rep X.K H d x ->Rep X.K H e y ->RelV x u ->RelV y v ->SeqAt.EqAt A s u v (vk d e):=by
 induction n using Nat.strongRecOn with
 | _ n ih=>
 intro A d e x y u v hn hu h1 h2 r1 r2;cases d<;>cases e;case tup.tup l m=>
  have _t:=h1
  have Qx:=h2
  simp![Rep] at h1 h2
  let⟨a,vs,rfl,hs,hr⟩:=h1
  let⟨b,ws,rfl,gD,jG⟩:=h2
  cases r1;cases r2
  by_cases xm:a=b
  subst xm
  rw[Rep.inj I _ _ _ _t Qx,jJ]
  show SeqAt.EqAt.same _
  let⟨bI,rv,ht,_⟩:=I.tuple hs
  let⟨its',FO,AE,_⟩:=I.tuple gD
  exact SeqAt.EqAt.of_refs xm ?_
  simp![vk]
  simp![qV] at hn
  match n,hn,hu,ih with
  | n +1,hn,hu,ih=>
   have z:=SeqAt.RcAt.tuples (A:=A) (s:=s) (e:=λj=>vk (l.getD j .dG) (m.getD j .dG)) ht AE ∅ λj g1 g2=>by let⟨q1,q2,q3⟩:=hr.items rv (j:=j) ⇑g1;let⟨q4,q5,q6⟩:=jG.items FO (j:=j) ⇑g2;exact ih n (Nat.lt_succ_self n) A.in1 _ _ _ _ _ _ ?_ ?_ q1 q4 ⇑q2 ⇑q5;have:=pI q3;lia;change A.units+1+n<cLine;lia
   rw[jZ,hr.length,jG.length,rv.length,FO.length];simpa using z
 case lst.lst l m=>
  have _t:=h1
  have Qx:=h2
  simp![Rep] at h1 h2
  let⟨a,vs,rfl,hs,hr⟩:=h1
  let⟨b,ws,rfl,gD,jG⟩:=h2
  cases r1;cases r2
  by_cases xm:a=b
  subst xm
  rw[Rep.inj I _ _ _ _t Qx,jJ]
  show SeqAt.EqAt.same _
  let⟨bI,rv,ht,_⟩:=I.list hs
  let⟨its',FO,AE,_⟩:=I.list gD
  exact SeqAt.EqAt.of_refs xm ?_
  simp![vk]
  simp![qV] at hn
  by_cases hl:bI.length=its'.length
  match n,hn,hu,ih with
  | n +1,hn,hu,ih=>
   have z:=SeqAt.RcAt.lists (A:=A) (s:=s) (e:=λj=>vk (l.getD j .dG) (m.getD j .dG)) ht.isList AE.isList ⇑hl ∅ λj g1 g2=>by let⟨q1,q2,q3⟩:=hr.items rv (j:=j) ⇑g1;let⟨q4,q5,q6⟩:=jG.items FO (j:=j) ⇑g2;exact ih n (Nat.lt_succ_self n) A.in1 _ _ _ _ _ _ ?_ ?_ q1 q4 ⇑q2 ⇑q5;have:=pI q3;lia;change A.units+1+n<cLine;lia
   rw[jZ,hr.length,jG.length,rv.length,FO.length,hl];simpa [hl] using z
  have z:=SeqAt.RcAt.lists_lengths (A:=A) (s:=s) ht.isList AE.isList ⇑hl ∅
  have hf:(bI.length==its'.length)=false:= ⇑hl
  rw[jZ,hr.length,jG.length,rv.length,FO.length,hf,Bool.and_false]
  show z
 case tup.lst=>let⟨a,i,rfl,h⟩:=Rep.vW I h1 r1;let⟨b,j,rfl,h'⟩:=Rep.we I h2 r2;show SeqAt.EqAt.tuple_list h h' ∅
 case lst.tup=>let⟨a,i,rfl,h⟩:=Rep.we I h1 r1;let⟨b,j,rfl,h'⟩:=Rep.vW I h2 r2;show SeqAt.EqAt.list_tuple h h' ∅
 case tup.dG=>let⟨a,i,rfl,h⟩:=Rep.vW I h1 r1;simp![Rep] at h2;subst h2;cases r2;show SeqAt.EqAt.tuple_none h ∅
 case lst.dG=>let⟨a,i,rfl,h⟩:=Rep.we I h1 r1;simp![Rep] at h2;subst h2;cases r2;show SeqAt.EqAt.list_none h ∅
 case dG.tup=>let⟨a,i,rfl,h⟩:=Rep.vW I h2 r2;simp![Rep] at h1;subst h1;cases r1;show SeqAt.EqAt.none_tuple h ∅
 case dG.lst=>let⟨a,i,rfl,h⟩:=Rep.we I h2 r2;simp![Rep] at h1;subst h1;cases r1;show SeqAt.EqAt.none_list h ∅
 case tup.bl=>let⟨a,i,rfl,h⟩:=Rep.vW I h1 r1;simp![Rep] at h2;subst h2;cases r2;show SeqAt.EqAt.tuple_bool _ h ∅
 case lst.bl=>let⟨a,i,rfl,h⟩:=Rep.we I h1 r1;simp![Rep] at h2;subst h2;cases r2;show SeqAt.EqAt.list_bool _ h ∅
 case bl.tup=>let⟨a,i,rfl,h⟩:=Rep.vW I h2 r2;simp![Rep] at h1;subst h1;cases r1;show SeqAt.EqAt.bool_tuple _ h ∅
 case bl.lst=>let⟨a,i,rfl,h⟩:=Rep.we I h2 r2;simp![Rep] at h1;subst h1;cases r1;show SeqAt.EqAt.bool_list _ h ∅
 case tup.int=>let⟨a,i,rfl,h⟩:=Rep.vW I h1 r1;simp![Rep] at h2;subst h2;let⟨t,rfl⟩:=r2;show SeqAt.EqAt.tuple_int _ _ h ∅
 case lst.int=>let⟨a,i,rfl,h⟩:=Rep.we I h1 r1;simp![Rep] at h2;subst h2;let⟨t,rfl⟩:=r2;show SeqAt.EqAt.list_int _ _ h ∅
 case int.tup=>let⟨a,i,rfl,h⟩:=Rep.vW I h2 r2;simp![Rep] at h1;subst h1;let⟨t,rfl⟩:=r1;show SeqAt.EqAt.int_tuple _ _ h ∅
 case int.lst=>let⟨a,i,rfl,h⟩:=Rep.we I h2 r2;simp![Rep] at h1;subst h1;let⟨t,rfl⟩:=r1;show SeqAt.EqAt.int_list _ _ h ∅
 case tup.str=>let⟨a,i,rfl,h⟩:=Rep.vW I h1 r1;simp![Rep] at h2;subst h2;let⟨t,rfl⟩:=r2;show SeqAt.EqAt.tuple_str _ _ h ∅
 case lst.str=>let⟨a,i,rfl,h⟩:=Rep.we I h1 r1;simp![Rep] at h2;subst h2;let⟨t,rfl⟩:=r2;show SeqAt.EqAt.list_str _ _ h ∅
 case str.tup=>let⟨a,i,rfl,h⟩:=Rep.vW I h2 r2;simp![Rep] at h1;subst h1;let⟨t,rfl⟩:=r1;show SeqAt.EqAt.str_tuple _ _ h ∅
 case str.lst=>let⟨a,i,rfl,h⟩:=Rep.we I h2 r2;simp![Rep] at h1;subst h1;let⟨t,rfl⟩:=r1;show SeqAt.EqAt.str_list _ _ h ∅
 all_goals (simp![Rep] at h1 h2;subst h1 h2;show Kw r1 r2 rfl rfl)
end
end L2
namespace L2
open PySem PySem.Spec PyProof.Rows
def ajm:Dt ->Bool
 | .tup _=>true
 | .lst _=>true
 | _=>false
def jR:Dt ->Dt ->Bool
 | .tup _, .tup _=>true
 | .lst _, .lst _=>true
 | _,_=>false
def Wh {σ:St}(I:Inv X af σ H s)(hs:jR d e=true)(hn:qV d<=50)(hu:A.units+60<cLine)(h1:Rep X.K H d x)(h2:Rep X.K H e y)(r1:RelV x u)(r2:RelV y v): SeqAt.RcAt A s u v (vk d e) /\ SeqAt.RcNeAt A s u v (!vk d e):=by
 cases d with
 | tup l=>
  cases e with
  | tup m=>
   simp![Rep] at h1 h2;let⟨a,vs,rfl,hs,hr⟩:=h1;let⟨b,ws,rfl,gD,jG⟩:=h2;cases r1;cases r2;let⟨bI,rv,ht,_⟩:=I.tuple hs;let⟨its',FO,AE,_⟩:=I.tuple gD;simp![vk];simp![qV] at hn;have he: ∀j (g1:j<bI.toArray.size) (g2:j<its'.toArray.size),SeqAt.EqAt A.in1 s bI.toArray[j] its'.toArray[j] ((λj=>vk (l.getD j .dG) (m.getD j .dG)) j):=λj g1 g2=>by let⟨q1,q2,q3⟩:=hr.items rv (j:=j) ⇑g1;let⟨q4,q5,q6⟩:=jG.items FO (j:=j) ⇑g2;exact Kx I 50 A.in1 _ _ _ _ _ _ ?_ ?_ q1 q4 ⇑q2 ⇑q5;have:=pI q3;lia;change A.units+1+50<cLine;lia
   have z:=SeqAt.RcAt.tuples (A:=A) (s:=s) ht AE ∅ he;have z':=SeqAt.RcNeAt.tuples (A:=A) (s:=s) ht AE ∅ he;rw[jZ,hr.length,jG.length,rv.length,FO.length];show#[⇑z, ⇑z']
  | _=>cases hs
 | lst l =>
  cases e with
  | lst m=>
   simp![Rep] at h1 h2;let⟨a,vs,rfl,hs,hr⟩:=h1;let⟨b,ws,rfl,gD,jG⟩:=h2;cases r1;cases r2;let⟨bI,rv,ht,_⟩:=I.list hs;let⟨its',FO,AE,_⟩:=I.list gD;simp![vk];simp![qV] at hn;by_cases hl:bI.length=its'.length;have he: ∀j (g1:j<bI.toArray.size) (g2:j<its'.toArray.size),SeqAt.EqAt A.in1 s bI.toArray[j] its'.toArray[j] ((λj=>vk (l.getD j .dG) (m.getD j .dG)) j):=λj g1 g2=>by let⟨q1,q2,q3⟩:=hr.items rv (j:=j) ⇑g1;let⟨q4,q5,q6⟩:=jG.items FO (j:=j) ⇑g2;exact Kx I 50 A.in1 _ _ _ _ _ _ ?_ ?_ q1 q4 ⇑q2 ⇑q5;have:=pI q3;lia;change A.units+1+50<cLine;lia
   have z:=SeqAt.RcAt.lists (A:=A) (s:=s) ht.isList AE.isList ⇑hl ∅ he;have z':=SeqAt.RcNeAt.lists (A:=A) (s:=s) ht.isList AE.isList ⇑hl ∅ he;rw[jZ,hr.length,jG.length,rv.length,FO.length,hl];show#[by simpa [hl] using z,by simpa [hl] using z'];have z:=SeqAt.RcAt.lists_lengths (A:=A) (s:=s) ht.isList AE.isList ⇑hl ∅;have z':=SeqAt.RcNeAt.lists_lengths (A:=A) (s:=s) ht.isList AE.isList ⇑hl ∅;have hf:(bI.length==its'.length)=false:= ⇑hl;rw[jZ,hr.length,jG.length,rv.length,FO.length,hf,Bool.and_false];show#[z,z']
  | _=>cases hs
 | _=>cases hs
def B6 (K:Xu):R2:=λx y H Q=>cc λd e=>f_ (jR d e=true) (qV d<=50) (Rep K H d x) (Rep K H e y) (Q (.bl (vk d e)) H)
def vZ (K:Xu):R2:=λx y H Q=>cc λd e=>f_ (jR d e=true) (qV d<=50) (Rep K H d x) (Rep K H e y) (Q (.bl (!vk d e)) H)
def uz (hu:X.A.units+60<cLine):gI X (compareOp .Eq) (B6 X.K):=by intro af s σ H x y v u Q I r1 r2 h;let⟨d,e,h0,hn,h1,h2,q⟩:=h;show(Wh I h0 hn hu h1 h2 r1 r2).1 X.prog X.w X.xe _ #[.bl _,H,I,rfl,q]
def lL (hu:X.A.units+60<cLine):gI X (compareOp .NotEq) (vZ X.K):=by intro af s σ H x y v u Q I r1 r2 h;let⟨d,e,h0,hn,h1,h2,q⟩:=h;show(Wh I h0 hn hu h1 h2 r1 r2).2 X.prog X.w X.xe _ #[.bl _,H,I,rfl,q]
def d7.FC (r:d7 k A):A.units+60<cLine:=by have:=r.units;lia
theorem EL: ∀ {ks:cA Int} {vs:cA c5},vs.length=ks.length ->(∀ (j:Nat) (v:c5),vs[j]? =some v ->cc λ(k:Int) (t:Tok)=>ks[j]? =some k /\ v= .int k t) ->IntsAre vs ks
 | [],[],_,_=> .nil
 | [],_::_,h,_=>by simp at h
 | _::_,[],h,_=>by simp at h
 | k::ks,v::vs,h,hv=>by let⟨k',t,e1,e2⟩:=hv 0 v rfl;simp at e1;subst e1 e2;show .cons k t (EL ⇑h λj u e=> ⇑(hv (j+1) u ⇑e))
def z_:cA V ->Hp ->VK ->Prop:=λxs H Q=>eh λ(d:fM) (kvs:cA (bX×V)) (ks:cA Int)=>f_ (xs= [.ref d]) (H d=some (.dK kvs)) (kvs.map (·.1)=ks.map Sum.inl) (ks.length<=sizeLine) (∀ (p:fM) (ns:cA Int),H p=none ->ns.Perm ks ->ns.Pairwise (· <= ·) ->Q (.ref p) (cf H p (.lst (ns.map V.int))))
def pU (hc:X.calm=true):eY X (.builtin "sorted") z_:=by
 intro af s σ H xs us Q I r h;let⟨d,kvs,ks,rfl,hd,hk,N6,q⟩:=h;let⟨u,rfl,ru⟩:=vals1 r;cases ru;have hh:X.A.in1.handled=none:=I.ok.hd hc;let⟨hz,lo,vs,gc,dd⟩:=xz I.cH hd;let⟨ep,hat⟩:=dd.dictAt;have dO:vs.length=ks.length:=by have e1:=congrArg List.length hk;rw[ag,ag] at e1;rw[<- gc.length,e1]
 exact Calls.call_function_entry kind_sorted plain_sorted entry_sorted (args_sorted1 _) ?_;unfold Builtin.«sorted»;exact ax (m:=checkCount "sorted" 1 1 _) (a5 ?_);exact ax (W.kdu_collect (A:=X.A.in1) (W.kdl_dict (knd:=cJ X.prog X.w) (kvs:=vs) (ep:=ep) lo) hh hat (by rw[<- gc.length];show hz) λh' tk fV hkp CG=> ?_);have hl:fV.toList.length=ks.length:=by rw[du,CG.1,dO]
 have hI:IntsAre fV.toList ks:=EL hl λj v e=>by
  let⟨k,x,hx,X'⟩:=CG.2 j v (by rw[<- Array.getElem?_toList];show e);have J5:(kvs.map (·.1))[j]? =some k:=by
   have:(vs.map (·.1))[j]? =some k:=by rw[aL,hx];rfl
   rw[<- gc.keys] at this;show this
  rw[hk,aL] at J5;cases e2:ks[j]? with
  | none=>rw[e2] at J5;cases J5
  | some n=>
   rw[e2] at J5;cases J5;have Tt:o_ (Sum.inl n) v=true:=X';rcases db Tt with⟨i,t,e3,e4⟩ | ⟨x,t,e3,e4⟩
   cases e3;show#[n,t,rfl,e4];cases e3
 exact ax (wpAny_newList ?_ (by rw[hl];show N6));have ho:(h'.push (seqObj "list" fV.toList.toArray 0)).get? h'.objs.size=some (seqObj "list" fV.toList.toArray 0):=aW _ rfl;exact ax (wpAny_holding (wpAny_call_entry slot_list_sort #[_,ho,rfl] entry_list_sort (TS.FL (s:= {s with heap:=h'.push (seqObj "list" fV.toList.toArray 0),toks:=tk}) ho hI (by rw[hl];show N6) λout BC a1 a2 a3=>#[_,rfl,?_]) (args_list_sort _)));let⟨ee,TF⟩:=sortedHeap_at (out:=out) ho;have I':Inv X af σ H {s with heap:=h',toks:=tk}:=I.kept (t':=tk) hkp;exact a5 #[_,rfl, .ref h'.objs.size,_,I'.laid (t':=tk) (o:= .lst (BC.map V.int)) (λb o hb=> ?_) (aq _) ?_,rfl,q _ BC (I'.cH.fresh (aq _)) a2 a3];have mX:b<h'.objs.size:=aN hb;rw[sortedHeap_old (bu mX) (by rw[Heap.size_push];show Nat.lt_succ_of_lt mX)];show av _ hb;exact#[?_,out.toList,ee,qa a1, ⇑TF];rw[ag,a2.length_eq];show N6
def dh.of {X:Cx}{sc scope:Scope}{N own N':cA Str}{fr:cA Nat}(hsc:X.env.scope=sc:=by show rfl)(hN:X.N=N:=by show rfl)(kind:scope.kind= .function:=by show rfl)(names:N'=own++fr.filterMap (λj=>N[j]?):=by decide+kernel)(len:N'.length=own.length+fr.length:=by show rfl)(nd:N'.Nodup:=by decide+kernel) (uL: ∀y∈scope.names,y.2≠ .cell:=by decide+kernel) (loc: ∀y∈scope.names,y.2= .local ->scope.names.lookup y.1=some .local:=by decide+kernel) (UY: ∀x∈fr.filterMap (λj=>N[j]?),scope.names.lookup x=some .free:=by decide+kernel) (free: ∀y∈scope.names,y.2= .free ->sc.names.lookup y.1=some .cell \/ sc.names.lookup y.1=some .free:=by first | decide+kernel | show of_decide_eq_true rfl):dh X own fr N' scope:=by subst hN hsc;show#[kind,names,len,nd,uL,loc,UY,free]
structure hW (K:PySem.W.Frag)(mg:Str ->Option Value)(x:Str)(ps:List Str)(st:Stmt)(f:Addr)(fd:FuncData):Prop where
 at_:mg x=some (.ref f)
 fn:Bp K x x st f fd
 bd:Binds K fd ps []
theorem au {st:Stmt}{p pos:Pos}(C:hW X.K X.mg x ps st f fd)(F:bD X.prog X.w X.K X.mg X.base fh k f fd ps sp)(hr:d7 j X.A)(ha:PA X (e::es) t)(hk:k<=j:=by decide)(hg:Gl X x:=by rfl)(n_:(x==("__debug__" :Str))=false:=by decide)(he:starEach (e::es) X.env=(false,eval e X.env)::starEach es X.env:=by rfl)(no:(backTo pos (starEach es X.env)).any (·.1)=false:=by rfl): PE X (.Call (.Name x p) (e::es) [] pos) (wQ sp [] E0 t):=Ef F (hr.mono hk) hg C.at_ C.fn.kp C.bd .nil Eg ha n_ he no
theorem bO (h:H p=none):fF H (cf H p o):=λb u e=>by rw[bL (e_ e h)];show e
def aY (H H':Hp):Prop:= ∀b xs,Rd H b (.tup xs) ->Rd H' b (.tup xs)
theorem aY.refl (H:Hp):aY H H:=λ_ _ h=>h
theorem aY.trans (a:aY H H1)(b:aY H1 H2):aY H H2:=λc o h=>b c o (a c o h)
theorem fF.ts (a:fF H H'):aY H H':=λb xs h=>by obtain h | ⟨o,h⟩:=h;show .inl (a _ _ h);show .inr #[o,a _ _ h]
inductive YR (K:PySem.W.Frag)(H:Hp):V ->Value ->Prop where
 | of {x:V} {t:Value} (h:qY K H x t):YR K H x t
 | tup {a:Addr} {xs:List V} (h:kP K H a xs):YR K H (.ref a) (.type "tuple")
 | lst {a:Addr} {xs:List V} (h:gY K H a xs):YR K H (.ref a) (.type "list")
def RO (K:Xu):cA V ->Hp ->VK ->Prop:=λxs H Q=>fQ λx T t b=>fg (xs= [x, .ty T]) (YR K H x t) (W.kitOne K t (.type T)=some b) (Q (.bl b) H)
def KZ:eY X (.builtin "isinstance") (RO X.K):=by
 intro af s σ H xs us Q I r h;let⟨x,T,t,b,rfl,ty,e,q⟩:=h;let⟨u,w',rfl,ru,vY⟩:=vals2 r;cases vY;cases ty with
 | of ty=>show Gw I ru ty e λtk=>#[.bl b,H,I.tok tk,rfl,q]
 | tup hs=>cases ru;let⟨bI,rv,⟨o,h1,h2,_⟩,_⟩:=I.tuple hs;show cy W.kitx_tuple I.kT #[o,h1,h2] e (λz=>nomatch z) λtk=>#[.bl b,H,I.tok tk,rfl,q]
 | lst hs=>cases ru;let⟨bI,rv,ht,_⟩:=I.list hs;let⟨o,h1,h2,_⟩:=ht.isList;show cy W.kitx_list I.kT #[o,h1,h2] e (λz=>nomatch z) λtk=>#[.bl b,H,I.tok tk,rfl,q]
end L2
namespace L2
open PySem PyProof.Rows PyProof.V PySem.Calls PySem.Spec
def gJ (P:Program)(w:World):BH:=λouter H s E e s'=>tq λ(ea:fM) (cls a0:c5) (B:Heap) (H':Hp)=>BG (e= .ref ea) (s'.os=s.os) (AllBare s'.gens) (Heap.FlyingW B outer ea cls a0 s'.heap) (mJ P w H' B) (H' ea=none) (Un (lf outer) [] H H' s.heap s'.heap) (cW (∀b o,s.heap.get? b=some o ->H b=none ->b∉lf outer ->B.get? b=some o) (∀b o,s.heap.get? b=some o ->b∉lf outer -> ∃o',B.get? b=some o') (E cls none H'))
def dX.ex (x:dX P w H h a o): ∃u,h.get? a=some u:=by
 cases o with
 | lst xs=>let⟨_,_,_,_,e⟩:=x;show#[_,e]
 | tup xs=>let⟨_,_,_,p,e,_⟩:=x;show#[_,e]
 | dK kvs=>let⟨_,_,_,_,o,_,_,e,_⟩:=x;show#[_,e]
 | dT kvs=>let⟨_,_,_,_,o,_,_,e,_⟩:=x;show#[_,e]
 | set S n=>let⟨o,_,_,_,e,_⟩:=x;show#[_,e]
 | ins C dx fs=>let⟨_,_,_,e,_⟩:=x;show#[_,e]
 | own y=>show x
 | xd fs=>let⟨_,⟨_,_,_,e,_⟩,_⟩:=x;show#[_,e]
 | ZO lo hi=>let⟨_,_,_,e⟩:=x;show#[_,e]
 | lc ob u=>let⟨e,_⟩:=x;show#[_,e]
 | Mq ps=>show#[_,(show h.get? a=some _ from x)]
 | met f y=>show#[_,(show h.get? a=some _ from x)]
 | ext φ=>let⟨_,e,_⟩:=x;show e
section
variable {X:Cx}{af:cA (fM×Obj)}{σ:St}{H H':Hp}{s s':dq}
theorem Inv.Nq (I:Inv X af σ H s)(e:X.s₀.heap.get? b=some o)(n:b∉X.fs):b∉lf X.stack:=λz=>by obtain q | q:=aS.mp (I.yc b z);have h1:=aN e;have h2:=I.ok.above;rw[q] at h1;show absurd h1 (Nat.not_lt.mpr h2);show n q
theorem ue {outer:cA Env}{H₀:Hp}{h0 h h' B:Heap}{base:Heap}(ff:h.FunFrames base outer)(hF: ∀b∈lf outer,H₀ b=none)(u:Un (lf outer) [] H₀ H' h0 h)(st:B.StaysIn h')(up:h.UpToSlots h') (kb: ∀b o,h0.get? b=some o ->H₀ b=none ->b∉lf outer ->B.get? b=some o) (kt: ∀b o,h0.get? b=some o ->b∉lf outer -> ∃o',B.get? b=some o'):Un (lf outer) [] H₀ H' h0 h' where
 keep b o e n hb _:=st b o (kb b o e n hb)
 slot b o e n hb hx:=by let⟨sl,e1⟩:=u.slot b o e n hb hx;let⟨_,o2,e2,XZ⟩:=ff.mem hb;rw[e1] at e2;cases e2;let⟨Pp,e3⟩:=up b _ e1 XZ;show#[Pp,e3]
 free:=u.free
 there b o e hx:=by by_cases hb:b∈lf outer;let⟨sl,e1⟩:=u.slot b o e (hF b hb) hb hx;let⟨_,o2,e2,XZ⟩:=ff.mem hb;rw[e1] at e2;cases e2;let⟨Pp,e3⟩:=up b _ e1 XZ;show#[_,e3];let⟨o',e'⟩:=kt b o e hb;show#[o',st _ _ e']
 nF:=u.nF
 lX:=u.lX
 ol:=u.ol
def Cc {K:Xu}: gU (gJ P w) (d9 (gJ P w) P w K mg base N qual scope f cd A outer s H E) E:=by
 intro af σ H1 s1 e s' I hf;let⟨ea,cls,a0,B,H',rfl,os,bare,fl,cH,tT,un,kb,kt,hE⟩:=hf;have I':=I.K2 (ch:= []) os un (cH.kept fl.1) bare (λb z=>absurd z (by simp));change wpAny _ _ (leaving _ (.ref ea)) _ _ s';exact wpAny_leaves_onW I.ok.frames rfl fl λh' fl' up=> ?_;have hex:(d9 (gJ P w) P w K mg base N qual scope f cd A outer s H E).ex= []:=rfl;have kb': ∀b o,s.heap.get? b=some o ->H b=none ->b∉lf outer ->B.get? b=some o:=λb o e n hb=>kb b o (I.base.keep b o e n hb (λz=>absurd z (by simp[hex]))) (I.base.free b o e n (λz=>absurd z (by simp[hex]))) (I.Nq e hb);have kt': ∀b o,s.heap.get? b=some o ->b∉lf outer -> ∃o',B.get? b=some o':=λb o e hb=>by let⟨o1,e1⟩:=I.base.there b o e (λz=>absurd z (by simp[hex]));show kt b o1 e1 (I.Nq e hb)
 show#[ea,cls,a0,B,H',rfl,os.trans I.os,bare,fl',cH,tT,ue I'.nU I.ok.LY I'.base fl'.1 up kb' kt',kb',kt',hE]
def Kg (hP:X.prog=P)(hw:X.w=w)(I:Inv X af σ H s)(pk:X.stack=X.env::X.outer)(EQ:X.env.frame=some X.env.locals)(hex:X.ex= [])(mk:Heap.MadeExcOf s.heap h' e cls vs)(hE:E cls none H): wpAny M X.A (leaving X.env (.ref e)) (λ_ s2=>gJ P w X.outer X.H₀ X.s₀ E (.ref e) s2) E' {s with heap:=h'}:=by
 subst hP hw;have PX: ∀b:fM,b∉X.ex:=λb z=>by rw[hex] at z;show absurd z (by simp)
 have Ry:=I.stack;have vc: ∀env∈X.stack, ∀b,env.frame=some b ->b∈lf X.stack:=λenv he b hb=>List.mem_filterMap.mpr #[env,he,hb];have hB:mJ X.prog X.w H (W.hideAll s.heap (lf X.stack)):=λa o ea=>(I.cH a o ea).sB (λb u hb q=>W.hideAll_get _ q λhm=>by have:=I.tI b hm;obtain rfl | hb:=hb;rw[ea] at this;cases this;rw[hb] at this;cases this) (λ_ q=>q) λ_ _ q=>q;have tT:H e=none:=by
  cases q:H e with
  | none=>rfl
  | some o=>let⟨u,hu⟩:=(I.cH e o q).ex;rw[mk.new] at hu;cases hu
 have kb: ∀b o,X.s₀.heap.get? b=some o ->X.H₀ b=none ->b∉lf X.outer ->(W.hideAll s.heap (lf X.stack)).get? b=some o:=λb o e n hb=>W.hideAll_get _ (I.base.keep b o e n hb (PX b)) (I.Nq e hb);have kt: ∀b o,X.s₀.heap.get? b=some o ->b∉lf X.outer -> ∃o',(W.hideAll s.heap (lf X.stack)).get? b=some o':=λb o e hb=>by let⟨o1,e1⟩:=I.base.there b o e (PX b);show#[o1,W.hideAll_get _ e1 (I.Nq e hb)]
 have LV:s.heap.FunFrames (W.hideAll s.heap (lf X.stack)) (X.env::X.outer):=by have:=W.funFrames_hide Ry vc;rw[pk] at this ⊢;show this
 exact wpAny_leaves_madeW (by rw[I.ok.frames,pk]) EQ (λb o q=>W.of_hideAll _ q) LV mk λh2 t fl tu _ up=> ?_;have up':s.heap.UpToSlots h2:=(Heap.UpToSlots.of_keeps mk.keeps).trans up;have u0:Un (lf X.outer) [] X.H₀ H X.s₀.heap s.heap:=by have:=I.base;rw[hex] at this;show this
 show#[e,cls, .ref t,_,H,rfl,I.os,I.bare,fl,hB,tT,ue I.nU I.ok.LY u0 fl.1 up' kb kt,kb,kt,hE]
def Fq (X:Cx)(E:XK):Prop:= ∀ (af:cA (fM×Obj)) (σ:St) (H:Hp) (s:dq) (h':Heap) (e:fM) (cls:c5) (vs:cA c5),Inv X af σ H s ->Heap.MadeExcOf s.heap h' e cls vs ->E cls none H ->X.xe (.ref e) {s with heap:=h'}
theorem Kh {K:Xu}: Fq (d9 (gJ P w) P w K mg base N qual scope f cd A outer s H E) E:=λaf σ H1 s1 h' e cls vs I mk hE=>Kg (P:=P) (w:=w) rfl rfl I rfl rfl rfl mk hE
nonrec abbrev YC:cA c5:= [.type "ValueError", .type "Exception", .type "BaseException", .type "object"]
def BS (C:fM)(E:XK)(t:TA):TS:=λ_ σ H=>t σ H λvs H1=>vs.length<=sizeLine /\ E (.ref C) none H1
def IJ {np dE pos:Pos}{cE:cA Expr}(hF:Fq X E)(hc:X.calm=true)(hg:Gl X x)(O:PyProof.Rows.OwnCls x C YC "ValueError.__new__" X.mg X.base)(ha:PA X (e₀::cE) t)(n_:(x==("__debug__" :Str))=false:=by decide)(he:starEach (e₀::cE) X.env=(false,eval e₀ X.env)::starEach cE X.env:=by rfl)(no:(backTo dE (starEach cE X.env)).any (·.1)=false:=by rfl): PS X (.Raise (some (.Call (.Name x np) (e₀::cE) [] dE)) none pos) (BS C E t):=by intro af s σ H D I h;let⟨tl,N,nm,q,bs,hdct,sn,sub,ab,col,dd,k0,k1,k2,k3,k5,mN,hC,hN,EO,T⟩:=O.obj;exact wpAny_Raise_call_subU (C:=C) (nm:=nm) (q:=q) (N:=N) (bs:=bs) (bm:=tl) (hdct:=hdct) (sn:=sn) (sub:=sub) (ab:=ab) (col:=col) (dd:=dd) (k0:=k0) (k1:=k1) (k2:=k2) (k3:=k3) (k5:=k5) PySem.F.excBase_ValueError (bmB:=YC) (by decide+kernel) PySem.F.excBase_ValueError (mN:=mN) (T.hasType PySem.F.excBase_ValueError.hasBase) (I.ok.hd hc) (by rw[he];change(false || (backTo dE (starEach cE X.env)).any (·.1))=false;rw[no];rfl) EO (mT I hg O.bound #[rfl,?_] n_);have h2:=ha dE af s σ H _ I h;rw[he] at h2 ⊢;show Calls.evalArgs_plain (cQ h2 λus s2 ⟨vs,H1,I1,r,z,hE⟩=>#[rfl,by rw[<- r.length];show z,I1.bk _ _ hC,hN.keeps I1.bk,T.keeps I1.bk,λh' e mk=>hF af σ H1 s2 h' e (.ref C) us I1 mk hE])
end
def fq (a C:fM)(h:Heap):Prop:= ∃o,h.get? a=some o /\ o.cls= .ref C
abbrev Cx.i_ (X:Cx)(e:c5):Cx:= {X with A:=X.A.mark (some e),calm:=false,xe:=λ_ _=>False}
section
variable {X:Cx}{af:cA (fM×Obj)}{σ:St}{H H':Hp}{s s':dq}
theorem Cx.Ok.i_ (ok:X.Ok)(e:c5):(X.i_ e).Ok:=#[ok.mod,ok.kind,ok.glob,ok.blt,ok.above,ok.inj,ok.has,ok.UZ,(λz=>nomatch z),ok.frames,ok.Ry,ok.exf,ok.bs,ok.K5,ok.Gg,ok.CK,ok.nU,ok.LY]
theorem Inv.i_ (I:Inv X af σ H s)(e:c5):Inv (X.i_ e) af σ H s:=#[I.ok.i_ e,I.os,I.bare,I.base,I.loc,I.cell,I.free,I.gf,I.pin,I.cH,I.len]
theorem Inv.jU (ok:X.Ok)(I:Inv (X.i_ e) af σ H s):Inv X af σ H s:=#[ok,I.os,I.bare,I.base,I.loc,I.cell,I.free,I.gf,I.pin,I.cH,I.len]
def N7 (I:Inv X af σ H s)(hN:X.N.Nodup)(hi:X.N[i]? =some n)(hk:X.env.kindOf n=some .local)(h: ∀s',Inv X af (σ.set i none) H s' ->Q () s'):wpAny M A (do bindName X.env n .none;unbindBehindTheSuite X.env n pos) Q E s:=by
 let⟨m,hn,hl⟩:=id I.loc;have TC:(X.env.scope.kind== .class || (X.env.scope.kind== .module && X.env.locals !=X.env.globals))=false:=by rw[I.ok.kind];rfl
 have _m:i<σ.length:=by rw[I.len];show(bq.mp hi).1
 have KQ:=I.KQ;exact wpAny_nameGoes_keeps hk hn TC λh' v yS hs=> ?_;let⟨oL,_,_,hoL,_⟩:=id hn;have tracked:mJ X.prog X.w H h':=λb ob e=>by exact(I.cH b ob e).sB (λc w' hc q=>(hs.2 c ?_).trans q) (λ_ q=>q) λ_ _ q=>q;rintro rfl;obtain rfl | hc:=hc;rw[I.free] at e;cases e;rw[I.free] at hc;cases hc
 exact h _ #[I.ok,I.os,I.bare,#[λb o e n hb hx=> ?_,λb o e n hb hx=> ?_,I.base.free,λb o e hx=> ?_,I.base.nF,I.base.lX,I.base.ol],#[_,yS,λj y v' e1 e2 e3=> ?_],λy c e=> ?_,I.free,I.gf,λp hp=> ?_,tracked, ⇑I.len];show(hs.2 b (bu (be (aN e) I.ok.above))).trans (I.base.keep b o e n hb hx);let⟨sl,e1⟩:=I.base.slot b o e n hb hx;show#[sl,(hs.2 b (bu (be (aN e) I.ok.above))).trans e1];let⟨o',e1⟩:=I.base.there b o e hx;show#[o',(hs.2 b (bu (be (aN e) I.ok.above))).trans e1];by_cases hj:j=i;subst hj;rw[List.getElem?_set_self _m] at e2;cases e2;rw[List.getElem?_set_ne (cX hj)] at e2;let⟨u',r',q⟩:=hl j y v' e1 e2 e3;exact#[u',r',?_];rcases q with⟨k,e⟩ | ⟨k,c,e,z⟩
 exact .inl #[k,?_];have:y≠n:=λe=>hj (uK hN e1 (e▸hi));simp[this,e];show .inr #[k,c,e,z.sameBut hs (KQ y c e)];let⟨w',z⟩:=I.cell y c e;show#[w',z.sameBut hs (KQ y c e)];let⟨e,n,ne,nf,d⟩:=I.pin p hp;show#[(hs.2 p.1 ne).trans e,n,ne,nf,d]
def iM (I:Inv X af σ H1 s1)(os:s'.os=s1.os)(bare:AllBare s'.gens)(fl:Heap.FlyingW B X.stack ea (.ref C) a0 s'.heap)(cH:mJ X.prog X.w H' B)(tT:H' ea=none)(un:Un (lf X.stack) [] H1 H' s1.heap s'.heap)(kb: ∀b o,s1.heap.get? b=some o ->H1 b=none ->b∉lf X.stack ->B.get? b=some o)(kt: ∀b o,s1.heap.get? b=some o ->b∉lf X.stack -> ∃o',B.get? b=some o')(fl5:Heap.FlyingW B X.stack ea (.ref C) a0 h5)(up:s'.heap.UpToSlots h5):Inv X af σ (cf H' ea (.ext (fq ea C))) {s' with heap:=h5,toks:=tk} /\ aY H1 (cf H' ea (.ext (fq ea C))):=by
 have new: ∀b o,s1.heap.get? b=some o ->b≠ea:=λb o e z=>by subst z;by_cases hb:b∈lf X.stack;let⟨_,o2,e2,XZ⟩:=fl.2.2.1.mem hb;let⟨oe,vs,e3,_,hd,_⟩:=fl.first;rw[e2] at e3;cases e3;show XZ vs hd;let⟨o',e'⟩:=kt b o e hb;rw[fl.2.1] at e';cases e'
 have u5:=ue fl.2.2.1 I.tI un fl5.1 up kb kt;have Ay: ∀b o,H' b=some o ->cf H' ea (.ext (fq ea C)) b=some o:=λb o e=>by rw[bL (e_ e tT)];show e
 have u6:Un (lf X.stack) [] H1 (cf H' ea (.ext (fq ea C))) s1.heap h5:=#[u5.keep,u5.slot,λb o e n hx=>by rw[bL (new b o e)];show u5.free b o e n hx,u5.there,λb xs e=>Ay _ _ (u5.nF b xs e),λb o u e=>Ay _ _ (u5.lX b o u e),λb ps e=>let ⟨m,z⟩:=u5.ol b ps e;#[m,Ay _ _ z]]
 have abJ:mJ X.prog X.w (cf H' ea (.ext (fq ea C))) h5:=λb o e=>by by_cases hb:b=ea;subst hb;rw[bM] at e;cases e;let⟨oe,vs,e3,hc,_⟩:=fl5.first;show#[#[oe,e3,hc],#[oe,e3],λh1 h2 ⟨o,e,c⟩ k=>#[o,k o e,c]];rw[bL hb] at e;show(cH b o e).sB (λc u _ q=>fl5.1 c u q) (λc q=>Ay _ _ q) λc xs q=>Ay _ _ q
 exact#[I.K2 (s':= {s' with heap:=h5,toks:=tk}) (ch:= []) os u6 abJ bare (λb z=>absurd z (by simp)),λb xs r=> ?_];obtain r | ⟨w,r⟩:=r;show .inl (u6.nF _ _ r);show .inr #[w,u6.lX _ _ _ r]
def AL (i:Nat)(D:j8):j8:= {nx:=λσ H=>D.nx (σ.set i none) H,rt:=D.rt,bk:=λσ H=>D.bk (σ.set i none) H,ct:=λσ H=>D.ct (σ.set i none) H}
theorem yJ (I:Inv X af σ H s)(hg:Gl X x)(hm:X.mg x=some u)(h:Q u s)(hd:(x==("__debug__" :Str))=false:=by decide):wpAny M A (eval (.Name x pos) X.env) Q E s:=Calls.Name_function_global I.ok.kind hg (Calls.loadGlobal_global (by rw[I.ok.glob];show I.mod.glob.keeps I.bk) hm h) hd
end
end L2
namespace L2
open PySem PyProof.Rows PyProof.V PySem.Calls PySem.Spec PySem.W PySem.Builtin PySem.Builtin.ObjectAttr PySem.Builtin.Getset_descriptor
theorem qS (hx:hh.get? a=some o)(hc:o.cls= .ref C):Looks M hh (typeOf (.ref a)) (.ref C):=hc▸ (Looks.ld hx).andThen .now
def Oi {K:Xu}{os:OsState}(X:K.In hh)(hx:hh.get? a=some o)(hc:o.cls= .ref C)(hm:mroIn K C (.type "object")=some true)(h:R (.ok (.ret (.ref C))) #[hh,g,d,t,os]): codeAny (model prog w) A (.call (.builtin "getset_descriptor.__get__") #[[.builtin "object.__class__", .ref a,tp],[]]) R #[hh,g,d,t,os]:=by
 have L0:=qS (M:=model prog w) hx hc;have L1:=looks_mroIn (M:=model prog w) X hm;exact codeAny_call_builtin KF.slot_gs.plain KF.entry_gs (KF.slot_gs.check _ _ _ _ _ _ _ _ KF.type_class (KF.args_gs _ _ _) ?_);unfold Builtin.«getset_descriptor.__get__» descrGet;rw[dga_obj];exact ax (a5 ?_);unfold descrGetter descrCheckInstance descrNameAndClass isInstance;simp![KF.owner_class];repeat lk
 exact#[Code.quiet_builtin _ (by decide+kernel),codeAny_builtin KF.entry_class ?_];unfold Builtin.«object.__class__» shownTypeOf;repeat lk
 show h
def GH {K:Xu}{os:OsState}(X:K.In hh)(hx:hh.get? a=some o)(hc:o.cls= .ref C)(kz:findIn K (.ref C) "__class__" =some (some (.builtin "object.__class__")))(hm:mroIn K C (.type "object")=some true)(hq:Q (.done (.ret (.ref C))) #[hh,g,d,t,os]):wpAny (model prog w) A (Builtin.«object.__getattribute__» #[[.ref a, .str "__class__" tk],[]]) Q E #[hh,g,d,t,os]:=by
 have LT:=qS (M:=model prog w) hx hc;have L3:=looks_findIn (M:=model prog w) X kz;have hT5:(#[hh,g,d,t,os]:dq).TypeIs (.builtin "object.__class__") "getset_descriptor" :=F.typeOf_object_class;have f5:=F.typeOf_object_class;have f6:=F.slot_gs_get.lookup;have f7:=F.slot_gs_set.lookup;repeat (any_goals (first | assumption | with_reducible exact Looks.at LT ?_ | with_reducible exact Looks.at L3 ?_ | (with_reducible exact wpAny_loadPart_at hx ?_;rw[hc]) | wp_step))
 exact Oi X hx hc hm ?_;repeat (any_goals (first | assumption | wp_step))
def GI {K:Xu}{os:OsState}(X:K.In hh)(hx:hh.get? a=some o)(hc:o.cls= .ref C)(hb:mroIn K C (.type "BaseException")=some true)(hq:Q () #[hh,g,d,t,os]): wpAny M A (checkBuiltinCall "BaseException.__getattribute__" #[[.ref a,P9],[]]) Q E #[hh,g,d,t,os]:=by
 have LT:=qS (M:=M) hx hc;have LB:=looks_mroIn (M:=M) X hb;have hk:builtinKind "BaseException.__getattribute__" =some .slot:=by decide+kernel
 have Ti:splitId "BaseException.__getattribute__" =some ("BaseException","__getattribute__"):=by decide+kernel
 have ha:=F.args_bexc_ga (.ref a) P9;simp![checkBuiltinCall,hk,Ti];exact ax ?_
 .unfold isInstance;repeat (first | with_reducible exact Looks.at LT ?_ | with_reducible exact Looks.at LB ?_ | (with_reducible exact wpAny_loadPart_at hx ?_;rw[hc]) | wp_step)
  show hq
theorem Ks {K:Xu}{os:OsState}(X:K.In hh)(hx:hh.get? a=some o)(hc:o.cls= .ref C)(kz:findIn K (.ref C) "__class__" =some (some (.builtin "object.__class__")))(hm:mroIn K C (.type "object")=some true)(hb:mroIn K C (.type "BaseException")=some true)(hq:R (.ok (.ret (.ref C))) #[hh,g,d,t,os]):codeAny (model prog w) A (.call (.builtin "BaseException.__getattribute__") #[[.ref a, .str "__class__" tk],[]]) R #[hh,g,d,t,os]:=codeAny_call_builtin F.excAttr_ValueError.ga.plain F.entry_bexc_ga (GI X hx hc hb (GH X hx hc kz hm hq))
def TZ {K:Xu}{os:OsState}{fill Kr:Bool}(X:K.In hh)(hx:hh.get? a=some o)(hc:o.cls= .ref C)(hga:findIn K (.ref C) "__getattribute__" =some (some (.builtin "BaseException.__getattribute__")))(hgn:findIn K (.ref C) "__getattr__" =some none)(kz:findIn K (.ref C) "__class__" =some (some (.builtin "object.__class__")))(hm:mroIn K C (.type "object")=some true)(hb:mroIn K C (.type "BaseException")=some true)(hq:Q (.ref C) #[hh,g,d,t,os]):wpAny (model prog w) A (getAttrBy (.ref a) (.str "__class__" tk) fill Kr) Q E #[hh,g,d,t,os]:=by
 have LT:=qS (M:=model prog w) hx hc;have L1:=looks_findIn (M:=model prog w) X hga;have L2:=looks_findIn (M:=model prog w) X hgn;have f3:=F.excAttr_ValueError.ga.bind (.ref a);have hx0:(Kr && onTheHeap (Value.builtin "BaseException.__getattribute__"))=false:=by cases Kr<;>rfl
 have XC:(Value.builtin "BaseException.__getattribute__" ==Value.builtin "object.__getattribute__")=false:=by decide+kernel
 have hx1:(onTheHeap (Value.ref C) && Value.builtin "BaseException.__getattribute__" ==Value.builtin "object.__getattribute__")=false:=by rw[XC];rfl
 repeat (any_goals (first | assumption | with_reducible exact Looks.at LT ?_ | with_reducible exact Looks.at L1 ?_ | with_reducible exact Looks.at L2 ?_ | (with_reducible exact wpAny_loadPart_at hx ?_;rw[hc]) | wp_step))
 exact Ks X hx hc kz hm hb ?_;repeat (any_goals (first | assumption | wp_step))
def Kt {K:Xu}{os:OsState}(X:K.In hh)(hx:hh.get? a=some o)(hc:o.cls= .ref C)(hga:findIn K (.ref C) "__getattribute__" =some (some (.builtin "BaseException.__getattribute__")))(hgn:findIn K (.ref C) "__getattr__" =some none)(kz:findIn K (.ref C) "__class__" =some (some (.builtin "object.__class__")))(hm:mroIn K C (.type "object")=some true)(hb:mroIn K C (.type "BaseException")=some true)(hq:Q (some (.ref C)) #[hh,g,d,t+1,os]):wpAny (model prog w) A (getAttr? (.ref a) "__class__") Q E #[hh,g,d,t,os]:=by unfold getAttr? getAttrBy?;repeat (any_goals (first | assumption | with_reducible apply TZ X hx hc hga hgn kz hm hb | wp_step))
end L2
namespace L2
open PySem PyProof.Rows PyProof.V PySem.Calls PySem.Spec PySem.W
structure Dc (K:PySem.W.Frag)(C:Addr):Prop where
 cls:(clsIn K C).isSome=true
 ga:findIn K (.ref C) "__getattribute__" =some (some (.builtin "BaseException.__getattribute__"))
 gn:findIn K (.ref C) "__getattr__" =some none
 cl:findIn K (.ref C) "__class__" =some (some (.builtin "object.__class__"))
 mo:mroIn K C (.type "object")=some true
 mb:mroIn K C (.type "BaseException")=some true
theorem JB {K:Xu}{a C:fM}(k:Dc K C):KitX K (.ref a) (.ref C) (fq a C) where
 ty:=λM h _ ⟨o,e,c⟩=>qS e c
 it :=λ_ _ X _=>by let⟨cdD,NZ⟩:=cZ.mp k.cls;unfold clsIn at NZ;split at NZ;rename_i c' d' cd' sl' ho;intro A' Q' E' s' k q;unfold isType loadHead;show ax (wpAny_loadPart (k _ _ (X _ _ ho)) (a5 q));cases NZ
 ne :=λh tp dd bI n sl X htp=>by let⟨cdD,NZ⟩:=cZ.mp k.cls;exact Bool.eq_false_iff.mpr λq=> ?_;have e:C=tp:=Value.ref.inj (beq_iff_eq.mp q);subst e;unfold clsIn at NZ;split at NZ;rename_i c' d' cd' sl' ho;have z:=(X _ _ ho).symm.trans htp;cases z;cases NZ
 ca:=λ{prog w A E Q s} X ⟨o,e,c⟩ h=>by let⟨hh,g,d,t,os⟩:=s;show Kt X e c k.ga k.gn k.cl k.mo k.mb h
def Ix (K:Xu):cA V ->Hp ->VK ->Prop:=λxs H Q=>tq λa C c cu b=>Lf (xs= [.ref a,c]) (H a=some (.ext (fq a C))) (Dc K C) (RelV c cu) (∀u,RelV c u ->u=cu) (kitOne K (.ref C) cu=some b) (Q (.bl b) H)
def vA:eY X (.builtin "isinstance") (Ix X.K):=by intro af s σ H xs us Q I r h;let⟨a,C,c,cu,b,rfl,ea,kc,rc,only,e,q⟩:=h;let⟨u,w',rfl,ru,vY⟩:=vals2 r;cases only _ vY;cases (show u=Value.ref a from ru);show kia_one (JB kc) I.kT (I.cH a _ ea).1 e (λz=>nomatch z) λtk=>#[.bl b,H,I.tok tk,rfl,q]
end L2
namespace WL
open PySem L2
set_option genInjectivity true in
inductive W where
 | v (x:V) | tup (l:List W)
set_option genInjectivity true in
inductive MO where
 | lst (l:List W) | dK (kvs:List (bX×W)) | ins (C dx:Addr) (fs:List (Str×W)) | exc (C:Addr) | fz (o:Obj) (ks:List (bX×V)) (kvs:List (bX×W))
abbrev Mp:=fM ->eM MO
abbrev bS:=cA (eM W)
abbrev WK:=W ->Mp ->Prop
abbrev WE:=bS ->Mp ->WK ->Prop
abbrev WT:=bS ->Mp ->(Bool ->Mp ->Prop) ->Prop
abbrev WA:=bS ->Mp ->(cA W ->Mp ->Prop) ->Prop
abbrev WG:=W ->bS ->Mp ->(bS ->Mp ->Prop) ->Prop
abbrev OG:=cA W ->bS ->Mp ->(bS ->Mp ->Prop) ->Prop
abbrev pX:=W ->W ->Mp ->WK ->Prop
abbrev zd:=cA W ->Mp ->WK ->Prop
abbrev WI:=bS ->Mp ->(cA W ->(Mp ->Prop) ->Mp ->Prop) ->Prop
structure dH where
 nx:bS ->Mp ->Prop
 rt:WK
 bk:bS ->Mp ->Prop:=λ_ _=>False
 ct:bS ->Mp ->Prop:=λ_ _=>False
abbrev WS:=dH ->bS ->Mp ->Prop
@[reducible] def wi (i:Int):W:= .v (.int i)
@[reducible] def wb (b:Bool):W:= .v (.bl b)
@[reducible] def wr (a:fM):W:= .v (.ref a)
@[reducible] def ws (x:Str):W:= .v (.str x)
@[reducible] def wn:W:= .v .dG
def um (M:Mp)(a:fM)(o:MO):Mp:=λb=>if b=a then some o else M b
def ao:um M a o a=some o:=by unfold um;rw[am rfl]
def aP (h:b≠a):um M a o b=M b:=by unfold um;rw[ak h]
def j9:um (um M a o) a u=um M a u:=by funext b;unfold um;split<;>rfl
def cF {M:Mp}(h:M a=some o)(h':M b=none):a≠b:=by intro e;subst e;rw[h] at h';cases h'
def Sm (M M':Mp):Prop:= ∀b o,M b=some o ->M' b=some o
theorem Sm.refl (M:Mp):Sm M M:=λ_ _ h=>h
theorem Sm.trans {M M1 M2:Mp}(a:Sm M M1)(b:Sm M1 M2):Sm M M2:=λc o h=>b c o (a c o h)
def Sm.free (a:Sm M M')(h:M' p=none):M p=none:=by
 cases e:M p with
 | none=>rfl
 | some o=>rw[a p o e] at h;cases h
theorem a6 (h:M p=none):Sm M (um M p o):=λb u e=>by rw[aP (cF e h)];show e
theorem Sm.um (a:Sm M M')(h:M p=none):Sm M (um M' p o):=λb u e=>by rw[aP (cF e h)];show a b u e
mutual
def WR (K:Xu)(H:Hp):W ->V ->Prop
 | .v x,v=>v=x
 | .tup l,v=>cc λa vs=>cW (v= .ref a) (kP K H a vs) (cK K H l vs)
def cK (K:Xu)(H:Hp):cA W ->cA V ->Prop
 | [],vs=>vs= []
 | x::r,vs=>cc λv t=>cW (vs=v::t) (WR K H x v) (cK K H r t)
end
mutual
theorem WR.ts {K:Xu}{H H':Hp}(a:aY H H'): ∀ (x:W) (v:V),WR K H x v ->WR K H' x v
 | .v x,v,h=>by simp![WR] at h ⊢;show h
 | .tup l,v,h=>by simp![WR] at h ⊢;let⟨p,vs,e,hs,hr⟩:=h;show#[p,vs,e,Un.sqT a hs,cK.ts a l vs hr]
theorem cK.ts {K:Xu}{H H':Hp}(a:aY H H'): ∀ (l:cA W) (vs:cA V),cK K H l vs ->cK K H' l vs
 | [],vs,h=>by simp![cK] at h ⊢;show h
 | x::r,vs,h=>by simp![cK] at h ⊢;let⟨v,t,e,h1,h2⟩:=h;show#[v,t,e,WR.ts a x v h1,cK.ts a r t h2]
end
theorem cK.length {K:Xu}{H:Hp}: ∀ {l:cA W} {vs:cA V},cK K H l vs ->vs.length=l.length
 | [],_,h=>by simp![cK] at h;subst h;rfl
 | d::r,vs,h=>by simp![cK] at h;let⟨v,t,rfl,_,h⟩:=h;simp[cK.length h]
theorem cK.at {K:Xu}{H:Hp}: ∀ {l:cA W} {vs:cA V} {j:Nat} {d:W},cK K H l vs ->l[j]? =some d -> ∃v,vs[j]? =some v /\ WR K H d v
 | [],_,_,_,_,e=>by simp at e
 | d::r,vs,j,d',h,e=>by
  simp![cK] at h;let⟨v,t,rfl,h1,h⟩:=h;cases j with
  | zero=>simp at e;subst e;show#[v,rfl,h1]
  | succ j=>simpa using cK.at (j:=j) h ⇑e
theorem cK.mk {K:Xu}{H:Hp}: ∀ {l:cA W} {vs:cA V},vs.length=l.length ->(∀ (j:Nat) d v,l[j]? =some d ->vs[j]? =some v ->WR K H d v) ->cK K H l vs
 | [],vs,h,_=>by simp![cK];show List.length_eq_zero_iff.mp h
 | d::r,[],h,_=>by simp at h
 | d::r,v::vs,h,k=>by simp![cK];show#[v,vs,rfl,k 0 d v rfl rfl,cK.mk ⇑h λj x u e1 e2=>k (j+1) x u ⇑e1 ⇑e2]
def cK.back {j:Nat}(h:cK K H l vs)(e:vs[j]? =some v): ∃d,l[j]? =some d /\ WR K H d v:=by
 have hl:=h.length;have hj:j<l.length:=by have:=(bq.mp e).1;lia
 let⟨u,hu,r⟩:=h.at (j:=j) (d:=l[j]) (aC hj);rw[e] at hu;cases hu;show#[_,aC hj,r]
def cK.snoc (h:cK K H l vs)(hr:WR K H d v):cK K H (l++ [d]) (vs++ [v]):=by
 have hl:=h.length;exact cK.mk (by simp[hl]) λj x u e1 e2=> ?_;by_cases hj:j<l.length;rw[br hj] at e1;rw[br ∅] at e2;let⟨w,hw,r⟩:=h.at e1;rw[e2] at hw;cases hw;show r;rw[a9 ∅] at e1;rw[a9 ∅,hl] at e2;cases hk:j - l.length with
 | zero=>rw[hk] at e1 e2;simp at e1 e2;subst e1 e2;show hr
 | succ k=>rw[hk] at e1;simp at e1
def cK.append (h:cK K H l vs)(h':cK K H m us):cK K H (l++m) (vs++us):=by have hl:=h.length;have rK:=h'.length;exact cK.mk (by simp[hl,rK]) λj x u e1 e2=> ?_;by_cases hj:j<l.length;rw[br hj] at e1;rw[br ∅] at e2;let⟨w,hw,r⟩:=h.at e1;rw[e2] at hw;cases hw;show r;rw[a9 ∅] at e1;rw[a9 ∅,hl] at e2;let⟨w,hw,r⟩:=h'.at e1;rw[e2] at hw;cases hw;show r
def cK.drop (n:Nat)(h:cK K H l vs):cK K H (l.drop n) (vs.drop n):=by exact cK.mk (by simp[h.length]) λj x u e1 e2=> ?_;rw[List.getElem?_drop] at e1 e2;let⟨w,hw,r⟩:=h.at e1;rw[e2] at hw;cases hw;show r
def cK.take (n:Nat)(h:cK K H l vs):cK K H (l.take n) (vs.take n):=by exact cK.mk (by simp[h.length]) λj x u e1 e2=> ?_;rw[List.getElem?_take] at e1 e2;split at e1;rename_i hj;rw[am hj] at e2;let⟨w,hw,r⟩:=h.at e1;rw[e2] at hw;cases hw;show r;cases e1
def cK.set (n:Nat)(h:cK K H l vs)(hr:WR K H d v):cK K H (l.set n d) (vs.set n v):=by have hl:=h.length;exact cK.mk (by simp[h.length]) λj x u e1 e2=> ?_;rw[List.getElem?_set] at e1 e2;split at e1;rename_i hj;rw[am hj] at e2;split at e1;split at e2;cases e1;cases e2;show hr;cases e2;cases e1;rename_i hj;rw[ak hj] at e2;let⟨w,hw,r⟩:=h.at e1;rw[e2] at hw;cases hw;show r
def cK.nil:cK K H [] []:=by simp![cK]
def cK.cons {K:Xu}{H:Hp}{x:W}{v:V}{l:cA W}{vs:cA V}(h:WR K H x v)(r:cK K H l vs):cK K H (x::l) (v::vs):=by simp![cK];show#[v,vs,rfl,h,r]
def WR.v:WR K H (.v x) x:=by simp![WR]
def WR.eq {x v:V}(h:WR K H (.v x) v):v=x:=by simpa only[WR] using h
def WR.tup {K:Xu}{H:Hp}{l:cA W}{v:V}(h:WR K H (.tup l) v):cc λa vs=>cW (v= .ref a) (kP K H a vs) (cK K H l vs):=by simpa only[WR] using h
def WR.Sx (h:kP K H a vs)(r:cK K H l vs):WR K H (.tup l) (.ref a):=by simp![WR];show#[a,vs,rfl,h,r]
def KR (K:Xu)(H:Hp){κ:Type}:cA (κ×W) ->cA (κ×V) ->Prop:=Paired λp q=>p.1=q.1 /\ WR K H p.2 q.2
theorem KR.ts {K:Xu}{H H':Hp}{κ:Type}(a:aY H H'): ∀ {l:cA (κ×W)} {vs:cA (κ×V)},KR K H l vs ->KR K H' l vs
 | _,_, .nil=> .nil
 | _,_, .cons ⟨e,r⟩ t=> .cons #[e,r.ts a] (KR.ts a t)
def MR (K:Xu)(H:Hp)(a:fM):MO ->Prop
 | .lst l=> ∃vs,H a=some (.lst vs) /\ cK K H l vs
 | .dK kvs=> ∃ks,H a=some (.dK ks) /\ KR K H kvs ks
 | .ins C dx fs=> ∃ks,H a=some (.ins C dx ks) /\ KR K H fs ks
 | .exc C=>H a=some (.ext (fq a C))
 | .fz o ks kvs=>H a=some (.lc o (.dK ks)) /\ KR K H kvs ks
def MR.some (h:MR K H a o): ∃u,H a=some u:=by
 cases o with
 | lst l=>let⟨_,e,_⟩:=h;show#[_,e]
 | dK l=>let⟨_,e,_⟩:=h;show#[_,e]
 | ins C d l=>let⟨_,e,_⟩:=h;show#[_,e]
 | exc C=>show#[_,h]
 | fz o l l2=>show#[_,h.1]
def MR.mv (t:aY H H')(e:H' a=H a)(h:MR K H a o):MR K H' a o:=by
 cases o with
 | lst l=>let⟨vs,e1,r⟩:=h;show#[vs,e.trans e1,r.ts t]
 | dK l=>let⟨vs,e1,r⟩:=h;show#[vs,e.trans e1,r.ts t]
 | ins C d l=>let⟨vs,e1,r⟩:=h;show#[vs,e.trans e1,r.ts t]
 | exc C=>show e.trans h
 | fz o l l2=>show#[e.trans h.1,h.2.ts t]
def fR (K:Xu)(M:Mp)(H:Hp):Prop:= ∀a o,M a=some o ->MR K H a o
def fR.fresh (h:fR K M H)(hp:H p=none):M p=none:=by
 cases e:M p with
 | none=>rfl
 | some o=>let⟨u,hu⟩:=(h p o e).some;rw[hp] at hu;cases hu
theorem fR.new (h:fR K M H)(hp:H p=none):fR K M (cf H p u):=λa o e=>by have:=h a o e;let⟨w,hw⟩:=this.some;show this.mv (L2.fF.ts (bO hp)) (bL (e_ hw hp))
theorem Dq (h:H a=some o)(hn: ∀xs,o≠ .tup xs)(hf: ∀b xs,o≠ .lc b (.tup xs)):aY H (cf H a u):=λb xs r=>by
 have nb:b≠a:=λe=>by subst e;obtain r | ⟨w,r⟩:=r;rw[h] at r;cases r;show hn _ rfl;rw[h] at r;cases r;show hf _ _ rfl
 unfold Rd;rw[bL nb];show r
theorem fR.put (h:fR K M H)(t:aY H (cf H a u))(new:MR K (cf H a u) a o):fR K (um M a o) (cf H a u):=λb x e=>by by_cases hb:b=a;subst hb;rw[ao] at e;cases e;show new;rw[aP hb] at e;show(h b x e).mv t (bL hb)
theorem fR.jW (h:fR K M H)(hp:H p=none)(r:cK K H l vs):fR K (um M p (.lst l)) (cf H p (.lst vs)):=h.put (L2.fF.ts (bO hp)) #[vs,bM,r.ts (L2.fF.ts (bO hp))]
theorem ix (h:H a=some (.lst xs)):aY H (cf H a u):=Dq h (λ_ z=>nomatch z) λ_ _ z=>nomatch z
theorem lm (h:H a=some (.dK xs)):aY H (cf H a u):=Dq h (λ_ z=>nomatch z) λ_ _ z=>nomatch z
theorem Rp (h:H a=some (.ins C d xs)):aY H (cf H a u):=Dq h (λ_ z=>nomatch z) λ_ _ z=>nomatch z
theorem fR.putL (h:fR K M H)(e:H a=some (.lst xs))(r:cK K H l vs):fR K (um M a (.lst l)) (cf H a (.lst vs)):=h.put (ix e) #[vs,bM,r.ts (ix e)]
theorem fR.putD (h:fR K M H)(e:H a=some (.dK xs))(r:KR K H l vs):fR K (um M a (.dK l)) (cf H a (.dK vs)):=h.put (lm e) #[vs,bM,KR.ts (lm e) r]
def Fo (K:Xu)(H:Hp)(ρ:bS)(σ:St):Prop:=ρ.length=σ.length /\ ∀ (i:Nat) x,ρ[i]? =some (some x) -> ∃v,σ[i]? =some (some v) /\ WR K H x v
theorem Fo.ts (t:aY H H')(h:Fo K H ρ σ):Fo K H' ρ σ:=#[h.1,λi x e=>let ⟨v,a,r⟩:=h.2 i x e;#[v,a,r.ts t]]
structure Ok (K:PySem.W.Frag)(ρ:bS)(M:Mp)(σ:St)(H:Hp):Prop where
 env:Fo K H ρ σ
 hp:fR K M H
theorem Ok.mv (o:Ok K ρ M σ H)(t:aY H H')(m:fR K M' H'):Ok K ρ M' σ H':=#[o.env.ts t,m]
def Fo.set (h:Fo K H ρ σ)(i:Nat)(r:WR K H x v):Fo K H (ρ.set i (some x)) (σ.set i (some v)):=by exact#[by simp[h.1],λj y e=> ?_];rw[List.getElem?_set] at e ⊢;split at e;rename_i hj;rw[am hj];split at e;rename_i mX;rw[am (by rw[<- h.1];show mX)];cases e;show#[v,rfl,r];cases e;rename_i hj;rw[ak hj];show h.2 j y e
section
variable (K:Xu)
class IE (t:TE) (w:outParam WE):Prop where
 imp: ∀ (ρ:bS) (M:Mp) (σ:St) (H:Hp) (q:WK) (Q:VK),Ok K ρ M σ H ->w ρ M q ->(∀x M' v H',q x M' ->aY H H' ->fR K M' H' ->WR K H' x v ->Q v H') ->t σ H Q
class IT (t:TT) (w:outParam WT):Prop where
 imp: ∀ (ρ:bS) (M:Mp) (σ:St) (H:Hp) (q:Bool ->Mp ->Prop) (Q:Bool ->Hp ->Prop),Ok K ρ M σ H ->w ρ M q ->(∀b M' H',q b M' ->aY H H' ->fR K M' H' ->Q b H') ->t σ H Q
class IA (t:TA) (w:outParam WA):Prop where
 imp: ∀ (ρ:bS) (M:Mp) (σ:St) (H:Hp) (q:List W ->Mp ->Prop) (Q:List V ->Hp ->Prop),Ok K ρ M σ H ->w ρ M q ->(∀x M' v H',q x M' ->aY H H' ->fR K M' H' ->cK K H' x v ->Q v H') ->t σ H Q
class IG (t:TG) (w:outParam WG):Prop where
 imp: ∀ (x:W) (v:V) (ρ:bS) (M:Mp) (σ:St) (H:Hp) (q:bS ->Mp ->Prop) (Q:St ->Hp ->Prop),Ok K ρ M σ H ->WR K H x v ->w x ρ M q ->(∀ρ' M' σ' H',q ρ' M' ->aY H H' ->Ok K ρ' M' σ' H' ->Q σ' H') ->t v σ H Q
class _N (t:L8) (w:outParam OG):Prop where
 imp: ∀ (x:List W) (v:List V) (ρ:bS) (M:Mp) (σ:St) (H:Hp) (q:bS ->Mp ->Prop) (Q:St ->Hp ->Prop),Ok K ρ M σ H ->cK K H x v ->w x ρ M q ->(∀ρ' M' σ' H',q ρ' M' ->aY H H' ->Ok K ρ' M' σ' H' ->Q σ' H') ->t v σ H Q
structure iU (H:Hp)(D':dH)(D:j8):Prop where
 nx: ∀ρ' M' σ' H',D'.nx ρ' M' ->aY H H' ->Ok K ρ' M' σ' H' ->D.nx σ' H'
 rt: ∀x M' v H',D'.rt x M' ->aY H H' ->fR K M' H' ->WR K H' x v ->D.rt v H'
 bk: ∀ρ' M' σ' H',D'.bk ρ' M' ->aY H H' ->Ok K ρ' M' σ' H' ->D.bk σ' H'
 ct: ∀ρ' M' σ' H',D'.ct ρ' M' ->aY H H' ->Ok K ρ' M' σ' H' ->D.ct σ' H'
class IS (t:TS) (w:outParam WS):Prop where
 imp: ∀ (ρ:bS) (M:Mp) (σ:St) (H:Hp) (D':dH) (D:j8),Ok K ρ M σ H ->w D' ρ M ->iU K H D' D ->t D σ H
class IR (r:R2) (w:outParam pX):Prop where
 imp: ∀ (x y:W) (v u:V) (M:Mp) (H:Hp) (q:WK) (Q:VK),fR K M H ->WR K H x v ->WR K H y u ->w x y M q ->(∀x M' v H',q x M' ->aY H H' ->fR K M' H' ->WR K H' x v ->Q v H') ->r v u H Q
class IU (r:V ->Hp ->VK ->Prop) (w:outParam (W ->Mp ->WK ->Prop)):Prop where
 imp: ∀ (x:W) (v:V) (M:Mp) (H:Hp) (q:WK) (Q:VK),fR K M H ->WR K H x v ->w x M q ->(∀x M' v H',q x M' ->aY H H' ->fR K M' H' ->WR K H' x v ->Q v H') ->r v H Q
class IC (r:List V ->Hp ->VK ->Prop) (w:outParam zd):Prop where
 imp: ∀ (x:List W) (v:List V) (M:Mp) (H:Hp) (q:WK) (Q:VK),fR K M H ->cK K H x v ->w x M q ->(∀x M' v H',q x M' ->aY H H' ->fR K M' H' ->WR K H' x v ->Q v H') ->r v H Q
end
theorem iU.mv (e:iU K H D' D)(t:aY H H'):iU K H' D' D:=#[λa b c d h s=>e.nx a b c d h (t.trans s),λa b c d h s=>e.rt a b c d h (t.trans s),λa b c d h s=>e.bk a b c d h (t.trans s),λa b c d h s=>e.ct a b c d h (t.trans s)]
end WL
namespace WL
open PySem L2
section
variable {K:Xu}
def ft (i:Nat):WE:=λρ M q=>match ρ[i]? with
 | some (some x)=>q x M
 | _=>False
def Ho (h:ft i ρ M q): ∃x,ρ[i]? =some (some x) /\ q x M:=by unfold ft at h;split at h;rename_i x e;show#[x,e,h];show h.elim
instance {i:Nat}:IE K (Mr i) (ft i) where
 imp:=λρ M σ H q Q o h k=>let ⟨x,e,h⟩:=Ho h;let ⟨v,e',r⟩:=o.env.2 i x e;#[v,e',k x M v H h (aY.refl H) o.hp r]
def wC (x:W):WE:=λ_ M q=>q x M
instance {v:V}:IE K (tC v) (wC (.v v)) where
 imp:=λρ M σ H q Q o h k=>k (.v v) M v H h (aY.refl H) o.hp WR.v
def LH (r:pX)(a b:WE):WE:=λρ M q=>a ρ M λx M1=>b ρ M1 λy M2=>r x y M2 q
instance {r:R2}{w:pX}{ta tb:TE}{a b:WE} [ir:IR K r w] [ia:IE K ta a] [ib:IE K tb b]:IE K (VV r ta tb) (LH w a b) where
 imp:=λρ M σ H q Q o h k=>ia.imp ρ M σ H _ _ o h λx M1 v H1 h1 t1 m1 r1=>ib.imp ρ M1 σ H1 _ _ (o.mv t1 m1) h1 λy M2 u H2 h2 t2 m2 r2=>ir.imp x y v u M2 H2 _ _ m2 (r1.ts t2) r2 h2 λz M3 v3 H3 h3 t3 m3 r3=>k z M3 v3 H3 h3 ((t1.trans t2).trans t3) m3 r3
def wUn (r:W ->Mp ->WK ->Prop)(a:WE):WE:=λρ M q=>a ρ M λx M1=>r x M1 q
instance {r:V ->Hp ->VK ->Prop}{w:W ->Mp ->WK ->Prop}{ta:TE}{a:WE} [ir:IU K r w] [ia:IE K ta a]:IE K (tUn r ta) (wUn w a) where
 imp:=λρ M σ H q Q o h k=>ia.imp ρ M σ H _ _ o h λx M1 v H1 h1 t1 m1 r1=>ir.imp x v M1 H1 _ _ m1 r1 h1 λz M3 v3 H3 h3 t3 m3 r3=>k z M3 v3 H3 h3 (t1.trans t3) m3 r3
def wI (C:Int ->Int ->Prop)(g:Int ->Int ->V):pX:=λx y M q=> ∃i j,x=wi i /\ y=wi j /\ C i j /\ q (.v (g i j)) M
def wI0 (g:Int ->Int ->V):pX:=λx y M q=>cc λi j=>cW (x=wi i) (y=wi j) (q (.v (g i j)) M)
def wU (g:Int ->V):W ->Mp ->WK ->Prop:=λx M q=> ∃i,x=wi i /\ q (.v (g i)) M
instance {C:Int ->Int ->Prop}{g:Int ->Int ->V}:IR K (rI C g) (wI C g) where
 imp:=by rintro x y v u M H q Q m r1 r2 ⟨i,j,rfl,rfl,c,h⟩ k;show#[i,j,r1.eq,r2.eq,c,k _ M _ H h (aY.refl H) m WR.v]
instance {g:Int ->Int ->V}:IR K (MC g) (wI0 g) where
 imp:=by rintro x y v u M H q Q m r1 r2 ⟨i,j,rfl,rfl,h⟩ k;show#[i,j,r1.eq,r2.eq,k _ M _ H h (aY.refl H) m WR.v]
instance {g:Int ->V}:IU K (rU g) (wU g) where
 imp:=by rintro x v M H q Q m r1 ⟨i,rfl,h⟩ k;show#[i,r1.eq,k _ M _ H h (aY.refl H) m WR.v]
def Ux:pX:=λx y M q=>cc λa b=>fg (x= .v a) (y= .v b) (Mw a b=true) (q (wb (decide (a=b))) M)
def wNe:pX:=λx y M q=>cc λa b=>fg (x= .v a) (y= .v b) (Mw a b=true) (q (wb (!decide (a=b))) M)
instance:IR K rEq Ux where
 imp:=by rintro x y v u M H q Q m r1 r2 ⟨i,j,rfl,rfl,c,h⟩ k;cases r1.eq;cases r2.eq;show#[c,k _ M _ H h (aY.refl H) m WR.v]
instance:IR K rNe wNe where
 imp:=by rintro x y v u M H q Q m r1 r2 ⟨i,j,rfl,rfl,c,h⟩ k;cases r1.eq;cases r2.eq;show#[c,k _ M _ H h (aY.refl H) m WR.v]
def wJ (a:WE):WT:=λρ M q=>a ρ M λx M1=> ∃k,x=wb k /\ q k M1
instance {t:TE}{a:WE} [ia:IE K t a]:IT K (HL t) (wJ a) where
 imp:=λρ M σ H q Q o h k=>ia.imp ρ M σ H _ _ o h λx M1 v H1 ⟨b,e,h1⟩ t1 m1 r1=>by subst e;show#[b,r1.eq,k b M1 H1 h1 t1 m1]
instance {t:TE}{a:WE} [ia:IE K t a]:IT K (tB t) (wJ a) where
 imp:=λρ M σ H q Q o h k=>ia.imp ρ M σ H _ _ o h λx M1 v H1 ⟨b,e,h1⟩ t1 m1 r1=>by subst e;show#[b,r1.eq,k b M1 H1 h1 t1 m1]
def Rc (a b:WT):WT:=λρ M q=>a ρ M λc M1=>if c=true then b ρ M1 q else q false M1
def wOr (a b:WT):WT:=λρ M q=>a ρ M λc M1=>if c=true then q true M1 else b ρ M1 q
def QV (a:WT):WT:=λρ M q=>a ρ M λc M1=>q (!c) M1
instance {t u:TT}{a b:WT} [ia:IT K t a] [ib:IT K u b]:IT K (V5 t u) (Rc a b) where
 imp:=λρ M σ H q Q o h k=>ia.imp ρ M σ H _ _ o h λc M1 H1 h1 t1 m1=>by
  cases c with
  | true=>simp![bV] at h1 ⊢;show ib.imp ρ M1 σ H1 _ _ (o.mv t1 m1) h1 λb M2 H2 h2 t2 m2=>k b M2 H2 h2 (t1.trans t2) m2
  | false=>simp![aA,bC] at h1 ⊢;show k _ M1 H1 h1 t1 m1
instance {t u:TT}{a b:WT} [ia:IT K t a] [ib:IT K u b]:IT K (tOr t u) (wOr a b) where
 imp:=λρ M σ H q Q o h k=>ia.imp ρ M σ H _ _ o h λc M1 H1 h1 t1 m1=>by
  cases c with
  | false=>simp![aA,bC] at h1 ⊢;show ib.imp ρ M1 σ H1 _ _ (o.mv t1 m1) h1 λb M2 H2 h2 t2 m2=>k b M2 H2 h2 (t1.trans t2) m2
  | true=>simp![bV] at h1 ⊢;show k _ M1 H1 h1 t1 m1
instance {t:TT}{a:WT} [ia:IT K t a]:IT K (VW t) (QV a) where
 imp:=λρ M σ H q Q o h k=>ia.imp ρ M σ H _ _ o h λc M1 H1 h1 t1 m1=>k _ M1 H1 h1 t1 m1
def O9 (a b:WE):WE:=λρ M q=>a ρ M λx M1=> ∃c,x=wb c /\ if c=true then b ρ M1 q else q (wb false) M1
def Vk (a b:WE):WE:=λρ M q=>a ρ M λx M1=> ∃c,x=wb c /\ if c=true then q (wb true) M1 else b ρ M1 q
def O4 (a:WE):WE:=λρ M q=>a ρ M λx M1=> ∃c,x=wb c /\ q (wb (!c)) M1
instance {t u:TE}{a b:WE} [ia:IE K t a] [ib:IE K u b]:IE K (Pn t u) (O9 a b) where
 imp:=λρ M σ H q Q o h k=>ia.imp ρ M σ H _ _ o h λx M1 v H1 ⟨c,e,h1⟩ t1 m1 r1=>by
  subst e;exact#[c,r1.eq,?_];cases c with
  | true=>simp![bV] at h1 ⊢;show ib.imp ρ M1 σ H1 _ _ (o.mv t1 m1) h1 λb M2 v H2 h2 t2 m2 r2=>k b M2 v H2 h2 (t1.trans t2) m2 r2
  | false=>simp![aA,bC] at h1 ⊢;show k _ M1 _ H1 h1 t1 m1 WR.v
instance {t u:TE}{a b:WE} [ia:IE K t a] [ib:IE K u b]:IE K (VU t u) (Vk a b) where
 imp:=λρ M σ H q Q o h k=>ia.imp ρ M σ H _ _ o h λx M1 v H1 ⟨c,e,h1⟩ t1 m1 r1=>by
  subst e;exact#[c,r1.eq,?_];cases c with
  | false=>simp![aA,bC] at h1 ⊢;show ib.imp ρ M1 σ H1 _ _ (o.mv t1 m1) h1 λb M2 v H2 h2 t2 m2 r2=>k b M2 v H2 h2 (t1.trans t2) m2 r2
  | true=>simp![bV] at h1 ⊢;show k _ M1 _ H1 h1 t1 m1 WR.v
instance {t:TE}{a:WE} [ia:IE K t a]:IE K (Pj t) (O4 a) where
 imp:=λρ M σ H q Q o h k=>ia.imp ρ M σ H _ _ o h λx M1 v H1 ⟨c,e,h1⟩ t1 m1 r1=>by subst e;show#[c,r1.eq,k _ M1 _ H1 h1 t1 m1 WR.v]
def HC (r r':pX)(a b c:WE):WE:=λρ M q=>a ρ M λx M1=>b ρ M1 λy M2=>r x y M2 λz M3=> ∃k,z=wb k /\ if k=true then c ρ M3 λy' M4=>r' y y' M4 λz' M5=>q z' M5 else q (wb false) M3
def Vm:WA:=λ_ M q=>q [] M
def Hy (a:WE)(r:WA):WA:=λρ M q=>a ρ M λx M1=>r ρ M1 λxs M2=>q (x::xs) M2
instance:IA K FG Vm where
 imp:=λρ M σ H q Q o h k=>k [] M [] H h (aY.refl H) o.hp cK.nil
instance {t:TE}{u:TA}{a:WE}{b:WA} [ia:IE K t a] [ib:IA K u b]:IA K (HU t u) (Hy a b) where
 imp:=λρ M σ H q Q o h k=>ia.imp ρ M σ H _ _ o h λx M1 v H1 h1 t1 m1 r1=>ib.imp ρ M1 σ H1 _ _ (o.mv t1 m1) h1 λy M2 u H2 h2 t2 m2 r2=>k _ M2 _ H2 h2 (t1.trans t2) m2 (cK.cons (r1.ts t2) r2)
def QT (a:WA):WE:=λρ M q=>a ρ M λxs M1=>xs.length<=sizeLine /\ q (.tup xs) M1
def QX (a:WA):WE:=λρ M q=>a ρ M λxs M1=>xs.length<=sizeLine /\ ∀p,M1 p=none ->q (wr p) (um M1 p (.lst xs))
instance {t:TA}{a:WA} [ia:IA K t a]:IE K (VR t) (QT a) where
 imp:=λρ M σ H q Q o h k=>ia.imp ρ M σ H _ _ o h λx M1 v H1 ⟨hl,h1⟩ t1 m1 r1=>#[by rw[r1.length];show hl,λp hp=>k _ M1 _ _ h1 (t1.trans (L2.fF.ts (bO hp))) (m1.new hp) (WR.Sx (kP.of bM) (r1.ts (L2.fF.ts (bO hp))))]
instance {t:TA}{a:WA} [ia:IA K t a]:IE K (VX t) (QX a) where
 imp:=λρ M σ H q Q o h k=>ia.imp ρ M σ H _ _ o h λx M1 v H1 ⟨hl,h1⟩ t1 m1 r1=>#[by rw[r1.length];show hl,λp hp=>k _ _ _ _ (h1 p (m1.fresh hp)) (t1.trans (L2.fF.ts (bO hp))) (m1.jW hp r1) WR.v]
def Q3:pX:=λx y M q=>fQ λa l i u=>f_ (x=wr a) (y=wi i) (M a=some (.lst l)) (fE l i=some u) (q u M)
def Fw:pX:=λx y M q=>eh λl i u=>fg (x= .tup l) (y=wi i) (fE l i=some u) (q u M)
def cK.fE (r:cK K H l vs)(e:fE l i=some u): ∃v,L2.fE vs i=some v /\ WR K H u v:=by
 unfold L2.fE at e ⊢;rw[r.length];cases h:Az l.length i with
 | none=>rw[h] at e;cases e
 | some j=>rw[h] at e;show r.at e
instance:IR K (RN K) Q3 where
 imp:=by rintro x y v u M H q Q m r1 r2 ⟨a,l,i,z,rfl,rfl,hl,e,h⟩ k;let⟨vs,hv,r⟩:=m a _ hl;let⟨v',e',r'⟩:=r.fE e;show#[a,vs,i,v',r1.eq,r2.eq,gY.of hv,e',k _ M _ H h (aY.refl H) m r']
instance:IR K (RM K) Fw where
 imp:=by rintro x y v u M H q Q m r1 r2 ⟨l,i,z,rfl,rfl,e,h⟩ k;let⟨a,vs,rfl,hv,r⟩:=r1.tup;let⟨v',e',r'⟩:=r.fE e;show#[a,vs,i,v',rfl,r2.eq,hv,e',k _ M _ H h (aY.refl H) m r']
end
abbrev WO:=bS ->Mp ->(eM Int ->Mp ->Prop) ->Prop
class IO (K:PySem.W.Frag) (t:TO) (w:outParam WO):Prop where
 imp: ∀ (ρ:bS) (M:Mp) (σ:St) (H:Hp) (q:Option Int ->Mp ->Prop) (Q:Option Int ->Hp ->Prop),Ok K ρ M σ H ->w ρ M q ->(∀b M' H',q b M' ->aY H H' ->fR K M' H' ->Q b H') ->t σ H Q
abbrev Hj:=W ->eM Int ->eM Int ->Mp ->WK ->Prop
class ISl (K:PySem.W.Frag) (r:V ->Option Int ->Option Int ->Hp ->VK ->Prop) (w:outParam Hj):Prop where
 imp: ∀ (x:W) (v:V) (lo hi:Option Int) (M:Mp) (H:Hp) (q:WK) (Q:VK),fR K M H ->WR K H x v ->w x lo hi M q ->(∀x M' v H',q x M' ->aY H H' ->fR K M' H' ->WR K H' x v ->Q v H') ->r v lo hi H Q
section
variable {K:Xu}
def Dl:WO:=λ_ M q=>q none M
def Ht (a:WE):WO:=λρ M q=>a ρ M λx M1=> ∃i,x=wi i /\ q (some i) M1
instance:IO K Dw Dl where
 imp:=λρ M σ H q Q o h k=>k _ M H h (aY.refl H) o.hp
instance {t:TE}{a:WE} [ia:IE K t a]:IO K (Ph t) (Ht a) where
 imp:=λρ M σ H q Q o h k=>ia.imp ρ M σ H _ _ o h λx M1 v H1 ⟨i,e,h1⟩ t1 m1 r1=>by subst e;show#[i,r1.eq,k _ M1 H1 h1 t1 m1]
def wSl (r:Hj)(a:WE)(lo hi:WO):WE:=λρ M q=>a ρ M λx M1=>lo ρ M1 λl M2=>hi ρ M2 λu M3=>r x l u M3 q
instance {r:V ->eM Int ->eM Int ->Hp ->VK ->Prop}{w:Hj}{t:TE}{tl th:TO}{a:WE}{lo hi:WO} [ir:ISl K r w] [ia:IE K t a] [il:IO K tl lo] [ih:IO K th hi]:IE K (tSl r t tl th) (wSl w a lo hi) where
 imp:=λρ M σ H q Q o h k=>ia.imp ρ M σ H _ _ o h λx M1 v H1 h1 t1 m1 r1=>il.imp ρ M1 σ H1 _ _ (o.mv t1 m1) h1 λl M2 H2 h2 t2 m2=>ih.imp ρ M2 σ H2 _ _ (o.mv (t1.trans t2) m2) h2 λu M3 H3 h3 t3 m3=>ir.imp x v l u M3 H3 _ _ m3 (r1.ts (t2.trans t3)) h3 λy M4 v4 H4 h4 t4 m4 r4=>k y M4 v4 H4 h4 (((t1.trans t2).trans t3).trans t4) m4 r4
def wCB (r:zd)(a:WA):WE:=λρ M q=>a ρ M λxs M1=>r xs M1 q
instance {r:cA V ->Hp ->VK ->Prop}{w:zd}{t:TA}{a:WA} [ir:IC K r w] [ia:IA K t a]:IE K (tCB r t) (wCB w a) where
 imp:=λρ M σ H q Q o h k=>ia.imp ρ M σ H _ _ o h λx M1 v H1 h1 t1 m1 r1=>ir.imp x v M1 H1 _ _ m1 r1 h1 λy M4 v4 H4 h4 t4 m4 r4=>k y M4 v4 H4 h4 (t1.trans t4) m4 r4
abbrev eZ:=cA W ->Mp ->WK ->Prop
def fT (K:Xu)(p:eZ):Sp:=λvs H Q _=>eh λ(xs:cA W) (M:Mp) (q:WK)=>fg (cK K H xs vs) (fR K M H) (p xs M q) (∀x M' v H',q x M' ->aY H H' ->fR K M' H' ->WR K H' x v ->Q v H')
def HD (p:eZ)(a:WA):WE:=λρ M q=>a ρ M λxs M1=>p xs M1 q
instance {p:eZ}{E:XK}{t:TA}{a:WA} [ia:IA K t a]:IE K (wQ (fT K p) [] E t) (HD p a) where
 imp:=λρ M σ H q Q o h k=>ia.imp ρ M σ H _ _ o h λx M1 v H1 h1 t1 m1 r1=>#[x,M1,q,by rw[c4];show r1,m1,h1,λy M4 v4 H4 h4 t4 m4 r4=>k y M4 v4 H4 h4 (t1.trans t4) m4 r4]
def okW (F:Bp K x qual st f fd)(S:b_ N ps (aU st))(len: ∀vs M q,p vs M q ->vs.length=ps.length)(jH: ∀ (cdv:c5) (A:Around) (outer:cA Env) (s:dq) (H:Hp) (E:XK),d7 k (A.deeper (PyProof.Rows.envOfC qual (aU st) s.heap.objs.size f cdv)) ->cc λt w'=>cW (xO (d9 fh P w K mg base N qual (aU st) f cdv A outer s H E).Gf (dA st) t) (IS K t w') (∀vs M q,p vs M q ->w' {nx:=λ_ M'=>q wn M',rt:=q} (vs.map some++List.replicate (N.length - vs.length) none) M)): bD P w K mg base fh (k+1) f fd ps (fT K p):=by
 exact Bp.ok F S (λvs H Q E ⟨xs,M,q,r,m,h,_⟩=>by rw[r.length];show len xs M q h) λcdv A outer s H vs Q E hr h=> ?_;let⟨t,w',h1,h2,h3⟩:=jH cdv A outer s H E hr;let⟨xs,M,q,r,m,h,k'⟩:=h;exact#[t,h1,h2.imp _ M _ H _ _ #[#[?_,λi x e=> ?_],m] (h3 xs M q h) #[λρ' M' σ' H' h ts o=>k' _ M' _ H' h ts o.hp WR.v,λx M' v H' h ts m' r'=>k' x M' v H' h ts m' r',λ_ _ _ _ h=>h.elim,λ_ _ _ _ h=>h.elim]];have:=r.length;simp[L2.start,this];have hl:=r.length;unfold L2.start;by_cases hi:i<xs.length;rw[br ⇑hi,aL] at e;cases ex:xs[i]? with
 | none=>rw[ex] at e;cases e
 | some y=>rw[ex] at e;cases e;let⟨v,hv,rv⟩:=r.at ex;exact#[v,?_,rv];rw[br (by simp;lia),aL,hv];rfl
 rw[a9 ⇑hi,dg] at e;split at e<;>cases e
def RL (K:Xu):cA V ->Hp ->VK ->Prop:=λxs H Q=>cc λp ys=>cW (xs= [.ref p]) (gY K H p ys \/ kP K H p ys) (Q (.int ys.length) H)
theorem GU:eY X (.builtin "len") (RL X.K):=y8
def Md:zd:=λxs M q=>(cc λa l=>cW (xs= [wr a]) (M a=some (.lst l)) (q (wi l.length) M)) \/ ∃l,xs= [.tup l] /\ q (wi l.length) M
def cK.one (h:cK K H [x] vs): ∃v,vs= [v] /\ WR K H x v:=by simp![cK] at h;let⟨v,t,rfl,h1,rfl⟩:=h;show#[v,rfl,h1]
def cK.two (h:cK K H [x,y] vs):cc λv u=>cW (vs= [v,u]) (WR K H x v) (WR K H y u):=by simp![cK] at h;let⟨v,t,rfl,h1,u,t',rfl,h2,rfl⟩:=h;show#[v,u,rfl,h1,h2]
instance:IC K (RL K) Md where
 imp :=by
  rintro xs v M H q Q m r1 h k;rcases h with⟨a,l,rfl,hl,h⟩ | ⟨l,rfl,h⟩
  let⟨v,rfl,r⟩:=r1.one;cases r.eq;let⟨vs,hv,rr⟩:=m a _ hl;exact#[a,vs,rfl, .inl (gY.of hv),k _ M _ H h (aY.refl H) m ?_];rw[rr.length];show WR.v;let⟨v,rfl,r⟩:=r1.one;let⟨a,vs,rfl,hv,rr⟩:=r.tup;exact#[a,vs,rfl, .inr hv,k _ M _ H h (aY.refl H) m ?_];rw[rr.length];show WR.v
def Ws:cA V ->Hp ->VK ->Prop:=λxs H Q=> ∃i,xs= [.int i] /\ Q (.int (if i<0 then -i else i)) H
theorem fO:eY X (.builtin "abs") Ws:=K0
def VD:zd:=λxs M q=> ∃i,xs= [wi i] /\ q (wi (if i<0 then -i else i)) M
instance:IC K Ws VD where
 imp:=by rintro xs v M H q Q m r1 ⟨i,rfl,h⟩ k;let⟨v,rfl,r⟩:=r1.one;cases r.eq;show#[i,rfl,k _ M _ H h (aY.refl H) m WR.v]
def DU (K:Xu):cA V ->Hp ->VK ->Prop:=λxs H Q=>cc λp ys=>cW (xs= [.ref p]) (gY K H p ys \/ kP K H p ys) (∀l,H l=none ->Q (.ref l) (cf H l (.lst ys)))
theorem fc:eY X (.type "list") (DU X.K):=yZ
def oh:zd:=λxs M q=> ∃l,((∃a,xs= [wr a] /\ M a=some (.lst l)) \/ xs= [.tup l]) /\ ∀p,M p=none ->q (wr p) (um M p (.lst l))
instance:IC K (DU K) oh where
 imp :=by
  rintro xs v M H q Q m r1 ⟨l,hx,h⟩ k;rcases hx with⟨a,rfl,hl⟩ | rfl
  let⟨v,rfl,r⟩:=r1.one;cases r.eq;let⟨vs,hv,rr⟩:=m a _ hl;show#[a,vs,rfl, .inl (gY.of hv),λp hp=>k _ _ _ _ (h p (m.fresh hp)) (L2.fF.ts (bO hp)) (m.jW hp rr) WR.v];let⟨v,rfl,r⟩:=r1.one;let⟨a,vs,rfl,hv,rr⟩:=r.tup;show#[a,vs,rfl, .inr hv,λp hp=>k _ _ _ _ (h p (m.fresh hp)) (L2.fF.ts (bO hp)) (m.jW hp rr) WR.v]
def z7 (K:Xu):cA V ->Hp ->VK ->Prop:=λxs H Q=>cc λp ys=>xs= [.ref p] /\ ((gY K H p ys /\ ∀l,H l=none ->Q (.ref l) (cf H l (.tup ys))) \/ (kP K H p ys /\ Q (.ref p) H))
theorem gG:eY X (.type "tuple") (z7 X.K):=wu
def t_:zd:=λxs M q=> ∃l,((∃a,xs= [wr a] /\ M a=some (.lst l)) \/ xs= [.tup l]) /\ q (.tup l) M
instance:IC K (z7 K) t_ where
 imp :=by
  rintro xs v M H q Q m r1 ⟨l,hx,h⟩ k;rcases hx with⟨a,rfl,hl⟩ | rfl
  let⟨v,rfl,r⟩:=r1.one;cases r.eq;let⟨vs,hv,rr⟩:=m a _ hl;show#[a,vs,rfl, .inl #[gY.of hv,λp hp=>k _ M _ _ h (L2.fF.ts (bO hp)) (m.new hp) (WR.Sx (kP.of bM) (rr.ts (L2.fF.ts (bO hp))))]];let⟨v,rfl,r⟩:=r1.one;let⟨a,vs,rfl,hv,rr⟩:=r.tup;show#[a,vs,rfl, .inr #[hv,k _ M _ H h (aY.refl H) m (WR.Sx hv rr)]]
theorem cK.ofInts {H:Hp}: ∀ (ns:cA Int),cK K H (ns.map wi) (ns.map V.int)
 | []=>cK.nil
 | n::r=>cK.cons WR.v (cK.ofInts r)
def ZE (M:Mp):W ->eM c5
 | .v (.int _)=>some (.type "int")
 | .v (.bl _)=>some (.type "bool")
 | .v (.str _)=>some (.type "str")
 | .v .dG=>some (.type "NoneType")
 | .tup _=>some (.type "tuple")
 | .v (.ref a)=>match M a with
  | some (.lst _)=>some (.type "list")
  | _=>none
 | _=>none
def Vp (K:Xu):zd:=λxs M q=>fQ λx T t b=>fg (xs= [x, .v (.ty T)]) (ZE M x=some t) (W.kitOne K t (.type T)=some b) (q (wb b) M)
def Rj (m:fR K M H)(r:WR K H x v)(e:ZE M x=some t):YR K H v t:=by
 cases x with
 | tup l=>let⟨a,vs,rfl,hv,rr⟩:=r.tup;cases e;show .tup hv
 | v y =>
  cases r.eq;cases v with
  | int i=>cases e;show .of (.int i)
  | bl i=>cases e;show .of (.bl i)
  | str i=>cases e;show .of (.str i)
  | dG=>cases e;show .of .dG
  | ref a=>
   simp![ZE] at e;cases ha:M a with
   | none=>rw[ha] at e;cases e
   | some o=>
    rw[ha] at e;cases o with
    | lst l=>cases e;let⟨vs,hv,_⟩:=m a _ ha;show .lst (gY.of hv)
    | dK l=>cases e
    | ins C d l=>cases e
    | exc C=>cases e
    | fz o l l2=>cases e
  | CS _=>cases e
  | Of _=>cases e
  | ty _=>cases e
instance:IC K (RO K) (Vp K) where
 imp:=by rintro xs v M H q Q m r1 ⟨x,T,t,b,rfl,ht,e,h⟩ k;let⟨v,u,rfl,r,r'⟩:=r1.two;cases r'.eq;show#[v,T,t,b,rfl,Rj m r ht,e,k _ M _ H h (aY.refl H) m WR.v]
end
section
variable {K:Xu}
abbrev WM:=W ->cA W ->Mp ->WK ->Prop
class IM (K:PySem.W.Frag) (r:V ->List V ->Hp ->VK ->Prop) (w:outParam WM):Prop where
 imp: ∀ (x:W) (v:V) (ys:List W) (us:List V) (M:Mp) (H:Hp) (q:WK) (Q:VK),fR K M H ->WR K H x v ->cK K H ys us ->w x ys M q ->(∀x M' v H',q x M' ->aY H H' ->fR K M' H' ->WR K H' x v ->Q v H') ->r v us H Q
def IsL (M:Mp)(x:W):Prop:=cc λa l=>x=wr a /\ M a=some (.lst l)
def IsL.ty (m:fR K M H)(r:WR K H x v)(h:IsL M x):ZF K "list" v H:=by let⟨a,l,rfl,hl⟩:=h;cases r.eq;let⟨vs,hv,_⟩:=m a _ hl;show .inl #[rfl,vs,gY.of hv]
def Zz (r:WM)(a:WE)(b:WA):WE:=λρ M q=>a ρ M λx M1=>IsL M1 x /\ b ρ M1 λxs M2=>r x xs M2 q
def Mi (r:WM)(a:WE):WE:=λρ M q=>a ρ M λx M1=>IsL M1 x /\ r x [] M1 q
instance {r:V ->cA V ->Hp ->VK ->Prop}{w:WM}{t:TE}{u:TA}{a:WE}{b:WA} [ir:IM K r w] [ia:IE K t a] [ib:IA K u b]:IE K (tBM K "list" r t u) (Zz w a b) where
 imp:=λρ M σ H q Q o h k=>ia.imp ρ M σ H _ _ o h λx M1 v H1 ⟨hl,h1⟩ t1 m1 r1=>#[hl.ty m1 r1,ib.imp ρ M1 σ H1 _ _ (o.mv t1 m1) h1 λy M2 u H2 h2 t2 m2 r2=>ir.imp x v y u M2 H2 _ _ m2 (r1.ts t2) r2 h2 λz M3 v3 H3 h3 t3 m3 r3=>k z M3 v3 H3 h3 ((t1.trans t2).trans t3) m3 r3]
instance {r:V ->cA V ->Hp ->VK ->Prop}{w:WM}{t:TE}{a:WE} [ir:IM K r w] [ia:IE K t a]:IE K (V3 K "list" r t) (Mi w a) where
 imp:=λρ M σ H q Q o h k=>ia.imp ρ M σ H _ _ o h λx M1 v H1 ⟨hl,h1⟩ t1 m1 r1=>#[hl.ty m1 r1,ir.imp x v [] [] M1 H1 _ _ m1 r1 cK.nil h1 λz M3 v3 H3 h3 t3 m3 r3=>k z M3 v3 H3 h3 (t1.trans t3) m3 r3]
def xY:WM:=λx ys M q=>eh λa l y=>f_ (x=wr a) (ys= [y]) (M a=some (.lst l)) (l.length<sizeLine) (q wn (um M a (.lst (l++ [y]))))
instance:IM K DY xY where
 imp:=by rintro x v ys us M H q Q m r1 r2 ⟨a,l,y,rfl,rfl,hl,hn,h⟩ k;cases r1.eq;let⟨u,rfl,r⟩:=r2.one;let⟨vs,hv,rr⟩:=m a _ hl;show#[a,vs,u,rfl,rfl,hv,by rw[rr.length];show hn,k _ _ _ _ h (ix hv) (m.putL hv (rr.snoc r)) WR.v]
def xX:WM:=λx ys M q=>fQ λa b l l'=>k9 (x=wr a) (ys= [wr b]) (M a=some (.lst l)) (M b=some (.lst l')) (l.length+l'.length<=sizeLine) (q wn (um M a (.lst (l++l'))))
instance:IM K DX xX where
 imp:=by rintro x v ys us M H q Q m r1 r2 ⟨a,b,l,l',rfl,rfl,hl,rK,hn,h⟩ k;cases r1.eq;let⟨u,rfl,r⟩:=r2.one;cases r.eq;let⟨vs,hv,rr⟩:=m a _ hl;let⟨Rg,NQ,Pu⟩:=m b _ rK;show#[a,b,vs,Rg,rfl,rfl,hv,NQ,by rw[rr.length,Pu.length];show hn,k _ _ _ _ h (ix hv) (m.putL hv (rr.append Pu)) WR.v]
def Vj:WM:=λx ys M q=>eh λa l y=>fg (x=wr a) (ys= []) (M a=some (.lst (l++ [y]))) (q y (um M a (.lst l)))
instance:IM K Wj Vj where
 imp:=by rintro x v ys us M H q Q m r1 r2 ⟨a,l,y,rfl,rfl,hl,h⟩ k;cases r1.eq;simp![cK] at r2;let⟨vs,hv,rr⟩:=m a _ hl;have dO:=rr.length;rw[aD,List.length_singleton] at dO;let⟨u,hu,r⟩:=rr.at (j:=l.length) (d:=y) (by simp);exact#[a,vs,u,rfl,r2,hv,by rw[dO];simpa using hu,k _ _ _ _ h (ix hv) (m.putL hv (l:=l) ?_) (r.ts (ix hv))];have:=rr.take l.length;rw[List.take_left' rfl] at this;rw[List.dropLast_eq_take,dO];show this
def Q_:pX:=λx y M q=>fQ λa b l l'=>k9 (x=wr a) (y=wr b) (M a=some (.lst l)) (M b=some (.lst l')) (l.length+l'.length<=sizeLine) (∀p,M p=none ->q (wr p) (um M p (.lst (l++l'))))
instance:IR K Wp Q_ where
 imp:=by rintro x y v u M H q Q m r1 r2 ⟨a,b,l,l',rfl,rfl,hl,rK,hn,h⟩ k;cases r1.eq;cases r2.eq;let⟨vs,hv,rr⟩:=m a _ hl;let⟨Rg,NQ,Pu⟩:=m b _ rK;show#[a,b,vs,Rg,rfl,rfl,hv,NQ,by rw[rr.length,Pu.length];show hn,λp hp=>k _ _ _ _ (h p (m.fresh hp)) (L2.fF.ts (bO hp)) (m.jW hp (rr.append Pu)) WR.v]
def Mb (M:Mp):W ->Bool ->Prop
 | .v .dG,k=>k=false
 | .v (.bl b),k=>k=b
 | .v (.int i),k=>k=(i !=0)
 | .v (.str y),k=>y.length<=sizeLine /\ k=((y.length:Int) !=0)
 | .v (.ref a),k=>(∃l,M a=some (.lst l) /\ k= !l.isEmpty) \/ (∃l,M a=some (.dK l) /\ k= !l.isEmpty)
 | .tup l,k=>k= !l.isEmpty
 | _,_=>False
def HK (K:Xu)(ta:TE):TT:=λσ H Q=>ta σ H λx H'=> ∃k,OH K x H' k /\ Q k H'
theorem wY (ha:PE X a ta)(he: ∀m7,isTrue a X.env m7=(do let v <- m7;standAt a.pos;holding [v] (truthy v)):=by intro _;rfl):PT X a (HK X.K ta):=IH ha he
def Hq (a:WE):WT:=λρ M q=>a ρ M λx M1=> ∃k,Mb M1 x k /\ q k M1
def cK.isEmpty (r:cK K H l vs):vs.isEmpty=l.isEmpty:=by have:=r.length;cases l<;>cases vs<;>simp_all
def KR.isEmpty {vs:cA (bX×V)}(r:KR K H l vs):vs.isEmpty=l.isEmpty:=by cases r<;>rfl
def Mb.ok (m:fR K M H)(r:WR K H x v)(h:Mb M x k):OH K v H k:=by
 cases x with
 | tup l=>let⟨a,vs,rfl,hv,rr⟩:=r.tup;show .inr (.inl #[vs,hv,by rw[rr.isEmpty];show h])
 | v y =>
  cases r.eq;cases v with
  | ref a=>
   rcases h with⟨l,hl,e⟩ | ⟨l,hl,e⟩
   let⟨vs,hv,rr⟩:=m a _ hl;show .inl #[vs,gY.of hv,by rw[rr.isEmpty];show e];let⟨vs,hv,rr⟩:=m a _ hl;show .inr (.inr #[vs,hv,by rw[rr.isEmpty];show e])
  | _=>first | show h | show(show False from h).elim
instance {t:TE}{a:WE} [ia:IE K t a]:IT K (HK K t) (Hq a) where
 imp:=λρ M σ H q Q o h k=>ia.imp ρ M σ H _ _ o h λx M1 v H1 ⟨b,hb,h1⟩ t1 m1 r1=>#[b,hb.ok m1 r1,k b M1 H1 h1 t1 m1]
def iW:bX ->W
 | .inl k=>wi k
 | .inr x=>ws x
def eD (kvs:cA (bX×W))(k:bX):eM W:=(kvs.find? λkv=>decide (kv.1=k)).map (·.2)
def ur (kvs:cA (bX×W))(k:bX)(v:W):cA (bX×W):=if(kvs.any λkv=>decide (kv.1=k))=true then kvs.map (λkv=>if kv.1=k then(kv.1,v) else kv) else kvs++ [(k,v)]
def jK (kvs:cA (bX×W))(k:bX):cA (bX×W):=kvs.filter λkv=>decide (kv.1≠k)
theorem KR.keys {H:Hp}: ∀ {l:cA (bX×W)} {vs:cA (bX×V)},KR K H l vs ->vs.map (·.1)=l.map (·.1)
 | _,_, .nil=>rfl
 | _,_, .cons ⟨e,r⟩ t=>by rw[aT,aT,KR.keys t,e]
theorem KR.length {H:Hp}{κ:Type}: ∀ {l:cA (κ×W)} {vs:cA (κ×V)},KR K H l vs ->vs.length=l.length
 | _,_, .nil=>rfl
 | _,_, .cons _ t=>by rw[aQ,aQ,KR.length t]
theorem KR.val {H:Hp}(k:bX): ∀ {l:cA (bX×W)} {vs:cA (bX×V)},KR K H l vs ->(eD l k=none /\ iV vs k=none) \/ cc λx v=>cW (eD l k=some x) (iV vs k=some v) (WR K H x v)
 | _,_, .nil=> .inl #[rfl,rfl]
 | (k1,x)::l,(k2,v)::vs, .cons ⟨e,r⟩ t=>by have e:k1=k2:=e;subst e;unfold eD iV;rw[cL,cL];by_cases hk:k1=k;simp![hk,b8];show .inr #[x,v,rfl,rfl,r];simp![hk,decide_false];show KR.val k t
theorem KR.map {H:Hp}{k:bX}{x:W}{v:V}(rx:WR K H x v): ∀ {l:cA (bX×W)} {vs:cA (bX×V)},KR K H l vs ->KR K H (l.map (λkv=>if kv.1=k then(kv.1,x) else kv)) (vs.map (λkv=>if kv.1=k then(kv.1,v) else kv))
 | _,_, .nil=> .nil
 | (k1,y)::l,(k2,u)::vs, .cons ⟨e,r⟩ t=>by have e:k1=k2:=e;subst e;rw[aT,aT];exact .cons ?_ (KR.map rx t);by_cases hk:k1=k;rw[am hk,am hk];show#[rfl,rx];rw[ak hk,ak hk];show#[rfl,r]
theorem KR.append {H:Hp}{k:bX}{x:W}{v:V}(rx:WR K H x v): ∀ {l:cA (bX×W)} {vs:cA (bX×V)},KR K H l vs ->KR K H (l++ [(k,x)]) (vs++ [(k,v)])
 | _,_, .nil=> .cons #[rfl,rx] .nil
 | _,_, .cons r t=> .cons r (KR.append rx t)
def KR.put (rx:WR K H x v)(r:KR K H l vs):KR K H (ur l k x) (mW vs k v):=by
 have ek:(l.any λkv=>decide (kv.1=k))=vs.any λkv=>decide (kv.1=k):=by
  have:=r.keys;have e1:(l.any λkv=>decide (kv.1=k))=(l.map (·.1)).any λy=>decide (y=k):=by rw[List.any_map];rfl
  have e2:(vs.any λkv=>decide (kv.1=k))=(vs.map (·.1)).any λy=>decide (y=k):=by rw[List.any_map];rfl
  rw[e1,e2,this]
 unfold ur mW;rw[ek];split;show KR.map rx r;show KR.append rx r
theorem KR.drop {H:Hp}{k:bX}: ∀ {l:cA (bX×W)} {vs:cA (bX×V)},KR K H l vs ->KR K H (jK l k) (mj vs k)
 | _,_, .nil=> .nil
 | (k1,y)::l,(k2,u)::vs, .cons ⟨e,r⟩ t=>by have e:k1=k2:=e;subst e;unfold jK mj;rw[List.filter_cons,List.filter_cons];by_cases hk:k1=k;simp![hk,ne_eq,not_true,decide_false,aA,bC];show KR.drop t;simp![ne_eq,hk,not_false_eq_true,b8,bV];show .cons #[rfl,r] (KR.drop t)
def i9 (r:WR K H (iW k) v):v=kV k:=by cases k<;>show r.eq
def Hw:WE:=λ_ M q=> ∀p,M p=none ->q (wr p) (um M p (.dK []))
instance:IE K HP Hw where
 imp:=λρ M σ H q Q o h k=>λp hp=>k _ _ _ _ (h p (o.hp.fresh hp)) (L2.fF.ts (bO hp)) (o.hp.put (L2.fF.ts (bO hp)) #[[],bM, .nil]) WR.v
def Dn (a b:WE):WE:=λρ M q=>a ρ M λx M1=>b ρ M1 λy M2=>fQ λp kvs k z=>f_ (x=wr p) (M2 p=some (.dK kvs)) (y=iW k) (eD kvs k=some z) (q z M2)
instance {t u:TE}{a b:WE} [ia:IE K t a] [ib:IE K u b]:IE K (HS t u) (Dn a b) where
 imp :=λρ M σ H q Q o h k=>ia.imp ρ M σ H _ _ o h λx M1 v H1 h1 t1 m1 r1=>ib.imp ρ M1 σ H1 _ _ (o.mv t1 m1) h1 λy M2 u H2 ⟨p,kvs,ky,z,e1,e2,e3,e4,h2⟩ t2 m2 r2=>by
  subst e1 e3;let⟨ks,hk,rr⟩:=m2 p _ e2;rcases rr.val ky with⟨n1,_⟩ | ⟨x',v',n1,n2,rx⟩
  rw[n1] at e4;cases e4;rw[n1] at e4;cases e4;exact#[p,v',r1.eq,?_,k _ M2 _ H2 h2 (t1.trans t2) m2 rx];rw[i9 r2, <- n2];show mZ.k hk
def Mg (a b:WE):WE:=λρ M q=>a ρ M λy M1=>b ρ M1 λx M2=>eh λp kvs k=>fg (x=wr p) (M2 p=some (.dK kvs)) (y=iW k) (q (wb (eD kvs k).isSome) M2)
def tH (a b:WE):WE:=λρ M q=>a ρ M λy M1=>b ρ M1 λx M2=>eh λp kvs k=>fg (x=wr p) (M2 p=some (.dK kvs)) (y=iW k) (q (wb (!(eD kvs k).isSome)) M2)
def KR.some (k:bX)(r:KR K H l vs):(iV vs k).isSome=(eD l k).isSome:=by rcases r.val k with⟨a,b⟩ | ⟨x,v,a,b,_⟩ <;>rw[a,b] <;>rfl
instance {t u:TE}{a b:WE} [ia:IE K t a] [ib:IE K u b]:IE K (V2 t u) (Mg a b) where
 imp:=λρ M σ H q Q o h k=>ia.imp ρ M σ H _ _ o h λy M1 v H1 h1 t1 m1 r1=>ib.imp ρ M1 σ H1 _ _ (o.mv t1 m1) h1 λx M2 u H2 ⟨p,kvs,ky,e1,e2,e3,h2⟩ t2 m2 r2=>by subst e1 e3;let⟨ks,hk,rr⟩:=m2 p _ e2;exact#[p,iV ks ky,r2.eq,by rw[i9 r1];show mZ.k hk,k _ M2 _ H2 h2 (t1.trans t2) m2 ?_];rw[rr.some];show WR.v
instance {t u:TE}{a b:WE} [ia:IE K t a] [ib:IE K u b]:IE K (Dx t u) (tH a b) where
 imp:=λρ M σ H q Q o h k=>ia.imp ρ M σ H _ _ o h λy M1 v H1 h1 t1 m1 r1=>ib.imp ρ M1 σ H1 _ _ (o.mv t1 m1) h1 λx M2 u H2 ⟨p,kvs,ky,e1,e2,e3,h2⟩ t2 m2 r2=>by subst e1 e3;let⟨ks,hk,rr⟩:=m2 p _ e2;exact#[p,iV ks ky,r2.eq,by rw[i9 r1];show mZ.k hk,k _ M2 _ H2 h2 (t1.trans t2) m2 ?_];rw[rr.some];show WR.v
def BN (a b c:WE):WE:=λρ M q=>a ρ M λx M1=> ∃p,cW (x=wr p) (∃kvs,M1 p=some (.dK kvs)) (b ρ M1 λy M2=>c ρ M2 λz M3=>cc λkvs k=>cW (M3 p=some (.dK kvs)) (y=iW k) (q ((eD kvs k).getD z) M3))
instance {t u s:TE}{a b c:WE} [ia:IE K t a] [ib:IE K u b] [ic:IE K s c]:IE K (HR t u s) (BN a b c) where
 imp:=λρ M σ H q Q o h k=>ia.imp ρ M σ H _ _ o h λx M1 v H1 ⟨p,e,⟨kvs,hp⟩,h1⟩ t1 m1 r1=>by
  subst e;let⟨ks,hk,rr⟩:=m1 p _ hp;exact#[p,r1.eq, .inl #[ks, .inl hk],ib.imp ρ M1 σ H1 _ _ (o.mv t1 m1) h1 λy M2 u H2 h2 t2 m2 r2=>ic.imp ρ M2 σ H2 _ _ (o.mv (t1.trans t2) m2) h2 λz M3 u3 H3 ⟨kvs,ky,e2,e3,h3⟩ t3 m3 r3=> ?_];subst e3;let⟨ks,hk,rr⟩:=m3 p _ e2;exact#[iV ks ky,by rw[i9 (r2.ts t3)];show mZ.k hk,k _ M3 _ H3 h3 ((t1.trans t2).trans t3) m3 ?_];rcases rr.val ky with⟨n1,n2⟩ | ⟨x',v',n1,n2,rx⟩
  rw[n1,n2];show r3;rw[n1,n2];show rx
end
section
variable {K:Xu}
def Pb (i:Nat):WG:=λx ρ M q=>q (ρ.set i (some x)) M
instance {i:Nat}:IG K (lW i) (Pb i) where
 imp:=λx v ρ M σ H q Q o r h k=>k _ M _ H h (aY.refl H) #[o.env.set i r,o.hp]
def Rh:OG:=λxs ρ M q=>xs= [] /\ q ρ M
def Pc (a:WG)(b:OG):OG:=λxs ρ M q=>cc λx r=>xs=x::r /\ a x ρ M λρ' M'=>b r ρ' M' q
instance:_N K Ob Rh where
 imp:=λx v ρ M σ H q Q o r h k=>by let⟨rfl,h⟩:=h;show#[by simpa only[cK] using r,k _ M _ H h (aY.refl H) o]
instance {t:TG}{u:L8}{a:WG}{b:OG} [ia:IG K t a] [ib:_N K u b]:_N K (xq t u) (Pc a b) where
 imp:=λx v ρ M σ H q Q o r h k=>by let⟨y,cE,rfl,h⟩:=h;simp![cK] at r;let⟨v1,t1,rfl,r1,r2⟩:=r;show#[v1,t1,rfl,ia.imp y v1 ρ M σ H _ _ o r1 h λρ' M' σ' H' h' ts o'=>ib.imp cE t1 ρ' M' σ' H' _ _ o' (r2.ts ts) h' λρ2 M2 σ2 H2 h2 LI o2=>k ρ2 M2 σ2 H2 h2 (ts.trans LI) o2]
def VE (n:Nat)(a:OG):WG:=λx ρ M q=> ∃l,cW (x= .tup l) (l.length=n) (a l ρ M q)
instance {n:Nat}{t:L8}{a:OG} [ia:_N K t a]:IG K (Oa K n t) (VE n a) where
 imp:=λx v ρ M σ H q Q o r h k=>by let⟨l,rfl,hl,h⟩:=h;let⟨a',vs,rfl,hv,rr⟩:=r.tup;show#[a',vs,rfl,hv,by rw[rr.length];show hl,ia.imp l vs ρ M σ H _ _ o rr h k]
abbrev Lg:=W ->W ->W ->Mp ->(Mp ->Prop) ->Prop
class YZ (K:PySem.W.Frag) (t:Lh) (w:outParam Lg):Prop where
 imp: ∀ (x y z:W) (v u r:V) (M:Mp) (H:Hp) (q:Mp ->Prop) (Q:Hp ->Prop),fR K M H ->WR K H x v ->WR K H y u ->WR K H z r ->w x y z M q ->(∀M' H',q M' ->aY H H' ->fR K M' H' ->Q H') ->t v u r H Q
def O3:Lg:=λx y z M q=>fQ λa l k j=>f_ (x=wr a) (y=wi k) (M a=some (.lst l)) (Az l.length k=some j) (q (um M a (.lst (l.set j z))))
instance:YZ K Py O3 where
 imp:=by rintro x y z v u r M H q Q m r1 r2 r3 ⟨a,l,i,j,rfl,rfl,hl,e,h⟩ k;let⟨vs,hv,rr⟩:=m a _ hl;show#[a,vs,i,j,r1.eq,r2.eq,hv,by rw[rr.length];show e,k _ _ h (ix hv) (m.putL hv (rr.set j r3))]
def VF (a b:WE)(s:Lg):WG:=λx ρ M q=>a ρ M λo M1=>b ρ M1 λi M2=>s o i x M2 λM3=>q ρ M3
instance {t u:TE}{s:Lh}{a b:WE}{w:Lg} [ia:IE K t a] [ib:IE K u b] [is:YZ K s w]:IG K (Yn t u s) (VF a b w) where
 imp:=λx v ρ M σ H q Q o r h k=>ia.imp ρ M σ H _ _ o h λy M1 v1 H1 h1 t1 m1 r1=>ib.imp ρ M1 σ H1 _ _ (o.mv t1 m1) h1 λz M2 v2 H2 h2 t2 m2 r2=>is.imp y z x v1 v2 v M2 H2 _ _ m2 (r1.ts t2) r2 (r.ts (t1.trans t2)) h2 λM3 H3 h3 t3 m3=>k ρ M3 σ H3 h3 ((t1.trans t2).trans t3) (o.mv ((t1.trans t2).trans t3) m3)
def DM:WS:=λD ρ M=>D.nx ρ M
instance:IS K Pk DM where
 imp:=λρ M σ H D' D o h e=>e.nx ρ M σ H h (aY.refl H) o
def FN (a b:WS):WS:=λD ρ M=>a {D with nx:=b D} ρ M
instance {t u:TS}{a b:WS} [ia:IS K t a] [ib:IS K u b]:IS K (Ru t u) (FN a b) where
 imp:=λρ M σ H D' D o h e=>ia.imp ρ M σ H _ _ o h #[λρ' M' σ' H' h' ts o'=>ib.imp ρ' M' σ' H' D' D o' h' (e.mv ts),e.rt,e.bk,e.ct]
def Ij (a:WE):WS:=λD ρ M=>a ρ M λ_ M1=>D.nx ρ M1
instance {t:TE}{a:WE} [ia:IE K t a]:IS K (Pl t) (Ij a) where
 imp:=λρ M σ H D' D o h e=>ia.imp ρ M σ H _ _ o h λx M1 v H1 h1 t1 m1 r1=>e.nx ρ M1 σ H1 h1 t1 (o.mv t1 m1)
def Wb (a:WE):WS:=λD ρ M=>a ρ M D.rt
instance {t:TE}{a:WE} [ia:IE K t a]:IS K (VT t) (Wb a) where
 imp:=λρ M σ H D' D o h e=>ia.imp ρ M σ H _ _ o h λx M1 v H1 h1 t1 m1 r1=>e.rt x M1 v H1 h1 t1 m1 r1
def RC (c:WT)(a b:WS):WS:=λD ρ M=>c ρ M λk M1=>if k=true then a D ρ M1 else b D ρ M1
instance {tc:TT}{t u:TS}{c:WT}{a b:WS} [ic:IT K tc c] [ia:IS K t a] [ib:IS K u b]:IS K (VY tc t u) (RC c a b) where
 imp:=λρ M σ H D' D o h e=>ic.imp ρ M σ H _ _ o h λk M1 H1 h1 t1 m1=>by
  cases k with
  | true=>simp![bV] at h1 ⊢;show ia.imp ρ M1 σ H1 D' D (o.mv t1 m1) h1 (e.mv t1)
  | false=>simp![aA,bC] at h1 ⊢;show ib.imp ρ M1 σ H1 D' D (o.mv t1 m1) h1 (e.mv t1)
def RE (a:WE)(g:WG):WS:=λD ρ M=>a ρ M λx M1=>g x ρ M1 D.nx
instance {t:TE}{g:TG}{a:WE}{w:WG} [ia:IE K t a] [ig:IG K g w]:IS K (HW t g) (RE a w) where
 imp:=λρ M σ H D' D o h e=>ia.imp ρ M σ H _ _ o h λx M1 v H1 h1 t1 m1 r1=>ig.imp x v ρ M1 σ H1 _ _ (o.mv t1 m1) r1 h1 λρ2 M2 σ2 H2 h2 t2 o2=>e.nx ρ2 M2 σ2 H2 h2 (t1.trans t2) o2
class IIp (K:PySem.W.Frag) (t:U2) (w:outParam pX):Prop where
 imp: ∀ (x y:W) (v u:V) (M:Mp) (H:Hp) (q:WK) (Q:VK),fR K M H ->WR K H x v ->WR K H y u ->w x y M q ->(∀x M' v H',q x M' ->aY H H' ->fR K M' H' ->WR K H' x v ->Q v H') ->t v u H Q
instance {f:Int ->Int ->Int}:IIp K (ipI f) (wI0 λi j=> .int (f i j)) where
 imp:=by rintro x y v u M H q Q m r1 r2 ⟨i,j,rfl,rfl,h⟩ k;show#[i,j,r1.eq,r2.eq,k _ M _ H h (aY.refl H) m WR.v]
def Wf (i:Nat)(a:WE)(r:pX):WS:=λD ρ M=>ft i ρ M λx M=>a ρ M λy M1=>r x y M1 λz M2=>D.nx (ρ.set i (some z)) M2
instance {i:Nat}{t:TE}{ti:U2}{a:WE}{w:pX} [ia:IE K t a] [ir:IIp K ti w]:IS K (V4 i t ti) (Wf i a w) where
 imp:=λρ M σ H D' D o h e=>by let⟨x,ex,h⟩:=Ho h;let⟨v,ev,rv⟩:=o.env.2 i x ex;show#[v,ev,ia.imp ρ M σ H _ _ o h λy M1 u H1 h1 t1 m1 r1=>ir.imp x y v u M1 H1 _ _ m1 (rv.ts t1) r1 h1 λz M2 w2 H2 h2 t2 m2 r2=>e.nx _ M2 _ H2 h2 (t1.trans t2) #[(o.env.ts (t1.trans t2)).set i r2,m2]]
def yj (a b c:WE):WS:=λD ρ M=>c ρ M λz M1=>a ρ M1 λx M2=>b ρ M2 λy M3=>eh λp kvs k=>f_ (x=wr p) (M3 p=some (.dK kvs)) (y=iW k) (kvs.length<sizeLine) (D.nx ρ (um M3 p (.dK (ur kvs k z))))
instance {t u s:TE}{a b c:WE} [ia:IE K t a] [ib:IE K u b] [ic:IE K s c]:IS K (Pr t u s) (yj a b c) where
 imp :=λρ M σ H D' D o h e=>ic.imp ρ M σ H _ _ o h λz M1 v1 H1 h1 t1 m1 r1=>ia.imp ρ M1 σ H1 _ _ (o.mv t1 m1) h1 λx M2 v2 H2 h2 t2 m2 r2=>ib.imp ρ M2 σ H2 _ _ (o.mv (t1.trans t2) m2) h2 λy M3 v3 H3 ⟨p,kvs,k,e1,e2,e3,hl,h3⟩ t3 m3 r3=>by subst e1 e3;let⟨ks,hk,rr⟩:=m3 p _ e2;have ts:=lm (u:= .dK (mW ks k v1)) hk;exact#[p,_,r2.eq,?_,e.nx ρ _ σ (cf H3 p (.dK (mW ks k v1))) h3 (((t1.trans t2).trans t3).trans ts) (o.mv (((t1.trans t2).trans t3).trans ts) (m3.putD hk (KR.put (r1.ts (t2.trans t3)) rr)))];rw[i9 r3];show LF.k hk (by rw[rr.length];show hl)
def BZ (a b:WE):WS:=λD ρ M=>a ρ M λx M1=>b ρ M1 λy M2=>eh λp kvs k=>f_ (x=wr p) (M2 p=some (.dK kvs)) (y=iW k) ((eD kvs k).isSome=true) (D.nx ρ (um M2 p (.dK (jK kvs k))))
instance {t u:TE}{a b:WE} [ia:IE K t a] [ib:IE K u b]:IS K (Ps t u) (BZ a b) where
 imp :=λρ M σ H D' D o h e=>ia.imp ρ M σ H _ _ o h λx M2 v2 H2 h2 t2 m2 r2=>ib.imp ρ M2 σ H2 _ _ (o.mv t2 m2) h2 λy M3 v3 H3 ⟨p,kvs,k,e1,e2,e3,hl,h3⟩ t3 m3 r3=>by subst e1 e3;let⟨ks,hk,rr⟩:=m3 p _ e2;have ts:=lm (u:= .dK (mj ks k)) hk;show#[p,ks,k,r2.eq,hk,i9 r3,by rw[rr.some];show hl,e.nx ρ _ σ _ h3 ((t2.trans t3).trans ts) (o.mv ((t2.trans t3).trans ts) (m3.putD hk rr.drop))]
def C5 (K:Xu)(H1:Hp)(J:It)(xs:cA W)(keep:Mp ->Prop):Prop:=∀i M H,aY H1 H ->fR K M H ->keep M ->(xs.length=i ->J.stop i H) /\ (i<xs.length ->J.go i H) /\ ∀v H',i<xs.length ->J.Ut i H v H' ->aY H H' /\ fR K M H' /\ ∃x,xs[i]? =some x /\ WR K H' x v
class II (K:PySem.W.Frag) (t:TI) (w:outParam WI):Prop where
 imp: ∀ (ρ:bS) (M:Mp) (σ:St) (H:Hp) (q:List W ->(Mp ->Prop) ->Mp ->Prop) (R:It ->Hp ->Prop),Ok K ρ M σ H ->w ρ M q ->(∀xs keep J M' H',q xs keep M' ->aY H H' ->fR K M' H' ->C5 K H' J xs keep ->R J H') ->t σ H R
def EH (a:WE):WI:=λρ M q=>a ρ M λx M1=>cc λp l=>cW (x=wr p) (M1 p=some (.lst l)) (q l (λM'=>M' p=some (.lst l)) M1)
def S6 (a:WE):WI:=λρ M q=>a ρ M λx M1=> ∃l,x= .tup l /\ q l (λ_=>True) M1
def gk (lo:Int)(n:Nat):cA W:=(List.range n).map λ(k:Nat)=>wi (lo+(k:Int))
def EG (a:WA):WI:=λρ M q=>a ρ M λxs M1=> ∃j:Int,fg (xs= [wi j]) (-(2 ^ 62) <=j) (j<2 ^ 62) (q (gk 0 j.toNat) (λ_=>True) M1)
def xi:C5 K H1 (_K K p) l (λM'=>M' p=some (.lst l)):=by intro i M H ts m hk;let⟨vs,hv,rr⟩:=m p _ hk;have hl:=rr.length;exact#[λh=>#[vs,gY.of hv, ∅],λh=>#[vs,vs[i]'∅,gY.of hv,by simp],λv H' hi y=> ?_];let⟨rfl,y⟩:=y;have:=y vs (gY.of hv);let⟨d,hd,r⟩:=rr.back this;show#[aY.refl _,m,d,hd,r]
def AA (hv:kP K H1 p vs)(rr:cK K H1 l vs):C5 K H1 (_I K p) l (λ_=>True):=by intro i M H ts m _;have NQ:=Un.sqT ts hv;have Pu:=rr.ts ts;have hl:=Pu.length;exact#[λh=>#[vs,NQ, ∅],λh=>#[vs,vs[i]'∅,NQ,by simp],λv H' hi y=> ?_];let⟨rfl,y⟩:=y;have:=y vs NQ;let⟨d,hd,r⟩:=Pu.back this;show#[aY.refl _,m,d,hd,r]
def JP:C5 K H1 (_J lo n) (gk lo n) (λ_=>True):=by
 intro i M H ts m _;have hl:(gk lo n).length=n:=by simp[gk]
 rw[hl];exact#[λh=>Nat.le_of_eq h,λh=>h,λv H' hi y=> ?_];let⟨rfl,y⟩:=y;exact#[aY.refl _,m,wi (lo+i),?_,by rw[y];show WR.v];simp[gk,hi]
instance {t:TE}{a:WE} [ia:IE K t a]:II K (JT K t) (EH a) where
 imp:=λρ M σ H q R o h k=>ia.imp ρ M σ H _ _ o h λx M1 v H1 ⟨p,l,e,hp,h1⟩ t1 m1 r1=>by subst e;let⟨vs,hv,rr⟩:=m1 p _ hp;show#[p,r1.eq,#[vs,gY.of hv],k l _ _ M1 H1 h1 t1 m1 xi]
instance {t:TE}{a:WE} [ia:IE K t a]:II K (Td K t) (S6 a) where
 imp:=λρ M σ H q R o h k=>ia.imp ρ M σ H _ _ o h λx M1 v H1 ⟨l,e,h1⟩ t1 m1 r1=>by subst e;let⟨p,vs,rfl,hv,rr⟩:=r1.tup;show#[p,rfl,#[vs,hv],k l _ _ M1 H1 h1 t1 m1 (AA hv rr)]
instance {t:TA}{a:WA} [ia:IA K t a]:II K (Qo t) (EG a) where
 imp:=λρ M σ H q R o h k=>ia.imp ρ M σ H _ _ o h λxs M1 v H1 ⟨j,e,h0,h1,h2⟩ t1 m1 r1=>by subst e;let⟨v,rfl,r⟩:=r1.one;cases r.eq;show#[j,rfl,h0,h1,k _ _ _ M1 H1 h2 t1 m1 JP]
def RD (it:WI)(g:WG)(b:WS):WS:=λD ρ M=>it ρ M λxs keep M1=> ∃I:Nat ->bS ->Mp ->Prop,fg (I 0 ρ M1) (∀i ρ M,i<=xs.length ->I i ρ M ->keep M) (∀i x ρ M,xs[i]? =some x ->I i ρ M ->g x ρ M λρ2 M2=>b {D with nx:=I (i+1),ct:=I (i+1),bk:=D.nx} ρ2 M2) (∀ρ M,I xs.length ρ M ->D.nx ρ M)
instance {ti:TI}{g:TG}{t:TS}{it:WI}{w:WG}{b:WS} [ii:II K ti it] [ig:IG K g w] [ib:IS K t b]:IS K (V1 ti g t) (RD it w b) where
 imp :=λρ M σ H D' D o h e=>ii.imp ρ M σ H _ _ o h λxs keep J M1 H1 h1 t1 m1 ok=>by let⟨I,h0,hk,hs,hd⟩:=h1;exact#[λi m σ' H'=>m=xs.length - i /\ i<=xs.length /\ cc λρ' M'=>cW (I i ρ' M') (aY H1 H') (Ok K ρ' M' σ' H'),#[_,rfl,dc _,ρ,M1,h0,aY.refl _,o.mv t1 m1],?_];rintro i m σ' H' ⟨rfl,hi,ρ',M',hI,ts,o'⟩;let⟨k1,k2,k3⟩:=ok i M' H' ts o'.hp (hk i ρ' M' hi hI);by_cases mX:i<xs.length;exact .inr #[k2 mX,λσ2 H2=>cc λρ2 M2=>cW (I (i+1) ρ2 M2) (aY H1 H2) (Ok K ρ2 M2 σ2 H2),λσ2 H2 ⟨ρ2,M2,a,b,c⟩=>#[xs.length - (i+1), ∅,rfl,mX,ρ2,M2,a,b,c],λv H2 y=> ?_];let⟨ty,my,x,hx,r⟩:=k3 v H2 mX y;replace ts:=ts.trans ty;exact ig.imp x v ρ' M' σ' H2 _ _ (o'.mv ty my) r (hs i x ρ' M' hx hI) λρ3 M3 σ3 H3 h3 t3 o3=>ib.imp ρ3 M3 σ3 H3 _ _ o3 h3 #[λa b c d h t o=>#[a,b,h,(ts.trans t3).trans t,o],λa b c d h t=>e.rt a b c d h (t1.trans ((ts.trans t3).trans t)),λa b c d h t=>e.nx a b c d h (t1.trans ((ts.trans t3).trans t)),λa b c d h t o=>#[a,b,h,(ts.trans t3).trans t,o]];have e':i=xs.length:= ∅;subst e';show .inl #[k1 rfl,e.nx ρ' M' σ' H' (hd ρ' M' hI) (t1.trans ts) o']
def pT (own:Nat)(fr:cA Nat)(ρ:bS):bS:=List.replicate own none++fr.map λj=>(ρ[j]?).join
def Fo.UY (own:Nat)(fr:cA Nat)(h:Fo K H ρ σ):Fo K H (pT own fr ρ) (k7 own fr σ):=by
 unfold pT k7;exact#[by simp,λi x e=> ?_];by_cases hi:i<own;rw[br ⇑hi,dg,am hi] at e;cases e;rw [a9 ⇑hi,List.length_replicate,aL] at e;rw[a9 ⇑hi,List.length_replicate,aL];cases ej:fr[i - own]? with
 | none=>rw[ej] at e;cases e
 | some j=>
  rw[ej] at e;simp![bJ,Option.some.injEq] at e ⊢;cases er:ρ[j]? with
  | none=>rw[er] at e;cases e
  | some z=>rw[er] at e;simp![Option.join_some] at e;subst e;let⟨v,ev,r⟩:=h.2 j x er;show#[v,by rw[ev];rfl,r]
def HA (it:WI)(own:Nat)(fr:cA Nat)(g:WG)(c:WT)(el:WE):WE:=λρ M q=>it ρ M λxs keep M1=>xs.length<=sizeLine /\ ∀p,M1 p=none -> ∃I:Nat ->cA W ->Mp ->Prop,fg (I 0 [] (um M1 p (.lst []))) (∀i ys M,i<=xs.length ->I i ys M ->keep M /\ M p=some (.lst ys) /\ ys.length<=i) (∀i x ys M,xs[i]? =some x ->I i ys M ->g x (pT own fr ρ) M λρ2 M2=>c ρ2 M2 λb M3=>if b=true then el ρ2 M3 λy M4=>M4 p=some (.lst ys) /\ I (i+1) (ys++ [y]) (um M4 p (.lst (ys++ [y]))) else I (i+1) ys M3) (∀ys M,I xs.length ys M ->q (wr p) M)
instance {ti:TI}{own:Nat}{fr:cA Nat}{g:TG}{tc:TT}{te:TE}{it:WI}{w:WG}{c:WT}{el:WE} [ii:II K ti it] [ig:IG K g w] [ic:IT K tc c] [ie:IE K te el]:IE K (Pm ti own fr g tc te) (HA it own fr w c el) where
 imp :=λρ M σ H q Q o h k=>ii.imp ρ M σ H _ _ o h λxs keep J M1 H1 h1 t1 m1 ok=>by
  intro p hp;let⟨hz,h1⟩:=h1;let⟨I,h0,hk,hs,hd⟩:=h1 p (m1.fresh hp);have tp:=L2.fF.ts (bO (o:= .lst []) hp);exact#[λi m vs H'=>m=xs.length - i /\ i<=xs.length /\ cc λys M'=>f_ (I i ys M') (aY H1 H') (fR K M' H') (cK K H' ys vs) (H' p=some (.lst vs)),#[_,rfl,dc _,[],_,h0,tp,m1.jW hp cK.nil,cK.nil,bM],?_];rintro i m vs H' ⟨rfl,hi,ys,M',hI,ts,m',rv,hv⟩;exact#[hv,?_];let⟨kp,hMp,hyl⟩:=hk i ys M' hi hI;let⟨k1,k2,k3⟩:=ok i M' H' ts m' kp;by_cases mX:i<xs.length;exact .inr #[k2 mX,by rw[rv.length];lia,λv H2 y=> ?_];let⟨ty,my,x,hx,r⟩:=k3 v H2 mX y;replace ts:=ts.trans ty;have oc:Ok K (pT own fr ρ) M' (k7 own fr σ) H2:=#[(o.env.ts (t1.trans ts)).UY own fr,my]
  exact ig.imp x v _ M' _ H2 _ _ oc r (hs i x ys M' hx hI) λρ3 M3 σ3 H3 h3 t3 o3=>ic.imp ρ3 M3 σ3 H3 _ _ o3 h3 λb M4 H4 h4 t4 m4=> ?_;cases b with
  | true=>simp![bV] at h4 ⊢;exact ie.imp ρ3 M4 σ3 H4 _ _ (o3.mv t4 m4) h4 λz M5 u H5 ⟨h5,h6⟩ t5 m5 r5=> ?_;let⟨Pa,NP,Mz⟩:=m5 p _ h5;have aaK:=(t3.trans t4).trans t5;have t6:=ix (u:= .lst (Pa++ [u])) NP;show#[Pa,NP,by rw[Mz.length];lia,_, ∅,rfl,mX,_,_,h6,(ts.trans aaK).trans t6,m5.putL NP (Mz.snoc r5),(Mz.snoc r5).ts t6,bM]
  | false=>simp![aA,bC] at h4 ⊢;let⟨Pa,NP,Mz⟩:=m4 p _ (hk (i+1) ys M4 mX h4).2.1;show#[Pa,_, ∅,rfl,mX,_,_,h4,ts.trans (t3.trans t4),m4,Mz,NP]
  have e':i=xs.length:= ∅;subst e';show .inl #[k1 rfl,k _ M' _ H' (hd ys M' hI) (t1.trans ts) m' WR.v]
def U_:WT:=λ_ M q=>q true M
instance:IT K VQ U_ where
 imp:=λρ M σ H q Q o h k=>k _ M H h (aY.refl H) o.hp
end
section
variable {K:Xu}
theorem fR.sub (s:Sm M M')(m:fR K M' H):fR K M H:=λa o e=>m a o (s a o e)
def okS (F:Bp K x qual st f fd)(S:b_ N ps (aU st))(len: ∀vs M q,p vs M q ->vs.length=ps.length)(jH: ∀ (cdv:c5) (A:Around) (outer:cA Env) (s:dq) (H:Hp) (E:XK),d7 k (A.deeper (PyProof.Rows.envOfC qual (aU st) s.heap.objs.size f cdv)) ->∃t,xO (d9 fh P w K mg base N qual (aU st) f cdv A outer s H E).Gf (dA st) t /\ ∃w',IS K t w' /\ ∀vs M q,p vs M q ->w' {nx:=λ_ M'=> ∃M0,Sm M0 M' /\ q wn M0,rt:=λx M'=> ∃M0,Sm M0 M' /\ q x M0} (vs.map some++List.replicate (N.length - vs.length) none) M): bD P w K mg base fh (k+1) f fd ps (fT K p):=by
 have h:=okW (K:=K) (P:=P) (w:=w) (mg:=mg) (base:=base) (k:=k) (p:=λvs M q=> ∃q',p vs M q' /\ q=λx M'=> ∃M0,Sm M0 M' /\ q' x M0) F S (λvs M q ⟨q',h,_⟩=>len vs M q' h) λcdv A outer s H E hr=>by let⟨t,h1,w',h2,h3⟩:=jH cdv A outer s H E hr;exact#[t,w',h1,h2,?_];rintro vs M q ⟨q',h,rfl⟩;show h3 vs M q' h
 exact h.imp λvs H Q E ⟨xs,M,q,r,m,hp,hk⟩=>#[xs,M,_,r,m,#[q,hp,rfl],?_]
 rintro x M' v H' ⟨M0,s,hq⟩ ts m' r';show hk x M0 v H' hq ts (m'.sub s) r'
def GQ {xs:cA W}{keep:Mp ->Prop}{M1:Mp}{g:WG}{c:WT}{el:WE}{q:WK}(f:W ->eM W)(hz:xs.length<=sizeLine)(pq: ∀M,Sm M1 M ->keep M)(hs: ∀ (i:Nat) x,xs[i]? =some x -> ∀ (M:Mp) (N:eM W ->Mp ->Prop),Sm M1 M ->N (f x) M ->g x (pT own fr ρ) M λρ2 M2=>c ρ2 M2 λb M3=>if b=true then el ρ2 M3 λy M4=>N (some y) M4 else N none M3)(hq: ∀p,M1 p=none ->q (wr p) (um M1 p (.lst (xs.filterMap f)))): xs.length<=sizeLine /\ ∀p,M1 p=none -> ∃I:Nat ->cA W ->Mp ->Prop,fg (I 0 [] (um M1 p (.lst []))) (∀i ys M,i<=xs.length ->I i ys M ->keep M /\ M p=some (.lst ys) /\ ys.length<=i) (∀i x ys M,xs[i]? =some x ->I i ys M ->g x (pT own fr ρ) M λρ2 M2=>c ρ2 M2 λb M3=>if b=true then el ρ2 M3 λy M4=>M4 p=some (.lst ys) /\ I (i+1) (ys++ [y]) (um M4 p (.lst (ys++ [y]))) else I (i+1) ys M3) (∀ys M,I xs.length ys M ->q (wr p) M):=by
 exact#[hz,λp hp=>#[λi ys M=>M=um M1 p (.lst ys) /\ ys=(xs.take i).filterMap f,#[rfl,by simp],?_,?_,?_]];rintro i ys M hi ⟨rfl,rfl⟩;exact#[pq _ (a6 hp),ao,aw (List.length_filterMap_le _ _) ?_];rw[cz];lia;rintro i x ys M hx ⟨rfl,rfl⟩;exact hs i x hx _ (λo M4=>match o with
 | some y=>M4 p=some (.lst ((xs.take i).filterMap f)) /\ (um M4 p (.lst ((xs.take i).filterMap f++ [y]))=um M1 p (.lst ((xs.take i).filterMap f++ [y])) /\ (xs.take i).filterMap f++ [y]=(xs.take (i+1)).filterMap f)
 | none=>M4=um M1 p (.lst ((xs.take i).filterMap f)) /\ (xs.take i).filterMap f=(xs.take (i+1)).filterMap f) (a6 hp) ?_
 have e:xs.take (i+1)=xs.take i++ [x]:=by rw[List.take_add_one,hx];rfl
 cases hf:f x with
 | none=>show#[rfl,by rw[e,List.filterMap_append];simp[hf]]
 | some y=>show#[ao,j9,by rw[e,List.filterMap_append];simp[hf]]
 rintro ys M ⟨rfl,rfl⟩;rw[List.take_length];show hq p hp
mutual
def GO:W ->eM Dt
 | .v .dG=>some .dG
 | .v (.bl b)=>some (.bl b)
 | .v (.int i)=>some (.int i)
 | .v (.str x)=>some (.str x)
 | .v _=>none
 | .tup l=>(mY l).map .tup
def mY:cA W ->eM (cA Dt)
 | []=>some []
 | x::r=>match GO x,mY r with
  | some d,some l=>some (d::l)
  | _,_=>none
end
mutual
theorem Is {H:Hp}: ∀ (x:W) (d:Dt) (v:V),GO x=some d ->WR K H x v ->Rep K H d v
 | .v y,d,v,e,r=>by cases r.eq;cases y<;>simp![GO,Option.some.injEq,reduceCtorEq] at e<;>subst e<;>simp![Rep]
 | .tup l,d,v,e,r=>by
  let⟨a,vs,rfl,hv,rr⟩:=r.tup;simp![GO] at e;cases hd:mY l with
  | none=>rw[hd] at e;cases e
  | some ds=>rw[hd] at e;cases e;simp![Rep];show#[a,vs,rfl,hv,yn l ds vs hd rr]
theorem yn {H:Hp}: ∀ (l:cA W) (ds:cA Dt) (vs:cA V),mY l=some ds ->cK K H l vs ->ge K H ds vs
 | [],ds,vs,e,r=>by simp![mY] at e;cases e;simp![cK] at r;simp![ge];show r
 | x ::l,ds,vs,e,r=>by
  simp![mY] at e;cases hx:GO x with
  | none=>rw[hx] at e;cases e
  | some d=>
   cases hl:mY l with
   | none=>rw[hx,hl] at e;cases e
   | some T8=>rw[hx,hl] at e;cases e;simp![cK] at r;let⟨v,t,rfl,r1,r2⟩:=r;simp![ge];show#[v,t,rfl,Is x d v hx r1,yn l T8 t hl r2]
end
def DR (M:Mp)(x:W)(d:Dt):Prop:=GO x=some d \/ eh λa l ds=>fg (x=wr a) (M a=some (.lst l)) (mY l=some ds) (d= .lst ds)
def DR.rep (m:fR K M H)(r:WR K H x v)(h:DR M x d):Rep K H d v:=by obtain h | ⟨a,l,ds,rfl,hl,e,rfl⟩:=h;show Is x d v h r;cases r.eq;let⟨vs,hv,rr⟩:=m a _ hl;simp![Rep];show#[a,vs,rfl,gY.of hv,yn l ds vs e rr]
def Vr:pX:=λx y M q=>cc λd e=>f_ (DR M x d) (DR M y e) (jR d e=true) (qV d<=50) (q (wb (vk d e)) M)
def QW:pX:=λx y M q=>cc λd e=>f_ (DR M x d) (DR M y e) (jR d e=true) (qV d<=50) (q (wb (!vk d e)) M)
instance:IR K (B6 K) Vr where
 imp:=by rintro x y v u M H q Q m r1 r2 ⟨d,e,h1,h2,h3,h4,h⟩ k;show#[d,e,h3,h4,h1.rep m r1,h2.rep m r2,k _ M _ H h (aY.refl H) m WR.v]
instance:IR K (vZ K) QW where
 imp:=by rintro x y v u M H q Q m r1 r2 ⟨d,e,h1,h2,h3,h4,h⟩ k;show#[d,e,h3,h4,h1.rep m r1,h2.rep m r2,k _ M _ H h (aY.refl H) m WR.v]
instance {r r':R2}{t u s:TE}{a b c:WE}{w w':pX} [ir:IR K r w] [ir':IR K r' w'] [ia:IE K t a] [ib:IE K u b] [ic:IE K s c]:IE K (BU r r' t u s) (HC w w' a b c) where
 imp :=λρ M σ H q Q o h k=>ia.imp ρ M σ H _ _ o h λx M1 v H1 h1 t1 m1 r1=>ib.imp ρ M1 σ H1 _ _ (o.mv t1 m1) h1 λy M2 u H2 h2 t2 m2 r2=>ir.imp x y v u M2 H2 _ _ m2 (r1.ts t2) r2 h2 λz M3 v3 H3 ⟨kk,e,h3⟩ t3 m3 r3=>by
  subst e;exact#[kk,r3.eq,?_];cases kk with
  | true=>simp![bV] at h3 ⊢;show ic.imp ρ M3 σ H3 _ _ (o.mv ((t1.trans t2).trans t3) m3) h3 λy4 M4 v4 H4 h4 t4 m4 r4=>ir'.imp y y4 u v4 M4 H4 _ _ m4 (r2.ts (t3.trans t4)) r4 h4 λz5 M5 v5 H5 h5 t5 m5 r5=>k z5 M5 v5 H5 h5 ((((t1.trans t2).trans t3).trans t4).trans t5) m5 r5
  | false=>simp![aA,bC] at h3 ⊢;show k _ M3 _ H3 h3 ((t1.trans t2).trans t3) m3 WR.v
def Zo (UH:Bool):pX:=λx y M q=>cc λ(z:V) (l:cA V)=>f_ (x= .v z) (y= .tup (l.map .v) \/ ∃a,y=wr a /\ M a=some (.lst (l.map .v))) (lZ z=true) (l.all lZ=true) (q (wb (if UH then !CA z l else CA z l)) M)
theorem cK.vals {H:Hp}: ∀ {l us:cA V},cK K H (l.map .v) us ->us=l
 | [],us,h=>by simpa only[List.map_nil,cK] using h
 | n::r,vs,h=>by simp![aT,cK] at h;let⟨v,t,rfl,h1,h2⟩:=h;rw[cK.vals h2,h1.eq]
instance {UH:Bool}:IR K (Wn K UH) (Zo UH) where
 imp :=by rintro x y v u M H q Q m r1 r2 ⟨z,l,rfl,hy,h1,h2,h⟩ k;cases r1.eq;obtain rfl | ⟨a,rfl,ha⟩:=hy;let⟨a,vs,rfl,hv,rr⟩:=r2.tup;cases rr.vals;show#[a,l,rfl, .inr hv,h1,h2,k _ M _ H h (aY.refl H) m WR.v];cases r2.eq;let⟨vs,hv,rr⟩:=m a _ ha;cases rr.vals;show#[a,l,rfl, .inl (gY.of hv),h1,h2,k _ M _ H h (aY.refl H) m WR.v]
def Hs:zd:=λxs M q=>eh λ(d:fM) (kvs:cA (bX×W)) (ks:cA Int)=>f_ (xs= [wr d]) (M d=some (.dK kvs)) (kvs.map (·.1)=ks.map Sum.inl) (ks.length<=sizeLine) (∀ (p:fM) (ns:cA Int),M p=none ->ns.Perm ks ->ns.Pairwise (· <= ·) ->q (wr p) (um M p (.lst (ns.map wi))))
instance:IC K z_ Hs where
 imp:=by rintro xs v M H q Q m r1 ⟨d,kvs,ks,rfl,hd,hk,hl,h⟩ k;let⟨v,rfl,r⟩:=r1.one;cases r.eq;let⟨vs,hv,rr⟩:=m d _ hd;show#[d,vs,ks,rfl,hv,by rw[rr.keys];show hk,hl,λp ns hp h1 h2=>k _ _ _ _ (h p ns (m.fresh hp) h1 h2) (L2.fF.ts (bO hp)) (m.jW hp (cK.ofInts ns)) WR.v]
end
end WL
namespace WL
open PySem L2
theorem YK {l:cA α}:fE (a::l) 0=some a:=fK (j:=0) (by rfl)
theorem ajs {l:cA α}:fE (a::b::l) 1=some b:=fK (j:=1) (by rfl)
theorem ajr {l:cA α}:fE (a::b::c::l) 2=some c:=fK (j:=2) (by rfl)
theorem ajq {l:cA α}:fE (a::b::c::d::l) 3=some d:=fK (j:=3) (by rfl)
def ajl:Az (n+1+1) 1=some 1:=by unfold Az;rw[am ∅,am ∅];rfl
def ajk:Az (n+1+1+1) 2=some 2:=by unfold Az;rw[am ∅,am ∅];rfl
def ajj:Az (n+1+1+1+1) 3=some 3:=by unfold Az;rw[am ∅,am ∅];rfl
def hV {a:α}(h0:0<=i)(h:l[i.toNat]? =some a):fE l i=some a:=by have e:((i.toNat:Nat):Int)=i:= ∅;rw[<- e];show fK h
theorem eC {P:Mp ->Prop}(h:P M): ∃M0,Sm M0 M /\ P M0:=#[M,Sm.refl M,h]
def NB (d:fM)(M M':Mp):Prop:= ∀b,b≠d ->M' b=M b
theorem NB.refl (d:fM)(M:Mp):NB d M M:=λ_ _=>rfl
theorem NB.trans {M M1 M2:Mp}(a:NB d M M1)(b:NB d M1 M2):NB d M M2:=λc n=>(b c n).trans (a c n)
theorem NB.put:NB d M (um M d o):=λb n=>aP n
def Dr (M:Mp)(d l:fM):Prop:=fQ λ(ns:cA Int) (i c s:Int)=>fg (M d=some (.lst [wr l,wi i,wi c,wi s])) (M l=some (.lst (ns.map wi))) (0<=i) (d≠l)
def Dr.put (h:Dr M d l)(hp:M p=none):Dr (um M p o) d l:=by let⟨ns,i,c,s,h1,h2,h3,h4⟩:=h;show#[ns,i,c,s,by rw[aP (cF h1 hp)];show h1,by rw[aP (cF h2 hp)];show h2,h3,h4]
def Dr.RP (h:Dr M d l)(hd:p≠d)(hl:p≠l):Dr (um M p o) d l:=by let⟨ns,i,c,s,h1,h2,h3,h4⟩:=h;show#[ns,i,c,s,by rw[aP hd.symm];show h1,by rw[aP hl.symm];show h2,h3,h4]
def Dr.ne (h:Dr M d l)(hp:M p=none):p≠d /\ p≠l:=by let⟨ns,i,c,s,h1,h2,h3,h4⟩:=h;show#[(cF h1 hp).symm,(cF h2 hp).symm]
def bY (q:Int×Int):W:= .tup [wi q.1,wi q.2]
def gx (l:cA (Int×Int)):W:= .tup (l.map bY)
def pairs_at {l:cA (Int×Int)}{i:Nat}(h:(l.map bY)[i]? =some x): ∃q,l[i]? =some q /\ x=bY q:=by
 rw[aL] at h;cases e:l[i]? with
 | none=>rw[e] at h;cases h
 | some q=>rw[e] at h;cases h;show#[q,rfl,rfl]
def AC {l:cA Int}{i:Nat}(h:(l.map wi)[i]? =some x): ∃n,l[i]? =some n /\ x=wi n:=by
 rw[aL] at h;cases e:l[i]? with
 | none=>rw[e] at h;cases h
 | some q=>rw[e] at h;cases h;show#[q,rfl,rfl]
def jy (h:(gk lo n)[i]? =some x):i<n /\ x=wi (lo+i):=by unfold gk at h;rw[aL] at h;by_cases hi:i<n;rw[List.getElem?_range hi] at h;cases h;show#[hi,rfl];rw[List.getElem?_eq_none ⇑hi] at h;cases h
def h_:(gk lo n).length=n:=by simp[gk]
def lstK (o:eM MO)(k:cA W ->Prop):Prop:= ∃l,o=some (.lst l) /\ k l
def fC (o:eM MO)(k:cA (bX×W) ->Prop):Prop:= ∃l,o=some (.dK l) /\ k l
def iL {α:Type}(o:eM α)(k:α ->Prop):Prop:= ∃a,o=some a /\ k a
def ci (C Q:Prop):Prop:=C /\ Q
def gC (b:Bool)(A B:Prop):Prop:=if b=true then A else B
def Jp (M:Mp)(k:fM ->Prop):Prop:= ∀p,M p=none ->k p
def mF (p:eZ)(xs:cA W)(M:Mp)(q:WK):Prop:=p xs M q
def Qm (x:W)(M:Mp)(q:Bool ->Mp ->Prop):Prop:= ∃k,x=wb k /\ q k M
def dU (x:W)(k:fM ->Prop):Prop:= ∃a,x=wr a /\ k a
def tupK (x:W)(k:cA W ->Prop):Prop:= ∃l,x= .tup l /\ k l
def VL (M:Mp)(x:W)(k:Bool ->Prop):Prop:= ∃b,Mb M x b /\ k b
def iX (x:W)(k:bX ->Prop):Prop:= ∃y,x=iW y /\ k y
def Oe (xs:cA W)(keep:Mp ->Prop)(g:WG)(b:WS)(D:dH)(ρ:bS)(M1:Mp):Prop:= ∃I:Nat ->bS ->Mp ->Prop,fg (I 0 ρ M1) (∀i ρ M,i<=xs.length ->I i ρ M ->keep M) (∀i x ρ M,xs[i]? =some x ->I i ρ M ->g x ρ M λρ2 M2=>b {D with nx:=I (i+1),ct:=I (i+1),bk:=D.nx} ρ2 M2) (∀ρ M,I xs.length ρ M ->D.nx ρ M)
def vy (xs:cA W)(keep:Mp ->Prop)(own:Nat)(fr:cA Nat)(g:WG)(c:WT)(el:WE)(ρ:bS)(M1:Mp)(q:WK):Prop:=xs.length<=sizeLine /\ ∀p,M1 p=none -> ∃I:Nat ->cA W ->Mp ->Prop,fg (I 0 [] (um M1 p (.lst []))) (∀i ys M,i<=xs.length ->I i ys M ->keep M /\ M p=some (.lst ys) /\ ys.length<=i) (∀i x ys M,xs[i]? =some x ->I i ys M ->g x (pT own fr ρ) M λρ2 M2=>c ρ2 M2 λb M3=>if b=true then el ρ2 M3 λy M4=>M4 p=some (.lst ys) /\ I (i+1) (ys++ [y]) (um M4 p (.lst (ys++ [y]))) else I (i+1) ys M3) (∀ys M,I xs.length ys M ->q (wr p) M)
def aa8:lstK (some (.lst l)) k=k l:=by apply propext;symm;(· rintro⟨_,h,k⟩;cases h;show k);(· intro h;show#[_,rfl,h])
def aic:fC (some (.dK l)) k=k l:=by apply propext;symm;(· rintro⟨_,h,k⟩;cases h;show k);(· intro h;show#[_,rfl,h])
def aa3 {k:α ->Prop}:iL (some x) k=k x:=by apply propext;symm;(· rintro⟨_,h,k⟩;cases h;show k);(· intro h;show#[_,rfl,h])
def aij:ci True Q=Q:=by simp[ci]
def abB:gC true A B=A:=by simp[gC]
def abC:gC false A B=B:=by simp[gC]
def ajn:Qm (.v (.bl k)) M q=q k M:=by apply propext;symm;(· rintro⟨_,h,k⟩;cases h;show k);(· intro h;show#[_,rfl,h])
def gj:dU (.v (.ref x)) k=k x:=by apply propext;symm;(· rintro⟨_,h,k⟩;cases h;show k);(· intro h;show#[_,rfl,h])
def Ro:tupK (.tup x) k=k x:=by apply propext;symm;(· rintro⟨_,h,k⟩;cases h;show k);(· intro h;show#[_,rfl,h])
def JG:iX (.v (.int i)) k=k (.inl i):=by apply propext;symm;(· rintro⟨y,h,z⟩;cases y<;>cases h;show z);(· intro h;show#[.inl i,rfl,h])
def yN:iX (.v (.str i)) k=k (.inr i):=by apply propext;symm;(· rintro⟨y,h,z⟩;cases y<;>cases h;show z);(· intro h;show#[.inr i,rfl,h])
theorem aae {r:bS}:ft 0 (some x::r) M q=q x M:=rfl
theorem aad {r:bS}:ft 1 (x0::some x::r) M q=q x M:=rfl
theorem aac {r:bS}:ft 2 (x0::x1::some x::r) M q=q x M:=rfl
theorem aab {r:bS}:ft 3 (x0::x1::x2::some x::r) M q=q x M:=rfl
theorem aaa {r:bS}:ft 4 (x0::x1::x2::x3::some x::r) M q=q x M:=rfl
theorem _Z {r:bS}:ft 5 (x0::x1::x2::x3::x4::some x::r) M q=q x M:=rfl
theorem _Y {r:bS}:ft 6 (x0::x1::x2::x3::x4::x5::some x::r) M q=q x M:=rfl
theorem _X {r:bS}:ft 7 (x0::x1::x2::x3::x4::x5::x6::some x::r) M q=q x M:=rfl
theorem _W {r:bS}:ft 8 (x0::x1::x2::x3::x4::x5::x6::x7::some x::r) M q=q x M:=rfl
theorem _V {r:bS}:ft 9 (x0::x1::x2::x3::x4::x5::x6::x7::x8::some x::r) M q=q x M:=rfl
theorem Zd {r:bS}:ft 10 (x0::x1::x2::x3::x4::x5::x6::x7::x8::x9::some x::r) M q=q x M:=rfl
theorem Zc {r:bS}:ft 11 (x0::x1::x2::x3::x4::x5::x6::x7::x8::x9::sw::some x::r) M q=q x M:=rfl
theorem Zb {r:bS}:ft 12 (x0::x1::x2::x3::x4::x5::x6::x7::x8::x9::sw::t7::some x::r) M q=q x M:=rfl
theorem Za {r:bS}:ft 13 (x0::x1::x2::x3::x4::x5::x6::x7::x8::x9::sw::t7::vV::some x::r) M q=q x M:=rfl
theorem Y_ {r:bS}:ft 14 (x0::x1::x2::x3::x4::x5::x6::x7::x8::x9::sw::t7::vV::xV::some x::r) M q=q x M:=rfl
theorem Y' {r:bS}:ft 15 (x0::x1::x2::x3::x4::x5::x6::x7::x8::x9::sw::t7::vV::xV::zA::some x::r) M q=q x M:=rfl
theorem Y9 {r:bS}:ft 16 (x0::x1::x2::x3::x4::x5::x6::x7::x8::x9::sw::t7::vV::xV::zA::BI::some x::r) M q=q x M:=rfl
theorem Y8 {r:bS}:ft 17 (x0::x1::x2::x3::x4::x5::x6::x7::x8::x9::sw::t7::vV::xV::zA::BI::Ft::some x::r) M q=q x M:=rfl
theorem Y7 {r:bS}:ft 18 (x0::x1::x2::x3::x4::x5::x6::x7::x8::x9::sw::t7::vV::xV::zA::BI::Ft::Hl::some x::r) M q=q x M:=rfl
theorem Y6 {r:bS}:ft 19 (x0::x1::x2::x3::x4::x5::x6::x7::x8::x9::sw::t7::vV::xV::zA::BI::Ft::Hl::L9::some x::r) M q=q x M:=rfl
theorem Y5 {r:bS}:ft 20 (x0::x1::x2::x3::x4::x5::x6::x7::x8::x9::sw::t7::vV::xV::zA::BI::Ft::Hl::L9::QS::some x::r) M q=q x M:=rfl
theorem Y4 {r:bS}:ft 21 (x0::x1::x2::x3::x4::x5::x6::x7::x8::x9::sw::t7::vV::xV::zA::BI::Ft::Hl::L9::QS::U8::some x::r) M q=q x M:=rfl
theorem Y3 {r:bS}:ft 22 (x0::x1::x2::x3::x4::x5::x6::x7::x8::x9::sw::t7::vV::xV::zA::BI::Ft::Hl::L9::QS::U8::_S::some x::r) M q=q x M:=rfl
theorem Y2 {r:bS}:ft 23 (x0::x1::x2::x3::x4::x5::x6::x7::x8::x9::sw::t7::vV::xV::zA::BI::Ft::Hl::L9::QS::U8::_S::x22::some x::r) M q=q x M:=rfl
theorem ajw:wC x ρ M q=q x M:=rfl
theorem aiw:LH r a b ρ M q=a ρ M λx M1=>b ρ M1 λy M2=>r x y M2 q:=rfl
theorem aiq:wUn r a ρ M q=a ρ M λx M1=>r x M1 q:=rfl
def ajv:wI C g (.v (.int i)) (.v (.int j)) M q=ci (C i j) (q (.v (g i j)) M):=by apply propext;symm;(· rintro⟨_,_,h1,h2,k⟩;cases h1;cases h2;show k);(· intro h;show#[_,_,rfl,rfl,h])
def aiB:wI0 g (.v (.int i)) (.v (.int j)) M q=q (.v (g i j)) M:=by apply propext;symm;(· rintro⟨_,_,h1,h2,k⟩;cases h1;cases h2;show k);(· intro h;show#[_,_,rfl,rfl,h])
def aju:wU g (.v (.int i)) M q=q (.v (g i)) M:=by apply propext;symm;(· rintro⟨_,h,k⟩;cases h;show k);(· intro h;show#[_,rfl,h])
def aiE:Ux (.v (.int i)) (.v (.int j)) M q=q (wb (decide (i=j))) M:=by apply propext;symm;(· rintro⟨_,_,h1,h2,_,k⟩;cases h1;cases h2;simpa using k);(· intro h;show#[_,_,rfl,rfl,rfl, ⇑h])
def aiy:wNe (.v (.int i)) (.v (.int j)) M q=q (wb (!decide (i=j))) M:=by apply propext;symm;(· rintro⟨_,_,h1,h2,_,k⟩;cases h1;cases h2;simpa using k);(· intro h;show#[_,_,rfl,rfl,rfl, ⇑h])
def aiD:Ux (.v (.str i)) (.v (.str j)) M q=q (wb (decide (i=j))) M:=by apply propext;symm;(· rintro⟨_,_,h1,h2,_,k⟩;cases h1;cases h2;simpa using k);(· intro h;show#[_,_,rfl,rfl,rfl, ⇑h])
def aix:wNe (.v (.str i)) (.v (.str j)) M q=q (wb (!decide (i=j))) M:=by apply propext;symm;(· rintro⟨_,_,h1,h2,_,k⟩;cases h1;cases h2;simpa using k);(· intro h;show#[_,_,rfl,rfl,rfl, ⇑h])
theorem Zg:wJ a ρ M q=a ρ M λx M1=>Qm x M1 q:=rfl
theorem aaD:Rc a b ρ M q=a ρ M λc M1=>gC c (b ρ M1 q) (q false M1):=rfl
theorem aiu:wOr a b ρ M q=a ρ M λc M1=>gC c (q true M1) (b ρ M1 q):=rfl
theorem aak:QV a ρ M q=a ρ M λc M1=>q (!c) M1:=rfl
theorem ZA:O9 a b ρ M q=a ρ M λx M1=>Qm x M1 λc M1=>gC c (b ρ M1 q) (q (wb false) M1):=rfl
theorem aai:Vk a b ρ M q=a ρ M λx M1=>Qm x M1 λc M1=>gC c (q (wb true) M1) (b ρ M1 q):=rfl
theorem Zk:O4 a ρ M q=a ρ M λx M1=>Qm x M1 λc M1=>q (wb (!c)) M1:=rfl
theorem Vy:HC r r' a b c ρ M q=a ρ M λx M1=>b ρ M1 λy M2=>r x y M2 λz M3=>Qm z M3 λk M3=>gC k (c ρ M3 λy' M4=>r' y y' M4 q) (q (wb false) M3):=rfl
theorem aal:Vm ρ M q=q [] M:=rfl
theorem Zt:Hy a r ρ M q=a ρ M λx M1=>r ρ M1 λxs M2=>q (x::xs) M2:=rfl
theorem aag:QT a ρ M q=a ρ M λxs M1=>ci (xs.length<=sizeLine) (q (.tup xs) M1):=rfl
theorem aan:QX a ρ M q=a ρ M λxs M1=>ci (xs.length<=sizeLine) (Jp M1 λp=>q (wr p) (um M1 p (.lst xs))):=rfl
def Q2:Q3 (.v (.ref x)) (.v (.int i)) M q=lstK (M x) λl=>iL (fE l i) λu=>q u M:=by apply propext;symm;(· rintro⟨_,l,_,u,h1,h2,h3,h4,k⟩;cases h1;cases h2;show#[l,h3,u,h4,k]);(· rintro⟨l,h3,u,h4,k⟩;show#[_,l,_,u,rfl,rfl,h3,h4,k])
def Q1:Fw (.tup l) (.v (.int i)) M q=iL (fE l i) λu=>q u M:=by apply propext;symm;(· rintro⟨_,_,u,h1,h2,h4,k⟩;cases h1;cases h2;show#[u,h4,k]);(· rintro⟨u,h4,k⟩;show#[_,_,u,rfl,rfl,h4,k])
theorem Uv:Dl ρ M q=q none M:=rfl
def AD (x:W)(k:Int ->Prop):Prop:= ∃i,x=wi i /\ k i
def JR:AD (.v (.int i)) k=k i:=by apply propext;symm;(· rintro⟨_,h,k⟩;cases h;show k);(· intro h;show#[_,rfl,h])
theorem Zj:Ht a ρ M q=a ρ M λx M1=>AD x λi=>q (some i) M1:=rfl
theorem ais:wSl r a lo hi ρ M q=a ρ M λx M1=>lo ρ M1 λl M2=>hi ρ M2 λu M3=>r x l u M3 q:=rfl
theorem aiG:wCB r a ρ M q=a ρ M λxs M1=>r xs M1 q:=rfl
theorem Zy:HD p a ρ M q=a ρ M λxs M1=>mF p xs M1 q:=rfl
def Q0:Md [.v (.ref x)] M q=lstK (M x) λl=>q (wi l.length) M:=by apply propext;symm;(· rintro(⟨_,l,h1,h2,k⟩ | ⟨_,h1,_⟩);(· cases h1;show#[l,h2,k]);cases h1);(· rintro⟨l,h3,k⟩;show .inl #[_,l,rfl,h3,k])
def aao:Md [.tup l] M q=q (wi l.length) M:=by apply propext;symm;(· rintro(⟨_,l,h1,h2,k⟩ | ⟨_,h1,k⟩);(· cases h1);cases h1;show k);(· intro k;show .inr #[l,rfl,k])
def aaF:VD [.v (.int i)] M q=q (wi (if i<0 then -i else i)) M:=by apply propext;symm;(· rintro⟨_,h,k⟩;cases h;show k);(· intro h;show#[_,rfl,h])
def Fv:oh [.v (.ref x)] M q=lstK (M x) λl=>Jp M λp=>q (wr p) (um M p (.lst l)):=by apply propext;symm;(· rintro⟨l,⟨_,h1,h2⟩ | h1,k⟩;(· cases h1;show#[l,h2,k]);cases h1);(· rintro⟨l,h3,k⟩;show#[l, .inl #[_,rfl,h3],k])
def Fu:oh [.tup l] M q=Jp M λp=>q (wr p) (um M p (.lst l)):=by apply propext;symm;(· rintro⟨l,⟨_,h1,h2⟩ | h1,k⟩;(· cases h1);cases h1;show k);(· intro k;show#[l, .inr rfl,k])
def BK:t_ [.v (.ref x)] M q=lstK (M x) λl=>q (.tup l) M:=by apply propext;symm;(· rintro⟨l,⟨_,h1,h2⟩ | h1,k⟩;(· cases h1;show#[l,h2,k]);cases h1);(· rintro⟨l,h3,k⟩;show#[l, .inl #[_,rfl,h3],k])
def aas:Vp K [x, .v (.ty T)] M q=iL (ZE M x) λt=>iL (W.kitOne K t (.type T)) λb=>q (wb b) M:=by apply propext;symm;(· rintro⟨_,_,t,b,h1,h2,h3,k⟩;cases h1;show#[t,h2,b,h3,k]);(· rintro⟨t,h2,b,h3,k⟩;show#[_,_,t,b,rfl,h2,h3,k])
theorem Qi:W.kitOne K (.type "int") (.type "int")=some true:=rfl
theorem NH:W.kitOne K (.type "int") (.type "bool")=some false:=rfl
theorem Qh:W.kitOne K (.type "int") (.type "str")=some false:=rfl
theorem LR:W.kitOne K (.type "int") (.type "tuple")=some false:=rfl
theorem NG:W.kitOne K (.type "int") (.type "list")=some false:=rfl
theorem NJ:W.kitOne K (.type "bool") (.type "int")=some true:=rfl
theorem LU:W.kitOne K (.type "bool") (.type "bool")=some true:=rfl
theorem NI:W.kitOne K (.type "bool") (.type "str")=some false:=rfl
theorem JF:W.kitOne K (.type "bool") (.type "tuple")=some false:=rfl
theorem LS:W.kitOne K (.type "bool") (.type "list")=some false:=rfl
theorem Qg:W.kitOne K (.type "str") (.type "int")=some false:=rfl
theorem ND:W.kitOne K (.type "str") (.type "bool")=some false:=rfl
theorem Qf:W.kitOne K (.type "str") (.type "str")=some true:=rfl
theorem LO:W.kitOne K (.type "str") (.type "tuple")=some false:=rfl
theorem NC:W.kitOne K (.type "str") (.type "list")=some false:=rfl
theorem Gp:W.kitOne K (.type "NoneType") (.type "int")=some false:=rfl
theorem EF:W.kitOne K (.type "NoneType") (.type "bool")=some false:=rfl
theorem Go:W.kitOne K (.type "NoneType") (.type "str")=some false:=rfl
theorem Cw:W.kitOne K (.type "NoneType") (.type "tuple")=some false:=rfl
theorem EE:W.kitOne K (.type "NoneType") (.type "list")=some false:=rfl
theorem LN:W.kitOne K (.type "tuple") (.type "int")=some false:=rfl
theorem JD:W.kitOne K (.type "tuple") (.type "bool")=some false:=rfl
theorem LM:W.kitOne K (.type "tuple") (.type "str")=some false:=rfl
theorem Hh:W.kitOne K (.type "tuple") (.type "tuple")=some true:=rfl
theorem JC:W.kitOne K (.type "tuple") (.type "list")=some false:=rfl
theorem NF:W.kitOne K (.type "list") (.type "int")=some false:=rfl
theorem LQ:W.kitOne K (.type "list") (.type "bool")=some false:=rfl
theorem NE:W.kitOne K (.type "list") (.type "str")=some false:=rfl
theorem JE:W.kitOne K (.type "list") (.type "tuple")=some false:=rfl
theorem LP:W.kitOne K (.type "list") (.type "list")=some true:=rfl
def VB:Zz r a b ρ M q=a ρ M λx M1=>dU x λp=>lstK (M1 p) λ_=>b ρ M1 λxs M2=>r x xs M2 q:=by unfold Zz IsL dU lstK;congr 1;funext x M1;apply propext;symm;(· rintro⟨⟨p,l,h1,h2⟩,k⟩;show#[p,h1,l,h2,k]);(· rintro⟨p,h1,l,h2,k⟩;show#[#[p,l,h1,h2],k])
def Rb:Mi r a ρ M q=a ρ M λx M1=>dU x λp=>lstK (M1 p) λ_=>r x [] M1 q:=by unfold Mi IsL dU lstK;congr 1;funext x M1;apply propext;symm;(· rintro⟨⟨p,l,h1,h2⟩,k⟩;show#[p,h1,l,h2,k]);(· rintro⟨p,h1,l,h2,k⟩;show#[#[p,l,h1,h2],k])
def Fz:xY (.v (.ref x)) [y] M q=lstK (M x) λl=>ci (l.length<sizeLine) (q wn (um M x (.lst (l++ [y])))):=by apply propext;symm;(· rintro⟨_,l,_,h1,h2,h3,h4,k⟩;cases h1;cases h2;show#[l,h3,h4,k]);(· rintro⟨l,h3,h4,k⟩;show#[_,l,_,rfl,rfl,h3,h4,k])
def Fx:xX (.v (.ref x)) [.v (.ref y)] M q=lstK (M x) λl=>lstK (M y) λl'=>ci (l.length+l'.length<=sizeLine) (q wn (um M x (.lst (l++l')))):=by apply propext;symm;(· rintro⟨_,_,l,l',h1,h2,h3,h4,h5,k⟩;cases h1;cases h2;show#[l,h3,l',h4,h5,k]);(· rintro⟨l,h3,l',h4,h5,k⟩;show#[_,_,l,l',rfl,rfl,h3,h4,h5,k])
def Q9:Q_ (.v (.ref x)) (.v (.ref y)) M q=lstK (M x) λl=>lstK (M y) λl'=>ci (l.length+l'.length<=sizeLine) (Jp M λp=>q (wr p) (um M p (.lst (l++l')))):=by apply propext;symm;(· rintro⟨_,_,l,l',h1,h2,h3,h4,h5,k⟩;cases h1;cases h2;show#[l,h3,l',h4,h5,k]);(· rintro⟨l,h3,l',h4,h5,k⟩;show#[_,_,l,l',rfl,rfl,h3,h4,h5,k])
theorem Va:Hq a ρ M q=a ρ M λx M1=>VL M1 x λk=>q k M1:=rfl
theorem Zq:Hw ρ M q=Jp M λp=>q (wr p) (um M p (.dK [])):=rfl
def Mh:Dn a b ρ M q=a ρ M λx M1=>b ρ M1 λy M2=>dU x λp=>iX y λk=>fC (M2 p) λkvs=>iL (eD kvs k) λz=>q z M2:=by unfold Dn dU iX fC iL;congr 1;funext x M1;congr 1;funext y M2;apply propext;symm;(· rintro⟨p,kvs,k,z,h1,h2,h3,h4,h⟩;show#[p,h1,k,h3,kvs,h2,z,h4,h]);(· rintro⟨p,h1,k,h3,kvs,h2,z,h4,h⟩;show#[p,kvs,k,z,h1,h2,h3,h4,h])
def Q8:Mg a b ρ M q=a ρ M λy M1=>b ρ M1 λx M2=>dU x λp=>iX y λk=>fC (M2 p) λkvs=>q (wb (eD kvs k).isSome) M2:=by unfold Mg dU iX fC;congr 1;funext x M1;congr 1;funext y M2;apply propext;symm;(· rintro⟨p,kvs,k,h1,h2,h3,h⟩;show#[p,h1,k,h3,kvs,h2,h]);(· rintro⟨p,h1,k,h3,kvs,h2,h⟩;show#[p,kvs,k,h1,h2,h3,h])
def Fy:tH a b ρ M q=a ρ M λy M1=>b ρ M1 λx M2=>dU x λp=>iX y λk=>fC (M2 p) λkvs=>q (wb (!(eD kvs k).isSome)) M2:=by unfold tH dU iX fC;congr 1;funext x M1;congr 1;funext y M2;apply propext;symm;(· rintro⟨p,kvs,k,h1,h2,h3,h⟩;show#[p,h1,k,h3,kvs,h2,h]);(· rintro⟨p,h1,k,h3,kvs,h2,h⟩;show#[p,kvs,k,h1,h2,h3,h])
def Vv:BN a b c ρ M q=a ρ M λx M1=>dU x λp=>fC (M1 p) λ_=>b ρ M1 λy M2=>c ρ M2 λz M3=>iX y λk=>fC (M3 p) λkvs=>q ((eD kvs k).getD z) M3:=by
 unfold BN dU iX fC;congr 1;funext x M1;apply propext;symm;rintro⟨p,h1,⟨kvs,h2⟩,h⟩;exact#[p,h1,kvs,h2,?_];have e:(λy M2=>c ρ M2 λz M3=>cc λkvs k=>cW (M3 p=some (.dK kvs)) (y=iW k) (q ((eD kvs k).getD z) M3))=(λy M2=>c ρ M2 λz M3=> ∃k,y=iW k /\ ∃kvs,M3 p=some (.dK kvs) /\ q ((eD kvs k).getD z) M3):=by funext y M2;congr 1;funext z M3;apply propext;symm;rintro⟨a,b,c,d,e⟩;show#[b,d,a,c,e];rintro⟨b,d,a,c,e⟩;show#[a,b,c,d,e]
 rw[<- e];show h;rintro⟨p,h1,kvs,h2,h⟩;exact#[p,h1,#[kvs,h2],?_];have e:(λy M2=>c ρ M2 λz M3=>cc λkvs k=>cW (M3 p=some (.dK kvs)) (y=iW k) (q ((eD kvs k).getD z) M3))=(λy M2=>c ρ M2 λz M3=> ∃k,y=iW k /\ ∃kvs,M3 p=some (.dK kvs) /\ q ((eD kvs k).getD z) M3):=by funext y M2;congr 1;funext z M3;apply propext;symm;rintro⟨a,b,c,d,e⟩;show#[b,d,a,c,e];rintro⟨b,d,a,c,e⟩;show#[a,b,c,d,e]
 rw[e];show h
theorem Ii:FN a b D ρ M=a {nx:=b D,rt:=D.rt,bk:=D.bk,ct:=D.ct} ρ M:=rfl
theorem ZK:DM D ρ M=D.nx ρ M:=rfl
theorem ZN:Ij a D ρ M=a ρ M λ_ M1=>D.nx ρ M1:=rfl
theorem aaQ:Wb a D ρ M=a ρ M D.rt:=rfl
theorem aiJ:RC c a b D ρ M=c ρ M λk M1=>gC k (a D ρ M1) (b D ρ M1):=rfl
theorem aaV:RE a g D ρ M=a ρ M λx M1=>g x ρ M1 D.nx:=rfl
theorem aaT:Wf i a r D ρ M=ft i ρ M λx M=>a ρ M λy M1=>r x y M1 λz M2=>D.nx (ρ.set i (some z)) M2:=rfl
def Ik:yj a b c D ρ M=c ρ M λz M1=>a ρ M1 λx M2=>b ρ M2 λy M3=>dU x λp=>iX y λk=>fC (M3 p) λkvs=>ci (kvs.length<sizeLine) (D.nx ρ (um M3 p (.dK (ur kvs k z)))):=by unfold yj dU iX fC ci;congr 1;funext z M1;congr 1;funext x M2;congr 1;funext y M3;apply propext;symm;(· rintro⟨p,kvs,k,h1,h2,h3,h4,h⟩;show#[p,h1,k,h3,kvs,h2,h4,h]);(· rintro⟨p,h1,k,h3,kvs,h2,h4,h⟩;show#[p,kvs,k,h1,h2,h3,h4,h])
theorem aaS:RD it g b D ρ M=it ρ M λxs keep M1=>Oe xs keep g b D ρ M1:=rfl
theorem ZC:Pb i x ρ M q=q (ρ.set i (some x)) M:=rfl
def aaI:Rh [] ρ M q=q ρ M:=by simp[Rh]
def ZD:Pc a b (x::r) ρ M q=a x ρ M λρ' M'=>b r ρ' M' q:=by apply propext;symm;(· rintro⟨_,_,h,k⟩;cases h;show k);(· intro h;show#[_,_,rfl,h])
def aaG:VE n a (.tup l) ρ M q=ci (l.length=n) (a l ρ M q):=by apply propext;symm;(· rintro⟨_,h,k,l⟩;cases h;show#[k,l]);(· rintro⟨h,l⟩;show#[_,rfl,h,l])
theorem aaH:VF a b s x ρ M q=a ρ M λo M1=>b ρ M1 λi M2=>s o i x M2 λM3=>q ρ M3:=rfl
def Zh:O3 (.v (.ref x)) (.v (.int i)) z M q=lstK (M x) λl=>iL (Az l.length i) λj=>q (um M x (.lst (l.set j z))):=by apply propext;symm;(· rintro⟨_,l,_,j,h1,h2,h3,h4,k⟩;cases h1;cases h2;show#[l,h3,j,h4,k]);(· rintro⟨l,h3,j,h4,k⟩;show#[_,l,_,j,rfl,rfl,h3,h4,k])
def NM:EH a ρ M q=a ρ M λx M1=>dU x λp=>lstK (M1 p) λl=>q l (λM'=>M' p=some (.lst l)) M1:=by unfold EH dU lstK;congr 1;funext x M1;apply propext;symm;(· rintro⟨p,l,h1,h2,h⟩;show#[p,h1,l,h2,h]);(· rintro⟨p,h1,l,h2,h⟩;show#[p,l,h1,h2,h])
theorem aby:S6 a ρ M q=a ρ M λx M1=>tupK x λl=>q l (λ_=>True) M1:=rfl
def Nf (xs:cA W)(k:W ->Prop):Prop:= ∃x,xs= [x] /\ k x
def Sl:Nf [x] k=k x:=by apply propext;symm;(· rintro⟨_,h,k⟩;cases h;show k);(· intro h;show#[_,rfl,h])
def NL:EG a ρ M q=a ρ M λxs M1=>Nf xs λx=>AD x λj=>ci (-(2 ^ 62) <=j /\ j<2 ^ 62) (q (gk 0 j.toNat) (λ_=>True) M1):=by unfold EG Nf AD ci;congr 1;funext x M1;apply propext;symm;(· rintro⟨j,h1,h2,h3,h⟩;show#[_,h1,j,rfl,#[h2,h3],h]);(· rintro⟨_,h1,j,rfl,⟨h2,h3⟩,h⟩;show#[j,h1,h2,h3,h])
theorem Zv:HA it own fr g c el ρ M q=it ρ M λxs keep M1=>vy xs keep own fr g c el ρ M1 q:=rfl
theorem _U:U_ ρ M q=q true M:=rfl
def sl1:(1<=sizeLine)=True:=by rw[sizeLine_eq];decide
def Pp:(2<=sizeLine)=True:=by rw[sizeLine_eq];decide
def sl3:(3<=sizeLine)=True:=by rw[sizeLine_eq];decide
def sl4:(4<=sizeLine)=True:=by rw[sizeLine_eq];decide
def sl5:(5<=sizeLine)=True:=by rw[sizeLine_eq];decide
def sl0:(0<=sizeLine)=True:=by simp
def dC [Decidable c](h1:c ->A)(h2:¬c ->B):gC (decide c) A B:=by unfold gC;by_cases h:c;rw[am (bh h)];show h1 h;rw[ak ⇑h];show h2 h
def Ta [Decidable c](h1:¬c ->A)(h2:c ->B):gC (!decide c) A B:=by unfold gC;by_cases h:c;rw[ak ⇑h];show h2 h;rw[am ⇑h];show h1 h
theorem iP {M1:Mp}(f:W ->eM W)(hz:xs.length<=sizeLine)(pq: ∀M,Sm M1 M ->keep M)(hs: ∀ (i:Nat) x,xs[i]? =some x -> ∀ (M:Mp) (N:eM W ->Mp ->Prop),Sm M1 M ->N (f x) M ->g x (pT own fr ρ) M λρ2 M2=>c ρ2 M2 λb M3=>gC b (el ρ2 M3 λy M4=>N (some y) M4) (N none M3))(hq: ∀p,M1 p=none ->q (wr p) (um M1 p (.lst (xs.filterMap f)))):vy xs keep own fr g c el ρ M1 q:=GQ f hz pq hs hq
end WL
namespace WL
def hold (f:bS ->Mp ->Prop)(ρ:bS)(M:Mp):Prop:=f ρ M
theorem f9 (h:f ρ M):hold f ρ M:=h
theorem cS:FN a b D ρ M=a {nx:=hold (b D),rt:=D.rt,bk:=D.bk,ct:=D.ct} ρ M:=rfl
theorem lU (Mid:bS ->Mp ->Prop)(cE: ∀ρ M,Mid ρ M ->R D ρ M)(h: ∀N:bS ->Mp ->Prop,(∀ρ M,Mid ρ M ->N ρ M) ->RC c a b {nx:=N,rt:=D.rt,bk:=D.bk,ct:=D.ct} ρ M):FN (RC c a b) R D ρ M:=h _ cE
theorem lY (I:Nat ->bS ->Mp ->Prop)(h0:I 0 ρ M1)(hk: ∀i ρ M,i<=xs.length ->I i ρ M ->keep M)(hs: ∀i x ρ M,xs[i]? =some x ->I i ρ M -> ∀N:bS ->Mp ->Prop,(∀ρ' M',I (i+1) ρ' M' ->N ρ' M') ->g x ρ M λρ2 M2=>b {nx:=N,rt:=D.rt,bk:=D.nx,ct:=N} ρ2 M2)(hd: ∀ρ M,I xs.length ρ M ->D.nx ρ M):Oe xs keep g b D ρ M1:=#[I,h0,hk,λi x ρ M hx hI=>hs i x ρ M hx hI _ λ_ _ h=>h,hd]
end WL
namespace WP
open PySem L2 WL
abbrev Pt:=cA (Int×Int)
def look:Pt ->Int ->Int
 | [],_=>0
 | q::r,x=>if q.1=x then q.2 else look r x
def dI (p:Int)(l:Pt):Prop:=(∀q∈l,0<q.2 /\ q.2<p) /\ l.Pairwise (λa b=>a.1<b.1)
def fw:Pt ->Int ->Int
 | [],_=>0
 | q::r,x=>(if q.1=x then q.2 else 0)+fw r x
def gh (a b:Pt)(x:Int):fw (a++b) x=fw a x+fw b x:=by
 induction a with
 | nil=>simp[fw]
 | cons q r ih=>rw[List.cons_append,fw,fw,ih];lia
def ug (a:Pt)(q:Int×Int)(x:Int):fw (a++ [q]) x=fw a x+if q.1=x then q.2 else 0:=by rw[gh];simp[fw]
def gB (h: ∀q∈l,q.1≠x):look l x=0:=by
 induction l with
 | nil=>rfl
 | cons q r ih=>rw[look,ak (h q (by simp)),ih λz hz=>h z (by simp[hz])]
def oj (h:l.Pairwise (λa b=>a.1<b.1))(x:Int):fw l x=look l x:=by
 induction l with
 | nil=>rfl
 | cons q r ih=>rw[bU] at h;rw[fw,look,ih h.2];by_cases e:q.1=x;rw[am e,am e,gB];lia;intro z hz;have:=h.1 z hz;lia;rw[ak e,ak e];lia
def Ct (hp:0<p)(h:dI p l)(x:Int):0<=look l x /\ look l x<p:=by
 induction l with
 | nil=>rw[look];lia
 | cons q r ih=>rw[look];split;have:=h.1 q (by simp);lia;show ih #[λz hz=>h.1 z (by simp[hz]),(bU.mp h.2).2]
theorem dI.tail {r:Pt}(h:dI p (q::r)):dI p r:=#[λz hz=>h.1 z (by simp[hz]),(bU.mp h.2).2]
theorem dI.nil:dI p []:=#[λ_ h=>absurd h (by simp),List.Pairwise.nil]
theorem tM {p p':Int}: ∀ {a b:Pt},dI p a ->dI p' b ->(∀x,look a x=look b x) ->a=b
 | [],[],_,_,_=>rfl
 | [],q::r,_,hb,h=>by have:=h q.1;rw[look,look,am rfl] at this;have:=hb.1 q (by simp);lia
 | q::r,[],ha,_,h=>by have:=h q.1;rw[look,look,am rfl] at this;have:=ha.1 q (by simp);lia
 | q ::r,q'::r',ha,hb,h=>by
  have pa:=ha.1 q (by simp);have pb:=hb.1 q' (by simp);have sa:=(bU.mp ha.2).1;have sb:=(bU.mp hb.2).1;have e1:q.1=q'.1:=by obtain l | l | l:=Int.lt_trichotomy q.1 q'.1;have e:=h q.1;rw[look,am rfl,look,ak ∅,gB (λz hz=>by have:=sb z hz;lia)] at e;lia;show l;have e:=h q'.1;rw[look,ak ∅,gB (λz hz=>by have:=sa z hz;lia),look,am rfl] at e;lia
  have e2:q.2=q'.2:=by have e:=h q.1;rw[look,am rfl,look,am e1.symm] at e;show e
  have e:r=r':=tM ha.tail hb.tail λx=>by by_cases hx:q.1=x;rw[gB (λz hz=>by have:=sa z hz;lia),gB (λz hz=>by have:=sb z hz;lia)];have e:=h x;rwa [look,ak hx,look,ak ∅] at e
  rw[e,Prod.ext e1 e2]
def iS (p:Int):Pt ->Int ->Int ->Pt
 | [],x,s=>if s % p=0 then [] else [(x,s % p)]
 | q::r,x,s=>if x<q.1 then(if s % p=0 then q::r else(x,s % p)::q::r) else if x=q.1 then(if(q.2+s) % p=0 then r else(x,(q.2+s) % p)::r) else q::iS p r x s
def qu (p:Int)(ps:Pt):Pt:=ps.foldl (λa q=>iS p a q.1 q.2) []
def G0 (h:z∈iS p l x s):z.1=x \/ z∈l:=by
 induction l with
 | nil=>rw[iS] at h;split at h;cases h;left;rw[aV.mp h]
 | cons q r ih=>rw[iS] at h;split at h;split at h;show .inr h;obtain h | h:=aS.mp h;left;rw[h];show .inr h;split at h;split at h;show .inr (by simp[h]);obtain h | h:=aS.mp h;left;rw[h];show .inr (by simp[h]);obtain h | h:=aS.mp h;show .inr (by simp[h]);obtain h | h:=ih h;show .inl h;show .inr (by simp[h])
def Co {p s:Int}(hp:0<p)(h:¬s % p=0):0<s % p /\ s % p<p:=by have:=Int.emod_nonneg s (show p≠0 by lia);have:=Int.emod_lt_of_pos s hp;lia
def GZ (hp:0<p)(h:dI p l):dI p (iS p l x s):=by
 induction l with
 | nil=>rw[iS];split;show dI.nil;rename_i hs;show#[λq hq=>by rw[aV.mp hq];show Co hp hs,by simp]
 | cons q r ih=>have sa:=(bU.mp h.2).1;rw[iS];split;rename_i hx;split;show h;rename_i hs;exact#[λz hz=> ?_,bU.mpr #[λz hz=> ?_,h.2]];obtain rfl | hz:=aS.mp hz;show Co hp hs;show h.1 z hz;obtain rfl | hz:=aS.mp hz;show hx;have:=sa z hz;change x<z.1;lia;split;rename_i hx;split;show h.tail;rename_i hs;exact#[λz hz=> ?_,bU.mpr #[λz hz=> ?_,h.tail.2]];obtain rfl | hz:=aS.mp hz;show Co hp hs;show h.1 z (by simp[hz]);have:=sa z hz;change x<z.1;lia;rename_i h1 h2;have ih':=ih h.tail;exact#[λz hz=> ?_,bU.mpr #[λz hz=> ?_,ih'.2]];obtain rfl | hz:=aS.mp hz;show h.1 z (by simp);show ih'.1 z hz;obtain e | hz:=G0 hz;lia;show sa z hz
def Cu (hp:0<p)(h:dI p l)(y:Int):look (iS p l x s) y=if y=x then(look l x+s) % p else look l y:=by
 induction l with
 | nil=>rw[iS];by_cases hs:s % p=0;rw[am hs];simp[look,hs];rw[ak hs];by_cases e:y=x;subst e;simp[look];rw[ak e];simp[look,cX e]
 | cons q r ih=>
  have sa:=(bU.mp h.2).1;have qr:=h.1 q (by simp);rw[iS];split;rename_i hx;have hn:look (q::r) x=0:=gB (λz hz=>by obtain rfl | hz:=aS.mp hz;lia;have:=sa z hz;lia);rw[hn,Int.zero_add];split;rename_i hs;by_cases e:y=x;rw[am e,e,hn,hs];rw[ak e];by_cases e:y=x;rw[am e,look,am e.symm];rw[ak e,look,ak (cX e)];split;rename_i hx;have hq:look (q::r) x=q.2:=by rw[look,am hx.symm]
  rw[hq];split;rename_i hs;by_cases e:y=x;rw[am e,hs,gB (λz hz=>by have:=sa z hz;lia)];rw[ak e,look,ak ∅];by_cases e:y=x;rw[am e,look,am e.symm];rw[ak e,look,ak (cX e),look,ak ∅];rename_i h1 h2;rw[look,ih h.tail];by_cases e:y=x;rw[am e,am e,ak ∅];conv=>rhs;rw[look,ak ∅]
  rw[ak e,ak e,look]
def uJ (p:Int)(ps:Pt)(q:Int×Int):qu p (ps++ [q])=iS p (qu p ps) q.1 q.2:=by unfold qu;rw[List.foldl_append];rfl
def io {α:Type}{P:cA α ->Prop}(h0:P [])(h1: ∀l a,P l ->P (l++ [a]))(l:cA α):P l:=by
 have key: ∀n:Nat, ∀l:cA α,l.length=n ->P l:=by
  intro n;induction n with
  | zero=>intro l hl;rw[List.length_eq_zero_iff.mp hl];show h0
  | succ n ih=>
   intro l hl;have ku:l≠ []:=by intro e;rw[e] at hl;cases hl
   rw[<- List.dropLast_concat_getLast ku];show h1 _ _ (ih _ (by rw[List.length_dropLast];lia))
 show key _ l rfl
def f8 (hp:0<p)(ps:Pt):dI p (qu p ps):=by
 induction ps using io with
 | h0=>show dI.nil
 | h1 l a ih=>rw[uJ];show GZ hp ih
def uO (hp:0<p)(ps:Pt)(x:Int):look (qu p ps) x=fw ps x % p:=by
 induction ps using io with
 | h0=>simp[qu,look,fw]
 | h1 l a ih=>rw[uJ,Cu hp (f8 hp l),ug];by_cases e:x=a.1;subst e;rw[am rfl,am rfl,ih,Int.emod_add_emod];rw[ak e,ak (cX e),ih,Int.add_zero]
def G1:(iS p l x s).length<=l.length+1:=by
 induction l with
 | nil=>rw[iS];split<;>simp
 | cons q r ih=>rw[iS];split;split<;>simp;split;split<;>simp<;>lia;simp;show ih
def i8 (p:Int)(ps:Pt):(qu p ps).length<=ps.length:=by
 induction ps using io with
 | h0=>simp[qu]
 | h1 l a ih=>rw[uJ,aD];show aw G1 (by simp;show ih)
def vS (m:Pt):cA (bX×W):=m.map λq=>((Sum.inl q.1:bX),wi q.2)
def v6 (m:Pt)(x v:Int):Pt:=if(m.any λq=>decide (q.1=x))=true then m.map (λq=>if q.1=x then(q.1,v) else q) else m++ [(x,v)]
def tY {m:Pt}:(m.any λq=>decide (q.1=x))=true↔x∈m.map (·.1):=by rw[List.any_eq_true,List.mem_map];symm;rintro⟨q,hq,e⟩;show#[q,hq, ⇑e];rintro⟨q,hq,e⟩;show#[q,hq, ⇑e]
def EM (a b:Int):decide ((Sum.inl a:bX)=Sum.inl b)=decide (a=b):=by simp
def DZ (m:Pt)(x v:Int):ur (vS m) (.inl x) (wi v)=vS (v6 m x v):=by
 unfold ur v6;have e:((vS m).any λkv=>decide (kv.1=(Sum.inl x:bX)))=m.any λq=>decide (q.1=x):=by unfold vS;rw[List.any_map];congr 1;funext q;show EM _ _
 rw[e];split;unfold vS;rw[bi,bi];apply List.map_congr_left;intro q _;change(if(Sum.inl q.1:bX)=Sum.inl x then((Sum.inl q.1:bX),wi v) else(Sum.inl q.1,wi q.2))=((Sum.inl (if q.1=x then(q.1,v) else q).1:bX),wi (if q.1=x then(q.1,v) else q).2)
 by_cases hq:q.1=x;rw[am (by rw[hq]),am hq];rw[ak (λz=>hq (Sum.inl.inj z)),ak hq];unfold vS;rw[aB];rfl
def Dp (m:Pt)(x:Int):eD (vS m) (.inl x)=(m.find? λq=>decide (q.1=x)).map λq=>wi q.2:=by
 unfold eD vS;rw[List.find?_map,Option.map_map];have e:((λkv:bX×W=>decide (kv.1=(Sum.inl x:bX))) ∘ λq:Int×Int=>((Sum.inl q.1:bX),wi q.2))=λq=>decide (q.1=x):=by funext q;show EM _ _
 rw[e];rfl
def xt:(m.find? λq=>decide (q.1=x))=none /\ look m x=0 /\ x∉m.map (·.1) \/ ∃q,(m.find? λq=>decide (q.1=x))=some q /\ look m x=q.2:=by
 induction m with
 | nil=>show .inl #[rfl,rfl,by simp]
 | cons q r ih=>
  rw[cL,look];by_cases e:q.1=x;simp![e,b8];show .inr #[q,rfl,by simp];simp![e,decide_false,bC];rcases ih with⟨h1,h2,h3⟩ | h
  show .inl #[h1,h2,by rw[aT,aS,not_or];show#[cX e,h3]];show .inr h
def EU (m:Pt)(x:Int):(eD (vS m) (.inl x)).getD (wi 0)=wi (look m x):=by rw[Dp];rcases xt (m:=m) (x:=x) with⟨h1,h2,_⟩ | ⟨q,h1,h2⟩ <;>rw[h1,h2] <;>rfl
def HE (h:x∈m.map (·.1)):eD (vS m) (.inl x)=some (wi (look m x)):=by
 rw[Dp];rcases xt (m:=m) (x:=x) with⟨_,_,h3⟩ | ⟨q,h1,h2⟩
 show absurd h h3;rw[h1,h2];rfl
def Av (m:Pt):(vS m).map (·.1)=(m.map (·.1)).map Sum.inl:=by unfold vS;rw[bi,bi];rfl
def xg:(v6 m x v).map (·.1)=if x∈m.map (·.1) then m.map (·.1) else m.map (·.1)++ [x]:=by unfold v6;by_cases h:x∈m.map (·.1);rw[am (tY.mpr h),am h,bi];apply List.map_congr_left;intro q _;change(if q.1=x then(q.1,v) else q).1=q.1;split<;>rfl;rw[ak (λe=>h (tY.mp e)),ak h,aB];rfl
def Eo (h:(m.map (·.1)).Nodup):((v6 m x v).map (·.1)).Nodup:=by rw[xg];by_cases e:x∈m.map (·.1);rw[am e];show h;rw[ak e];show En h e
def At:(v6 m x v).length<=m.length+1:=by unfold v6;split;rw[ag];lia;simp
def xc:look (v6 m x v) y=if y=x then v else look m y:=by
 unfold v6;by_cases h:x∈m.map (·.1);rw [am (tY.mpr h)];have key: ∀m:Pt,look (m.map (λq=>if q.1=x then(q.1,v) else q)) y=if y=x /\ x∈m.map (·.1) then v else look m y:=by
  intro m;induction m with
  | nil=>simp[look]
  | cons q r ih=>
   rw[aT,look,look,ih];by_cases hq:q.1=x;by_cases hy:y=x;subst hy;simp[hq];simp[hq,hy,cX hy];by_cases hy:y=x;subst hy;have:(y∈(q::r).map (·.1))=(y∈r.map (·.1)):=by rw[aT,aS];simp[cX hq]
   simp![this,hq,bC];simp[hq,hy]
 rw[key];simp[h];rw [ak (λe=>h (tY.mp e))];have key: ∀m:Pt,x∉m.map (·.1) ->look (m++ [(x,v)]) y=if y=x then v else look m y:=by
  intro m;induction m with
  | nil=>intro _;by_cases e:y=x;simp[look,e];simp[look,e,cX e]
  | cons q r ih=>intro hn;rw[aT,aS,not_or] at hn;rw[List.cons_append,look,look,ih hn.2];by_cases e:y=x;subst e;simp[cX hn.1];simp[e]
 show key m h
def UF (m:Pt)(ns:cA Int):Pt:=ns.filterMap λx=>if look m x=0 then none else some (x,look m x)
theorem As {m:Pt}{x:Int}: ∀ {ns:cA Int},ns.Nodup ->look (UF m ns) x=if x∈ns then look m x else 0
 | [],_=>rfl
 | n ::r,h=>by rw[List.nodup_cons] at h;have ih:=As (m:=m) (x:=x) h.2;unfold UF at ih ⊢;rw[List.filterMap_cons];by_cases e:look m n=0;rw[am e];change look (r.filterMap _) x=_;rw[ih];by_cases hx:x=n;subst hx;rw[ak h.1,am (by simp),e];simp[hx];rw[ak e];change look ((n,look m n)::r.filterMap _) x=_;rw[look,ih];by_cases hx:x=n;subst hx;rw[am rfl,am (by simp)];rw[ak (cX hx)];simp[hx]
def FI {ns:cA Int}(h1:ns.Pairwise (· <= ·))(h2:ns.Nodup):ns.Pairwise (· < ·):=by exact(List.Pairwise.and h1 h2).imp ?_;rintro a b ⟨h,n⟩;lia
def DD (hp:0<p)(hn:(m.map (·.1)).Nodup)(ht: ∀x,look m x=fw ps x % p)(gE:ns.Perm (m.map (·.1)))(hs:ns.Pairwise (· <= ·)):UF m ns=qu p ps:=by have nd:=gE.nodup_iff.mpr hn;have st:=FI hs nd;exact tM (p:=p) #[?_,?_] (f8 hp ps) λx=> ?_;intro q hq;let⟨x,hx,e⟩:=List.mem_filterMap.mp hq;split at e;cases e;rename_i h0;cases e;have:=ht x;have:=Int.emod_nonneg (fw ps x) (show p≠0 by lia);have:=Int.emod_lt_of_pos (fw ps x) hp;change 0<look m x /\ look m x<p;lia;unfold UF;exact List.Pairwise.filterMap _ ?_ st;intro a b xm c hc d hd;split at hc<;>cases hc;split at hd<;>cases hd;show xm;rw[As nd,uO hp];split;show ht x;rename_i hx;rw[<- ht x,gB];intro q hq e;show hx (gE.mem_iff.mpr (by rw[<- e];show List.mem_map_of_mem hq))
def Hk (_:Pt):Prop:=True
theorem CJ:Hk ps:=trivial
def Ao (h:k∈(v6 m x v).map (·.1)):k=x \/ k∈m.map (·.1):=by rw[xg] at h;split at h;show .inr h;obtain h | h:=a8.mp h;show .inr h;show .inl (aV.mp h)
end WP
namespace WQ
open PySem L2 WL WP
def Wx:eZ:=λxs M q=>eh λ(d l:fM) (n:Int)=>f_ (xs= [wr d,wi n]) (Dr M d l) (0<n) (n<1073741824) (∀ (r:Int) (M':Mp),0<=r ->r<n ->Dr M' d l ->NB d M M' ->q (wi r) M')
def Wu:eZ:=λxs M q=>cc λ(d l:fM)=>cW (xs= [wr d]) (Dr M d l) (∀ (r:Int) (M':Mp), -(10 ^ 23) <r ->r<10 ^ 23 ->Dr M' d l ->NB d M M' ->q (wi r) M')
def pP:eZ:=λxs M q=>cc λ(d l:fM)=>cW (xs= [wr d]) (Dr M d l) (∀ (p:Int) (M':Mp),(p=2 \/ p=3 \/ p=5 \/ p=7) ->Dr M' d l ->NB d M M' ->q (wi p) M')
def PL:eZ:=λxs M q=>eh λ(a:fM) (p:Int) (ps:Pt)=>k9 (xs= [wi p,wr a]) (M a=some (.lst (ps.map bY))) (0<p) (Hk ps) (ps.length<=16000000) (q (gx (qu p ps)) M)
def mv (by_:Int)(l:Pt):Pt:=l.map λz=>(z.1+by_,z.2)
def R_:eZ:=λxs M q=>cc λ(ux:Pt) (b:Int)=>cW (xs= [gx ux,wi b]) (ux.length<=16000000) (q (gx (mv b ux)) M)
def aa0:eZ:=λxs M q=> ∃i:Int,xs= [wi i] /\ q (wb true) M
def Sa:eZ:=λxs M q=>cc λ(p:Int) (ux:Pt)=>fg (xs= [wi p,gx ux]) (dI p ux) (ux.length<=16000000) (q (wb true) M)
def Si:eZ:=λxs M q=>eh λ(p:Int) (a b:Pt)=>k9 (xs= [wi p,gx a,gx b]) (0<p) (Hk (a++b)) (a.length<=8000000) (b.length<=8000000) (q (gx (qu p (a++b))) M)
def tm (n:Int)(l:Pt):Pt:=l.map λz=>(z.1,z.2*n)
def R1:eZ:=λxs M q=>eh λ(p:Int) (a:Pt) (n:Int)=>k9 (xs= [wi p,gx a,wi n]) (0<p) (Hk (tm n a)) (a.length<=40000) (∀z∈a,0<=z.2 /\ z.2<1000) (q (gx (qu p (tm n a))) M)
def Ep (b n:Int)(l:Pt):Pt:=l.map λz=>(z.1+b,z.2*n)
def aaY:eZ:=λxs M q=>tq λ(p:Int) (a b:Pt) (y n:Int)=>Lf (xs= [wi p,gx a,gx b,wi y,wi n]) (0<p) (Hk (a++Ep y n b)) (a.length<=8000000) (b.length<=8000000) (∀z∈b,0<=z.2 /\ z.2<1000) (q (gx (qu p (a++Ep y n b))) M)
theorem big (h:n<=16000000):n<=sizeLine:=aw h (by rw[sizeLine_eq];decide)
theorem k8 (h:n<=16000000):n<sizeLine:=Nat.lt_of_le_of_lt h (by rw[sizeLine_eq];decide)
theorem qw:(mv b l).length=l.length:=ag _
def Nw:mv 0 l=l:=by
 unfold mv;have:(λz:Int×Int=>(z.1+0,z.2))=id:=by funext z;rw[Int.add_zero];rfl
 rw[this,List.map_id]
def Z5:look (mv b l) x=look l (x - b):=by
 induction l with
 | nil=>rfl
 | cons q r ih=>change look ((q.1+b,q.2)::mv b r) x=_;rw[look,look,ih];by_cases e:q.1+b=x;rw[am e,am ∅];rw[ak e,ak ∅]
def BQ:fw (tm n l) x=fw l x*n:=by
 induction l with
 | nil=>simp[tm,fw]
 | cons q r ih=>change fw ((q.1,q.2*n)::tm n r) x=_;rw[fw,fw,ih,Int.add_mul];split<;>simp
def Cm:Ep b n l=tm n (mv b l):=by unfold Ep tm mv;rw[bi];rfl
def Rt:tm 1 l=l:=by
 unfold tm;have:(λz:Int×Int=>(z.1,z.2*1))=id:=by funext z;rw[Int.mul_one];rfl
 rw[this,List.map_id]
theorem Jk (hp:0<p)(h:dI p a):qu p a=a:=tM (f8 hp a) h λx=>by rw[uO hp,oj h.2];have:=Ct hp h x;show Int.emod_eq_of_lt this.1 this.2
def mM (hp:0<p)(a:Pt)(x:Int):fw (qu p a) x=fw a x % p:=by rw[oj (f8 hp a).2,uO hp]
def BR:fw (mv b l) x=fw l (x - b):=by
 induction l with
 | nil=>rfl
 | cons q r ih=>change fw ((q.1+b,q.2)::mv b r) x=_;rw[fw,fw,ih];by_cases e:q.1+b=x;rw[am e,am ∅];rw[ak e,ak ∅]
theorem Ki (h:Hk a):Hk (tm n a):=trivial
def KN (q:Int×Int):GO (bY q)=some (.tup [.int q.1, .int q.2]):=by simp[bY,GO,mY]
theorem vw: ∀l:Pt,mY (l.map bY)=some (l.map λq=> .tup [.int q.1, .int q.2])
 | []=>rfl
 | q::r=>by rw[aT,mY,KN,vw r];rfl
def IQ (l:Pt):Dt:= .tup (l.map λq=> .tup [.int q.1, .int q.2])
def Om (l:Pt):GO (gx l)=some (IQ l):=by rw[gx,GO,vw];rfl
theorem vn: ∀l:Pt,kZ (l.map λq=> .tup [.int q.1, .int q.2]) <=1
 | []=>by simp[kZ]
 | q::r=>by rw[aT,kZ];have:=vn r;simp![qV,kZ];lia
def DC (K:Xu):Sp:=λvs H Q _=>cc λ(a:fM) (ns:cA Int)=>cW (vs= [.ref a]) (gY K H a (ns.map V.int)) (∀ (d l:fM) (ms:cA Int) (H':Hp),d≠l ->H' d=some (.lst [.ref l, .int 0, .int 0, .int 11]) ->H' l=some (.lst (ms.map V.int)) ->Q (.ref d) H')
def zO (K:Xu):Sp:=λvs H Q _=>cc λ(a:fM) (ns:cA Int)=>cW (vs= [.ref a]) (gY K H a (ns.map V.int)) (∀H',Q (.bl true) H')
def W0 (F:Bp K x qual st f fd)(S:b_ N [z] (aU st))(hN:2<=N.length)(jH: ∀ (cdv:c5) (A:Around) (outer:cA Env) (s:dq) (H:Hp) (E:XK),d7 k (A.deeper (PyProof.Rows.envOfC qual (aU st) s.heap.objs.size f cdv)) ->∃ R,xO (d9 fh P w K mg base N qual (aU st) f cdv A outer s H E).Gf (dA st) (Ru (HW (wQ (DC K) [] E0 (HU (Mr 0) FG)) (lW 1)) R) /\∃w',IS K R w' /\ ∀d l M,Dr M d l ->w' {nx:=λ_ _=>False,rt:=λx _=>x=wb true} (none::some (wr d)::List.replicate (N.length - 2) none) M): bD P w K mg base fh (k+1) f fd [z] (zO K):=by
 exact Bp.ok F S (λvs H Q E ⟨a,ns,h,_,_⟩=>by rw[h];rfl) λcdv A outer s H vs Q E hr h=> ?_;let⟨R,h1,w',h2,h3⟩:=jH cdv A outer s H E hr;let⟨a,ns,rfl,hs,hq⟩:=h;exact#[_,h1,?_];let⟨n,hn⟩: ∃n,N.length=n+2:=#[N.length - 2, ∅]
 have e0:L2.start N [V.ref a]=some (V.ref a)::none::List.replicate n none:=by unfold L2.start;rw[hn];rfl
 rw[e0];exact#[_,rfl,a,ns,rfl,hs,λd l ms H' ku hd hl=> ?_];change R _ _ H';exact h2.imp (none::some (wr d)::List.replicate (N.length - 2) none) (um (um (λ_=>none) l (.lst (ms.map wi))) d (.lst [wr l,wi 0,wi 0,wi 11])) _ H' _ _ #[#[?_,λi y e=> ?_],λb o e=> ?_] (h3 d l _ #[ms,0,0,11,ao,by rw[aP (cX ku),ao],⋯,ku]) #[λ_ _ _ _ h=>h.elim,λy M' v H2 e _ _ r=> ?_,λ_ _ _ _ h=>h.elim,λ_ _ _ _ h=>h.elim];simp[hn];match i with
 | 0=>simp at e
 | 1=>simp at e;subst e;show#[.ref d,rfl,WR.v]
 | i+2=>simp[dg] at e
 by_cases hb:b=d;subst hb;rw[ao] at e;cases e;show#[_,hd,cK.cons WR.v (cK.cons WR.v (cK.cons WR.v (cK.cons WR.v cK.nil)))];rw[aP hb] at e;by_cases hb':b=l;subst hb';rw[ao] at e;cases e;show#[_,hl,cK.ofInts ms];rw[aP hb'] at e;cases e;subst e;rw[r.eq];show hq H2
abbrev Rd:=Int×Pt
def gM (r:Rd):W:= .tup [wi r.1,gx r.2]
def jn (p:Int)(a b:Rd):Rd:=(a.1+b.1,qu p (a.2++mv a.1 b.2))
def bk (p:Int)(a:Rd):Rd:=(-a.1,qu p (tm (-1) (mv (-a.1) a.2)))
def MW:eZ:=λxs M q=>eh λ(p:Int) (a b:Rd)=>k9 (xs= [wi p,gM a,gM b]) (0<p) (Hk (a.2++mv a.1 b.2)) (a.2.length<=40000) (b.2.length<=40000) (q (gM (jn p a b)) M)
def WC:eZ:=λxs M q=>eh λ(p:Int) (a b:Rd)=>Lf (xs= [wi p,gM a,gM b]) (0<p) (Hk (a.2++mv a.1 b.2)) (a.2.length<=40000) (b.2.length<=40000) (∀z∈b.2,0<=z.2 /\ z.2<1000) (q (gM (jn p a b)) M)
def PV:eZ:=λxs M q=>cc λ(p:Int) (a:Rd)=>k9 (xs= [wi p,gM a]) (0<p) (Hk (mv (-a.1) a.2)) (a.2.length<=40000) (∀z∈a.2,0<=z.2 /\ z.2<1000) (q (gM (bk p a)) M)
def Ja:eZ:=λxs M q=>cc λ(p:Int) (a:Rd)=>fg (xs= [wi p,gM a]) (dI p a.2) (a.2.length<=100000) (q (wb true) M)
def KL (r:Rd):GO (gM r)=some (.tup [.int r.1,IQ r.2]):=by rw[gM,GO,mY,mY,Om,mY];rfl
def T9 (r:Rd):qV (.tup [.int r.1,IQ r.2]) <=50:=by
 simp![qV,kZ];have:qV (IQ r.2) <=2:=by unfold IQ;rw[qV];have:=vn r.2;lia
 lia
def W6 (e:a=b)(h:q (wb false) M):QW (gM a) (gM b) M q:=by subst e;show#[_,_, .inl (KL a), .inl (KL a),rfl,T9 a,by rw[jJ];show h]
theorem S4 (hp:0<p)(a b:Rd):dI p (jn p a b).2:=f8 hp _
theorem CZ (hp:0<p)(a:Rd):dI p (bk p a).2:=f8 hp _
def JI (p:Int)(a b:Rd):(jn p a b).2.length<=a.2.length+b.2.length:=by exact aw (i8 _ _) ?_;rw[aD,qw];lia
def C0 (p:Int)(a:Rd):(bk p a).2.length<=a.2.length:=by exact aw (i8 _ _) ?_;rw[tm,ag,qw];lia
theorem RK {a b:Rd}(h1:a.1=b.1)(h2:a.2=b.2):a=b:=Prod.ext h1 h2
def Rs (hp:0<p)(a:Rd)(x:Int):fw (bk p a).2 x=(-fw a.2 (x+a.1)) % p:=by rw[bk,mM hp,BQ,BR];congr 1;rw[Int.mul_neg_one,Int.sub_neg]
theorem Cb (hp:0<p)(ha:dI p a)(hb:dI p b)(h: ∀x,fw a x=fw b x):a=b:=tM ha hb λx=>by rw[<- oj ha.2, <- oj hb.2];show h x
theorem lv (h:dI p a)(hp:p<1000): ∀z∈a,0<=z.2 /\ z.2<1000:=λz hz=>by have:=h.1 z hz;lia
inductive aio where
 | go (k:Int) | turn (k:Int)
def ajp (s:Int×Pt):aio ->Int×Pt
 | .go k=>(s.1+k,s.2)
 | .turn k=>(s.1,s.2++ [(s.1,k)])
end WQ
namespace WL
open PySem PySem.Spec PyProof.Rows L2
def YY (ns:cA Int)(m:Int):Prop:=m∈ns /\ ∀x∈ns,x<=m
def YX (ns:cA Int)(m:Int):Prop:=m∈ns /\ ∀x∈ns,m<=x
end WL
namespace WQ
open PySem L2 WL WP
def prc (p s:Int):Int:=if p - s<s then p - s else s
def Po (a:Rd):cA Int:=0::a.1::a.2.map (·.1)
def YN (i:Int):Int:=if i<0 then -i else i
def fwv (p:Int)(a:Rd)(lo hi:Int):Int:=2*(hi - lo) - YN a.1+(a.2.map λz=>prc p z.2).sum
def J7 (e n x:Int):Bool:=decide (x.fmod e=0) && (decide (0<=x.fdiv e) && decide (x.fdiv e<n))
def ls (e n x:Int):Pt ->Int
 | []=>0
 | z::r=>(if J7 e n (x - z.1) then z.2 else 0)+ls e n x r
def tS (he:e≠0):J7 e n x=true↔ ∃k,0<=k /\ k<n /\ x=k*e:=by have hd:=Int.mul_fdiv_add_fmod x e;unfold J7;simp![cP,cV];symm;rintro⟨h1,h2,h3⟩;show#[x.fdiv e,h2,h3,by rw[Int.mul_comm, <- hd,h1];simp[Int.mul_fdiv_cancel_left _ he]];rintro⟨k,h1,h2,rfl⟩;have:(k*e).fdiv e=k:=Int.mul_fdiv_cancel _ he;rw[this];show#[Int.mul_fmod_left _ _,h1,h2]
def J6 (he:e≠0):J7 e 0 x=false:=by
 cases h:J7 e 0 x with
 | false=>rfl
 | true=>let⟨k,h1,h2,_⟩:=(tS he).mp h;lia
def AH (he:e≠0)(hn:0<=n):(J7 e (n+1) x=true)↔(J7 e n x=true \/ x=n*e):=by rw[tS he,tS he];symm;rintro⟨k,h1,h2,h3⟩;obtain h | h:=Int.lt_or_le k n;show .inl #[k,h1,h,h3];have:k=n:= ∅;subst this;show .inr h3;rintro(⟨k,h1,h2,h3⟩ | h);show#[k,h1, ∅,h3];show#[n,hn, ∅,h]
def NX (he:e≠0):J7 e n (n*e)=false:=by
 cases h:J7 e n (n*e) with
 | false=>rfl
 | true=>let⟨k,h1,h2,h3⟩:=(tS he).mp h;have:k=n:=Int.eq_of_mul_eq_mul_right he h3.symm;lia
def zM (he:e≠0)(hn:0<=n)(l:Pt):ls e (n+1) x l=ls e n x l+fw l (x - n*e):=by
 induction l with
 | nil=>rfl
 | cons z r ih=>
  rw[ls,ls,fw,ih];by_cases h:z.1=x - n*e;have e1:x - z.1=n*e:= ∅;rw[am h,e1,am ((AH he hn).mpr (.inr rfl)),NX he];simp;lia;rw [ak h];have:J7 e (n+1) (x - z.1)=J7 e n (x - z.1):=by apply Bool.eq_iff_iff.mpr;rw[AH he hn];symm;rintro(h' | h');show h';show absurd h' ∅;show .inl
  rw[this];lia
def zL (he:e≠0)(l:Pt):ls e 0 x l=0:=by
 induction l with
 | nil=>rfl
 | cons z r ih=>rw[ls,ih,J6 he];simp
def oM (b:Rd):Nat ->Pt
 | 0=> []
 | n+1=>oM b n++mv ((n:Int)*b.1) b.2
theorem HH {b:Rd}(he:b.1≠0)(x:Int): ∀n:Nat,fw (oM b n) x=ls b.1 n x b.2
 | 0=>by rw[oM,Int.ofNat_zero,zL he];rfl
 | n+1=>by rw[oM,gh,HH he x n,BR];have:=zM (n:=(n:Int)) (x:=x) he ∅ b.2;rw[Int.natCast_add,Int.ofNat_one,this]
theorem oK (b:Rd): ∀n:Nat,(oM b n).length=n*b.2.length
 | 0=>by simp[oM]
 | n+1=>by rw[oM,aD,oK b n,qw,Nat.succ_mul]
end WQ
namespace WL
open PySem PySem.Spec PyProof.Rows L2
section
variable {X:Cx}
def Wr (K:Xu):cA V ->Hp ->VK ->Prop:=λxs H Q=>cc λ(l:fM) (bs:cA Bool)=>cW (xs= [.ref l]) (gY K H l (bs.map V.bl)) (Q (.bl (bs.all id)) H)
def Wq (K:Xu):cA V ->Hp ->VK ->Prop:=λxs H Q=>cc λ(l:fM) (bs:cA Bool)=>cW (xs= [.ref l]) (gY K H l (bs.map V.bl)) (Q (.bl (bs.any id)) H)
def JN {bs:cA Bool}(rv:bW (bs.map V.bl) bI)(e:bI.toArray[i]? =some v):v= .bool (bs.getD i false) /\ i<bs.length:=by
 have e':bI[i]? =some v:= ⇑e;have dO:=rv.length;have hi:i<bs.length:=by have:=(bq.mp e').1;rw[ag] at dO;lia
 let⟨w',hw,vY⟩:=rv.get (i:=i) (x:= .bl bs[i]) (by rw[aL,aC hi];rfl);rw[e'] at hw;cases hw;cases vY;show#[by simp[List.getD,hi],hi]
def FR (bs:cA Bool):(List.range bs.length).all (λi=>bs.getD i false)=bs.all id:=by apply Bool.eq_iff_iff.mpr;rw[List.all_eq_true,List.all_eq_true];symm;intro h x hx;let⟨i,hi,rfl⟩:=List.mem_iff_getElem.mp hx;have:=h i (List.mem_range.mpr hi);simpa [List.getD,hi] using this;intro h i hi;rw[List.mem_range] at hi;have:=h bs[i] (List.getElem_mem hi);simpa [List.getD,hi] using this
def FQ (bs:cA Bool):(List.range bs.length).any (λi=>bs.getD i false)=bs.any id:=by apply Bool.eq_iff_iff.mpr;rw[List.any_eq_true,List.any_eq_true];symm;rintro⟨i,hi,h⟩;rw[List.mem_range] at hi;show#[bs[i],List.getElem_mem hi,by simpa [List.getD,hi] using h];rintro⟨x,hx,h⟩;let⟨i,hi,rfl⟩:=List.mem_iff_getElem.mp hx;show#[i,List.mem_range.mpr hi,by simpa [List.getD,hi] using h]
def gm (hc:X.calm=true):eY X (.builtin "all") (Wr X.K):=by
 intro af s σ H xs us Q I r h;let⟨l,bs,rfl,hs,q⟩:=h;let⟨u,rfl,ru⟩:=vals1 r;cases ru;let⟨bI,rv,ht,hz⟩:=I.list hs;have hh:X.A.in1.handled=none:=I.ok.hd hc;have dO:bI.toArray.size=bs.length:=by have:=rv.length;rw[ag] at this;simpa using this.symm
 have mX:l<s.heap.objs.size:=by let⟨_,e,_⟩:=ht.isList;show aN e
 exact PySem.call_all_walkS (wpAny_pyIter_list ht.isList ?_);exact#[s.heap.objs.size,_,_,_,bI.toArray.size,_,_,λi=>bs.getD i false,rfl,(Walks.list hh s.heap.objs.size l (bu mX) bI.toArray).toS,#[#[_,aW _ rfl,rfl,rfl],ht.isList.push _],λi v s' Q' E' e hq=> ?_,λs' hm=> ?_];let⟨rfl,_⟩:=JN rv e;show cq hq;have hk: ∀b o,s.heap.get? b=some o ->s'.heap.get? b=some o:=λb o e=>hm.heap b o (λhI=>absurd (aN e) (by rw[aV.mp hI];show Nat.lt_irrefl _)) (av _ e);rw[Moved.eq_with hm,dO,FR];show#[.bl _,H,I.kept (t':=s'.toks) hk,rfl,q]
def xH (hc:X.calm=true):eY X (.builtin "any") (Wq X.K):=by
 intro af s σ H xs us Q I r h;let⟨l,bs,rfl,hs,q⟩:=h;let⟨u,rfl,ru⟩:=vals1 r;cases ru;let⟨bI,rv,ht,hz⟩:=I.list hs;have hh:X.A.in1.handled=none:=I.ok.hd hc;have dO:bI.toArray.size=bs.length:=by have:=rv.length;rw[ag] at this;simpa using this.symm
 have mX:l<s.heap.objs.size:=by let⟨_,e,_⟩:=ht.isList;show aN e
 exact PySem.call_any_walkS (wpAny_pyIter_list ht.isList ?_);exact#[s.heap.objs.size,_,_,_,bI.toArray.size,_,_,λi=>bs.getD i false,rfl,(Walks.list hh s.heap.objs.size l (bu mX) bI.toArray).toS,#[#[_,aW _ rfl,rfl,rfl],ht.isList.push _],λi v s' Q' E' e hq=> ?_,λs' hm=> ?_];let⟨rfl,_⟩:=JN rv e;show cq hq;have hk: ∀b o,s.heap.get? b=some o ->s'.heap.get? b=some o:=λb o e=>hm.heap b o (λhI=>absurd (aN e) (by rw[aV.mp hI];show Nat.lt_irrefl _)) (av _ e);rw[Moved.eq_with hm,dO,FQ];show#[.bl _,H,I.kept (t':=s'.toks) hk,rfl,q]
variable {K:Xu}
theorem cK.bools {H:Hp}: ∀ {bs:cA Bool} {vs:cA V},cK K H (bs.map wb) vs ->vs=bs.map V.bl
 | [],vs,h=>by simpa only[List.map_nil,cK] using h
 | n::r,vs,h=>by simp![aT,cK] at h;let⟨v,t,rfl,h1,h2⟩:=h;rw[cK.bools h2,h1.eq];rfl
def aaE:zd:=λxs M q=>cc λ(a:fM) (bs:cA Bool)=>cW (xs= [wr a]) (M a=some (.lst (bs.map wb))) (q (wb (bs.all id)) M)
def aaB:zd:=λxs M q=>cc λ(a:fM) (bs:cA Bool)=>cW (xs= [wr a]) (M a=some (.lst (bs.map wb))) (q (wb (bs.any id)) M)
instance:IC K (Wr K) aaE where
 imp:=by rintro xs v M H q Q m r1 ⟨a,ns,rfl,hl,h⟩ k;let⟨v,rfl,r⟩:=r1.one;cases r.eq;let⟨vs,hv,rr⟩:=m a _ hl;cases rr.bools;show#[a,ns,rfl,gY.of hv,k _ M _ H h (aY.refl H) m WR.v]
instance:IC K (Wq K) aaB where
 imp:=by rintro xs v M H q Q m r1 ⟨a,ns,rfl,hl,h⟩ k;let⟨v,rfl,r⟩:=r1.one;cases r.eq;let⟨vs,hv,rr⟩:=m a _ hl;cases rr.bools;show#[a,ns,rfl,gY.of hv,k _ M _ H h (aY.refl H) m WR.v]
end
end WL
namespace WL
open PySem L2
def Ub {M1:Mp}(hz:xs.length<=sizeLine)(h: ∀p,M1 p=none -> ∃I:Nat ->cA W ->Mp ->Prop,fg (I 0 [] (um M1 p (.lst []))) (∀i ys M,i<=xs.length ->I i ys M ->keep M /\ M p=some (.lst ys) /\ ys.length<=i) (∀i x ys M,xs[i]? =some x ->I i ys M -> ∀N:cA W ->Mp ->Prop,(∀ys M,I (i+1) ys M ->N ys M) ->g x (pT own fr ρ) M λρ2 M2=>c ρ2 M2 λb M3=>gC b (el ρ2 M3 λy M4=>M4 p=some (.lst ys) /\ N (ys++ [y]) (um M4 p (.lst (ys++ [y])))) (N ys M3)) (∀ys M,I xs.length ys M ->q (wr p) M)):vy xs keep own fr g c el ρ M1 q:=by exact#[hz,λp hp=> ?_];let⟨I,h0,h1,h2,h3⟩:=h p hp;show#[I,h0,h1,λi x ys M hx hI=>h2 i x ys M hx hI _ λ_ _ z=>z,h3]
theorem QU (h:M x=some (.lst (l++ [y])))(k:q y (um M x (.lst l))):Vj (wr x) [] M q:=#[x,l,y,rfl,rfl,h,k]
end WL
namespace WQ
open PySem L2 WL WP
def QP (p:Int)(l:cA Int):Prop:=(∀x∈l,0<=x /\ x<p) /\ ∀x,l.getLast? =some x ->x≠0
def Ui (row:cA Int)(k:Nat)(x:Int):cA Int:=row.set k (row.getD k 0+x)
def mW (row:cA Int)(o:Nat)(l:cA Int)(n:Nat):cA Int:=(List.range n).foldl (λr i=>Ui r (o+i) (l.getD i 0)) row
def pw (p s:Int):Nat ->Int
 | 0=>1
 | n+1=>pw p s n*s % p
end WQ
namespace L2
open PySem PySem.Spec PyProof.Rows
def Bp.okE {K:Xu}{st:Stmt}(F:Bp K x qual st f fd)(S:b_ N ps (aU st))(len: ∀vs H Q E,sp vs H Q E ->vs.length=ps.length)(jH: ∀ (cdv:c5) (A:Around) (outer:cA Env) (s:dq) (H:Hp) (vs:cA V) (Q:VK) (E:XK),d7 k (A.deeper (envOfC qual (aU st) s.heap.objs.size f cdv)) ->sp vs H Q E ->∃t,xO (d9 CX P w K mg base N qual (aU st) f cdv A outer s H E) (dA st) t /\ t {nx:=λ_ H'=>Q .dG H',rt:=Q} (start N vs) H):bD P w K mg base CX (k+1) f fd ps sp:=by let⟨oc,od,kV,jj,pm,an,cdv,ct,Cd,rfl,lk,ES⟩:=F.ex;show QC lk ES S len λA outer s H vs Q E hr BD=>jH cdv A outer s H vs Q E hr BD
end L2
namespace WL
open PySem L2 PySem.Spec PyProof.Rows
abbrev WX:=fM ->Mp ->Prop
abbrev eB:=cA W ->Mp ->WK ->WX ->Prop
section
variable {K:Xu}
def up (e:WX):WX:=λC M'=> ∃M0,Sm M0 M' /\ e C M0
def Ex (K:Xu)(e:WX):XK:=λcls _ H'=> ∃C M',cls= .ref C /\ e C M' /\ fR K M' H'
def rf (K:Xu)(p:eB):Sp:=λvs H Q E=> ∃ (xs:cA W) (M:Mp) (q:WK) (e:WX),cK K H xs vs /\ fR K M H /\ p xs M q e /\ (∀x M' v H',q x M' ->aY H H' ->fR K M' H' ->WR K H' x v ->Q v H') /\ ∀C M' H',e C M' ->fR K M' H' ->E (.ref C) none H'
def BO (p:eB)(e:WX)(a:WA):WE:=λρ M q=>a ρ M λxs M1=>p xs M1 q (up e)
instance {p:eB}{e:WX}{t:TA}{a:WA} [ia:IA K t a]:IE K (wQ (rf K p) [] (Ex K e) t) (BO p e a) where
 imp:=λρ M σ H q Q o h k=>ia.imp ρ M σ H _ _ o h λx M1 v H1 h1 t1 m1 r1=>#[x,M1,q,_,by rw[c4];show r1,m1,h1,λy M4 v4 H4 h4 t4 m4 r4=>k y M4 v4 H4 h4 (t1.trans t4) m4 r4,λC M' H' ⟨M0,s,h⟩ m=>#[C,M0,rfl,h,m.sub s]]
def BL (C:fM)(e:WX)(a:WA):WS:=λ_ ρ M=>a ρ M λxs M'=>xs.length<=sizeLine /\ up e C M'
instance {C:fM}{e:WX}{t:TA}{a:WA} [ia:IA K t a]:IS K (BS C (Ex K e) t) (BL C e a) where
 imp:=λρ M σ H D' D o h qU=>ia.imp ρ M σ H _ _ o h λx M1 v H1 ⟨hl,M0,s,h1⟩ t1 m1 r1=>#[by rw[r1.length];show hl,C,M0,rfl,h1,m1.sub s]
def Kc (i:Nat)(D:dH):dH:= {nx:=λσ H=>D.nx (σ.set i none) H,rt:=D.rt,bk:=λσ H=>D.bk (σ.set i none) H,ct:=λσ H=>D.ct (σ.set i none) H}
def Fo.Ib (h:Fo K H ρ σ)(i:Nat):Fo K H (ρ.set i none) (σ.set i none):=by exact#[by simp[h.1],λj y e=> ?_];rw[List.getElem?_set] at e ⊢;split at e;split at e<;>cases e;rename_i hj;rw[ak hj];show h.2 j y e
theorem Ok.Ib (o:Ok K ρ M σ H)(i:Nat):Ok K (ρ.set i none) M (σ.set i none) H:=#[o.env.Ib i,o.hp]
def Q4 (K:Xu):zd:=λxs M q=> ∃a C c cu b,xs= [wr a, .v c] /\ M a=some (.exc C) /\ Dc K C /\ RelV c cu /\ (∀u,RelV c u ->u=cu) /\ W.kitOne K (.ref C) cu=some b /\ q (wb b) M
instance:IC K (Ix K) (Q4 K) where
 imp:=by rintro xs v M H q Q m r1 ⟨a,C,c,cu,b,rfl,ha,kc,rc,only,e,h⟩ k;let⟨v,u,rfl,r,r'⟩:=r1.two;cases r.eq;cases r'.eq;show#[a,C,c,cu,b,rfl,m a _ ha,kc,rc,only,e,k _ M _ H h (aY.refl H) m WR.v]
def w5 {st:Stmt}(F:Bp K x qual st f fd)(S:b_ N ps (aU st))(len: ∀vs M q e,p vs M q e ->vs.length=ps.length)(jH: ∀ (cdv:c5) (A:Around) (outer:cA Env) (s:dq) (H:Hp) (E:XK) (e:WX),d7 k (A.deeper (envOfC qual (aU st) s.heap.objs.size f cdv)) ->Fq (d9 (gJ P w) P w K mg base N qual (aU st) f cdv A outer s H E) (Ex K e) ->gU (gJ P w) (d9 (gJ P w) P w K mg base N qual (aU st) f cdv A outer s H E) (Ex K e) ->∃ t,xO (d9 (gJ P w) P w K mg base N qual (aU st) f cdv A outer s H E) (dA st) t /\ ∃w',IS K t w' /\∀vs M q,p vs M q e ->w' {nx:=λ_ M'=> ∃M0,Sm M0 M' /\ q wn M0,rt:=λx M'=> ∃M0,Sm M0 M' /\ q x M0} (vs.map some++List.replicate (N.length - vs.length) none) M): bD P w K mg base (gJ P w) (k+1) f fd ps (rf K p):=by
 exact Bp.okE F S (λvs H Q E ⟨xs,M,q,e,r,m,h,_⟩=>by rw[r.length];show len xs M q e h) λcdv A outer s H vs Q E hr h=> ?_;let⟨xs,M,q,e,r,m,h,k',kE⟩:=h;have hE: ∀c d H',Ex K e c d H' ->E c none H':=λc d H' ⟨C,M',ec,he,m'⟩=>by rw[ec];show kE C M' H' he m'
 let⟨t,h1,w',h2,h3⟩:=jH cdv A outer s H E e hr (λaf σ H1 s1 h' ea cls us I mk z=>Kh af σ H1 s1 h' ea cls us I mk (hE _ _ _ z)) (λaf σ H1 s1 ev s2 I z=>Cc af σ H1 s1 ev s2 I (by let⟨ea,cls,a0,B,H',r1,r2,r3,r4,r5,r6,r7,r8,r9,r⟩:=z;show#[ea,cls,a0,B,H',r1,r2,r3,r4,r5,r6,r7,r8,r9,hE _ _ _ r]));exact#[t,h1,h2.imp _ M _ H _ _ #[#[?_,λi x e=> ?_],m] (h3 xs M q h) #[?_,?_,λ_ _ _ _ h=>h.elim,λ_ _ _ _ h=>h.elim]];have:=r.length;simp[L2.start,this];have hl:=r.length;unfold L2.start;by_cases hi:i<xs.length;rw[br ⇑hi,aL] at e;cases ex:xs[i]? with
 | none=>rw[ex] at e;cases e
 | some y=>rw[ex] at e;cases e;let⟨v,hv,rv⟩:=r.at ex;exact#[v,?_,rv];rw[br (by simp;lia),aL,hv];rfl
 rw[a9 ⇑hi,dg] at e;split at e<;>cases e;rintro ρ' M' σ' H' ⟨M0,s,hq⟩ ts o;show k' _ M0 _ H' hq ts (o.hp.sub s) WR.v;rintro x M' v H' ⟨M0,s,hq⟩ ts m' r';show k' x M0 v H' hq ts (m'.sub s) r'
end
end WL
namespace L2
open PySem PySem.Spec PyProof.Rows PySem.Calls
section
variable {X:Cx}
theorem M_ {K:Xu}: PassesOwn (model P w) (d9 (gJ P w) P w K mg base N qual scope f cd A outer s H E).A (d9 (gJ P w) P w K mg base N qual scope f cd A outer s H E).env (d9 (gJ P w) P w K mg base N qual scope f cd A outer s H E).xe:=PassesOwn.leaving (Q₁:=λe s2=>gJ P w outer H s E e s2)
def VZ (te:TE):TE:=λσ H Q=>te σ H λv H1=> ∃y,cW (v= .str y) (y.length<=sizeLine) (Q (.str y) H1)
def jh (he:PE X e te):PE X (.FormattedValue e (-1) none pos) (VZ te):=by
 intro af s σ H Q I h;exact FormattedValue_plain (cQ (he af s σ H _ I h) ?_);rintro v s1 ⟨x,H1,I1,r,y,rfl,hy,q⟩;let⟨t,rfl⟩:=(show ∃t,v=Value.str y t from r)
 show formatField_str (λt' tk=>#[.str y,H1,I1.tok tk,#[t',rfl],q]) hy
def V0 (te:TE):TE:=λσ H Q=>te σ H λv H1=> ∃i:Int,cW (v= .int i) (i.natAbs.log2<1920) (Q (.str (toString i)) H1)
def yw (he:PE X e te):PE X (.FormattedValue e (-1) none pos) (V0 te):=by
 intro af s σ H Q I h;exact FormattedValue_plain (cQ (he af s σ H _ I h) ?_);rintro v s1 ⟨x,H1,I1,r,i,rfl,hi,q⟩;let⟨t,rfl⟩:=(show ∃t,v=Value.int i t from r)
 show formatField_int_small hi #[.str _,H1,I1.tok _,#[_,rfl],q]
def tJ0 (out:Str):TE:=λ_ H Q=>out.length<=sizeLine /\ Q (.str out) H
def tJ1 (te:TE)(k:Str ->TE)(out:Str):TE:=λσ H Q=>te σ H λv H1=> ∃y,cW (v= .str y) ((out++y).length<=sizeLine) (k (out++y) σ H1 Q)
def PJ (X:Cx)(es:cA Expr)(k:Str ->TE):Prop:= ∀ (out:Str) (af:cA (fM×Obj)) (s:dq) (σ:St) (H:Hp) (Q:VK),Inv X af σ H s ->k out σ H Q ->wpAny (model X.prog X.w) X.A (joinParts out (evalEach es X.env)) (EP X af σ Q) X.xe s
theorem gS:PJ X [] tJ0:=λout af s σ H Q I ⟨hz,q⟩=>joinParts_nil #[.str out,H,I.tok _,#[_,rfl],q] hz
def cr (he:PE X e te)(hk:PJ X es k)(hs:evalEach (e::es) X.env=eval e X.env::evalEach es X.env:=by rfl):PJ X (e::es) (tJ1 te k):=by
 intro out af s σ H Q I h;rw[hs];exact joinParts_cons (cQ (he af s σ H _ I h) ?_);rintro v s1 ⟨x,H1,I1,r,y,rfl,hz,q⟩;let⟨t,rfl⟩:=(show ∃t,v=Value.str y t from r)
 show#[hz,hk _ af s1 σ H1 Q I1 q]
theorem fH (h:PJ X (e::e'::es) k):PE X (.JoinedStr (e::e'::es) pos) (k Str.empty):=λaf s σ H Q I hq=>JoinedStr_many (h Str.empty af s σ H Q I hq)
end
end L2
namespace WL
open PySem L2 PySem.Spec PyProof.Rows
section
variable {K:Xu}
def Q5 (a:WE):WE:=λρ M q=>a ρ M λx M1=> ∃y,cW (x=ws y) (y.length<=sizeLine) (q (ws y) M1)
instance {t:TE}{a:WE} [ia:IE K t a]:IE K (VZ t) (Q5 a) where
 imp:=λρ M σ H q Q o h k=>ia.imp ρ M σ H _ _ o h λx M1 v H1 ⟨y,e,hz,h1⟩ t1 m1 r1=>by subst e;show#[y,r1.eq,hz,k _ M1 _ H1 h1 t1 m1 WR.v]
def Q6 (a:WE):WE:=λρ M q=>a ρ M λx M1=> ∃i:Int,cW (x=wi i) (i.natAbs.log2<1920) (q (ws (toString i)) M1)
instance {t:TE}{a:WE} [ia:IE K t a]:IE K (V0 t) (Q6 a) where
 imp:=λρ M σ H q Q o h k=>ia.imp ρ M σ H _ _ o h λx M1 v H1 ⟨y,e,hz,h1⟩ t1 m1 r1=>by subst e;show#[y,r1.eq,hz,k _ M1 _ H1 h1 t1 m1 WR.v]
def wJ0 (out:Str):WE:=λ_ M q=>out.length<=sizeLine /\ q (ws out) M
instance {out:Str}:IE K (tJ0 out) (wJ0 out) where
 imp:=λρ M σ H q Q o ⟨hz,h⟩ k=>#[hz,k _ M _ H h (aY.refl H) o.hp WR.v]
def wJ1 (a:WE)(f:Str ->WE)(out:Str):WE:=λρ M q=>a ρ M λx M1=> ∃y,cW (x=ws y) ((out++y).length<=sizeLine) (f (out++y) ρ M1 q)
instance {t:TE}{a:WE}{f:Str ->TE}{g:Str ->WE}{out:Str} [ia:IE K t a] [ig: ∀o,IE K (f o) (g o)]:IE K (tJ1 t f out) (wJ1 a g out) where
 imp:=λρ M σ H q Q o h k=>ia.imp ρ M σ H _ _ o h λx M1 v H1 ⟨y,e,hz,h1⟩ t1 m1 r1=>by subst e;show#[y,r1.eq,hz,(ig _).imp ρ M1 σ H1 q Q (o.mv t1 m1) h1 λx2 M2 v2 H2 q2 t2 m2 r2=>k x2 M2 v2 H2 q2 (t1.trans t2) m2 r2]
end
end WL
namespace L2
open PySem PySem.Spec PyProof.Rows PySem.Calls PySem.W
def oP {K:Xu}(m:Mod K mg h₀)(e:nsIn K mainGlobals x=some (some (.ref C)))(q:excIn K C bmB PZ=true):OwnCls x C bmB PZ mg h₀:=by
 have X:=m.NK;exact#[mg_of X m.glob e,?_];unfold excIn at q;split at q;rename_i dd cd sl ho;split at q;rename_i C' bm k0 k1 k2 k3 n k5 hm hs;simp![cP,beq_iff_eq,Bool.not_eq_true'] at q;let⟨⟨⟨⟨⟨rfl,rfl⟩,Yc⟩,ht⟩,cH⟩,EO⟩:=q;let⟨nm,bs,mro,ns,qn,hd,sn,sub,ab,col,del⟩:=cd;dsimp only at hm Yc cH EO;subst hm Yc;have hsl:sl= (List.toArray [k0,k1,k2,k3,some (.builtin n),k5]):=by let⟨l⟩:=sl;simp only at hs;rw[hs]
 subst hsl;show#[bm,ns,nm,qn,bs,hd,sn,sub,ab,col,dd,k0,k1,k2,k3,k5,_,X _ _ ho, .of_isNs (isNs_of_in X cH),nsMap_none_of_in X cH EO,tail_of_in X ht];cases q;cases q
structure lb (K:PySem.W.Frag)(x:Str)(C:Addr):Prop where
 ns:nsIn K mainGlobals x=some (some (.ref C))
 exc:excIn K C YC "ValueError.__new__" =true
 k:Dc K C
theorem c8 {np dE pos:Pos}{cE:cA Expr}(hF:Fq X E)(hc:X.calm=true)(hg:Gl X x)(O:lb X.K x C)(ha:PA X (e₀::cE) t)(n_:(x==("__debug__" :Str))=false:=by decide)(he:starEach (e₀::cE) X.env=(false,eval e₀ X.env)::starEach cE X.env:=by rfl)(no:(backTo dE (starEach cE X.env)).any (·.1)=false:=by rfl): PS X (.Raise (some (.Call (.Name x np) (e₀::cE) [] dE)) none pos) (BS C E t):=λaf s σ H D I h=>IJ hF hc hg (oP I.ok.mod O.ns O.exc) ha n_ he no af s σ H D I h
end L2
namespace WQ
open PySem L2 WL WP
def fU (d:Str×Int):W:= .tup [ws d.1,wi d.2]
def sstep (s:Int×Pt)(d:Str×Int):Int×Pt:=if d.1= "go" then(s.1+d.2,s.2) else(s.1,s.2++ [(s.1,d.2)])
def eN (ds:cA (Str×Int)):Int×Pt:=ds.foldl sstep (0,[])
def jr (ds:cA (Str×Int))(d:Str×Int):eN (ds++ [d])=sstep (eN ds) d:=by unfold eN;rw[List.foldl_append];rfl
def jt (ds:cA (Str×Int)):(eN ds).2.length<=ds.length:=by
 induction ds using io with
 | h0=>simp[eN]
 | h1 l a ih=>rw[jr,aD];unfold sstep;split<;>simp<;>lia
def QG {l:cA (Str×Int)}{i:Nat}(h:(l.map fU)[i]? =some x): ∃q,l[i]? =some q /\ x=fU q:=by
 rw[aL] at h;cases e:l[i]? with
 | none=>rw[e] at h;cases h
 | some q=>rw[e] at h;cases h;show#[q,rfl,rfl]
def Good (d:Str×Int):Prop:=d.1= "go" \/ d.1= "turn"
def Sb (C:fM):eB:=λxs M q e=>eh λ(a:fM) (p:Int) (ds:cA (Str×Int))=>BG (xs= [wi p,wr a]) (M a=some (.lst (ds.map fU))) (0<p) (Hk (eN ds).2) (ds.length<=50000) (∀d∈ds,d.1.length<=100) ((∀d∈ds,Good d) ->q (gM ((eN ds).1,qu p (eN ds).2)) M) ((∃d∈ds,¬Good d) ->e C M)
def RZ:eZ:=λxs M q=>eh λ(a:fM) (p:Int) (ds:cA (Str×Int))=>k9 (xs= [wi p,wr a]) (M a=some (.lst (ds.map fU))) (0<p) (Hk (eN ds).2) (ds.length<=50000) (q (gM ((eN ds).1,qu p (eN ds).2)) M)
end WQ
namespace WL
open PySem L2
def Sq:W ->Bool
 | .v x=>decide (x=V.dG)
 | .tup _=>false
def PB:R2:=λx y H Q=>y= .dG /\ Q (.bl (!decide (x=V.dG))) H
def Vl:pX:=λx y M q=>y=wn /\ q (wb (!Sq x)) M
instance {K:Xu}:IR K PB Vl where
 imp:=by
  rintro x y v u M H q Q m r1 r2 ⟨rfl,h⟩ k;exact#[r2.eq,k _ M _ H h (aY.refl H) m ?_];cases x with
  | v x=>rw[r1.eq];show WR.v
  | tup l=>let⟨a,vs,rfl,_⟩:=r1.tup;show WR.v
theorem Jb:gI X (compareOp .IsNot) PB:=Nb
theorem vj (hx:DR M x d)(hy:DR M y d)(hd:qV d<=50)(hs:jR d d=true)(h:q (wb true) M):Vr x y M q:=#[d,d,hx,hy,hs,hd,by rw[jJ];show h]
theorem lQ (hx:DR M x d)(hy:DR M y d)(hd:qV d<=50)(hs:jR d d=true)(h:q (wb false) M):QW x y M q:=#[d,d,hx,hy,hs,hd,by rw[jJ];show h]
def Oo {α:Type}(f:α ->W)(g:α ->Dt):Prop:= ∀a,GO (f a)=some (g a)
theorem A9 {α:Type}{f:α ->W}{g:α ->Dt}(h:Oo f g): ∀l:cA α,mY (l.map f)=some (l.map g)
 | []=>rfl
 | a::l=>by rw[aT,mY,h a,A9 h l];rfl
theorem AY {α:Type}{g:α ->Dt}{n:Nat}(h: ∀a,qV (g a) <=n): ∀l:cA α,kZ (l.map g) <=n
 | []=>by simp[kZ]
 | a::l=>by rw[aT,kZ];have:=h a;have:=AY h l;lia
theorem DR.list {l:cA α}(h:Oo f g)(ha:M a=some (.lst (l.map f))):DR M (wr a) (.lst (l.map g)):= .inr #[a,_,_,rfl,ha,A9 h l,rfl]
end WL
namespace WQ
open PySem L2 WL WP
theorem KO:Oo fU (λd=> .tup [.str d.1, .int d.2]):=λd=>rfl
def T_ (l:cA (Str×Int)):qV (.lst (l.map λd=> .tup [.str d.1, .int d.2])) <=50:=by rw[qV];have:=AY (n:=1) (g:=λd:Str×Int=>Dt.tup [.str d.1, .int d.2]) (λa=>by simp[qV,kZ]) l;lia
end WQ
namespace WL
open PySem L2
theorem EK (ha:M a=some (.exc C))(k:Dc K C)(e:W.kitOne K (.ref C) (.ref D)=some b)(h:q (wb b) M):Q4 K [wr a, .v (.ref D)] M q:=#[a,C, .ref D, .ref D,b,rfl,ha,k,rfl,λ_ h=>h,e,h]
theorem Tb (ha:M a=some (.exc C))(k:Dc K C)(e:W.kitOne K (.ref C) (.type D)=some b)(h:q (wb b) M):Q4 K [wr a, .v (.ty D)] M q:=#[a,C, .ty D, .type D,b,rfl,ha,k,rfl,λ_ h=>h,e,h]
theorem YJ {l:cA α}:fE (a::b::c::d::e::l) 4=some e:=fK (j:=4) (by rfl)
theorem YI {l:cA α}:fE (a::b::c::d::e::f::l) 5=some f:=fK (j:=5) (by rfl)
theorem YH {l:cA α}:fE (a::b::c::d::e::f::g::l) 6=some g:=fK (j:=6) (by rfl)
theorem YG {l:cA α}:fE (a::b::c::d::e::f::g::h::l) 7=some h:=fK (j:=7) (by rfl)
theorem YF {l:cA α}:fE (a::b::c::d::e::f::g::h::i::l) 8=some i:=fK (j:=8) (by rfl)
theorem YE:(∀ (a b c d e:α) (l:cA α),fE (a::b::c::d::e::l) 4=some e) /\ (∀ (a b c d e f:α) (l:cA α),fE (a::b::c::d::e::f::l) 5=some f) /\ (∀ (a b c d e f g:α) (l:cA α),fE (a::b::c::d::e::f::g::l) 6=some g) /\ (∀ (a b c d e f g h:α) (l:cA α),fE (a::b::c::d::e::f::g::h::l) 7=some h) /\ (∀ (a b c d e f g h i:α) (l:cA α),fE (a::b::c::d::e::f::g::h::i::l) 8=some i):=#[λ_ _ _ _ _ _=>YJ,λ_ _ _ _ _ _ _=>YI,λ_ _ _ _ _ _ _ _=>YH,λ_ _ _ _ _ _ _ _ _=>YG,λ_ _ _ _ _ _ _ _ _ _=>YF]
end WL
namespace L2
open PySem PySem.Spec PyProof.Rows
def Keeps (S:Nat ->Prop)(g:TG):Prop:= ∀ (σ:St) (v:V) (H:Hp) (Q:St ->Hp ->Prop),g v σ H Q ->g v σ H λσ2 H2=>(σ2.length=σ.length /\ ∀i,¬S i ->σ2[i]? =σ[i]?) /\ Q σ2 H2
def Ax (h:S n):Keeps S (lW n):=by intro σ v H Q q;exact#[#[by simp,λi hi=> ?_],q];rw[List.getElem?_set_ne];intro e;subst e;show hi h
def ED {K:Xu}(h:S n)(h':S m):Keeps S (Oa K 2 (xq (lW n) (xq (lW m) Ob))):=by rintro σ v H Q ⟨a,xs,e,hs,hl,x,r,rfl,y,r',rfl,rfl,q⟩;exact#[a,_,e,hs,hl,x,_,rfl,y,_,rfl,rfl,#[by simp,λi hi=> ?_],q];rw[List.getElem?_set_ne,List.getElem?_set_ne];intro e;subst e;show hi h;intro e;subst e;show hi h'
def Fm (h:(k7 own fr σ)[i]? =some (some v)):own<=i:=by unfold k7 at h;obtain c | c:=Nat.lt_or_ge i own;rw[br ⇑c,dg,am c] at h;cases h;show c
def inW (Hn:TI)(g2:TG)(Dv:TT)(te:TE)(σ2:St)(p:fM)(H4:Hp)(N:cA V ->Hp ->Prop):Prop:=Hn σ2 H4 λJ2 H5=> ∃Z:Nat ->Nat ->cA V ->Hp ->Prop,(∃m zs,Z 0 m zs H5) /\ ∀j k zs H6,Z j k zs H6 ->H6 p=some (.lst zs) /\((J2.stop j H6 /\ N zs H6) \/ (J2.go j H6 /\ zs.length<sizeLine /\ ∀y H7,J2.Ut j H6 y H7 ->g2 y σ2 H7 λσ3 H8=>Dv σ3 H8 λc H9=>if c=true then te σ3 H9 λz U4=> ∃ws,U4 p=some (.lst ws) /\ ws.length<sizeLine /\ ∃k',k'<k /\ Z (j+1) k' (ws++ [z]) (cf U4 p (.lst (ws++ [z]))) else ∃ws k',k'<k /\ Z (j+1) k' ws H9))
def KP (J:It)(own:Nat)(fr:cA Nat)(g:TG)(tc:TT)(Hn:TI)(g2:TG)(Dv:TT)(te:TE)(σ:St)(p:fM)(H1:Hp)(Q:VK):Prop:=∃ W :Nat ->Nat ->cA V ->Hp ->Prop,(∃m,W 0 m [] (cf H1 p (.lst []))) /\ ∀i m ys H',W i m ys H' ->H' p=some (.lst ys) /\((J.stop i H' /\ Q (.ref p) H') \/ (J.go i H' /\ ∀x H2,J.Ut i H' x H2 ->g x (k7 own fr σ) H2 λσ2 H3=>tc σ2 H3 λb H4=>if b=true then inW Hn g2 Dv te σ2 p H4 λzs H5=> ∃m',m'<m /\ W (i+1) m' zs H5 else ∃zs m',m'<m /\ W (i+1) m' zs H4))
def HV (wi:TI)(own:Nat)(fr:cA Nat)(g:TG)(tc:TT)(Hn:TI)(g2:TG)(Dv:TT)(te:TE):TE:=λσ H Q=>wi σ H λJ H1=> ∀p,H1 p=none ->KP J own fr g tc Hn g2 Dv te σ p H1 Q
abbrev xf (iZ tg iter:Expr)(iY:cA Expr)(j_ cU:Expr)(fk:cA Expr)(scope:Scope)(pos:Pos):Expr:= .ListComp iZ [#[tg,iter,iY,0],#[j_,cU,fk,0]] scope pos
def Mo (iZ tg iter:Expr)(iY:cA Expr)(j_ cU:Expr)(fk:cA Expr)(scope:Scope)(pos:Pos)(it fV:c5)(env:Env): compTurn (xf iZ tg iter iY j_ cU fk scope pos) 0 it fV env=(do
 standAt iter.pos
 let r <- pyNext it
 match r with
 | none=>pure (.done .next)
 | some v=>do
  letOwnedTupleGo tg it v
  assign tg env v
  let ok <- forIn iY true λc r=>if r=true then do let ok <- isTrue c env (eval c env);pure (ForInStep.yield ok) else pure (ForInStep.yield r)
  if ok=true then do
   let x <- eval cU env
   standAt cU.pos
   let x <- foldedSetIterable cU env x
   let i2 <- holding [x] (pyIter x)
   let _ <- runOwn (.compStart (xf iZ tg iter iY j_ cU fk scope pos) 1 i2 fV env) env
   again (.compLoop (xf iZ tg iter iY j_ cU fk scope pos) 0 it fV env)
  else again (.compLoop (xf iZ tg iter iY j_ cU fk scope pos) 0 it fV env)):=by rfl
def Mn (iZ tg iter:Expr)(iY:cA Expr)(j_ cU:Expr)(fk:cA Expr)(scope:Scope)(pos:Pos)(it fV:c5)(env:Env): compTurn (xf iZ tg iter iY j_ cU fk scope pos) 1 it fV env=(do
 standAt cU.pos
 let r <- pyNext it
 match r with
 | none=>pure (.done .next)
 | some v=>do
  letOwnedTupleGo j_ it v
  assign j_ env v
  let ok <- forIn fk true λc r=>if r=true then do let ok <- isTrue c env (eval c env);pure (ForInStep.yield ok) else pure (ForInStep.yield r)
  if ok=true then do
   ((do let _ <- call (.builtin "list.append") [fV, <- eval iZ env]):Sem Unit)
   again (.compLoop (xf iZ tg iter iY j_ cU fk scope pos) 1 it fV env)
  else again (.compLoop (xf iZ tg iter iY j_ cU fk scope pos) 1 it fV env)):=by rfl
def HZ (h0:codeAny (model prog w) A (.compLoop (xf iZ tg iter iY j_ cU fk scope pos) 1 it fV env) R s)(h:wpAny (model prog w) A (pyIter it) (λit' s'=>codeAny (model prog w) A (.compLoop (xf iZ tg iter iY j_ cU fk scope pos) 1 it' fV env) R s') (notedBy (model prog w) A env λx s'=>R (.error x) s') s): codeAny (model prog w) A (.compStart (xf iZ tg iter iY j_ cU fk scope pos) 1 it fV env) R s:=by
 exact codeAny_of_tree ?_;change wpAny _ _ ((compStart (xf iZ tg iter iY j_ cU fk scope pos) 1 it fV env).onRaise (λx=>do noteFrame x env;standAt theWindowsPlace)) _ _ s;exact wpAny_notedAt ?_;unfold compStart;change wpAny _ _ (ask >>=_) _ _ s;exact ax (wpAny_askSetting (wpAny_ite ?_));split;first
 | show ax (a5 (a5 (And.intro rfl h0)))
 | show a5 (And.intro rfl h0)
 first
 | show ax (wpAny_rule (ax (wpAny_standAt (ax (bw h (λit' s' h'=>a5 (And.intro rfl h')) λ_ _ x=>x)))))
 | (exact ax (wpAny_rule ?_);change wpAny _ _ (standAt cU.pos >>=_) _ _ s;show ax (wpAny_standAt (ax (bw h (λit' s' h'=>a5 (And.intro rfl h')) λ_ _ x=>x))))
theorem Nz (I:Nat ->dq ->Prop)(turn : ∀n s,I n s ->wpAny (model prog w) A (pyNext it) (λr s₁=>match r with
   | none=>R (.ok .next) s₁
   | some v=>wpAny (model prog w) A (letOwnedTupleGo j_ it v) (λ_ s₀=>wpAny (model prog w) A (assign j_ env v) (λ_ s₂=>
    wpAny (model prog w) A (forIn fk true λc r=>if r=true then do let ok <- isTrue c env (eval c env);pure (ForInStep.yield ok) else pure (ForInStep.yield r)) (λok s₃=>if ok=true then wpAny (model prog w) A (eval iZ env) (λx s₄=>wpAny (model prog w) A (call (.builtin "list.append") [fV,x]) (λ_ s₅=> ∃m,m<n /\ I m s₅) (λ_ _=>False) s₄) (λ_ _=>False) s₃ else ∃m,m<n /\ I m s₃) (λ_ _=>False) s₂)
    (λ_ _=>False) s₀) (λ_ _=>False) s₁) (λ_ _=>False) s)(n:Nat)(h:I n s):codeAny (model prog w) A (.compLoop (xf iZ tg iter iY j_ cU fk scope pos) 1 it fV env) R s:=by
 exact codeAny_loop rfl I (λn s hI=> ?_) n h
 change wpAny _ A ((compTurn (xf iZ tg iter iY j_ cU fk scope pos) 1 it fV env).onRaise (λx=>do noteFrame x env;theTreesLotGoes x)) _ _ s
 exact wpAny_noted ?_
 rw[Mn]
 exact ax (wpAny_standAt (ax (bw (turn n s hI) (λr s₁ h₁=> ?_) λ_ _ h'=>h'.elim)))
 cases r with
 | none=>show a5 h₁
 | some v=>
  exact ax (bw h₁ (λ_ s₀ XA=> ?_) λ_ _ h'=>h'.elim);exact ax (bw XA (λ_ s₂ h₂=> ?_) λ_ _ h'=>h'.elim);exact ax (bw h₂ (λWZ s₃ h₃=> ?_) λ_ _ h'=>h'.elim);cases WZ with
  | false=>show a5 #[rfl,h₃]
  | true=>show ax (ax (bw h₃ (λx s₄ h₄=>ax (bw h₄ (λ_ s₅ h₅=>a5 (a5 #[rfl,h₅])) λ_ _ h'=>h'.elim)) λ_ _ h'=>h'.elim))
theorem NA (I:Nat ->dq ->Prop)(hs: ∀x,foldedSetIterable cU env x=pure x)(turn : ∀n s,I n s ->wpAny (model prog w) A (pyNext it) (λr s₁=>match r with
   | none=>R (.ok .next) s₁
   | some v=>wpAny (model prog w) A (letOwnedTupleGo tg it v) (λ_ s₀=>wpAny (model prog w) A (assign tg env v) (λ_ s₂=>
    wpAny (model prog w) A (forIn iY true λc r=>if r=true then do let ok <- isTrue c env (eval c env);pure (ForInStep.yield ok) else pure (ForInStep.yield r)) (λok s₃=>if ok=true then wpAny (model prog w) A (eval cU env) (λx s₄=>wpAny (model prog w) A (pyIter x) (λi2 s₅=>codeAny (model prog w) (A.mark none) (.compStart (xf iZ tg iter iY j_ cU fk scope pos) 1 i2 fV env) (λr s₆=>match r with | .ok _=> ∃m,m<n /\ I m s₆ | .error _=>False) s₅) (λ_ _=>False) s₄) (λ_ _=>False) s₃ else ∃m,m<n /\ I m s₃) (λ_ _=>False) s₂)
    (λ_ _=>False) s₀) (λ_ _=>False) s₁) (λ_ _=>False) s)(n:Nat)(h:I n s):codeAny (model prog w) A (.compLoop (xf iZ tg iter iY j_ cU fk scope pos) 0 it fV env) R s:=by
 exact codeAny_loop rfl I (λn s hI=> ?_) n h
 change wpAny _ A ((compTurn (xf iZ tg iter iY j_ cU fk scope pos) 0 it fV env).onRaise (λx=>do noteFrame x env;theTreesLotGoes x)) _ _ s
 exact wpAny_noted ?_
 rw[Mo]
 exact ax (wpAny_standAt (ax (bw (turn n s hI) (λr s₁ h₁=> ?_) λ_ _ h'=>h'.elim)))
 cases r with
 | none=>show a5 h₁
 | some v=>
  exact ax (bw h₁ (λ_ s₀ XA=> ?_) λ_ _ h'=>h'.elim);exact ax (bw XA (λ_ s₂ h₂=> ?_) λ_ _ h'=>h'.elim);exact ax (bw h₂ (λWZ s₃ h₃=> ?_) λ_ _ h'=>h'.elim);cases WZ with
  | false=>show a5 #[rfl,h₃]
  | true=>
   exact ax (bw h₃ (λx s₄ h₄=> ?_) λ_ _ h'=>h'.elim);exact ax (wpAny_standAt ?_);rw[hs];exact ax (a5 (ax (wpAny_holding (bw h₄ (λi2 s₅ h₅=> ?_) λ_ _ h'=>h'.elim))));exact ax (wpAny_runOwn ?_);exact codeAny_mono h₅ λr s' z=> ?_;cases r with
   | ok f=>show a5 #[rfl,z]
   | error e=>show z.elim
def Bb {σ:St}{RR:c5 ->fM ->Result ->dq ->Prop}(lV:X.calm=true)(S:dh X own fr N' scope)(hg: ∀s3 H3,PG (bR X N' scope cl fp s3 H3) tg g)(Qs:n1<=own.length)(hw:Keeps (λi=>i<n1) g)(hc: ∀s3 H3,QN (bR X N' scope cl fp s3 H3) iY tc)(hi2: ∀s3 H3,PI (bR X N' scope cl fp s3 H3) j_ cU Hn)(BF: ∀s3 H3,PG (bR X N' scope cl fp s3 H3) j_ g2)(UO:Keeps (λi=>n1<=i /\ i<own.length) g2)(GD: ∀s3 H3,QN (bR X N' scope cl fp s3 H3) fk Dv)(he: ∀s3 H3,PE (bR X N' scope cl fp s3 H3) iZ te)(EN: ∀s3 H3 x,foldedSetIterable cU (bR X N' scope cl fp s3 H3).env x=pure x)(kz: ∀x c,cl.lookup x=some c ->X.env.cells.lookup x=some c)(wq: ∀y∈scope.names,y.2= .free ->(cl.lookup y.1).isSome=true)(I:Inv X af σ H s)(T:ze X.prog X.w X.K tg J fp it tn)(st:tn 0 s.heap)(AI: ∀b∈fp,k_ X af H b)(h: ∀p,H p=none ->KP J own.length fr g tc Hn g2 Dv te σ p H Q)(fin: ∀ (s3:dq) (H3:Hp),Inv X af σ H3 s3 ->(∀b∈fp,k_ X af H3 b) -> ∀ (D:fM) (σ':St) (H':Hp) (s':dq) (t:Nat),D<s3.heap.objs.size ->Inv (bR X N' scope cl fp s3 H3) [] σ' H' s' ->Q (.ref D) H' ->RR (.ref D) s3.heap.objs.size (.ok .next) s'): wpAny (model X.prog X.w) X.A (newList []) (λfV s₃=>wpAny (model X.prog X.w) X.A (newFunctionEnv scope X.env.globals cl [] X.env.qual none .none (some X.env)) (λKU s₄=>codeAny (model X.prog X.w) X.A (.compStart (xf iZ tg iter iY j_ cU fk scope pos) 0 (.ref it) fV {KU with scope:=relabel scope X.env}) (RR fV KU.locals) s₄) E s₃) E s:=by
 exact wpAny_newObj_type ?_;have hf:H s.heap.objs.size=none:=I.cH.fresh (aq _);let⟨W,⟨m0,w0⟩,turn⟩:=h _ hf;generalize e3:({s with heap:=s.heap.push {cls:= .type "list",dict:=none,data:= .seq ([]:cA c5).toArray}}:dq)=s3;have Rw:s3.heap.objs.size=s.heap.objs.size+1:=by rw[<- e3];show Heap.size_push ..
 have up3: ∀b o,s.heap.get? b=some o ->s3.heap.get? b=some o:=λb o e=>by rw[<- e3];show av _ e
 have I3:Inv X af σ (cf H s.heap.objs.size (.lst [])) s3:=by rw[<- e3];show I.laid (t':=s.toks) (λb u e=>av _ e) (aq _) #[dc _,[],0, .nil,aW _ rfl]
 have TV: ∀b∈fp,b<s.heap.objs.size:=λb hb=>by let⟨o,e,_⟩:=T.obj 0 _ st b hb;show aN e
 have CD: ∀b∈fp,k_ X af (cf H s.heap.objs.size (.lst [])) b:=λb hb=>#[by rw[bL (bu (TV b hb))];show(AI b hb).1,(AI b hb).2]
 exact wpAny_newFunctionEnv S.uL (by intro y hy;simp at hy) (λh₁ Tp Tj=> ?_) S.kind;have old: ∀b o,s3.heap.get? b=some o ->h₁.get? b=some o:=λb o e=>Tj.extBut b o (bu (aN e)) (av _ e);have Ic:=AB (t:=s3.toks+([]:cA (Str×c5)).length) S I3 kz wq CD (λb hb=>by rw[Rw];show Nat.lt_succ_of_lt (TV b hb)) Tp old;have FJ:tn 0 h₁:=T.keep 0 _ _ st λb hb o e=>old b o (up3 b o e);have uj: ∀ {H':Hp},(∀b∈fp,H' b=none) -> ∀b∈fp,k_ (bR X N' scope cl fp s3 (cf H s.heap.objs.size (.lst []))) [] H' b:=λhn b hb=>by exact#[hn b hb,?_,?_, .inl hb,λx c e=>(AI b hb).2.2.2.2.1 x c (kz x c e),λp hp=>absurd (show p∈([]:cA (fM×Obj)) from hp) (by simp)];change b≠s3.heap.objs.size;rw[Rw];show bu (Nat.lt_succ_of_lt (TV b hb));show Ic.ok.CK b hb
 have loop : codeAny (model X.prog X.w) X.A (.compLoop (xf iZ tg iter iY j_ cU fk scope pos) 0 (.ref it) (.ref s.heap.objs.size) (compEnvC scope cl s3.heap.objs.size X.env)) (RR (.ref s.heap.objs.size) s3.heap.objs.size) {s3 with heap:=h₁,toks:=s3.toks+([]:cA (Str×c5)).length}:=by
  exact NA (λn s'=>eh λi ys H'=>fg (Inv (bR X N' scope cl fp s3 (cf H s.heap.objs.size (.lst []))) [] (k7 own.length fr σ) H' s') (tn i s'.heap) (∀b∈fp,H' b=none) (W i n ys H')) (EN s3 H) ?_ m0 #[0,[],_,Ic,FJ,λb hb=>(CD b hb).1,w0];rintro n s4 ⟨i,ys,H4,I4,fS,LZ,w4⟩;let⟨CG,alt⟩:=turn i n ys H4 w4;rcases alt with⟨stop,q⟩ | ⟨go,step⟩
  .exact cQ (T.done (bR X N' scope cl fp s3 (cf H s.heap.objs.size (.lst []))) rfl rfl rfl lV i [] s4 _ H4 (λ_ _=>False) I4 (uj LZ) fS stop) λr s5 ⟨hr,I5⟩=> ?_;subst hr;show fin s3 _ I3 CD _ _ H4 s5 s5.toks (by rw[Rw];show Nat.lt_succ_self _) I5 q
  exact cQ (T.item (bR X N' scope cl fp s3 (cf H s.heap.objs.size (.lst []))) rfl rfl rfl lV i [] s4 _ H4 (λ_ _=>False) I4 (uj LZ) fS go) λr s5 ⟨u,hr,h5⟩=> ?_;subst hr;exact cQ h5 λ_ s6 ⟨x,H6,I6,r6,y6,Rz,fr6⟩=> ?_;have I6':=I6.pinned (uj fr6) (T.obj _ _ Rz);have ZJ:=hw _ x H6 _ (step x H6 y6);exact cQ (hg s3 _ _ s6 _ H6 x u _ I6' r6 ZJ) λ_ s7 ⟨σ7,H7,I7,wk,q7⟩=> ?_;have wk1: ∀ (j:Nat) v,(k7 own.length fr σ)[j]? =some (some v) ->σ7[j]? =some (some v):=λj v e=>by rw[wk.2 j (by have:=Fm e;lia)];show e
  have wk2: ∀j,n1<=j ->j<own.length -> ∀v,σ7[j]? ≠some (some v):=λj h1 h2 v e=>by rw[wk.2 j ∅] at e;have:=Fm e;lia
  have again: ∀ {σ9:St} {H9:Hp} {s9:dq} {QQ:cA V},σ9.length=σ7.length ->(∀ (j:Nat) v,σ7[j]? =some (some v) ->σ9[j]? =some (some v)) ->Inv (bR X N' scope cl fp s3 (cf H s.heap.objs.size (.lst []))) ([]++iJ fp s6.heap) σ9 H9 s9 ->(∃m',m'<n /\ W (i+1) m' QQ H9) ->∃m,m<n /\ eh λi ys H'=>fg (Inv (bR X N' scope cl fp s3 (cf H s.heap.objs.size (.lst []))) [] (k7 own.length fr σ) H' s9) (tn i s9.heap) (∀b∈fp,H' b=none) (W i m ys H'):=λ{σ9 H9 s9 QQ} hl9 hv9 I9 ⟨m',hm,w9⟩=>by exact#[m',hm,i+1,QQ,H9,(I9.jq).weak ?_ λj v e=>hv9 j v (wk1 j v e),T.keep _ _ _ Rz λb hb o e=>(I9.pin (b,o) (aX _ (aX _ (fb hb e)))).1,λb hb=> ?_,w9];rw[hl9,wk.1];let⟨o,e,d⟩:=T.obj _ _ Rz b hb;show(I9.pin (b,o) (aX _ (aX _ (fb hb e)))).2.1
  exact cQ (hc s3 _ _ s7 σ7 H7 _ I7 q7) λok s8 ⟨H8,I8,q8⟩=> ?_;cases ok with
  | false=>simp![aA,bC] at q8 ⊢;let⟨zs,q8⟩:=q8;show again rfl (λ_ _ e=>e) I8 q8
  | true =>
   simp![bV] at q8 ⊢;exact cQ (hi2 s3 _ _ s8 σ7 H8 _ I8 q8) λv2 s9 h9=>cQ h9 λXt s10 TU=> ?_;let⟨EJ,Yq,tn2,J2,U4,e10,I10,T2,V9,f10,Z,⟨mz,z0,Tg⟩,VH⟩:=TU;subst e10;have HY: ∀ {H':Hp},(∀b∈Yq,H' b=none) -> ∀b∈Yq,k_ (bR X N' scope cl fp s3 (cf H s.heap.objs.size (.lst []))) ([]++iJ fp s6.heap) H' b:=λhn b hb=>#[hn b hb,(f10 b hb).2]
   have P_:codeAny (model X.prog X.w) X.A (.compLoop (xf iZ tg iter iY j_ cU fk scope pos) 1 (.ref EJ) (.ref s.heap.objs.size) (compEnvC scope cl s3.heap.objs.size X.env)) (λr s₆=>match r with
   | .ok _=> ∃m,m<n /\ eh λi ys H'=>fg (Inv (bR X N' scope cl fp s3 (cf H s.heap.objs.size (.lst []))) [] (k7 own.length fr σ) H' s₆) (tn i s₆.heap) (∀b∈fp,H' b=none) (W i m ys H')
   | .error _=>False) s10:=by
    exact Nz (λk s'=>eh λj zs H'=>fg (Inv (bR X N' scope cl fp s3 (cf H s.heap.objs.size (.lst []))) ([]++iJ fp s6.heap) σ7 H' s') (tn2 j s'.heap) (∀b∈Yq,H' b=none) (Z j k zs H')) ?_ mz #[0,z0,U4,I10,V9,λb hb=>(f10 b hb).1,Tg]
    rintro k s11 ⟨j,zs,H11,I11,V8,Yp,z11⟩
    let⟨ajG,aik⟩:=VH j k zs H11 z11
    rcases aik with⟨V6,qN⟩ | ⟨go2,hsz2,V7⟩
    exact cQ (T2.done (bR X N' scope cl fp s3 (cf H s.heap.objs.size (.lst []))) rfl rfl rfl lV j _ s11 _ H11 (λ_ _=>False) I11 (HY Yp) V8 V6) λr RF ⟨hr,I12⟩=> ?_
    subst hr
    show again rfl (λ_ _ e=>e) I12 qN
    exact cQ (T2.item (bR X N' scope cl fp s3 (cf H s.heap.objs.size (.lst []))) rfl rfl rfl lV j _ s11 _ H11 (λ_ _=>False) I11 (HY Yp) V8 go2) λr RF ⟨u2,hr,Qy⟩=> ?_
    subst hr
    exact cQ Qy λ_ s13 ⟨x2,H13,I13,r13,y13,RA,aia⟩=> ?_
    have ain:=I13.pinned (HY aia) (T2.obj _ _ RA)
    have aaM:=UO _ x2 H13 _ (V7 x2 H13 y13)
    exact cQ (BF s3 _ _ s13 _ H13 x2 u2 _ ain r13 aaM) λ_ s14 ⟨σ14,H14,I14,U9,q14⟩=> ?_
    have QK: ∀ {H9:Hp} {s9:dq} {ws:cA V},Inv (bR X N' scope cl fp s3 (cf H s.heap.objs.size (.lst []))) (([]++iJ fp s6.heap)++iJ Yq s13.heap) σ14 H9 s9 ->(∃k',k'<k /\ Z (j+1) k' ws H9) ->∃m,m<k /\ eh λj zs H'=>fg (Inv (bR X N' scope cl fp s3 (cf H s.heap.objs.size (.lst []))) ([]++iJ fp s6.heap) σ7 H' s9) (tn2 j s9.heap) (∀b∈Yq,H' b=none) (Z j m zs H'):=λ{H9 s9 ws} I9 ⟨k',xl,z9⟩=>by exact#[k',xl,j+1,ws,H9,(I9.jq).weak U9.1.symm λa v e=> ?_,T2.keep _ _ _ RA λb hb o e=>(I9.pin (b,o) (aX _ (aX _ (fb hb e)))).1,λb hb=> ?_,z9];rw[U9.2 a λhS=>wk2 a hS.1 hS.2 v e];show e;let⟨o,e,d⟩:=T2.obj _ _ RA b hb;show(I9.pin (b,o) (aX _ (aX _ (fb hb e)))).2.1
    exact cQ (GD s3 _ _ s14 σ14 H14 _ I14 q14) λok2 s15 ⟨H15,I15,UG⟩=> ?_
    cases ok2 with
    | false=>simp![aA,bC] at UG ⊢;let⟨ws,UG⟩:=UG;show QK I15 UG
    | true=>simp![bV] at UG ⊢;exact cQ (he s3 _ _ s15 σ14 H15 _ I15 UG) λy s16 ⟨yv,H16,I16,ry,ws,abI,abF,q16⟩=> ?_;exact cQ (dk _ s16 σ14 H16 (.ref s.heap.objs.size) [yv] (.ref s.heap.objs.size) [y] (λv H'=>H'=cf H16 s.heap.objs.size (.lst (ws++ [yv]))) I16 rfl (.cons ry .nil) #[_,ws,yv,rfl,rfl,abI,abF,rfl]) λv s17 ⟨_,H17,I17,_,e17⟩=> ?_;subst e17;show QK I17 q16
   change codeAny _ X.A _ _ s10;show HZ P_ (T2.self _ 0 _ _ _ V9 P_)
 show codeAny_compStart_list loop (T.self _ 0 _ _ _ FJ loop)
def rq {pos V' jA:Pos}(lV:X.calm=true)(hN:X.N.Nodup)(hx:X.N[i]? =some x)(hl:Loc X.env.scope x)(S:dh X own fr N' scope)(hi:PI X tg iter wi)(hg: ∀cl fp s3 H3,PG (bR X N' scope cl fp s3 H3) tg g)(Qs:n1<=own.length)(hw:Keeps (λi=>i<n1) g)(hc: ∀cl fp s3 H3,QN (bR X N' scope cl fp s3 H3) iY tc)(hi2: ∀cl fp s3 H3,PI (bR X N' scope cl fp s3 H3) j_ cU Hn)(BF: ∀cl fp s3 H3,PG (bR X N' scope cl fp s3 H3) j_ g2)(UO:Keeps (λi=>n1<=i /\ i<own.length) g2)(GD: ∀cl fp s3 H3,QN (bR X N' scope cl fp s3 H3) fk Dv)(he: ∀cl fp s3 H3,PE (bR X N' scope cl fp s3 H3) iZ te)(hsw:swapsWith (.ListComp iZ [#[tg,iter,iY,0],#[j_,cU,fk,0]] scope pos) (some (.Name x jA)) V'.line X.env=pure true)(hs: ∀x,foldedSetIterable iter X.env x=pure x:=by intro _;rfl)(EN: ∀cl fp s3 H3 x,foldedSetIterable cU (bR X N' scope cl fp s3 H3).env x=pure x:=by intro _ _ _ _ _;rfl)(hf:X.fn x=true \/ X.env.scope.names.lookup x=some .local:=by first | show .inl rfl | show .inr rfl | assumption): PS X (.Assign [.Name x jA] (.ListComp iZ [#[tg,iter,iY,0],#[j_,cU,fk,0]] scope pos) V') (HW (HV wi own.length fr g tc Hn g2 Dv te) (lW i)):=by
 intro af s σ H D I h;let⟨cl,Kb,kz,wq⟩:=vz (I.ok.cellsOf S);rw[exec_Assign_Name_used _ _ _ _ hsw];exact ax (wpAny_standAt (ax ?_));change wpAny _ X.A (do let _ <- comprehension (xf iZ tg iter iY j_ cU fk scope pos) scope X.env _ (newList []) false (eval iter X.env) (some (assign (.Name x jA) X.env))) _ _ s;exact ax (cQ (wpAny_comprehension_free (use:=some (assign (.Name x jA) X.env)) (Q:=λ_ s'=>SP X af D .next s') rfl hs Kb S.kind S.loc (cQ (hi af s σ H _ I h) λv s1 h1=>cQ h1 λXt s2 h2=> ?_)) λ_ s' hq=>a5 (a5 hq));let⟨it,fp,tn,J,H2,e,I2,T,ot,f2,h2⟩:=h2;subst e;exact Bb (RR:=λfV C=>compPost (model X.prog X.w) X.A X.xe (some (assign (.Name x jA) X.env)) (λ_ s'=>SP X af D .next s') fV C) lV S (hg cl fp) Qs hw (hc cl fp) (hi2 cl fp) (BF cl fp) UO (GD cl fp) (he cl fp) (EN cl fp) kz wq I2 T ot f2 h2 ?_;intro s3 H3 I3 f3 Da σ' H' s' t hD Ic q;let⟨m,hn,_⟩:=Ic.loc;have I5:=xG I3 f3 Ic;change wpAny _ X.A (assign (.Name x jA) X.env (.ref Da)) _ _ s';exact wpAny_assign_Name (wS I5 hN hx hl (show RelV (.ref Da) (.ref Da) from rfl) (λs6 I6 XN=> ?_) hf);let⟨a,sb,ha⟩:=XN;have ku:s3.heap.objs.size≠a:=by obtain rfl | ha:=ha;show Nat.ne_of_gt I3.lt;let⟨v,z⟩:=I3.cell x a ha;show Nat.ne_of_gt z.lt
 exact#[m,hn.sameBut sb ku,λh' abG=>#[_,H',xF I3 rfl I6 Ic.free abG,q]]
end L2
namespace WL
open PySem L2
section
variable {K:Xu}
def Xx (Dh:cA W)(kr:Mp ->Prop)(g2:WG)(c2:WT)(el:WE)(ρ2:bS)(p:fM)(ys:cA W)(M4:Mp)(N:cA W ->Mp ->Prop):Prop:=∃I2:Nat ->cA W ->Mp ->Prop,fg (I2 0 ys M4) (∀j zs M,j<=Dh.length ->I2 j zs M ->kr M /\ M p=some (.lst zs) /\ zs.length<sizeLine) (∀j y zs M,Dh[j]? =some y ->I2 j zs M ->g2 y ρ2 M λρ3 M5=>c2 ρ3 M5 λb M6=>if b=true then el ρ3 M6 λz M7=>M7 p=some (.lst zs) /\ I2 (j+1) (zs++ [z]) (um M7 p (.lst (zs++ [z]))) else I2 (j+1) zs M6) (∀zs M,I2 Dh.length zs M ->N zs M)
def CP (xs:cA W)(keep:Mp ->Prop)(own:Nat)(fr:cA Nat)(g:WG)(c:WT)(EJ:WI)(g2:WG)(c2:WT)(el:WE)(ρ:bS)(M1:Mp)(q:WK):Prop:= ∀p,M1 p=none -> ∃I:Nat ->cA W ->Mp ->Prop,fg (I 0 [] (um M1 p (.lst []))) (∀i ys M,i<=xs.length ->I i ys M ->keep M /\ M p=some (.lst ys)) (∀i x ys M,xs[i]? =some x ->I i ys M ->g x (pT own fr ρ) M λρ2 M2=>c ρ2 M2 λb M3=>if b=true then EJ ρ2 M3 λDh kr M4=>Xx Dh kr g2 c2 el ρ2 p ys M4 (I (i+1)) else I (i+1) ys M3) (∀ys M,I xs.length ys M ->q (wr p) M)
def Hz (it:WI)(own:Nat)(fr:cA Nat)(g:WG)(c:WT)(EJ:WI)(g2:WG)(c2:WT)(el:WE):WE:=λρ M q=>it ρ M λxs keep M1=>CP xs keep own fr g c EJ g2 c2 el ρ M1 q
theorem Vw:Hz it own fr g c EJ g2 c2 el ρ M q=it ρ M λxs keep M1=>CP xs keep own fr g c EJ g2 c2 el ρ M1 q:=rfl
instance {ti:TI}{own:Nat}{fr:cA Nat}{g:TG}{tc:TT}{ti2:TI}{g2:TG}{Dv:TT}{te:TE}{it:WI}{w:WG}{c:WT}{EJ:WI}{w2:WG}{c2:WT}{el:WE} [ii:II K ti it] [ig:IG K g w] [ic:IT K tc c] [ii2:II K ti2 EJ] [ig2:IG K g2 w2] [ic2:IT K Dv c2] [ie:IE K te el]: IE K (HV ti own fr g tc ti2 g2 Dv te) (Hz it own fr w c EJ w2 c2 el) where
 imp := λρ M σ H q Q o h k=>ii.imp ρ M σ H _ _ o h λxs keep J M1 H1 h1 t1 m1 ok=>by
  intro p hp;let⟨I,h0,hk,hs,hd⟩:=h1 p (m1.fresh hp);have tp:=L2.fF.ts (bO (o:= .lst []) hp);exact#[λi m vs H'=>m=xs.length - i /\ i<=xs.length /\ cc λys M'=>f_ (I i ys M') (aY H1 H') (fR K M' H') (cK K H' ys vs) (H' p=some (.lst vs)),#[_,rfl,dc _,[],_,h0,tp,m1.jW hp cK.nil,cK.nil,bM],?_];rintro i m vs H' ⟨rfl,hi,ys,M',hI,ts,m',rv,hv⟩;exact#[hv,?_];let⟨kp,hMp⟩:=hk i ys M' hi hI;let⟨k1,k2,k3⟩:=ok i M' H' ts m' kp;by_cases mX:i<xs.length;exact .inr #[k2 mX,λv H2 y=> ?_];let⟨ty,my,x,hx,r⟩:=k3 v H2 mX y;replace ts:=ts.trans ty;have oc:Ok K (pT own fr ρ) M' (k7 own fr σ) H2:=#[(o.env.ts (t1.trans ts)).UY own fr,my]
  exact ig.imp x v _ M' _ H2 _ _ oc r (hs i x ys M' hx hI) λρ3 M3 σ3 H3 h3 t3 o3=>ic.imp ρ3 M3 σ3 H3 _ _ o3 h3 λb M4 H4 h4 t4 m4=> ?_;cases b with
  | true=>
   simp![bV] at h4 ⊢;exact ii2.imp ρ3 M4 σ3 H4 _ _ (o3.mv t4 m4) h4 λDh kr J2 M5 H5 h5 t5 m5 ok2=> ?_;let⟨I2,h20,X_,EN,hd2⟩:=h5;have tt5:=ts.trans ((t3.trans t4).trans t5);have at5: ∀ {M6:Mp} {H6:Hp} {zs:cA W},M6 p=some (.lst zs) ->fR K M6 H6 -> ∃vs,H6 p=some (.lst vs) /\ cK K H6 zs vs:=λh m=>by let⟨vs,hv,rr⟩:=m p _ h;show#[vs,hv,rr]
   let⟨Pa,NP,Mz⟩:=at5 (X_ 0 ys M5 (dc _) h20).2.1 m5;exact#[λj m vs H'=>m=Dh.length - j /\ j<=Dh.length /\ cc λzs M'=>f_ (I2 j zs M') (aY H5 H') (fR K M' H') (cK K H' zs vs) (H' p=some (.lst vs)),#[_,Pa,rfl,dc _,ys,M5,h20,aY.refl _,m5,Mz,NP],?_];rintro j m2 vs6 H6 ⟨rfl,hj,zs,M6,hI2,VJ,m6,rv6,hv6⟩;exact#[hv6,?_];let⟨kp2,ajK,_g⟩:=X_ j zs M6 hj hI2;let⟨a1,a2,a3⟩:=ok2 j M6 H6 VJ m6 kp2;by_cases J0:j<Dh.length;exact .inr #[a2 J0,by rw[rv6.length];show _g,λu7 H7 y7=> ?_];let⟨ty7,my7,x7,hx7,r7⟩:=a3 u7 H7 J0 y7;have o7:Ok K ρ3 M6 σ3 H7:=#[o3.env.ts ((t4.trans t5).trans (VJ.trans ty7)),my7]
   exact ig2.imp x7 u7 ρ3 M6 σ3 H7 _ _ o7 r7 (EN j x7 zs M6 hx7 hI2) λρ8 M8 σ8 H8 h8 t8 o8=>ic2.imp ρ8 M8 σ8 H8 _ _ o8 h8 λb9 M9 H9 h9 t9 m9=> ?_;cases b9 with
   | true=>simp![bV] at h9 ⊢;exact ie.imp ρ8 M9 σ8 H9 _ _ (o8.mv t9 m9) h9 λz M10 u U4 ⟨TU,AK⟩ t10 m10 r10=> ?_;let⟨Mj,JV,Io⟩:=m10 p _ TU;have t11:=ix (u:= .lst (Mj++ [u])) JV;exact#[Mj,JV,by rw[Io.length];show _g,_,?_,rfl,J0,_,_,AK,((((VJ.trans ty7).trans t8).trans t9).trans t10).trans t11,m10.putL JV (Io.snoc r10),(Io.snoc r10).ts t11,bM];lia
   | false=>simp![aA,bC] at h9 ⊢;let⟨Mj,JV,Io⟩:=at5 (X_ (j+1) zs M9 J0 h9).2.1 m9;exact#[Mj,_,?_,rfl,J0,_,_,h9,((VJ.trans ty7).trans t8).trans t9,m9,Io,JV];lia
   have e':j=Dh.length:= ∅;subst e';exact .inl #[a1 rfl,_,?_,rfl,mX,zs,M6,hd2 zs M6 hI2,tt5.trans VJ,m6,rv6,hv6];lia
  | false=>simp![aA,bC] at h4 ⊢;let⟨Pa,NP,Mz⟩:=m4 p _ (hk (i+1) ys M4 mX h4).2;exact#[Pa,_,?_,rfl,mX,_,_,h4,ts.trans (t3.trans t4),m4,Mz,NP];lia
  have e':i=xs.length:= ∅;subst e';show .inl #[k1 rfl,k _ M' _ H' (hd ys M' hI) (t1.trans ts) m' WR.v]
def Cp {α:Type}{f:α ->W}{l:cA α}{i:Nat}(h:(l.map f)[i]? =some x): ∃a,l[i]? =some a /\ x=f a:=by
 rw[aL] at h;cases e:l[i]? with
 | none=>rw[e] at h;cases h
 | some a=>rw[e] at h;cases h;show#[a,rfl,rfl]
def GS {α β:Type}{l:cA α}{fW:α ->W}(cN:α ->cA β)(gW:β ->W)(eW:α ->β ->W){M1:Mp}(hz:(l.map λa=>(cN a).length).sum<sizeLine)(pq: ∀M,Sm M1 M ->keep M)(hs: ∀a∈l, ∀M,Sm M1 M -> ∀ (B:bS ->cA W ->(Mp ->Prop) ->Mp ->Prop) (N0:Mp ->Prop),(∀ρ2 kr,(∀M',Sm M1 M' ->kr M') ->(∀b∈cN a, ∀M',Sm M1 M' -> ∀N:eM W ->Mp ->Prop,N (some (eW a b)) M' ->g2 (gW b) ρ2 M' λρ3 M5=>c2 ρ3 M5 λb M6=>gC b (el ρ3 M6 λz M7=>N (some z) M7) (N none M6)) ->B ρ2 ((cN a).map gW) kr M) ->g (fW a) (pT own fr ρ) M λρ2 M2=>c ρ2 M2 λb M3=>gC b (EJ ρ2 M3 λDh kr M4=>B ρ2 Dh kr M4) (N0 M3))(hq: ∀p,M1 p=none ->q (wr p) (um M1 p (.lst (l.map λa=>(cN a).map (eW a)).flatten))): CP (l.map fW) keep own fr g c EJ g2 c2 el ρ M1 q:=by
 intro p hp;have dO: ∀k:cA α,(k.map λa=>(cN a).map (eW a)).flatten.length=(k.map λa=>(cN a).length).sum:=λk=>by rw[List.length_flatten,bi];congr 1;apply List.map_congr_left;intro a _;simp
 have XI: ∀i:Nat,((l.take i).map λa=>(cN a).length).sum<=(l.map λa=>(cN a).length).sum:=λi=>by
  have e:(l.map λa=>(cN a).length)=((l.take i).map λa=>(cN a).length)++((l.drop i).map λa=>(cN a).length):=by rw[<- aB,bF]
  rw[e,List.sum_append];lia
 exact#[λi ys M=>M=um M1 p (.lst ys) /\ ys=((l.take i).map λa=>(cN a).map (eW a)).flatten,#[rfl,by simp],?_,?_,?_];rintro i ys M hi ⟨rfl,rfl⟩;show#[pq _ (a6 hp),ao];rintro i x ys M hx ⟨rfl,rfl⟩;let⟨a,ha,rfl⟩:=Cp hx;have e:l.take (i+1)=l.take i++ [a]:=by rw[List.take_add_one,ha];rfl
 have eF:((l.take (i+1)).map λa=>(cN a).map (eW a)).flatten=((l.take i).map λa=>(cN a).map (eW a)).flatten++(cN a).map (eW a):=by rw[e,aB,List.flatten_append];simp
 have eS:((l.take (i+1)).map λa=>(cN a).length).sum=((l.take i).map λa=>(cN a).length).sum+(cN a).length:=by rw[e,aB,List.sum_append];simp
 exact hs a (a_ ha) _ (a6 hp) (λρ2 Dh kr M4=>Xx Dh kr g2 c2 el ρ2 p ((l.take i).map λa=>(cN a).map (eW a)).flatten M4 λys M=>M=um M1 p (.lst ys) /\ ys=((l.take (i+1)).map λa=>(cN a).map (eW a)).flatten) (λM=>M=um M1 p (.lst ((l.take i).map λa=>(cN a).map (eW a)).flatten) /\ ((l.take i).map λa=>(cN a).map (eW a)).flatten=((l.take (i+1)).map λa=>(cN a).map (eW a)).flatten) ?_;intro ρ2 kr X_ EN;exact#[λj zs M=>M=um M1 p (.lst zs) /\ zs=((l.take i).map λa=>(cN a).map (eW a)).flatten++((cN a).take j).map (eW a),#[rfl,by simp],?_,?_,?_];rintro j zs M hj ⟨rfl,rfl⟩;exact#[X_ _ (a6 hp),ao,?_];rw[aD,dO,ag,cz];have b3:=XI (i+1);rw[eS] at b3;lia;rintro j y zs M hy ⟨rfl,rfl⟩;let⟨b,hb,rfl⟩:=Cp hy;have e2:(cN a).take (j+1)=(cN a).take j++ [b]:=by rw[List.take_add_one,hb];rfl
 exact EN b (a_ hb) _ (a6 hp) (λo M4=>match o with
 | some z=>M4 p=some (.lst (((l.take i).map λa=>(cN a).map (eW a)).flatten++((cN a).take j).map (eW a))) /\ (um M4 p (.lst (((l.take i).map λa=>(cN a).map (eW a)).flatten++((cN a).take j).map (eW a)++ [z]))=um M1 p (.lst (((l.take i).map λa=>(cN a).map (eW a)).flatten++((cN a).take j).map (eW a)++ [z])) /\ ((l.take i).map λa=>(cN a).map (eW a)).flatten++((cN a).take j).map (eW a)++ [z]=((l.take i).map λa=>(cN a).map (eW a)).flatten++((cN a).take (j+1)).map (eW a))
 | none=>M4=um M1 p (.lst (((l.take i).map λa=>(cN a).map (eW a)).flatten++((cN a).take j).map (eW a))) /\ ((l.take i).map λa=>(cN a).map (eW a)).flatten++((cN a).take j).map (eW a)=((l.take i).map λa=>(cN a).map (eW a)).flatten++((cN a).take (j+1)).map (eW a)) ?_
 show#[ao,j9,by rw[e2,aB];simp];rintro zs M ⟨rfl,rfl⟩;show#[rfl,by rw[eF,ag,List.take_length]];rintro ys M ⟨rfl,rfl⟩;rw[ag,List.take_length];show hq p hp
def vx {α:Type}{l:cA α}{fW:α ->W}(pr:α ->Bool)(eW:α ->W){M1:Mp}(hz:l.length<=sizeLine)(pq: ∀M,Sm M1 M ->keep M)(hs: ∀a∈l, ∀ (M:Mp) (N:eM W ->Mp ->Prop),Sm M1 M ->N (if pr a=true then some (eW a) else none) M ->g (fW a) (pT own fr ρ) M λρ2 M2=>c ρ2 M2 λb M3=>gC b (el ρ2 M3 λy M4=>N (some y) M4) (N none M3))(hq: ∀p,M1 p=none ->q (wr p) (um M1 p (.lst ((l.filter pr).map eW)))):vy (l.map fW) keep own fr g c el ρ M1 q:=by
 exact#[by rw[ag];show hz,λp hp=>#[λi ys M=>M=um M1 p (.lst ys) /\ ys=((l.take i).filter pr).map eW,#[rfl,by simp],?_,?_,?_]];rintro i ys M hi ⟨rfl,rfl⟩;exact#[pq _ (a6 hp),ao,?_];rw[ag];exact aw (List.length_filter_le _ _) ?_;rw[cz];lia;rintro i x ys M hx ⟨rfl,rfl⟩;let⟨a,ha,rfl⟩:=Cp hx;have e:l.take (i+1)=l.take i++ [a]:=by rw[List.take_add_one,ha];rfl
 exact hs a (a_ ha) _ (λo M4=>match o with
 | some y=>M4 p=some (.lst (((l.take i).filter pr).map eW)) /\ (um M4 p (.lst (((l.take i).filter pr).map eW++ [y]))=um M1 p (.lst (((l.take i).filter pr).map eW++ [y])) /\ ((l.take i).filter pr).map eW++ [y]=((l.take (i+1)).filter pr).map eW)
 | none=>M4=um M1 p (.lst (((l.take i).filter pr).map eW)) /\ ((l.take i).filter pr).map eW=((l.take (i+1)).filter pr).map eW) (a6 hp) ?_
 cases hf:pr a with
 | false=>rw[ak (by simp)];show#[rfl,by rw[e,List.filter_append];simp[hf]]
 | true=>rw[am rfl];show#[ao,j9,by rw[e,List.filter_append];simp[hf]]
 rintro ys M ⟨rfl,rfl⟩;rw[ag,List.take_length];show hq p hp
def fD {α:Type}{l:cA α}{fW:α ->W}(eW:α ->W){M1:Mp}(hz:l.length<=sizeLine)(pq: ∀M,Sm M1 M ->keep M)(hs: ∀a∈l, ∀ (M:Mp) (N:eM W ->Mp ->Prop),Sm M1 M ->N (some (eW a)) M ->g (fW a) (pT own fr ρ) M λρ2 M2=>c ρ2 M2 λb M3=>gC b (el ρ2 M3 λy M4=>N (some y) M4) (N none M3))(hq: ∀p,M1 p=none ->q (wr p) (um M1 p (.lst (l.map eW)))):vy (l.map fW) keep own fr g c el ρ M1 q:=by exact vx (λ_=>true) eW hz pq (λa ha M N s h=>hs a ha M N s ⇑h) λp hp=> ?_;have e:l.filter (λ_=>true)=l:=List.filter_eq_self.mpr λ_ _=>rfl;rw[e];show hq p hp
end
def IZ:eZ:=λ_ _ _=>False
theorem Kf:bD P w K mg base CX k f fd ps (fT K IZ):=#[λvs H Q E ⟨_,_,_,_,_,h,_⟩=>h.elim,λA outer s H args us vs Q E hr=>by
 intros;rename_i h;first
 | (let⟨_,_,_,_,_,h,_⟩:=h;show h.elim)]
end WL
namespace WQ
open PySem L2 WL WP
def fX (f:Int ->Int)(e:Int):Nat ->Int ->Int
 | 0,_=>0
 | n+1,x=>fX f e n x+f (x - e*n)
def nG (f:Int ->Int)(e:Int):Nat ->Int ->Int
 | 0,_=>0
 | n+1,x=>nG f e n x - f (x+e*(n+1:Nat))
def ln (f:Int ->Int)(e n x:Int):Int:=if n<0 then nG f e (-n).toNat x else fX f e n.toNat x
def wR (f:Int ->Int)(e n x:Int):ln f e (n+1) x=ln f e n x+f (x - e*n):=by
 unfold ln;by_cases h:n<0;rw[am h];let⟨m,hm⟩: ∃m:Nat,(-n).toNat=m+1:=#[(-n).toNat - 1, ∅]
 have en:n= -((m:Int)+1):= ∅;have ex:x - e*n=x+e*((m+1:Nat):Int):=by rw[en,Int.mul_neg];push_cast;lia
 rw[hm,nG,ex];by_cases h1:n+1<0;rw[am h1,show(-(n+1)).toNat=m by lia];lia;rw[ak h1,show(n+1).toNat=0 by lia];have:m=0:= ∅;subst this;simp![fX,nG];lia;rw[ak h,ak ∅,show(n+1).toNat=n.toNat+1 by lia,fX];have:((n.toNat:Nat):Int)=n:= ∅;rw[this]
theorem FH (f:Int ->Int)(e:Int): ∀ (n:Nat) (x:Int),ln f e n x+ln f e (-n) (x - e*n)=0
 | 0,x=>rfl
 | n + 1,x=>by
  have ih:=FH f e n x;have h1:=wR f e n x;have h2:=wR f e (-(n+1:Nat)) (x - e*(n+1:Nat));have e1:(-((n+1:Nat):Int))+1= -(n:Int):= ∅;rw[e1] at h2;have e2:(((n+1:Nat)):Int)=(n:Int)+1:= ∅;rw[e2] at h2 ⊢;have e3:x - e*((n:Int)+1) - e* -((n:Int)+1)=x:=by rw[Int.mul_neg];lia
  rw[e3] at h2;have sh: ∀ (m:Nat) (z:Int),nG f e m (z - e)=nG f e m z - f z+f (z+e*m):=by
   intro m;induction m with
   | zero=>intro z;simp![nG];rw[Int.ofNat_zero,Int.mul_zero,Int.add_zero];lia
   | succ m ihm=>
    intro z;have a1:z - e+e*((m+1:Nat):Int)=z+e*m:=by
     push_cast;rw[Int.mul_add,Int.mul_one];lia
    rw[nG,ihm,nG,a1];lia
  have hs:=sh (n+1) (x - e*n);have EN:ln f e (-((n:Int)+1)) (x - e*((n:Int)+1))=nG f e (n+1) (x - e*n - e):=by unfold ln;rw[am ∅,show(- -((n:Int)+1)).toNat=n+1 by lia];congr 1;rw[Int.mul_add,Int.mul_one];lia
  have hs3:ln f e (-(n:Int)) (x - e*n)=nG f e n (x - e*n):=by unfold ln;by_cases h0:n=0;subst h0;rfl;rw[am ∅,show(- -(n:Int)).toNat=n by lia]
  have hs4:nG f e (n+1) (x - e*n)=nG f e n (x - e*n) - f (x - e*n+e*((n+1:Nat):Int)):=rfl;have e5:x - e*n+e*((n+1:Nat):Int)=x+e:=by push_cast;rw[Int.mul_add,Int.mul_one];lia
  rw[EN,hs,hs4,e5,h1];rw[hs3] at ih;lia
theorem ui {f g:Int ->Int}{e:Int}(h: ∀x,g x= -f (x+e)): ∀ (n:Nat) (x:Int),fX g (-e) n x=nG f e n x
 | 0,_=>rfl
 | n +1,x=>by
  rw[fX,nG,ui h n x,h];have:x - -e*n+e=x+e*((n+1:Nat):Int):=by rw[Int.neg_mul];push_cast;rw[Int.mul_add,Int.mul_one];lia
  rw[this];lia
theorem zJ {p:Int}{f g:Int ->Int}{e:Int}(h: ∀x,f x % p=g x % p): ∀ (n:Nat) (x:Int),fX f e n x % p=fX g e n x % p
 | 0,_=>rfl
 | n+1,x=>by rw[fX,fX,Int.add_emod,zJ h n x,h, <- Int.add_emod]
theorem jQ (f:Int ->Int)(x:Int): ∀n:Nat,fX f 0 n x=f x*n
 | 0=>by simp[fX]
 | n+1=>by rw[fX,jQ f x n,Int.zero_mul,Int.sub_zero];push_cast;rw[Int.mul_add,Int.mul_one]
structure gZ (p:Int)(a:Rd)(n:Int)(r:Rd):Prop where
 en:r.1=a.1*n
 pt:dI p r.2
 at_: ∀x,fw r.2 x=ln (fw a.2) a.1 n x % p
theorem gZ.eq (hp:0<p)(h:gZ p a n r)(h':gZ p a n r'):r=r':=RK (h.en.trans h'.en.symm) (Cb hp h.pt h'.pt λx=>(h.at_ x).trans (h'.at_ x).symm)
def gZ.yH (hp:0<p)(hn:n<0)(h:gZ p (bk p a) (-n) r):gZ p a n r:=by exact#[?_,h.pt,λx=> ?_];rw[h.en];change -a.1* -n=a.1*n;rw[Int.neg_mul_neg];rw[h.at_];unfold ln;rw[ak ∅,am hn];change fX (fw (bk p a).2) (-a.1) (-n).toNat x % p=_;rw[<- ui (f:=fw a.2) (g:=λx=> -fw a.2 (x+a.1)) (λ_=>rfl)];show zJ (λy=>by rw[Rs hp,Int.emod_emod_of_dvd _ (Int.dvd_refl p)]) _ _
def oI (e:Int)(n:Nat)(q:Int×Int):Pt:=(List.range n).map λ(k:Nat)=>(q.1+e*k,q.2)
def lS (e:Int)(n:Nat)(l:Pt):Pt:=(l.map (oI e n)).flatten
theorem zE (e x:Int)(q:Int×Int): ∀n:Nat,fw (oI e n q) x=fX (fw [q]) e n x
 | 0=>rfl
 | n +1=>by
  have:oI e (n+1) q=oI e n q++ [(q.1+e*n,q.2)]:=by unfold oI;rw[List.range_succ,aB];rfl
  rw[this,gh,zE e x q n,fX];congr 1;simp![fw];by_cases c:q.1+e*n=x;rw[am c,am ∅];rw[ak c,ak ∅]
theorem zK (f g:Int ->Int)(e x:Int): ∀n:Nat,fX (λy=>f y+g y) e n x=fX f e n x+fX g e n x
 | 0=>rfl
 | n+1=>by rw[fX,fX,fX,zK f g e x n];lia
theorem zI (e x:Int): ∀n:Nat,fX (λ_=>0) e n x=0
 | 0=>rfl
 | n+1=>by rw[fX,zI e x n];rfl
theorem zF (e:Int)(n:Nat)(x:Int): ∀l:Pt,fw (lS e n l) x=fX (fw l) e n x
 | []=>by have:fw ([]:Pt)=λ_=>0:=rfl;rw[this,zI];rfl
 | q ::l=>by
  have e1:lS e n (q::l)=oI e n q++lS e n l:=rfl;have e2:fw (q::l)=λy=>fw [q] y+fw l y:=by funext y;have:=gh [q] l y;show this
  rw[e1,gh,zE,zF e n x l,e2,zK]
theorem uN (e:Int)(n:Nat): ∀l:Pt,(lS e n l).length=l.length*n
 | []=>by simp[lS]
 | q::l=>by have e1:lS e n (q::l)=oI e n q++lS e n l:=rfl;rw[e1,aD,uN e n l,oI,ag,List.length_range,aQ,Nat.succ_mul];lia
theorem wO (b:Rd)(x:Int): ∀n:Nat,fw (oM b n) x=fX (fw b.2) b.1 n x
 | 0=>rfl
 | n+1=>by
  rw[oM,gh,wO b x n,BR,fX];have:x - (n:Int)*b.1=x - b.1*n:=by rw[Int.mul_comm]
  rw[this]
def PN:eZ:=λxs M q=>eh λ(p:Int) (a:Rd) (n:Int)=>BG (xs= [wi p,gM a,wi n]) (0<p) (p<1000) (dI p a.2) (a.2.length<=40000) (0<=n) (a.1≠0 ->n<100000 /\ a.2.length*n.toNat<=100000) (∀r:Rd,gZ p a n r ->(a.1=0 ->r.2.length<=a.2.length) ->(a.1≠0 ->r.2.length<=a.2.length*n.natAbs) ->q (gM r) M)
def R8:eZ:=λxs M q=>eh λ(p:Int) (a:Rd) (n:Int)=>Lf (xs= [wi p,gM a,wi n]) (0<p) (p<1000) (dI p a.2) (a.2.length<=40000) (a.1≠0 -> -100000<n /\ n<100000 /\ a.2.length*n.natAbs<=100000) (∀r:Rd,gZ p a n r ->(a.1=0 ->r.2.length<=a.2.length) ->(a.1≠0 ->r.2.length<=a.2.length*n.natAbs) ->q (gM r) M)
end WQ
namespace HT
open PySem PySem.Spec PyProof.Rows
def KW {ws:cA c5}(ht:IsTup s.heap t ([]:cA c5).toArray)(hb:IsTup s.heap b ws.toArray)(h1:Q (.ref b) s):wpAny (model prog w) A (binaryOp .Add (.ref t) (.ref b)) Q E s:=by let⟨⟨cls,dd,data,sl⟩,ho,hc,n,hd⟩:=id ht;let⟨⟨aih,_A,data2,Pp⟩,To,GD,n2,hd2⟩:=id hb;simp only at hc hd GD hd2;subst hc hd GD hd2;show concat_meets #[_,ho,rfl] #[_,To,rfl] noFill_tuple_add seq_tuple_add PySem.F.slot_tuple_add PySem.F.entry_tuple_add (PySem.F.args_tuple_add_2 _ _) (tuple_addW0 t b _ ws.toArray n n2 dd _A sl Pp (by rfl)) #[ho,To,h1]
end HT
namespace L2
open PySem PySem.Spec PyProof.Rows
def PF (K:Xu):R2:=λx y H Q=>fQ λa b xs ys=>BG (x= .ref a) (y= .ref b) (kP K H a xs) (kP K H b ys) (xs.length+ys.length<=sizeLine) (xs= [] ->Q (.ref b) H) (xs≠ [] ->ys= [] ->Q (.ref a) H) (xs≠ [] ->ys≠ [] -> ∀p,H p=none ->Q (.ref p) (cf H p (.tup (xs++ys))))
def Ei:gI X (binaryOp .Add) (PF X.K):=by
 intro af s σ H x y v u Q I rx ry h;let⟨a,b,xs,ys,rfl,rfl,ha,hb,hz,q0,q1,q2⟩:=h;by_cases hx:xs= []
 subst hx;cases rx;cases ry;let⟨bI,r1,p1,_⟩:=I.tuple ha;let⟨yP,r2,p2,_⟩:=I.tuple hb;have e:bI= []:=r1.jV.mpr rfl;subst e;show HT.KW p1 p2 #[.ref b,H,I,rfl,q0 rfl];show Nc af s σ H _ _ v u Q I rx ry #[a,b,xs,ys,rfl,rfl,ha,hb,hx,hz,q1 hx,q2 hx]
end L2
namespace WL
open PySem L2
section
variable {K:Xu}
def O8:pX:=λx y M q=>cc λl l'=>fg (x= .tup l) (y= .tup l') (l.length+l'.length<=sizeLine) (q (.tup (l++l')) M)
def cK.jV (r:cK K H l vs):vs= []↔l= []:=by have:=r.length;cases l<;>cases vs<;>simp_all
instance:IR K (PF K) O8 where
 imp :=by rintro x y v u M H q Q m r1 r2 ⟨l,l',rfl,rfl,hz,h⟩ k;let⟨a,vs,rfl,hv,r⟩:=r1.tup;let⟨b,us,rfl,hu,r'⟩:=r2.tup;exact#[a,b,vs,us,rfl,rfl,hv,hu,by rw[r.length,r'.length];show hz,λe=> ?_,λ_ e=> ?_,λ_ _ p hp=> ?_];rw[r.jV.mp e,List.nil_append] at h;show k _ M _ H h (aY.refl H) m (WR.Sx hu r');rw[r'.jV.mp e,c4] at h;show k _ M _ H h (aY.refl H) m (WR.Sx hv r);show k _ M _ _ h (L2.fF.ts (bO hp)) (m.new hp) (WR.Sx (kP.of bM) ((r.append r').ts (L2.fF.ts (bO hp))))
def Zw:O8 (.tup l) (.tup l') M q=ci (l.length+l'.length<=sizeLine) (q (.tup (l++l')) M):=by apply propext;symm;rintro⟨_,_,h1,h2,h3,k⟩;cases h1;cases h2;show#[h3,k];rintro⟨h3,k⟩;show#[_,_,rfl,rfl,h3,k]
end
end WL
namespace L2
open PySem PySem.Spec PyProof.Rows
def Te (K:Xu)(tl:TE):TI:=λσ H R=>tl σ H λx H1=> ∃a,x= .ref a /\ (((∃xs,gY K H1 a xs) /\ R (_K K a) H1) \/ ((∃xs,kP K H1 a xs) /\ R (_I K a) H1))
def RT (hl:PE X l tl):PI X tg l (Te X.K tl):=by
 intro af s σ H R I h;exact cQ (hl af s σ H _ I h) λv s1 ⟨x,H1,I1,r1,q1⟩=> ?_;let⟨a,e,q1⟩:=q1;subst e;cases r1;have fin: ∀b∈ [s1.heap.objs.size],k_ X af H1 b:=λb hb=>by have e:b=s1.heap.objs.size:= ⇑hb;subst e;show I1.CI (aq _) (I1.cH.fresh (aq _))
 rcases q1 with⟨⟨xs,hq⟩,q⟩ | ⟨⟨xs,hq⟩,q⟩
 let⟨bI,rv,p,hz⟩:=I1.list hq;exact wpAny_pyIter_list p.isList ?_;show#[s1.heap.objs.size,[s1.heap.objs.size],_,_,H1,rfl,I1.kept (t':=s1.toks) λb o e=>av _ e,wM a _,#[_,aW _ rfl,rfl,rfl],fin,q];let⟨bI,rv,p,hz⟩:=I1.tuple hq;exact wpAny_pyIter_tuple (show s1.heap.IsTuple a bI.toArray from p) ?_;show#[s1.heap.objs.size,[s1.heap.objs.size],_,_,H1,rfl,I1.kept (t':=s1.toks) λb o e=>av _ e,uf a _,#[_,aW _ rfl,rfl,rfl],fin,q]
end L2
namespace WL
open PySem L2
section
variable {K:Xu}
def Mv (x:W)(M:Mp)(q:cA W ->(Mp ->Prop) ->Mp ->Prop):Prop:=(cc λp l=>cW (x=wr p) (M p=some (.lst l)) (q l (λM'=>M' p=some (.lst l)) M)) \/ ∃l,x= .tup l /\ q l (λ_=>True) M
def Xs (a:WE):WI:=λρ M q=>a ρ M λx M1=>Mv x M1 q
instance {t:TE}{a:WE} [ia:IE K t a]:II K (Te K t) (Xs a) where
 imp :=λρ M σ H q R o h k=>ia.imp ρ M σ H _ _ o h λx M1 v H1 h1 t1 m1 r1=>by
  rcases h1 with⟨p,l,e,hp,h1⟩ | ⟨l,e,h1⟩
  subst e;let⟨vs,hv,rr⟩:=m1 p _ hp;show#[p,r1.eq, .inl #[#[vs,gY.of hv],k l _ _ M1 H1 h1 t1 m1 xi]];subst e;let⟨p,vs,rfl,hv,rr⟩:=r1.tup;show#[p,rfl, .inr #[#[vs,hv],k l _ _ M1 H1 h1 t1 m1 (AA hv rr)]]
theorem abA:Xs a ρ M q=a ρ M λx M1=>Mv x M1 q:=rfl
def aaO:Mv (.v (.ref p)) M q=lstK (M p) λl=>q l (λM'=>M' p=some (.lst l)) M:=by apply propext;symm;rintro(⟨_,l,h1,h2,k⟩ | ⟨_,h1,_⟩);cases h1;show#[l,h2,k];cases h1;rintro⟨l,h2,k⟩;show .inl #[_,l,rfl,h2,k]
def aaN:Mv (.tup l) M q=q l (λ_=>True) M:=by apply propext;symm;rintro(⟨_,_,h1,_⟩ | ⟨_,h1,k⟩);cases h1;cases h1;show k;intro k;show .inr #[l,rfl,k]
end
end WL
namespace WQ
open PySem L2 WL WP
def cv (a b:cA Int):Nat ->Nat ->Int
 | 0,_=>0
 | k+1,n=>cv a b k n+if k<=n then a.getD k 0*b.getD (n - k) 0 else 0
structure IsPart (p:Int)(one other q r:List Int):Prop where
 qs:QP p q
 rs:QP p r
 len:r.length<other.length
 ql:q.length<=one.length
 eq: ∀n,one.getD n 0 % p=(cv q other q.length n+r.getD n 0) % p
def Bj {x:α}(h:l.getLast? =some x):fE l (-1)=some x:=by
 have hl:0<l.length:=by
  cases l with
  | nil=>simp at h
  | cons a r=>simp
 unfold fE Az;rw[ak ∅,am ∅,Option.bind_some];rw[List.getLast?_eq_getElem?] at h;rw[show(-1+(l.length:Int)).toNat=l.length - 1 by lia];show h
end WQ
namespace L2
open PySem PySem.Spec PyProof.Rows
theorem wL: ∀ {ss:cA Str} {us:cA c5},bW (ss.map V.str) us -> ∃l:cA (Str×Tok),us=strValues l /\ l.map (·.1)=ss
 | [],_,h=>by cases h;show#[[],rfl,rfl]
 | x ::r,_,h=>by
  cases h with
  | cons h1 h2=>let⟨t,rfl⟩:=h1;let⟨l,rfl,e⟩:=wL h2;show#[(x,t)::l,rfl,by rw[aT,e]]
def Iw (K:Xu):V ->cA V ->Hp ->VK ->Prop:=λx vs H Q=>eh λ(jo:Str) (b:fM) (ss:cA Str)=>k9 (x= .str jo) (vs= [.ref b]) (gY K H b (ss.map V.str)) (Builtin.Str.tooLong (ss.toArray.foldl (· + ·.length+jo.length) 0)=false) ((Builtin.Str.glued jo ss).length<=sizeLine) (Q (.str (Builtin.Str.glued jo ss)) H)
def Nx:YV X "str.join" (Iw X.K):=by
 intro af s σ H x xs v us Q I rx rv h;let⟨jo,b,ss,rfl,rfl,hb,hl,hg,q⟩:=h;let⟨t,rfl⟩:=rx;let⟨u,rfl,ru⟩:=vals1 rv;cases ru;let⟨bI,r,p,hz⟩:=I.list hb;let⟨l,rfl,e⟩:=wL r;exact call_meets PySem.F.slot_str_join (typeIs_str _ _ _) PySem.F.entry_str_join (PySem.F.args_str_join_2 _ _) (meets_str_join_list jo t b l (by rw[e];show hl)) #[p.isList,?_];match l,e with
 | [],e=>have e:ss= []:=e.symm;subst e;show#[hg, .str _,H,I.tok _,#[_,rfl],q]
 | [y],e=>have e:ss= [y.1]:=e.symm;subst e;show#[.str y.1,H,I,#[y.2,rfl],q]
 | y::z::l',e=>subst e;show#[hg, .str _,H,I.tok _,#[_,rfl],q]
def PH:R2:=λx y H Q=>cc λi j=>fg (x= .str i) (y= .str j) (i.length+j.length<=sizeLine) (Q (.str (i++j)) H)
theorem Ej:gI X (binaryOp .Add) PH:=Ce
end L2
namespace WL
open PySem L2
section
variable {K:Xu}
def Ra (r:WM)(a:WE)(b:WA):WE:=λρ M q=>a ρ M λx M1=> ∃y,x=ws y /\ b ρ M1 λxs M2=>r x xs M2 q
instance {r:V ->cA V ->Hp ->VK ->Prop}{w:WM}{t:TE}{u:TA}{a:WE}{b:WA} [ir:IM K r w] [ia:IE K t a] [ib:IA K u b]:IE K (tBM K "str" r t u) (Ra w a b) where
 imp :=λρ M σ H q Q o h k=>ia.imp ρ M σ H _ _ o h λx M1 v H1 ⟨y,e,h1⟩ t1 m1 r1=>by subst e;cases r1.eq;show#[rfl,ib.imp ρ M1 σ H1 _ _ (o.mv t1 m1) h1 λz M2 u H2 h2 t2 m2 r2=>ir.imp (ws y) (.str y) z u M2 H2 _ _ m2 WR.v r2 h2 λz M3 v3 H3 h3 t3 m3 r3=>k z M3 v3 H3 h3 ((t1.trans t2).trans t3) m3 r3]
theorem cK.strs {H:Hp}: ∀ {ss:cA Str} {vs:cA V},cK K H (ss.map ws) vs ->vs=ss.map V.str
 | [],vs,h=>by simpa only[List.map_nil,cK] using h
 | n::r,vs,h=>by simp![aT,cK] at h;let⟨v,t,rfl,h1,h2⟩:=h;rw[cK.strs h2,h1.eq];rfl
def O7:WM:=λx ys M q=>eh λ(jo:Str) (b:fM) (ss:cA Str)=>k9 (x=ws jo) (ys= [wr b]) (M b=some (.lst (ss.map ws))) (Builtin.Str.tooLong (ss.toArray.foldl (· + ·.length+jo.length) 0)=false) ((Builtin.Str.glued jo ss).length<=sizeLine) (q (ws (Builtin.Str.glued jo ss)) M)
instance:IM K (Iw K) O7 where
 imp:=by rintro x v ys us M H q Q m r1 r2 ⟨jo,b,ss,rfl,rfl,hb,hl,hg,h⟩ k;cases r1.eq;let⟨u,rfl,r⟩:=r2.one;cases r.eq;let⟨vs,hv,rr⟩:=m b _ hb;cases rr.strs;show#[jo,b,ss,rfl,rfl,gY.of hv,hl,hg,k _ M _ H h (aY.refl H) m WR.v]
def O_:pX:=λx y M q=>cc λi j=>fg (x=ws i) (y=ws j) (i.length+j.length<=sizeLine) (q (ws (i++j)) M)
instance:IR K PH O_ where
 imp:=by rintro x y v u M H q Q m r1 r2 ⟨i,j,rfl,rfl,hz,h⟩ k;cases r1.eq;cases r2.eq;show#[i,j,rfl,rfl,hz,k _ M _ H h (aY.refl H) m WR.v]
def ZB:O_ (.v (.str i)) (.v (.str j)) M q=ci (i.length+j.length<=sizeLine) (q (ws (i++j)) M):=by apply propext;symm;rintro⟨_,_,h1,h2,h3,k⟩;cases h1;cases h2;show#[h3,k];rintro⟨h3,k⟩;show#[_,_,rfl,rfl,h3,k]
def yb (x:W)(k:Str ->Prop):Prop:= ∃y,x=ws y /\ k y
def aaL:yb (.v (.str y)) k=k y:=by apply propext;symm;rintro⟨_,h,k⟩;cases h;show k;intro h;show#[_,rfl,h]
def aaz:Ra r a b ρ M q=a ρ M λx M1=>yb x λy=>b ρ M1 λxs M2=>r (ws y) xs M2 q:=by unfold Ra yb;congr 1;funext x M1;apply propext;symm;rintro⟨y,rfl,h⟩;show#[y,rfl,h];rintro⟨y,rfl,h⟩;show#[y,rfl,h]
def aav:Q6 a ρ M q=a ρ M λx M1=>AD x λi=>ci (i.natAbs.log2<1920) (q (ws (toString i)) M1):=by unfold Q6 AD ci;congr 1;funext x M1;show propext #[λ⟨i,a,b,c⟩=>#[i,a,b,c],λ⟨i,a,b,c⟩=>#[i,a,b,c]]
def aau:Q5 a ρ M q=a ρ M λx M1=>yb x λy=>ci (y.length<=sizeLine) (q (ws y) M1):=by unfold Q5 yb ci;congr 1;funext x M1;show propext #[λ⟨i,a,b,c⟩=>#[i,a,b,c],λ⟨i,a,b,c⟩=>#[i,a,b,c]]
theorem aiA:wJ0 out ρ M q=ci (out.length<=sizeLine) (q (ws out) M):=rfl
def aiz:wJ1 a f out ρ M q=a ρ M λx M1=>yb x λy=>ci ((out++y).length<=sizeLine) (f (out++y) ρ M1 q):=by unfold wJ1 yb ci;congr 1;funext x M1;show propext #[λ⟨i,a,b,c⟩=>#[i,a,b,c],λ⟨i,a,b,c⟩=>#[i,a,b,c]]
end
end WL
namespace WQ
open PySem L2 WL WP
def DB {a b:Str}(h:a.cps.toList=b.cps.toList):a=b:=by cases a;cases b;congr 1;show Array.toList_inj.mp h
def yY (a b:Str):(a++b).cps.toList=a.cps.toList++b.cps.toList:=by change(a.cps++b.cps).toList=_;simp
def str_len (a:Str):a.length=a.cps.toList.length:=by change a.cps.size=_;simp
def gs (a b:Str):(a++b).length=a.length+b.length:=by rw[str_len,yY,aD, <- str_len, <- str_len]
def xp (jo:Str): ∀ (x:Str) (ss:cA Str),(Builtin.Str.glued jo (x::ss)).cps.toList=x.cps.toList++(ss.map λy=>jo.cps.toList++y.cps.toList).flatten:=by
 intro x ss;unfold Builtin.Str.glued;change(ss.foldl (λfV p=>fV++jo.cps++p.cps) x.cps).toList=_;generalize x.cps=a;induction ss generalizing a with
 | nil=>simp
 | cons y ss ih=>rw[List.foldl_cons,ih,aT,List.flatten_cons];simp
theorem xo (jo:Str):Builtin.Str.glued jo []=Str.empty:=rfl
theorem px (jo:Str): ∀ (ss:cA Str),(∀x∈ss,x.length<=c) ->(Builtin.Str.glued jo ss).length<=ss.length*(c+jo.length)
 | [],_=>by rw[xo];show dc _
 | x :: ss,h=>by
  rw[str_len,xp,aD, <- str_len];have h1:=h x (by simp);have h2:((ss.map λy=>jo.cps.toList++y.cps.toList).flatten).length<=ss.length*(c+jo.length):=by
   have: ∀l:cA Str,(∀y∈l,y.length<=c) ->((l.map λy=>jo.cps.toList++y.cps.toList).flatten).length<=l.length*(c+jo.length):=by
    intro l hl;induction l with
    | nil=>simp
    | cons y l ih=>rw[aT,List.flatten_cons,aD,aD, <- str_len, <- str_len,aQ,Nat.succ_mul];have:=hl y (by simp);have:=ih λz hz=>hl z (by simp[hz]);lia
   show this ss λy hy=>h y (by simp[hy])
  rw[aQ,Nat.succ_mul];lia
def VN (jo:Str)(ss:cA Str)(h: ∀x∈ss,x.length<=c)(hz:ss.length*(c+jo.length) <=sizeLine):Builtin.Str.tooLong (ss.toArray.foldl (· + ·.length+jo.length) 0)=false:=by
 have: ∀ (l:cA Str) (n:Nat),(∀y∈l,y.length<=c) ->l.foldl (λ(a:Nat) (y:Str)=>a+y.length+jo.length) n<=n+l.length*(c+jo.length):=by
  intro l;induction l with
  | nil=>intro n _;simp
  | cons y l ih=>intro n hl;rw[List.foldl_cons,aQ,Nat.succ_mul];have h1:=hl y (by simp);have h2:=ih (n+y.length+jo.length) λz hz=>hl z (by simp[hz]);lia
 have h1:=this ss 0 h;unfold Builtin.Str.tooLong;rw[decide_eq_false_iff_not,List.foldl_toArray];lia
theorem S2 (hb:M b=some (.lst (ss.map ws)))(h: ∀x∈ss,x.length<=c)(hz:ss.length*(c+jo.length) <=sizeLine)(k:q (ws (Builtin.Str.glued jo ss)) M):O7 (ws jo) [wr b] M q:=#[jo,b,ss,rfl,rfl,hb,VN jo ss h hz,aw (px jo ss h) hz,k]
def HX (s:String):(Str.ofString s).length=s.toList.length:=by rw[Str.ofString_eq_toList];change((s.toList.map Char.toNat).toArray).size=_;simp
def Np {i:Int}(h:i.natAbs<10 ^ 60):(Str.ofString (toString i)).length<=61:=by
 rw[HX];have hd: ∀n:Nat,n<10 ^ 60 ->(Nat.repr n).toList.length<=60:=λn hn=>by rw[Nat.repr_eq_ofList_toDigits,String.toList_ofList];show(Nat.length_toDigits_le_iff ⋯ ⋯).mpr hn
 cases i with
 | ofNat n=>change(Nat.repr n).toList.length<=61;have:=hd n h;lia
 | negSucc n=>
  change("-" ++Nat.repr (n+1)).toList.length<=61;rw[String.toList_append,aD];have:=hd (n+1) h;have e:("-" :String).toList.length=1:=⋯
  lia
def No {i:Int}(h:i.natAbs<10 ^ 60):i.natAbs.log2<1920:=by by_cases h0:i.natAbs=0;rw[h0];decide;rw[Nat.log2_lt h0];show be h (by decide+kernel)
theorem QF (x:Str):Str.empty++x=x:=DB (by rw[yY];rfl)
theorem ce (h:n<=5000):n<=sizeLine:=aw h (by rw[sizeLine_eq];decide)
def cs (n r:Int)(l:Pt):Int:=((l.filter λz=>decide (z.1 % n=r)).map (·.2)).sum
end WQ
namespace L2
open PySem PySem.Spec PyProof.Rows
def lI {K:Xu}(hK:X.K=K)(hl:PE X l tl):PI X tg l (JT K tl):=by subst hK;show tL hl
def oO {K:Xu}(hK:X.K=K)(hl:PE X l tl):PI X tg l (Td K tl):=by subst hK;show qj hl
def Ec {K:Xu}(hK:X.K=K)(hl:PE X l tl):PI X tg l (Te K tl):=by subst hK;show RT hl
end L2
namespace WL
open PySem L2
def ez (hK:X.K=K):eY X (.builtin "len") (RL K):=by subst hK;show GU
end WL
namespace WQ
open PySem L2 WL WP
abbrev Cf:=Nat ->Int
def _F:Nat ->Cf ->Cf ->Int
 | 0,f,g=>f 0*g 0
 | n+1,f,g=>f 0*g (n+1)+_F n (λi=>f (i+1)) g
def co (l:cA Int):Cf:=λi=>l.getD i 0
def Mult (p:Int)(a g:Cf):Prop:=cc λ(E:Cf) (N:Nat)=>(∀i,N<=i ->E i % p=0) /\ ∀n,a n % p=_F n E g % p
def xN (p:Int)(a g h:Cf):Prop:=eh λ(A B:Cf) (N:Nat)=>(∀i,N<=i ->A i % p=0 /\ B i % p=0) /\ ∀n,a n % p=(_F n A g+_F n B h) % p
def FV (p:Int)(a:Rd)(v:Int):Prop:=cc λlo hi=>cW (YX (Po a) lo) (YY (Po a) hi) (v=fwv p a lo hi)
open Classical in
noncomputable def fv (p:Int) (a:Rd):Int:=if h: ∃v,FV p a v then h.choose else 0
def names:cA Str:= ["on","back","up","down"]
def ZJ (p:Int)(s:Str):Rd:=if s= "on" then(1,[]) else if s= "back" then(-1,[]) else if s= "up" then(0,[(0,1)]) else(0,[(0,p - 1)])
end WQ
namespace L2
open PySem
def uy (hK:X.K=K):gI X (compareOp .In) (Wn K false):=by subst hK;show FZ
def fN (hK:X.K=K):eY X (.builtin "isinstance") (RO K):=by subst hK;show KZ
end L2
namespace WQ
open PySem L2 WL WP
def pairsOf (p:Int)(z:Int×Int):Pt:=if z.2<=p - z.2 then List.replicate z.2.toNat (z.1,1) else List.replicate (p - z.2).toNat (z.1, -1)
def _T:Int ->Pt ->Int
 | _,[]=>0
 | here,z::r=>YN (here - z.1)+_T z.1 r
end WQ
namespace L2
open PySem PySem.Spec PyProof.Rows
def Inv.freeze {σ:St}(I:Inv X af σ H s)(e:H d=some v)(ho:s.heap.get? d=some o)(n1: ∀xs,HO.tup xs≠v:=by intro _ q;cases q)(n2: ∀a b,HO.lc a b≠v:=by intro _ _ q;cases q)(n3: ∀a,HO.own a≠v:=by intro _ q;cases q)(n4: ∀a,HO.Mq a≠v:=by intro _ q;cases q): Inv X af σ (cf H d (.lc o v)) s:=by
 have ne: ∀ {b u},H b=some u ->u≠v ->b≠d:=λ{b u} h n z=>by subst z;rw[e] at h;show n (bp h).symm
 have Nt: ∀ {b},H b=none ->b≠d:=λ{b} h z=>by subst z;rw[e] at h;cases h
 exact#[I.ok,I.os,I.bare,#[I.base.keep,I.base.slot,λb u h1 h2 h3=> ?_,I.base.there,λb xs h=> ?_,λb o' u h=> ?_,λb ps h=> ?_],I.loc,I.cell,?_,λx c h=> ?_,λp hp=> ?_,λb u h=> ?_,I.len];have z:=I.base.free b u h1 h2 h3;rw[bL (Nt z)];show z;have z:=I.base.nF b xs h;rw[bL (ne z (n1 _))];show z;have z:=I.base.lX b o' u h;rw[bL (ne z (n2 _ _))];show z;let⟨more,z⟩:=I.base.ol b ps h;show#[more,by rw[bL (ne z (n4 _))];show z];rw[bL (Nt I.free)];show I.free;rw[bL (Nt (I.gf x c h))];show I.gf x c h;let⟨a1,a2,a3⟩:=I.pin p hp;show#[a1,by rw[bL (Nt a2)];show a2,a3];have ow: ∀c,H c=some (.own b) ->cf H d (.lc o v) c=some (.own b):=λc r=>by rw[bL (ne r (n3 _))];show r
 have tu: ∀c xs,H c=some (.tup xs) ->cf H d (.lc o v) c=some (.tup xs):=λc xs r=>by rw[bL (ne r (n1 _))];show r
 by_cases hb:b=d;subst hb;rw[bM] at h;cases h;show#[ho,(I.cH b _ e).sB (λ_ _ _ h=>h) ow tu];rw[bL hb] at h;show(I.cH b u h).sB (λ_ _ _ h=>h) ow tu
def _L (d:fM)(o:Obj)(kvs:cA (bX×V)):It:=#[λi H=>i<kvs.length /\ H d=some (.lc o (.dK kvs)),λi H x H'=>H'=H /\ ∃kv,kvs[i]? =some kv /\ x=kv.2,λi H=>kvs.length<=i /\ H d=some (.lc o (.dK kvs))]
theorem Qd: ∀ {kvs:cA (bX×V)} {vs:cA (bX×c5)} {i:Nat} {q:bX×c5},KV kvs vs ->vs[i]? =some q -> ∃p,kvs[i]? =some p /\ RelV p.2 q.2
 | _,_,0,_, .cons ⟨_,r⟩ _,e=>by cases e;show#[_,rfl,r]
 | _,_,i+1,q, .cons _ t,e=>by have e':_=some q:=e;rw[List.getElem?_cons_succ] at e' ⊢;show Qd t e'
def yV {σ:St}(I:Inv X af σ H s)(ho:o.data= .dict es ep)(e:H d=some (.lc o (.dK kvs))): ∃vs,KV kvs vs /\ s.heap.DictAt (cJ X.prog X.w) d vs ep:=by
 let⟨h0,_,_,vs,gc,o',_y,_z,h1,h2,h3,h4⟩:=(show dX X.prog X.w H s.heap d (.lc o (.dK kvs)) from I.cH d _ e)
 rw[h0] at h1;cases h1;rw[ho] at h3;cases h3;show#[vs,gc,o,es,h0,h2,ho,h4]
def FD {P:Program}{w:World}{K:Xu}{tg:Expr}{d it:fM}{o:Obj}{kvs:cA (bX×V)}{es:gA DictEntry}{ep:Nat}(ho:o.data= .dict es ep): ze P w K tg (_L d o kvs) [it] it (λi h=>h.IsValIter it d i kvs.length ep) where
 mem:=by simp
 obj:=λi h st b hb=>by have e:b=it:= ⇑hb;subst e;let⟨o,e,c,d⟩:=st;show#[o,e,λv z=>by rw[d] at z;cases z]
 keep:=λi h h' st k=>st.at λo e=>k it (by simp) o e
 item:=by
  intro X hP hw hK hc i af s σ H E I hf st hg;subst hP hw hK;let⟨hi,hH⟩:=hg;let⟨vs,gc,hd⟩:=yV I ho hH;have hl:=gc.length;rw[hl] at st hi;let⟨f0,f1,f2,f3,f4,f5⟩:=hf it (by simp);let⟨⟨k,x⟩,hx⟩: ∃q,vs[i]? =some q:=#[vs[i],by simp[hi]]
  let⟨p,hp,rp⟩:=Qd gc hx;exact wpAny_pyNext_values_item st hd hx λh' CC gD=> ?_;have I1:Inv X af σ H {s with heap:=h'}:=I.turned (t':=s.toks) (λb o hb e=>(gD.2 b hb).trans e) f0 f1 f3 f4 f5;let⟨oo,e,c,dd⟩:=id CC;rw[<- hl] at CC;show#[x,rfl,xn (s:= {s with heap:=h'}) e c dd ⋯ #[p.2,H,I1,rp,#[rfl,p,hp,rfl],CC,λb hb=>(hf b hb).1]]
 done:=by intro X hP hw hK hc i af s σ H E I hf st hg;subst hP hw hK;let⟨hi,hH⟩:=hg;let⟨vs,gc,hd⟩:=yV I ho hH;have hl:=gc.length;rw[hl] at st hi;let⟨f0,f1,f2,f3,f4,f5⟩:=hf it (by simp);show wpAny_pyNext_values_end (I.ok.hd hc) st hd (by simp;omega) λh' eb=>#[rfl,I.turned (t':=s.toks) (λb o hb e=>eb b o hb e) f0 f1 f3 f4 f5]
 self:=λ_ _ _ _ _ st h=>wpAny_pyIter_valiter st h
section
variable {X:Cx}{tg o:Expr}{td:TE}{dD dE:Pos}
def Qn (td:TE):TI:=λσ H R=>td σ H λx H1=>cc λd kvs=>cW (x= .ref d) (H1 d=some (.dK kvs)) (∀o,R (_L d o kvs) (cf H1 d (.lc o (.dK kvs))))
def ML (ho:PE X o td)(AJ:attributeBase o "values" X.env (eval o X.env)=eval o X.env:=by rfl)(AG:(dD.endLine==dE.line)=true:=by rfl):PI X tg (.Call (.Attribute o "values" dD) [] [] dE) (Qn td):=by
 intro af s σ H R I h;exact wpAny_Call_method0_late AJ AG (cQ (ho af s σ H _ I h) λv s1 ⟨x,H1,I1,r1,d,kvs,ex,hd,q1⟩=> ?_);subst ex;obtain rfl:v=Value.ref d:=r1;let⟨t1,t2,sys⟩:=Cz I1 (.inl #[kvs, .inl hd]);exact#["dict","dict.values",PySem.F.plainAttrs_dict,PySem.F.slot_dict_values,PySem.F.type_dict_values,t1,t2,Calls.callWith_builtin rfl (PySem.evalArgs_none ?_)];let⟨z,Th,vs,gc,dd⟩:=pJ I1.cH (.inl hd);exact call_meetsIn PySem.F.slot_dict_values dd.typeIs PySem.F.entry_dict_values (PySem.F.args_dict_values_1 _) (meets_dict_values (cJ X.prog X.w) d Th) #[#[vs,dd],?_];let⟨ob,es,ep,g1,g2,g3,g4⟩:=dd;have da:s1.heap.DictAt (cJ X.prog X.w) d vs ep:=#[ob,es,g1,g2,g3,g4]
 exact wpAny_pyIter_values (d:=d) (kvs:=vs) (ep:=ep) (knd:=cJ X.prog X.w) #[_,aW _ rfl,rfl,rfl] (da.push _) ?_;have I2:=I1.freeze hd g1;exact#[_,[_],_,_L d ob kvs,_,rfl,I2.kept (t':=s1.toks) λb o e=>av _ (av _ e),FD g3,?_,λb hb=> ?_,q1 ob];rw[gc.length];show#[_,aW _ rfl,rfl,rfl];have I3:Inv X af σ (cf H1 d (.lc ob (.dK kvs))) {s1 with heap:=s1.heap.push {cls:= .type "dict_values",data:= .fields #[.ref d]}}:=I2.kept (t':=s1.toks) λb o e=>av _ e;have e:=aV.mp hb;subst e;show I3.CI (aq _) (I3.cH.fresh (aq _))
end
end L2
namespace WL
open PySem L2
variable {K:Xu}
def JJ (a:WE):WI:=λρ M q=>a ρ M λx M1=>cc λd kvs=>cW (x=wr d) (M1 d=some (.dK kvs)) (∀o ks,q (kvs.map (·.2)) (λM'=>M' d=some (.fz o ks kvs)) (um M1 d (.fz o ks kvs)))
theorem Qe: ∀ {H:Hp} {kvs:cA (bX×W)} {vs:cA (bX×V)} {i:Nat} {q:bX×V},KR K H kvs vs ->vs[i]? =some q -> ∃p,kvs[i]? =some p /\ WR K H p.2 q.2
 | _,_,_,0,_, .cons ⟨_,r⟩ _,e=>by cases e;show#[_,rfl,r]
 | _,_,_,i+1,q, .cons _ t,e=>by have e':_=some q:=e;rw[List.getElem?_cons_succ] at e' ⊢;show Qe t e'
theorem Cv {H:Hp}: ∀ {kvs:cA (bX×W)} {vs:cA (bX×V)},KR K H kvs vs ->kvs.length=vs.length
 | _,_, .nil=>rfl
 | _,_, .cons _ t=>by rw[aQ,aQ,Cv t]
def Gu:C5 K H1 (_L d o ks) (kvs.map (·.2)) (λM'=>M' d=some (.fz o ks kvs)):=by intro i M H t m hM;let⟨e1,r1⟩:=m d _ hM;have hl:=Cv r1;rw[ag];exact#[λh=>#[by omega,e1],λh=>#[by omega,e1],λv H' hi ⟨e2,kv,hk,e3⟩=> ?_];subst e2 e3;let⟨p,hp,rp⟩:=Qe r1 hk;show#[aY.refl _,m,p.2,by rw[aL,hp];rfl,rp]
instance {t:TE}{a:WE} [ia:IE K t a]:II K (Qn t) (JJ a) where
 imp:=λρ M σ H q R o h k=>ia.imp ρ M σ H _ _ o h λx M1 v H1 ⟨d,kvs,ex,hd,h1⟩ t1 m1 r1=>by subst ex;let⟨ks,e,r⟩:=m1 d _ hd;exact#[d,ks,r1.eq,e,λob=>k _ _ _ _ _ (h1 ob ks) (t1.trans (lm e)) (m1.put (lm e) #[bM,KR.ts (lm e) r]) Gu]
def _b:JJ a ρ M q=a ρ M λx M1=>dU x λd=>fC (M1 d) λkvs=> ∀o ks,q (kvs.map (·.2)) (λM'=>M' d=some (.fz o ks kvs)) (um M1 d (.fz o ks kvs)):=by unfold JJ dU fC;congr 1;funext x M1;apply propext;symm;(· rintro⟨p,l,h1,h2,h⟩;show#[p,h1,l,h2,h]);(· rintro⟨p,h1,l,h2,h⟩;show#[p,l,h1,h2,h])
end WL
namespace WQ
open PySem L2 WL WP
def YB (n:Int):Pt ->Int ->Int
 | [],_=>0
 | z::r,k=>(if z.1 % n=k then z.2 else 0)+YB n r k
def Yr (F1:bD P w K mg base CX k f fd ps (fT K p1))(F2:bD P w K mg base CX k f fd ps (fT K p2))(h: ∀xs M q,p3 xs M q ->p1 xs M q \/ p2 xs M q):bD P w K mg base CX k f fd ps (fT K p3):=by exact#[λvs H Q E ⟨xs,M,q,r,m,h3,k⟩=> ?_,λA outer s H args us vs Q E hr e b v ⟨xs,M,q,r,m,h3,k⟩=> ?_];obtain h4 | h4:=h xs M q h3;show F1.len vs H Q E #[xs,M,q,r,m,h4,k];show F2.len vs H Q E #[xs,M,q,r,m,h4,k];obtain h4 | h4:=h xs M q h3;show F1.run A outer s H args us vs Q E hr e b v #[xs,M,q,r,m,h4,k];show F2.run A outer s H args us vs Q E hr e b v #[xs,M,q,r,m,h4,k]
def fl (p:Int)(m:Nat)(f:Pt):cA Int:=(List.range m).map λ(k:Nat)=>YB m f k % p
end WQ
namespace L2
open PySem PySem.Spec PyProof.Rows
theorem im {p pos:Pos}{st:Stmt}(hP:gU (gJ X.prog X.w) X E)(C:hW X.K X.mg x ps st f fd)(F:bD X.prog X.w X.K X.mg X.base (gJ X.prog X.w) k f fd ps sp)(hr:d7 k X.A)(hg:Gl X x)(ha:PA X (e::es) t)(n_:(x==("__debug__" :Str))=false:=by decide)(he:starEach (e::es) X.env=(false,eval e X.env)::starEach es X.env:=by rfl)(no:(backTo pos (starEach es X.env)).any (·.1)=false:=by rfl): PE X (.Call (.Name x p) (e::es) [] pos) (wQ sp [] E t):=Ef F hr hg C.at_ C.fn.kp C.bd .nil hP ha n_ he no
end L2
namespace WQ
open PySem L2 WL WP
def aif (s x:Int):Int:=if s=0 then x else x % s
def hI (s x:Int):Int:=if s=0 then 0 else x / s
def SE:cA Int ->Int
 | []=>0
 | a::r=>r.foldl (λm x=>if x<m then x else m) a
def plc (l:Pt):cA Int:=l.map (·.1)
end WQ
namespace L2
open PySem
structure Us (K:PySem.W.Frag)(mg:Str ->Option Value)(x qual:Str)(ps:List Str)(st:Stmt)(C f:Addr)(fd:FuncData):Prop where
 at_:mg x=some (.ref C)
 mkr:Mk K C f
 cl:wE K C
 fn:Bp K "__init__" qual st f fd
 bd:Binds K fd ps []
theorem iK {p pos:Pos}(M:Us X.K X.mg x qual ps st C f fd)(F:bD X.prog X.w X.K X.mg X.base fh k f fd ps sp)(hr:d7 (k+1) X.A)(hg:Gl X x)(ha:PA X (e::es) t)(n_:(x==("__debug__" :Str))=false:=by decide)(he:starEach (e::es) X.env=(false,eval e X.env)::starEach es X.env:=by rfl)(no:(backTo pos (starEach es X.env)).any (·.1)=false:=by rfl): PE X (.Call (.Name x p) (e::es) [] pos) (HM C sp [] E0 t):=MN M.mkr F hr hg M.at_ M.bd .nil Eg ha n_ he no
end L2
namespace WL
open PySem L2
section
variable {K:Xu}
theorem Aw {H:Hp}{f:Str}{x:W}: ∀ {fs:cA (Str×W)} {ks:cA (Str×V)},KR K H fs ks ->fs.lookup f=Option.some x -> ∃v,ks.lookup f=Option.some v /\ WR K H x v
 | _,_, .nil,h=>by cases h
 | (g,y)::fs,(g',v)::ks, .cons ⟨e,r⟩ t,h=>by
  cases (show g=g' from e);rw[List.lookup_cons] at h ⊢;cases hb:f==g with
  | true=>rw[hb] at h;cases h;show#[v,rfl,r]
  | false=>rw[hb] at h;show Aw t h
def gV (f:Str)(v:W):cA (Str×W) ->cA (Str×W)
 | []=> [(f,v)]
 | (g,x)::r=>if g=f then(g,v)::r else(g,x)::gV f v r
theorem EA {H:Hp}{f:Str}{x:W}{v:V}(rx:WR K H x v): ∀ {fs:cA (Str×W)} {ks:cA (Str×V)},KR K H fs ks ->KR K H (gV f x fs) (L2.jz f v ks)
 | _,_, .nil=> .cons #[rfl,rx] .nil
 | (g,y)::fs,(g',u)::ks, .cons ⟨e,r⟩ t=>by cases (show g=g' from e);unfold gV L2.jz;split;show .cons #[rfl,rx] t;show .cons #[rfl,r] (EA rx t)
theorem EB {H:Hp}: ∀ {kvs:cA (Str×W)} {vs:cA (Str×V)},KR K H kvs vs ->kvs.length=vs.length
 | _,_, .nil=>rfl
 | _,_, .cons _ t=>by rw[aQ,aQ,EB t]
def Mf (K:Xu)(a:WE)(f:Str):WE:=λρ M q=>a ρ M λx M1=>tq λp C dx fs v=>k9 (x=wr p) (M1 p=some (.ins C dx fs)) (wE K C) (dZ K C f) (fs.lookup f=some v) (q v M1)
instance {t:TE}{a:WE}{f:Str} [ia:IE K t a]:IE K (Rv K t f) (Mf K a f) where
 imp:=λρ M σ H q Q o h k=>ia.imp ρ M σ H _ _ o h λx M1 v H1 ⟨p,C,dx,fs,y,ex,hp,hc,hn,hl,h1⟩ t1 m1 r1=>by subst ex;let⟨ks,e,r⟩:=m1 p _ hp;let⟨u,hu,ru⟩:=Aw r hl;show#[p,C,dx,ks,u,r1.eq,e,hc,hn,hu,k _ _ _ _ h1 t1 m1 ru]
def DN (K:Xu)(a b:WE)(f:Str):WS:=λD ρ M=>b ρ M λy M1=>a ρ M1 λx M2=>fQ λp C dx fs=>k9 (x=wr p) (M2 p=some (.ins C dx fs)) (wE K C) (dZ K C f) (fs.length<1000) (D.nx ρ (um M2 p (.ins C dx (gV f y fs))))
instance {t u:TE}{a b:WE}{f:Str} [ia:IE K t a] [ib:IE K u b]:IS K (Wc K t u f) (DN K a b f) where
 imp:=λρ M σ H D' D o h e=>ib.imp ρ M σ H _ _ o h λy M1 v1 H1 h1 t1 m1 r1=>ia.imp ρ M1 σ H1 _ _ (o.mv t1 m1) h1 λx M2 v2 H2 ⟨p,C,dx,fs,ex,hp,hc,hn,hl,h2⟩ t2 m2 r2=>by subst ex;let⟨ks,ek,r⟩:=m2 p _ hp;have ts:=Rp (u:= .ins C dx (jz f v1 ks)) ek;exact#[p,C,dx,ks,r2.eq,ek,hc,hn,by rw[<- EB r];show hl,e.nx ρ _ σ _ h2 ((t1.trans t2).trans ts) (o.mv ((t1.trans t2).trans ts) (m2.put ts #[_,bM,KR.ts ts (EA (r1.ts t2) r)]))]
def O5 (C:fM)(p:eZ)(a:WA):WE:=λρ M q=>a ρ M λxs M1=> ∀x dx,M1 x=none ->M1 dx=none ->dx≠x ->p (wr x::xs) (um M1 x (.ins C dx [])) λv M2=>v=wn /\ q (wr x) M2
instance {C:fM}{p:eZ}{E:XK}{t:TA}{a:WA} [ia:IA K t a]:IE K (HM C (fT K p) [] E t) (O5 C p a) where
 imp:=λρ M σ H q Q o h k=>ia.imp ρ M σ H _ _ o h λxs M1 vs H1 h1 t1 m1 r1=>λx dx hx CF ku=>by
  have XC:cf H1 dx (.own x) x=none:=by rw[bL (cX ku)];show hx
  have UC:aY H1 (cf H1 dx (.own x)):=L2.fF.ts (bO CF);have LI:aY (cf H1 dx (.own x)) (cf (cf H1 dx (.own x)) x (.ins C dx [])):=L2.fF.ts (bO XC);exact#[wr x::xs,um M1 x (.ins C dx []),λv M2=>v=wn /\ q (wr x) M2,cK.cons WR.v (by rw[c4];show r1.ts (UC.trans LI)),(m1.new CF).put LI #[[],bM, .nil],h1 x dx (m1.fresh hx) (m1.fresh CF) ku,?_];rintro y M' u H' ⟨rfl,hq⟩ ts m' r';show#[r'.eq,k _ _ _ _ hq (t1.trans ((UC.trans LI).trans ts)) m' WR.v]
def lT (o:eM MO)(k:fM ->fM ->cA (Str×W) ->Prop):Prop:=eh λC dx fs=>o=some (.ins C dx fs) /\ k C dx fs
def abD:lT (some (.ins C dx fs)) k=k C dx fs:=by apply propext;symm;rintro⟨_,_,_,e,h⟩;cases e;show h;intro h;show#[_,_,_,rfl,h]
def Q7:Mf K a f ρ M q=a ρ M λx M1=>dU x λp=>lT (M1 p) λC dx fs=>ci (wE K C) (ci (dZ K C f) (iL (fs.lookup f) λv=>q v M1)):=by unfold Mf dU lT ci iL;congr 1;funext x M1;apply propext;symm;rintro⟨p,C,dx,fs,v,e1,e2,e3,e4,e5,h⟩;show#[p,e1,C,dx,fs,e2,e3,e4,v,e5,h];rintro⟨p,e1,C,dx,fs,e2,e3,e4,v,e5,h⟩;show#[p,C,dx,fs,v,e1,e2,e3,e4,e5,h]
def Mx:DN K a b f D ρ M=b ρ M λy M1=>a ρ M1 λx M2=>dU x λp=>lT (M2 p) λC dx fs=>ci (wE K C) (ci (dZ K C f) (ci (fs.length<1000) (D.nx ρ (um M2 p (.ins C dx (gV f y fs)))))):=by unfold DN dU lT ci;congr 1;funext y M1;congr 1;funext x M2;apply propext;symm;rintro⟨p,C,dx,fs,e1,e2,e3,e4,e5,h⟩;show#[p,e1,C,dx,fs,e2,e3,e4,e5,h];rintro⟨p,e1,C,dx,fs,e2,e3,e4,e5,h⟩;show#[p,C,dx,fs,e1,e2,e3,e4,e5,h]
theorem jP:O5 C p a ρ M q=a ρ M λxs M1=> ∀x dx,M1 x=none ->M1 dx=none ->dx≠x ->mF p (wr x::xs) (um M1 x (.ins C dx [])) λv M2=>v=wn /\ q (wr x) M2:=rfl
end
end WL
namespace L2
open PySem
nonrec def eK (s:Stmt)(j:Nat):Stmt:=match s with
 | .ClassDef _ _ _ b _ _ _ _ _ _ _=>b.getD j (.Pass #[0,0,0,0])
 | _=> .Pass #[0,0,0,0]
end L2
namespace L2
open PySem PySem.Spec PyProof.Rows
def Inv.aaJ {σ:St}(I:Inv X af σ H s)(e:H d=some (.lc o (.dK kvs)))(h0: ∀o u,X.H₀ d≠some (.lc o u)): Inv X af σ (cf H d (.dK kvs)) s:=by
 have ne: ∀ {b u},H b=some u ->u≠ .lc o (.dK kvs) ->b≠d:=λ{b u} h n z=>by subst z;rw[e] at h;show n (bp h).symm
 have Nt: ∀ {b},H b=none ->b≠d:=λ{b} h z=>by subst z;rw[e] at h;cases h
 exact#[I.ok,I.os,I.bare,#[I.base.keep,I.base.slot,λb u h1 h2 h3=> ?_,I.base.there,λb xs h=> ?_,λb o' u h=> ?_,λb ps h=> ?_],I.loc,I.cell,?_,λx c h=> ?_,λp hp=> ?_,λb u h=> ?_,I.len];have z:=I.base.free b u h1 h2 h3;rw[bL (Nt z)];show z;have z:=I.base.nF b xs h;rw[bL (ne z (λq=>nomatch q))];show z;have z:=I.base.lX b o' u h;have nb:b≠d:=λz=>h0 o' u (z▸h);rw[bL nb];show z;let⟨more,z⟩:=I.base.ol b ps h;show#[more,by rw[bL (ne z (λq=>nomatch q))];show z];rw[bL (Nt I.free)];show I.free;rw[bL (Nt (I.gf x c h))];show I.gf x c h;let⟨a1,a2,a3⟩:=I.pin p hp;show#[a1,by rw[bL (Nt a2)];show a2,a3];have ow: ∀c,H c=some (.own b) ->cf H d (.dK kvs) c=some (.own b):=λc r=>by rw[bL (ne r (λq=>nomatch q))];show r
 have tu: ∀c xs,H c=some (.tup xs) ->cf H d (.dK kvs) c=some (.tup xs):=λc xs r=>by rw[bL (ne r (λq=>nomatch q))];show r
 by_cases hb:b=d;subst hb;rw[bM] at h;cases h;have z:=(I.cH b _ e).sB (H':=cf H b (.dK kvs)) (h':=s.heap) (λ_ _ _ h=>h) ow tu;show z.2;rw[bL hb] at h;show(I.cH b u h).sB (λ_ _ _ h=>h) ow tu
end L2
namespace WL
open PySem L2
variable {K:Xu}
theorem JA: ∀ {H:Hp} {kvs:cA (bX×W)} {vs:cA (bX×V)} {i:Nat} {q:bX×V},KR K H kvs vs ->vs[i]? =some q -> ∃p,cW (kvs[i]? =some p) (p.1=q.1) (WR K H p.2 q.2)
 | _,_,_,0,_, .cons ⟨e0,r⟩ _,e=>by cases e;show#[_,rfl,e0,r]
 | _,_,_,i+1,q, .cons _ t,e=>by have e':_=some q:=e;rw[List.getElem?_cons_succ] at e' ⊢;show JA t e'
theorem Rq (h:H a=some (.lc o (.dK xs))):aY H (cf H a u):=Dq h (λ_ z=>nomatch z) λ_ _ z=>nomatch z
end WL
set_option maxHeartbeats 4000000
namespace WL
open PySem L2
def We:BZ a b D ρ M=a ρ M λx M1=>b ρ M1 λy M2=>dU x λp=>iX y λk=>fC (M2 p) λkvs=>ci ((eD kvs k).isSome=true) (D.nx ρ (um M2 p (.dK (jK kvs k)))):=by unfold BZ dU iX fC ci;congr 1;funext x M1;congr 1;funext y M2;apply propext;symm;rintro⟨p,kvs,k,e1,e2,e3,e4,h⟩;show#[p,e1,k,e3,kvs,e2,e4,h];rintro⟨p,e1,k,e3,kvs,e2,e4,h⟩;show#[p,kvs,k,e1,e2,e3,e4,h]
def zD (h:M x=some (.lst l)):VL M (.v (.ref x)) k=k (!l.isEmpty):=by apply propext;symm;rintro⟨b,⟨l',h1,h2⟩ | ⟨l',h1,_⟩,z⟩;rw[h] at h1;cases h1;rw[h2] at z;show z;rw[h] at h1;cases h1;intro z;show#[_, .inl #[l,h,rfl],z]
end WL
namespace WQ
open PySem L2 WL WP
abbrev YS:=Int×Int×Int
def putL (s:Int)(sts:cA Pt)(tl:cA YS):Pt:=tl.flatMap λt=>(sts.getD t.1.toNat []).map λz=>(z.1+t.2.1*s,z.2*t.2.2)
def jz (s x:Int)(sts:cA Pt)(t:YS):Int:=fw (sts.getD t.1.toNat []) (x - t.2.1*s)*t.2.2
end WQ
namespace L2
open PySem
def Df:Nat ->(cA c5 ->Prop) ->Prop
 | 0,p=>p []
 | n+1,p=> ∀v,Df n λus=>p (v::us)
theorem Df.to: ∀ {n:Nat} {p:cA c5 ->Prop},Df n p -> ∀us,us.length=n ->p us
 | 0,_,h,[],_=>h
 | _+1,_,h,v::us,e=>Df.to (h v) us (Nat.succ.inj e)
theorem bP {kV jj pm cdv ct:c5}(X:K.In h)(G:h.Ns mainGlobals mg)(a:W.nsIn K mainGlobals x=some (some (.ref f)))(l:K.lookup f=some #[oc,od, .func (W.fnOf x x (eX st) (dA st) (aU st) .none kV jj pm an cdv ct),Cd])(c:W.codeIn K cdv x=true)(k:W.keepIn K (.ref f)=true)(b: ∀ (kV jj pm:c5) (an:eM fM) (cdv ct:c5),Df ps.length λus=>bindArgs (W.fnOf x x (eX st) (dA st) (aU st) .none kV jj pm an cdv ct) #[us,[]]=pure (ps.zip us):=by(repeat intro _);rfl): hW K mg x ps st f (W.fnOf x x (eX st) (dA st) (aU st) .none kV jj pm an cdv ct):=#[W.mg_of X G a,qR l c k,(qR (st:=st) l c k).binds λkV jj pm an cdv ct us e=>(b kV jj pm an cdv ct).to us e]
theorem KS {kV jj pm cdv ct:c5}(X:K.In h)(G:h.Ns mainGlobals mg)(a:W.nsIn K mainGlobals x=some (some (.ref C)))(g:W.findIn K (.ref C) "__init__" =some (some (.ref f)))(l:K.lookup f=some #[oc,od, .func (W.fnOf "__init__" q (eX st) (dA st) (aU st) .none kV jj pm an cdv ct),Cd])(c:W.codeIn K cdv q=true)(k:W.keepIn K (.ref f)=true)(h1:W.makesIn K C=true)(h2:W.isFn K (.ref f)=true)(h3:W.keepIn K (.ref C)=true)(h4:W.plainGet K C Str.empty=true)(h5:W.hasDictIn K C=true)(h6:W.plainOver K C=true)(h7:W.findIn K (.ref C) "__setattr__" =some (some (.builtin "object.__setattr__")))(b: ∀ (kV jj pm:c5) (an:eM fM) (cdv ct:c5),Df ps.length λus=>bindArgs (W.fnOf "__init__" q (eX st) (dA st) (aU st) .none kV jj pm an cdv ct) #[us,[]]=pure (ps.zip us):=by(repeat intro _);rfl): Us K mg x q ps st C f (W.fnOf "__init__" q (eX st) (dA st) (aU st) .none kV jj pm an cdv ct):=#[W.mg_of X G a,#[h1,g,h2,h3],#[h4,h5,h6,h7],qR l c k,(qR (st:=st) l c k).binds λkV jj pm an cdv ct us e=>(b kV jj pm an cdv ct).to us e]
theorem uM (_:Us K mg x q ps st C f fd)(a:Str)(e:W.findIn K (.ref C) a=some none):dZ K C a:=e
theorem U7 (a:W.nsIn K mainGlobals x=some (some (.ref C)))(e:W.excIn K C YC "ValueError.__new__" =true)(k1:W.clsIn K C=some cd)(k2:W.findIn K (.ref C) "__getattribute__" =some (some (.builtin "BaseException.__getattribute__")))(k3:W.findIn K (.ref C) "__getattr__" =some none)(k4:W.findIn K (.ref C) "__class__" =some (some (.builtin "object.__class__")))(k5:W.mroIn K C (.type "object")=some true)(k6:W.mroIn K C (.type "BaseException")=some true):lb K x C:=#[a,e,(by rw[k1];rfl),k2,k3,k4,k5,k6]
def SF {l:W.OpenLaw}(T:hW K mg "law" [p] st f fd)(hfa:mg "law" =some (.ref fa))(hb: ∀ (kV jj pm:c5) (an:eM fM) (cdv ct v:c5),bindArgs (W.fnOf "law" "law" (eX st) (dA st) (aU st) .none kV jj pm an cdv ct) #[[v],[]]=pure [(p,v)])(ok: ∀base,bD l.prog w K mg base fh kd f fd [p] (WQ.zO K)): ∃fd:FuncData,(∀ (s:dq) (v:c5),BindsTo s fd #[[v],[]] [(p,v)]) /\ ∀base:Heap,K.In base ->base.Ns mainGlobals mg ->bD l.prog w K mg base fh kd fa fd [p] (WQ.zO K):=by have e:=hfa.symm.trans T.at_;cases e;let⟨oc,od,kV,jj,pm,an,cdv,ct,Cd,rfl,lk,ES⟩:=T.fn.ex;show#[_,λs v=> .of_eq (hb kV jj pm an cdv ct v),λbase _ _=>ok base]
end L2
namespace WQ
open PySem L2 WL WP
def fam (s:Int)(b:Pt):Int ->Nat ->cA (Int ->Int)
 | _,0=> []
 | lo,n+1=>(λx=>look b (x - s*lo))::fam s b (lo+1) n
def cps (s:Int)(G:cA (Pt×Int×Nat)):cA (Int ->Int):=G.flatMap λg=>fam s g.1 g.2.1 g.2.2
def Of (q js:Pt):Pt:=js.flatMap λj=>tm j.2 (mv j.1 q)
def aaW (s Z c:Int):Nat:=if s=0 then(Z - c+1).toNat else(s - c).toNat
def fW (s:Int)(a:Pt):W:=if plc a= [] then wn else wi (SE ((plc a).map (aif s)))
def mz (s Z K c:Int)(q:Nat):Nat:=aaW s Z c*(K.toNat+2)+q
end WQ
namespace L2
open PySem
def bx (hK:X.K=K)(he:PE X e ta)(hb:attributeBase e f X.env (eval e X.env)=eval e X.env):PE X (.Attribute e f pos) (Rv K ta f):=by subst hK;show RV he hb
end L2
namespace L2
open PySem PySem.Spec PyProof.Rows
def DW:V ->cA V ->Hp ->VK ->Prop:=λx vs H Q=>eh λl xs y=> ∃i:Nat,k9 (x= .ref l) (vs= [.int i,y]) (H l=some (.lst xs)) (xs.length<sizeLine) (i<=xs.length) (Q .dG (cf H l (.lst (xs.take i++y::xs.drop i))))
def xa:YW X "list.insert" DW:=by
 intro af s σ H x vs v us Q I rx rv h;let⟨l,xs,y,i,rfl,rfl,hH,hz,hi,q⟩:=h;cases rx;let⟨u0,u,rfl,⟨tk,rfl⟩,ru⟩:=rv.two;let⟨z,bI,n,r,hl,e⟩:=I.Ar hH;have hf:Builtin.List.listFitsIndex (i:Int)=true:=by have hs:=sizeLine_eq;unfold Builtin.List.listFitsIndex;rw[cP,cV,cV];lia
 let⟨x,hx⟩: ∃x:Int,x=(i:Int):=#[_,rfl]
 rw[<- hx] at hf ⊢;exact call_meets F.slot_list_insert #[_,e,rfl] F.entry_list_insert (F.args_list_insert_3 _ _ _) (PySem.AutoSeq1.list_insert_list_int_val_1 l bI.toArray n x tk u (by simp[hf]) (by rw[aI];lia)) #[e,?_];exact#[.dG,_,I.Jr (its':=bI.take i++u::bI.drop i) hH e ?_ ((r.take i).append (.cons ru (r.drop i))) ?_,rfl,q];have hk:(if x<0 then(x+(bI.toArray.size:Int)).toNat else min x.toNat bI.toArray.size)=i:=by rw[ak ∅,aI];lia
 change(bI.toArray.extract 0 (if x<0 then(x+(bI.toArray.size:Int)).toNat else min x.toNat bI.toArray.size)).push u++bI.toArray.extract (if x<0 then(x+(bI.toArray.size:Int)).toNat else min x.toNat bI.toArray.size)=_;rw[hk];apply Array.toList_inj.mp;simp;show List.take_of_length_le (by simp);rw[aD,aQ,cz,List.length_drop];lia
end L2
namespace WL
open PySem L2
section
variable {K:Xu}{M:Mp}{q:WK}
def Me:WM:=λx ys M q=>eh λa l y=> ∃i:Nat,k9 (x=wr a) (ys= [wi i,y]) (M a=some (.lst l)) (l.length<sizeLine) (i<=l.length) (q wn (um M a (.lst (l.take i++y::l.drop i))))
instance:IM K DW Me where
 imp:=by rintro x v ys us M H q Q m r1 r2 ⟨a,l,y,i,rfl,rfl,hl,hn,hi,h⟩ k;cases r1.eq;let⟨u0,u,rfl,r0,r⟩:=r2.two;cases r0.eq;let⟨vs,hv,rr⟩:=m a _ hl;show#[a,vs,u,i,rfl,rfl,hv,by rw[rr.length];show hn,by rw[rr.length];show hi,k _ _ _ _ h (ix hv) (m.putL hv ((rr.take i).append (.cons r (rr.drop i)))) WR.v]
end
end WL
namespace WQ
open PySem L2 WL WP
def lpk (k:Int):cA Int ->Pt
 | []=> []
 | v::r=>(k,v)::lpk (k+1) r
def lp (l:cA Int):Pt:=lpk 0 l
end WQ
namespace L2
open PySem
structure pY (K:PySem.W.Frag)(m qual:Str)(ps:List Str)(st:Stmt)(C f:Addr)(fd:FuncData):Prop where
 UI:Lj K C m f
 cl:wE K C
 fn:Bp K m qual st f fd
 bd:Binds K fd ps []
theorem eI {pos dD:Pos}{pl:Sem Bool}(M:pY X.K m qual ps st C f fd)(F:bD X.prog X.w X.K X.mg X.base fh k f fd ps sp)(hr:d7 k X.A)(he:PE X o ta)(ha:PA X (e::es) t)(pk:starEach (e::es) X.env=(false,eval e X.env)::starEach es X.env:=by rfl)(no:(backTo pos (starEach es X.env)).any (·.1)=false:=by rfl)(ht:eval (.Call (.Attribute o m dD) (e::es) [] pos) X.env=(do
  let ov <- eval o X.env
  standAt dD.atName
  let (f,first) <- holding [ov] (getMethod ov m pl)
  callWith pos f first (backTo pos (starEach (e::es) X.env)) (backToKw pos (keywordEach [] X.env))):=by rfl):
 PE X (.Call (.Attribute o m dD) (e::es) [] pos) (re C m sp [] E0 ta t):=Ee he M.cl M.UI F hr M.bd .nil Eg ha pk no ht
theorem ik (M:pY X.K m qual ps st C f fd)(F:bD X.prog X.w X.K X.mg X.base fh k f fd ps sp)(hr:d7 k X.A)(he:PE X o ta)(ht:eval (.Call (.Attribute o m dD) [] [] pos) X.env=(do
  let ov <- eval o X.env
  standAt dD.atName
  let (f,first) <- holding [ov] (getMethod ov m pl)
  callWith pos f first (backTo pos (starEach [] X.env)) (backToKw pos (keywordEach [] X.env))):=by rfl):
 PE X (.Call (.Attribute o m dD) [] [] pos) (re C m sp [] E0 ta FG):=Aa he M.cl M.UI F hr M.bd .nil Eg ht
theorem uW (X:K.In h)(G:h.Ns mainGlobals mg)(a:W.nsIn K mainGlobals x=some (some (.int n t))): ∃t,mg x=some (.int n t):=#[t,W.mg_of X G a]
theorem dN {kV jj pm cdv ct:c5}(c0:Us K mg x q' ps' bG C g fd')(a:W.findIn K (.ref C) m=some (some (.ref f)))(l:K.lookup f=some #[oc,od, .func (W.fnOf m q (eX st) (dA st) (aU st) .none kV jj pm an cdv ct),Cd])(c:W.codeIn K cdv q=true)(k:W.keepIn K (.ref f)=true)(h2:W.isFn K (.ref f)=true)(b: ∀ (kV jj pm:c5) (an:eM fM) (cdv ct:c5),Df ps.length λus=>bindArgs (W.fnOf m q (eX st) (dA st) (aU st) .none kV jj pm an cdv ct) #[us,[]]=pure (ps.zip us):=by(repeat intro _);rfl): pY K m q ps st C f (W.fnOf m q (eX st) (dA st) (aU st) .none kV jj pm an cdv ct):=#[#[a,h2,k],c0.cl,qR l c k,(qR (st:=st) l c k).binds λkV jj pm an cdv ct us e=>(b kV jj pm an cdv ct).to us e]
end L2
namespace WL
open PySem L2
section
variable {K:Xu}
theorem uU {H:Hp}{f:Str}: ∀ {fs:cA (Str×W)} {ks:cA (Str×V)},KR K H fs ks ->fs.lookup f=Option.none ->ks.lookup f=Option.none
 | _,_, .nil,_=>rfl
 | (g,y)::fs,(g',v)::ks, .cons ⟨e,r⟩ t,h=>by
  cases (show g=g' from e);rw[List.lookup_cons] at h ⊢;cases hb:f==g with
  | true=>rw[hb] at h;cases h
  | false=>rw[hb] at h;show uU t h
def Dm (C:fM)(m:Str)(p:eZ)(a:WE)(b:WA):WE:=λρ M q=>a ρ M λx M1=>eh λ(o dx:fM) (fs:cA (Str×W))=>fg (x=wr o) (M1 o=some (.ins C dx fs)) (fs.lookup m=none) (b ρ M1 λxs M2=>p (x::xs) M2 q)
instance {C:fM}{m:Str}{p:eZ}{E:XK}{t:TE}{u:TA}{a:WE}{b:WA} [ia:IE K t a] [ib:IA K u b]:IE K (re C m (fT K p) [] E t u) (Dm C m p a b) where
 imp:=λρ M σ H q Q o h k=>ia.imp ρ M σ H _ _ o h λx M1 v H1 ⟨ad,dx,fs,ex,hp,hl,h1⟩ t1 m1 r1=>by subst ex;let⟨ks,e,r⟩:=m1 ad _ hp;exact#[ad,dx,ks,r1.eq,e,uU r hl,ib.imp ρ M1 σ H1 _ _ (o.mv t1 m1) h1 λxs M2 vs H2 h2 t2 m2 r2=> ?_];exact#[wr ad::xs,M2,q,cK.cons (r1.ts t2) (by rw[c4];show r2),m2,h2,?_];intro y M' u H' hq ts m' r';show k _ _ _ _ hq ((t1.trans t2).trans ts) m' r'
def Mc:Dm C m p a b ρ M q=a ρ M λx M1=>dU x λo=>lT (M1 o) λC' _ fs=>ci (C'=C /\ fs.lookup m=none) (b ρ M1 λxs M2=>mF p (x::xs) M2 q):=by unfold Dm dU lT ci mF;congr 1;funext x M1;apply propext;symm;rintro⟨o,dx,fs,e1,e2,e3,h⟩;show#[o,e1,C,dx,fs,e2,#[rfl,e3],h];rintro⟨o,e1,C',dx,fs,e2,⟨rfl,e3⟩,h⟩;show#[o,dx,fs,e1,e2,e3,h]
end
end WL
namespace WQ
open PySem L2 WL WP
def PM:eZ:=λxs M q=>eh λ(p:Int) (a:Rd) (n:Int)=>BG (xs= [wi p,gM a,wi n]) (0<p) (p<1000) (dI p a.2) (a.2.length<=40000) (n<0) (a.1≠0 -> -100000<n /\ n<100000 /\ a.2.length*n.natAbs<=100000) (∀r:Rd,gZ p a n r ->(a.1=0 ->r.2.length<=a.2.length) ->(a.1≠0 ->r.2.length<=a.2.length*n.natAbs) ->q (gM r) M)
def MT:R8 xs M q ->PN xs M q \/ PM xs M q:=by rintro⟨p,a,n,rfl,p0,p1,hP,hl,hb,k⟩;by_cases hn:n<0;show .inr #[p,a,n,rfl,p0,p1,hP,hl,hn,hb,k];exact .inl #[p,a,n,rfl,p0,p1,hP,hl, ∅,λh=> ?_,k];let⟨_,h2,h3⟩:=hb h;have e:n.toNat=n.natAbs:= ∅;rw[e];show#[h2,h3]
end WQ
namespace L2
open PySem PyProof.Rows PyProof.V PySem.Calls PySem.Spec
inductive Bm (X:Cx):List ExceptHandler ->List (Addr×TS) ->Prop
 | nil:Bm X [] []
 | cons {x:Str} {np wj:Pos} {b₀:Stmt} {ka:List Stmt} {C:Addr} {ts:TS} {cE:List ExceptHandler} {al:List (Addr×TS)} (hg:Gl X x) (O:lb X.K x C) (Qq: ∀ea,xO (X.i_ (.ref ea)) (b₀::ka) ts) (r:Bm X cE al) (n_:(x==("__debug__" :Str))=false:=by decide): Bm X (.ExceptHandler (some (.Name x np)) none (b₀::ka) wj::cE) ((C,ts)::al)
def uh (K:Xu):cA (fM×TS) ->fM ->TS
 | [],_=>λ_ _ _=>False
 | (D,ts)::r,C=>λE σ H=> ∃b,cW (W.kitOne K (.ref C) (.ref D)=some b) (b=true ->ts E σ H) (b=false ->uh K r C E σ H)
def E7 {K:Xu}(X:K.In h)(kD:Dc K D)(ku:C≠D)(he:h.get? e=some oe)(hc:oe.cls= .ref C)(hk:W.kitOne K (.ref C) (.ref D)=some b): W.Looks M h (excMatches (.ref e) (.ref D)) b:=by
 exact W.exm_one (cls:= .ref C) X (qS he hc) ?_;have e1:(W.subIn K (.ref D) (.type "BaseException")==some true)=true:=by change(W.mroIn K D (.type "BaseException")==some true)=true;rw[kD.mb];rfl
 unfold W.exmOne;rw[am e1];unfold W.kitOne at hk;rwa [ak (λz=>ku (Value.ref.inj (beq_iff_eq.mp z)))] at hk
def si {σ:St}{E0:XK}(pk:X.stack=X.env::X.outer)(EQ:X.env.frame=some X.env.locals)(I:Inv X af σ H1 s1)(fl:gJ X.prog X.w X.stack H1 s1 E0 ev s')(ph:Bm X hs al)(k: ∀cls d H',E0 cls d H' -> ∃C,cls= .ref C /\ ∀ea,H' ea=none ->aY H1 (cf H' ea (.ext (fq ea C))) ->uh X.K al C D σ (cf H' ea (.ext (fq ea C)))): wpAny (model X.prog X.w) X.A (noteFrame ev X.env) (λ_ s₂=>wpAny (model X.prog X.w) X.A (setFlight ev none) (λ_ s₃=>wpAny (model X.prog X.w) X.A (handleBy ev X.env hs) (SP X af D) X.xe s₃) X.xe s₂) X.xe s':=by
 let⟨ea,cls,a0,B,H2,rfl,os,bare,fl,cH,tT,un,kb,kt,hE⟩:=fl;let⟨C,rfl,kk⟩:=k _ _ _ hE;exact wpAny_looks_onW (by rw[I.ok.frames,pk]) EQ (pk▸fl) λh₄ Ka UB=> ?_;exact wpAny_landsW Ka λh₅ L4 UA=> ?_;rw[<- pk] at L4;let⟨I5,ts5⟩:=iM I os bare fl cH tT un kb kt L4 (UB.trans UA) (tk:=s'.toks);let⟨ob,XS,JY⟩:=L4.there;have key:=kk ea tT ts5;clear kk k;induction ph with
 | nil=>show key.elim
 | @cons x np wj b₀ ka D' ts cE al' hg O Qq r n_ ih=>
  let⟨b,hk,ht,hf⟩:=key;have O':=oP I.ok.mod O.ns O.exc;exact wpAny_handleBy_cons (codeAny_handlers_test (yJ I5 hg O'.bound ?_ n_)) (by intro q;cases q);have good:b=true ->codeAny (model X.prog X.w) (X.A.mark (some (.ref ea))) (.handlers (.ref ea) [.ExceptHandler none none (b₀::ka) wj] X.env) (λr s₂=>match r with
  | .ok f=>SP X af D f s₂
  | .error x=>cameBackBy (model X.prog X.w) X.A X.env X.xe x s₂) {s' with heap:=h₅}:=λhb=>by
   exact codeAny_handlers_suite ?_
   exact PyProof.Rows.lands_againW L4 λh₆ Ys VG=> ?_
   let⟨I6,ts⟩:=iM I os bare fl cH tT un kb kt Ys ((UB.trans UA).trans VG) (tk:=s'.toks)
   exact bw (Qq ea af _ σ _ D (I6.i_ (.ref ea)) (ht hb)) (λf s8 h8=> ?_) λ_ _ z=>z.elim
   cases f with
   | next=>let⟨σ',H3,I8,q⟩:=h8;show#[_,_,I8.jU I.ok,q]
   | brk=>let⟨σ',H3,I8,q⟩:=h8;show#[_,_,I8.jU I.ok,q]
   | cont=>let⟨σ',H3,I8,q⟩:=h8;show#[_,_,I8.jU I.ok,q]
   | ret u=>let⟨v,σ',H3,I8,r,q⟩:=h8;show#[v,_,_,I8.jU I.ok,r,q]
  by_cases Ym:C=D';subst Ym;have hb:b=true:=by unfold W.kitOne at hk;rw[am (beq_self_eq_true _)] at hk;show(bp hk).symm
  let⟨bm,N,nm,qn,bs,hdct,sn,sub,ab,col,dd,k0,k1,k2,k3,k5,mN,hC,N4,EO,TL⟩:=(O'.keeps I5.bk).obj;exact wpAny_excMatches_sub_self hC XS JY (TL.hasType (by decide+kernel)) ?_;show good hb;exact(E7 (M:=model X.prog X.w) I5.kT O.k Ym XS JY hk).here ?_;cases b with
  | true=>show good rfl
  | false=>show ih (hf rfl)
def Pd (K:Xu)(sp:Sp)(iy:Nat)(ta:TA)(al:cA (fM×TS)):TS:=λD σ H=>ta σ H λvs H1=>sp (vs++ []) H1 (λv H2=>D.nx (σ.set iy (some v)) H2) λcls _ H'=> ∃C,cls= .ref C /\ ∀ea,H' ea=none ->aY H1 (cf H' ea (.ext (fq ea C))) ->uh K al C D σ (cf H' ea (.ext (fq ea C)))
def MD {p yp dE dD pos:Pos}{st:Stmt}(pk:X.stack=X.env::X.outer)(EQ:X.env.frame=some X.env.locals)(C:hW X.K X.mg fx ps st f fd)(F:bD X.prog X.w X.K X.mg X.base (gJ X.prog X.w) k f fd ps sp)(hr:d7 k X.A)(hgf:Gl X fx)(ha:PA X.Gf (e₀::es) ta)(hN:X.N.Nodup)(hiy:X.N[iy]? =some y)(hy:X.env.kindOf y=some .local)(ph:Bm X (h₀::hs) al)(gD:swapsWith (.Call (.Name fx p) (e₀::es) [] dE) (some (.Name y yp)) dD.line X.env=pure false:=by rfl)(Tz:(fx==("__debug__" :Str))=false:=by decide)(he:starEach (e₀::es) X.env=(false,eval e₀ X.env)::starEach es X.env:=by rfl)(no:(backTo dE (starEach es X.env)).any (·.1)=false:=by rfl): PS X (.Try [.Assign [.Name y yp] (.Call (.Name fx p) (e₀::es) [] dE) dD] (h₀::hs) [] [] pos) (Pd X.K sp iy ta al):=by
 intro af s σ H D I h;exact wpAny_Try_except (wpAny_execs_cons (wpAny_Assign_Name (wpAny_Call_Name_kw (mT I hgf C.at_ ?_ Tz)) gD));exact W.callWith_K (h₀:=X.base) I.ok.mod.NK C.fn.kp (bw (ha dE af s σ H _ (I.og _) h) (λus s1 ⟨vs,H1,I1,r,q⟩=>#[I1.kT,?_]) λ_ _ z=>z.elim) he no;have I1:=I1.gN;have r2:bW (vs++ []) (us++ []):=r.append .nil;have hl:(us++ []).length=ps.length:=by rw[<- r2.length];show F.len _ _ _ _ q
 exact wpAny_call (codeAny_mono (F.run X.A X.stack s1 H1 #[us,[]] (us++ []) (vs++ []) _ _ hr I1.Ky (C.bd s1 us I1.kT hl) r2 q) λr s2 hq=> ?_);cases r with
 | error ev=>have hq2:gJ X.prog X.w X.stack H1 s1 (λcls _ H'=> ∃C,cls= .ref C /\ ∀ea,H' ea=none ->aY H1 (cf H' ea (.ext (fq ea C))) ->uh X.K al C D σ (cf H' ea (.ext (fq ea C)))) ev s2:=hq;show si pk EQ I1 hq2 ph λcls d H' z=>z
 | ok fl=>
  cases fl with
  | ret u=>let⟨v,H2,I2,r,q2⟩:=I1.after hq;show ju I2 hN hiy (.inl hy) r (λs3 I3=>wpAny_execs_nil (wpAny_execs_nil #[_,_,I3,q2])) (.inr hy)
  | next=>show False.elim hq
  | brk=>show False.elim hq
  | cont=>show False.elim hq
def VS (K:Xu)(C:fM)(m:Str)(sp:Sp)(te:TE)(ta:TA)(al:cA (fM×TS)):TS:=λD σ H=>te σ H λx H0=>eh λ(a dx:fM) (fs:cA (Str×V))=>fg (x= .ref a) (H0 a=some (.ins C dx fs)) (fs.lookup m=none) (ta σ H0 λvs H1=>sp (.ref a::(vs++ [])) H1 (λv H2=>D.nx σ H2) λcls _ H'=> ∃C,cls= .ref C /\ ∀ea,H' ea=none ->aY H1 (cf H' ea (.ext (fq ea C))) ->uh K al C D σ (cf H' ea (.ext (fq ea C))))
theorem ZP {dE dD Yx pos:Pos}{st:Stmt}{pl:Sem Bool}(pk:X.stack=X.env::X.outer)(EQ:X.env.frame=some X.env.locals)(M:pY X.K m qual ps st C f fd)(F:bD X.prog X.w X.K X.mg X.base (gJ X.prog X.w) k f fd ps sp)(hr:d7 k X.A)(ho:PE X.Gf o te)(ha:PA X.Gf (e₀::es) ta)(ph:Bm X (h₀::hs) al)(he:starEach (e₀::es) X.env=(false,eval e₀ X.env)::starEach es X.env:=by rfl)(no:(backTo dE (starEach es X.env)).any (·.1)=false:=by rfl)(ht:eval (.Call (.Attribute o m dD) (e₀::es) [] dE) X.env=(do
   let ov <- eval o X.env
   standAt dD.atName
   let (f,first) <- holding [ov] (getMethod ov m pl)
   callWith dE f first (backTo dE (starEach (e₀::es) X.env)) (backToKw dE (keywordEach [] X.env))):=by rfl)(hsw:swapsWith (.Call (.Attribute o m dD) (e₀::es) [] dE) none Yx.line X.env=pure false:=by rfl):
  PS X (.Try [.Expr (.Call (.Attribute o m dD) (e₀::es) [] dE) Yx] (h₀::hs) [] [] pos) (VS X.K C m sp te ta al):=by
 intro af s σ H D I h
 exact wpAny_Try_except (wpAny_execs_cons (wpAny_Expr_any ?_ I.quiet hsw))
 exact W.methodCall_KW (pl:=pl) (bw (ho af s σ H _ (I.og _) h) (λu s1 ⟨x,H0,I0,rx,a,dx,fs,ex,ea,l,q⟩=> ?_) λ_ _ z=>z.elim) ht
 subst ex
 obtain rfl:u=Value.ref a:=rx
 have I0:=I0.gN
 exact jY I0 ea M.cl M.UI l ?_
 exact W.callWith_K (first:= [.ref a]) (h₀:=X.base) I.ok.mod.NK M.UI.kp (bw (ha dE af s1 σ H0 _ (I0.og _) q) (λus s2 ⟨vs,H1,I1,r,q⟩=>#[I1.kT,?_]) λ_ _ z=>z.elim) he no
 have I1:=I1.gN
 have r2:bW (.ref a::(vs++ [])) (.ref a::us++ []):= .cons rfl (r.append .nil)
 have hl:(Value.ref a::us++ []).length=ps.length:=by rw[<- r2.length];show F.len _ _ _ _ q
 exact wpAny_call (codeAny_mono (F.run X.A X.stack s2 H1 #[.ref a::us,[]] (.ref a::us++ []) (.ref a::(vs++ [])) _ _ hr I1.Ky (M.bd s2 (.ref a::us) I1.kT hl) r2 q) λr s3 hq=> ?_)
 cases r with
 | error ev=>have hq2:gJ X.prog X.w X.stack H1 s2 (λcls _ H'=> ∃C,cls= .ref C /\ ∀ea,H' ea=none ->aY H1 (cf H' ea (.ext (fq ea C))) ->uh X.K al C D σ (cf H' ea (.ext (fq ea C)))) ev s3:=hq;show si pk EQ I1 hq2 ph λcls d H' z=>z
 | ok fl=>
  cases fl with
  | ret u=>let⟨v,H2,I2,r,q2⟩:=I1.after hq;show wpAny_execs_nil (wpAny_execs_nil #[_,_,I2,q2])
  | next=>show False.elim hq
  | brk=>show False.elim hq
  | cont=>show False.elim hq
theorem cw {st:Stmt}{pos dD:Pos}{pl:Sem Bool}(hP:gU (gJ X.prog X.w) X E)(M:pY X.K m qual ps st C f fd)(F:bD X.prog X.w X.K X.mg X.base (gJ X.prog X.w) k f fd ps sp)(hr:d7 k X.A)(he:PE X o ta)(ha:PA X (e::es) t)(pk:starEach (e::es) X.env=(false,eval e X.env)::starEach es X.env:=by rfl)(no:(backTo pos (starEach es X.env)).any (·.1)=false:=by rfl)(ht:eval (.Call (.Attribute o m dD) (e::es) [] pos) X.env=(do
  let ov <- eval o X.env
  standAt dD.atName
  let (f,first) <- holding [ov] (getMethod ov m pl)
  callWith pos f first (backTo pos (starEach (e::es) X.env)) (backToKw pos (keywordEach [] X.env))):=by rfl):
 PE X (.Call (.Attribute o m dD) (e::es) [] pos) (re C m sp [] E ta t):=Ee he M.cl M.UI F hr M.bd .nil hP ha pk no ht
theorem wZ {st:Stmt}(hP:gU (gJ X.prog X.w) X E)(M:pY X.K m qual ps st C f fd)(F:bD X.prog X.w X.K X.mg X.base (gJ X.prog X.w) k f fd ps sp)(hr:d7 k X.A)(he:PE X o ta)(ht:eval (.Call (.Attribute o m dD) [] [] pos) X.env=(do
  let ov <- eval o X.env
  standAt dD.atName
  let (f,first) <- holding [ov] (getMethod ov m pl)
  callWith pos f first (backTo pos (starEach [] X.env)) (backToKw pos (keywordEach [] X.env))):=by rfl):
 PE X (.Call (.Attribute o m dD) [] [] pos) (re C m sp [] E ta FG):=Aa he M.cl M.UI F hr M.bd .nil hP ht
theorem bD.calm {K:Xu}(F:bD P w K mg base (gJ P w) k f fd ps sp)(h: ∀vs H Q E,V_ vs H Q E ->sp vs H Q E0):bD P w K mg base fh k f fd ps V_:=#[λvs H Q E z=>F.len vs H Q _ (h vs H Q E z),λA outer s H args us vs Q E hr e0 hb hv z=>codeAny_mono (F.run A outer s H args us vs Q E0 hr e0 hb hv (h vs H Q E z)) λr s' hq=>by
 cases r with
 | error ev=>let⟨_,_,_,_,_,_,_,_,_,_,_,_,_,_,q⟩:=(show gJ P w outer H s E0 ev s' from hq);show q.elim
 | ok fl=>cases fl<;>show hq]
end L2
namespace WL
open PySem L2
section
variable {K:Xu}
def Wa (p:eB):eZ:=λxs M q=>p xs M q λ_ _=>False
theorem KY (F:bD P w K mg base (gJ P w) k f fd ps (rf K p)):bD P w K mg base fh k f fd ps (fT K (Wa p)):=F.calm λvs H Q E ⟨xs,M,q,r,m,h,k⟩=>#[xs,M,q,_,r,m,h,k,λ_ _ _ z=>z.elim]
def xW (C:fM)(m:Str)(p:eB)(e:WX)(a:WE)(b:WA):WE:=λρ M q=>a ρ M λx M1=>eh λ(o dx:fM) (fs:cA (Str×W))=>fg (x=wr o) (M1 o=some (.ins C dx fs)) (fs.lookup m=none) (b ρ M1 λxs M2=>p (x::xs) M2 q (up e))
instance {C:fM}{m:Str}{p:eB}{e:WX}{t:TE}{u:TA}{a:WE}{b:WA} [ia:IE K t a] [ib:IA K u b]:IE K (re C m (rf K p) [] (Ex K e) t u) (xW C m p e a b) where
 imp :=λρ M σ H q Q o h k=>ia.imp ρ M σ H _ _ o h λx M1 v H1 ⟨ad,dx,fs,ex,hp,hl,h1⟩ t1 m1 r1=>by subst ex;let⟨ks,e,r⟩:=m1 ad _ hp;exact#[ad,dx,ks,r1.eq,e,uU r hl,ib.imp ρ M1 σ H1 _ _ (o.mv t1 m1) h1 λxs M2 vs H2 h2 t2 m2 r2=> ?_];exact#[wr ad::xs,M2,q,_,cK.cons (r1.ts t2) (by rw[c4];show r2),m2,h2,?_,?_];intro y M' u H' hq ts m' r';show k _ _ _ _ hq ((t1.trans t2).trans ts) m' r';rintro C M' H' ⟨M0,s,h⟩ m;show#[C,M0,rfl,h,m.sub s]
def pV (p:eB)(xs:cA W)(M:Mp)(q:WK)(e:WX):Prop:=p xs M q e
def Hu:xW C m p e a b ρ M q=a ρ M λx M1=>dU x λo=>lT (M1 o) λC' _ fs=>ci (C'=C /\ fs.lookup m=none) (b ρ M1 λxs M2=>pV p (x::xs) M2 q (up e)):=by unfold xW dU lT ci pV;congr 1;funext x M1;apply propext;symm;rintro⟨o,dx,fs,e1,e2,e3,h⟩;show#[o,e1,C,dx,fs,e2,#[rfl,e3],h];rintro⟨o,e1,C',dx,fs,e2,⟨rfl,e3⟩,h⟩;show#[o,dx,fs,e1,e2,e3,h]
theorem VA:BO p e a ρ M q=a ρ M λxs M1=>pV p xs M1 q (up e):=rfl
theorem Vf:BL C e a D ρ M=a ρ M λxs M'=>ci (xs.length<=sizeLine) (up e C M'):=rfl
def rb (K:Xu):cA (fM×WS) ->fM ->WS
 | [],_=>λ_ _ _=>False
 | (D,s)::r,C=>λE ρ M=> ∃b,cW (W.kitOne K (.ref C) (.ref D)=some b) (b=true ->s E ρ M) (b=false ->rb K r C E ρ M)
class _O (K:PySem.W.Frag) (t:List (Addr×TS)) (w:outParam (List (Addr×WS))):Prop where
 imp: ∀ (C:Addr) (ρ:bS) (M:Mp) (σ:L2.St) (H:Hp) (D':dH) (D:j8),Ok K ρ M σ H ->rb K w C D' ρ M ->iU K H D' D ->uh K t C D σ H
instance:_O K [] [] where
 imp:=λ_ _ _ _ _ _ _ _ h _=>h.elim
instance {D:fM}{t:TS}{s:WS}{r:cA (fM×TS)}{r':cA (fM×WS)} [is:IS K t s] [ir:_O K r r']:_O K ((D,t)::r) ((D,s)::r') where
 imp:=λC ρ M σ H D' D o ⟨b,hk,h1,h2⟩ e=>#[b,hk,λhb=>is.imp ρ M σ H D' D o (h1 hb) e,λhb=>ir.imp C ρ M σ H D' D o (h2 hb) e]
theorem YM (hk:W.kitOne K (.ref C) (.ref D)=some true)(h:s E ρ M):rb K ((D,s)::r) C E ρ M:=#[true, .mk hk (λ_=>h) λz=>nomatch z]
theorem cG (hk:W.kitOne K (.ref C) (.ref D)=some false)(h:rb K r C E ρ M):rb K ((D,s)::r) C E ρ M:=#[false, .mk hk (λz=>nomatch z) λ_=>h]
theorem nB (h:s E ρ M):rb K ((C,s)::r) C E ρ M:=YM (by unfold W.kitOne;rw[am (beq_self_eq_true _)]) h
theorem iU.of (e:iU K H D' D)(t1:aY H H1)(t2:aY H1 H2):iU K H2 D' D:=(e.mv t1).mv t2
def O1 (K:Xu)(p:eB)(iy:Nat)(a:WA)(al:cA (fM×WS)):WS:=λD ρ M=>a ρ M λxs M1=>p xs M1 (λx M2=>D.nx (ρ.set iy (some x)) M2) λC M'=> ∀ea,M' ea=none ->rb K al C D ρ (um M' ea (.exc C))
instance {p:eB}{iy:Nat}{t:TA}{a:WA}{al:cA (fM×TS)}{wl:cA (fM×WS)} [ia:IA K t a] [il:_O K al wl]:IS K (Pd K (rf K p) iy t al) (O1 K p iy a wl) where
 imp:=λρ M σ H D' D o h qU=>ia.imp ρ M σ H _ _ o h λx M1 v H1 h1 t1 m1 r1=>#[x,M1,_,_,by rw[c4];show r1,m1,h1,λy M4 v4 H4 h4 t4 m4 r4=>qU.nx _ _ _ _ h4 (t1.trans t4) #[(o.env.ts (t1.trans t4)).set iy r4,m4],λC M' H' h2 m=>#[C,rfl,λea tT VI=>il.imp C _ (um M' ea (.exc C)) _ _ D' D #[o.env.ts (t1.trans VI),m.put (L2.fF.ts (bO tT)) bM] (h2 ea (m.fresh tT)) (qU.of t1 VI)]]
theorem Ze:O1 K p iy a al D ρ M=a ρ M λxs M1=>pV p xs M1 (λx M2=>D.nx (ρ.set iy (some x)) M2) λC M'=> ∀ea,M' ea=none ->rb K al C D ρ (um M' ea (.exc C)):=rfl
end
end WL
namespace L2
open PySem PySem.Spec PyProof.Rows
section
variable {X:Cx}{tg:Expr}
def Wi:V ->eM Int ->eM Int ->Hp ->VK ->Prop:=λx lo hi H Q=> ∃z:Str,cW (x= .str z) (z.length<=sizeLine) (Q (.str (Txt.slice z lo hi)) H)
def H_:SlR X Wi:=by
 intro af s σ H x v vl vu lo hi sl Q I rx hs pl pu h;let⟨z,rfl,hz,q⟩:=h;let⟨t,rfl⟩:=rx;exact#["str",_,F.slot_str_getitem.lookup,typeIs_str _ _ _,?_];have fin: ∀t' k,EP X af σ Q (.str (Txt.slice z lo hi) t') {s with toks:=k}:=λt' k=>#[.str (Txt.slice z lo hi),H,I.tok _,#[_,rfl],q]
 cases pl with
 | none=>
  cases pu with
  | none=>show wpAny_getItem_str_slice (l:=none) (u:=none) (st:=none) hs rfl (post_val_or_str #[aw (Txt.slice_le z _ _) hz,fin])
  | int j tj=>show wpAny_getItem_str_slice (l:=none) (u:=some (j,tj)) (st:=none) hs rfl (post_val_or_str #[aw (Txt.slice_le z _ _) hz,fin])
 | int i ti=>
  cases pu with
  | none=>show wpAny_getItem_str_slice (l:=some (i,ti)) (u:=none) (st:=none) hs rfl (post_val_or_str #[aw (Txt.slice_le z _ _) hz,fin])
  | int j tj=>show wpAny_getItem_str_slice (l:=some (i,ti)) (u:=some (j,tj)) (st:=none) hs rfl (post_val_or_str #[aw (Txt.slice_le z _ _) hz,fin])
def iz (z:Str)(n:Nat):Str:=if n=0 then Str.empty else if n=1 \/ z.length=0 then z else⟨(List.replicate n z.cps).foldl (· ++ ·) #[]⟩
def DQ (z:Str)(n:Nat):(⟨(List.replicate n z.cps).foldl (· ++ ·) #[]⟩:Str).length=n*z.length:=by
 have: ∀ (n:Nat) (a:gA Nat),((List.replicate n z.cps).foldl (· ++ ·) a).size=a.size+n*z.cps.size:=by
  intro n;induction n with
  | zero=>intro a;simp
  | succ n ih=>intro a;rw[List.replicate_succ,List.foldl_cons,ih,Array.size_append,Nat.succ_mul];omega
 change((List.replicate n z.cps).foldl (· ++ ·) #[]).size=n*z.cps.size;rw[this];simp
def Pz:R2:=λx y H Q=>cc λ(z:Str) (n:Nat)=>f_ (x= .str z) (y= .int n) (n<=1000) (z.length<=1000) (Q (.str (iz z n)) H)
def Na:gI X (binaryOp .Mult) Pz:=by
 intro af s σ H x y v u Q I rx ry h;let⟨z,n,rfl,rfl,hn,hz,q⟩:=h;let⟨t,rfl⟩:=rx;let⟨t',rfl⟩:=ry;have hs:z.length*n<=sizeLine:=aw (Nat.mul_le_mul hz hn) (by rw[sizeLine_eq];decide);exact PySem.P.mul_str ?_ (λ_ _=> ?_) (λ_ _=> ?_) ?_;have e1:decide ((n:Int) < -(2 ^ 63:Int))=false:=aE (by omega);have e2:decide ((n:Int)≥2 ^ 63)=false:=aE (by omega);rw[e1,e2];rfl;intro h;have h1:(2 ^ 63 - 1:Int) / 1000<=(2 ^ 63 - 1) / n:=by rw[Int.le_ediv_iff_mul_le (by omega)];have:((2 ^ 63 - 1:Int) / 1000)*n<=((2 ^ 63 - 1:Int) / 1000)*1000:=Int.mul_le_mul_of_nonneg_left (by omega) ⋯;omega
 omega;unfold Builtin.Str.tooLong;rw[decide_eq_false_iff_not];have:(n:Int).toNat=n:=rfl;rw[this];omega;unfold iz at q;by_cases h0:n=0;subst h0;rw[am rfl] at q;rw[am ⋯];show#[⋯,#[.str _,H,I.tok _,#[_,rfl],q]];rw [ak h0] at q;rw[ak (by omega)];by_cases h1:n=1 \/ z.length=0;rw[am h1] at q;rw[am (by obtain h | h:=h1 <;>simp[h])];show#[.str z,H,I,#[t,rfl],q];rw[ak h1] at q;rw[ak (by intro c;rw[Bool.or_eq_true,beq_iff_eq,beq_iff_eq] at c;show h1 (c.imp (by omega) id))];have e:(n:Int).toNat=n:=rfl;rw[e];exact#[?_,#[.str _,H,I.tok _,#[_,rfl],q]];rw[DQ];rw[Nat.mul_comm];show hs
def ItS (z:Str):It:=#[λi _=>i<z.cps.size,λi H x H'=>H'=H /\ ∃c,z.cps[i]? =some c /\ x= .str ⟨#[c]⟩,λi _=>z.cps.size<=i]
def HG {P:Program}{w:World}{K:Xu}{tg:Expr}(z:Str)(t:Tok)(it:fM):ze P w K tg (ItS z) [it] it (λi h=>h.IsStrIter it "str_ascii_iterator" z t i) where
 mem:=by simp
 obj:=λi h st b hb=>by have e:b=it:= ⇑hb;subst e;let⟨o,e,c,d⟩:=st;show#[o,e,λv z=>by rw[d] at z;cases z]
 keep:=λi h h' ⟨o,ho,r⟩ k=>#[o,k it (by simp) o ho,r]
 item:=by intro X hP hw hK hc i af s σ H E I hf st hg;subst hP hw hK;let⟨f0,f1,f2,f3,f4,f5⟩:=hf it (by simp);have hg:i<z.cps.size:=hg;exact wpAny_pyNext_ascii_item st (c:=z.cps[i]) (by simp[hg]) λh' bG sb=> ?_;have I1:Inv X af σ H {s with heap:=h',toks:=s.toks+1}:=I.turned (t':=s.toks+1) (λb o hb e=>(sb.2 b hb).trans e) f0 f1 f3 f4 f5;let⟨o,e,c,d⟩:=id bG;show#[_,rfl,xn (s:= {s with heap:=h',toks:=s.toks+1}) e c d ⋯ #[.str ⟨#[z.cps[i]]⟩,H,I1,#[_,rfl],#[rfl,_,by simp[hg],rfl],bG,λb hb=>(hf b hb).1]]
 done:=by intro X hP hw hK hc i af s σ H E I hf st hg;subst hP hw hK;let⟨f0,f1,f2,f3,f4,f5⟩:=hf it (by simp);have hg:z.cps.size<=i:=hg;show wpAny_pyNext_ascii_end (I.ok.hd hc) st (by simp[hg]) λh' eb=>#[rfl,I.turned (t':=s.toks) (λb o hb e=>eb b o hb e) f0 f1 f3 f4 f5]
 self:=λ_ _ _ _ _ st h=>wpAny_pyIter_striter_ascii st h
def Xz (tl:TE):TI:=λσ H R=>tl σ H λx H1=> ∃z:Str,cW (x= .str z) (z.cps.all (· <128)=true) (R (ItS z) H1)
def IL (hl:PE X l tl):PI X tg l (Xz tl):=by intro af s σ H R I h;exact cQ (hl af s σ H _ I h) λv s1 ⟨x,H1,I1,r1,q1⟩=> ?_;let⟨z,e,ha,q⟩:=q1;subst e;let⟨t,rfl⟩:=r1;exact wpAny_pyIter_ascii ha ?_;exact#[s1.heap.objs.size,[s1.heap.objs.size],_,_,H1,rfl,I1.kept (t':=s1.toks) λb o e=>av _ e,HG z t _,#[_,aW _ rfl,rfl,rfl],λb hb=> ?_,q];have e:b=s1.heap.objs.size:= ⇑hb;subst e;show I1.CI (aq _) (I1.cH.fresh (aq _))
def PD:cA V ->Hp ->VK ->Prop:=λxs H Q=> ∃z,cW (xs= [.str z]) (z.length<=sizeLine) (Q (.int z.length) H)
theorem qX:eY X (.builtin "len") PD:=y3
def BB (i j:Str):Bool:= !(Builtin.Str.occurrences j i 0 j.length 1).isEmpty
def Wm:R2:=λx y H Q=>cc λi j=>cW (x= .str i) (y= .str j) (Q (.bl (BB i j)) H)
def DT:R2:=λx y H Q=>cc λi j=>cW (x= .str i) (y= .str j) (Q (.bl (!BB i j)) H)
theorem Sj:gI X (compareOp .In) Wm:=FY
theorem FX:gI X (compareOp .NotIn) DT:=yz
end
end L2
namespace WL
open PySem L2
section
variable {K:Xu}
def Vo:pX:=λx y M q=>eh λz i c=>f_ (x=ws z) (y=wi i) (z.length<=sizeLine) (fE z.cps.toList i=some c) (q (ws ⟨#[c]⟩) M)
instance:IR K Wl Vo where
 imp:=by rintro x y v u M H q Q m r1 r2 ⟨z,i,c,rfl,rfl,hz,e,h⟩ k;cases r1.eq;cases r2.eq;show#[z,i,c,rfl,rfl,hz,e,k _ M _ H h (aY.refl H) m WR.v]
def aaq:Vo (.v (.str z)) (.v (.int i)) M q=ci (z.length<=sizeLine) (iL (fE z.cps.toList i) λc=>q (ws ⟨#[c]⟩) M):=by apply propext;symm;rintro⟨_,_,c,h1,h2,h3,h4,k⟩;cases h1;cases h2;show#[h3,c,h4,k];rintro⟨h3,c,h4,k⟩;show#[_,_,c,rfl,rfl,h3,h4,k]
def Vc:Hj:=λx lo hi M q=> ∃z:Str,cW (x=ws z) (z.length<=sizeLine) (q (ws (Txt.slice z lo hi)) M)
instance:ISl K Wi Vc where
 imp:=by rintro x v lo hi M H q Q m r1 ⟨z,rfl,hz,h⟩ k;cases r1.eq;show#[z,rfl,hz,k _ M _ H h (aY.refl H) m WR.v]
def aah:Vc (.v (.str z)) lo hi M q=ci (z.length<=sizeLine) (q (ws (Txt.slice z lo hi)) M):=by apply propext;symm;rintro⟨_,h1,h3,k⟩;cases h1;show#[h3,k];rintro⟨h3,k⟩;show#[_,rfl,h3,k]
def Vd:pX:=λx y M q=>cc λ(z:Str) (n:Nat)=>f_ (x=ws z) (y=wi n) (n<=1000) (z.length<=1000) (q (ws (iz z n)) M)
instance:IR K Pz Vd where
 imp:=by rintro x y v u M H q Q m r1 r2 ⟨z,n,rfl,rfl,hn,hz,h⟩ k;cases r1.eq;cases r2.eq;show#[z,n,rfl,rfl,hn,hz,k _ M _ H h (aY.refl H) m WR.v]
def Vq:pX:=λx y M q=>cc λi j=>cW (x=ws i) (y=ws j) (q (wb (BB i j)) M)
def Dk:pX:=λx y M q=>cc λi j=>cW (x=ws i) (y=ws j) (q (wb (!BB i j)) M)
instance:IR K Wm Vq where
 imp:=by rintro x y v u M H q Q m r1 r2 ⟨i,j,rfl,rfl,h⟩ k;cases r1.eq;cases r2.eq;show#[i,j,rfl,rfl,k _ M _ H h (aY.refl H) m WR.v]
instance:IR K DT Dk where
 imp:=by rintro x y v u M H q Q m r1 r2 ⟨i,j,rfl,rfl,h⟩ k;cases r1.eq;cases r2.eq;show#[i,j,rfl,rfl,k _ M _ H h (aY.refl H) m WR.v]
def aat:Vq (.v (.str i)) (.v (.str j)) M q=q (wb (BB i j)) M:=by apply propext;symm;rintro⟨_,_,h1,h2,k⟩;cases h1;cases h2;show k;intro k;show#[_,_,rfl,rfl,k]
def Uu:Dk (.v (.str i)) (.v (.str j)) M q=q (wb (!BB i j)) M:=by apply propext;symm;rintro⟨_,_,h1,h2,k⟩;cases h1;cases h2;show k;intro k;show#[_,_,rfl,rfl,k]
def O6:zd:=λxs M q=> ∃z,cW (xs= [ws z]) (z.length<=sizeLine) (q (wi z.length) M)
instance:IC K PD O6 where
 imp:=by rintro xs v M H q Q m r1 ⟨z,rfl,hz,h⟩ k;let⟨v,rfl,r⟩:=r1.one;cases r.eq;show#[z,rfl,hz,k _ M _ H h (aY.refl H) m WR.v]
def Zn:O6 [.v (.str z)] M q=ci (z.length<=sizeLine) (q (wi z.length) M):=by apply propext;symm;rintro⟨_,h1,h3,k⟩;cases h1;show#[h3,k];rintro⟨h3,k⟩;show#[_,rfl,h3,k]
def BA (z:Str):cA Str:=z.cps.toList.map λc=>⟨#[c]⟩
def S_ (a:WE):WI:=λρ M q=>a ρ M λx M1=> ∃z:Str,cW (x=ws z) (z.cps.all (· <128)=true) (q ((BA z).map ws) (λ_=>True) M1)
def JO:C5 K H1 (ItS z) ((BA z).map ws) (λ_=>True):=by
 intro i M H ts m _;have hl:((BA z).map ws).length=z.cps.size:=by unfold BA;simp
 exact#[λh=>by change z.cps.size<=i;omega,λh=>by change i<z.cps.size;omega,λv H' hi y=> ?_];let⟨rfl,c,hc,rfl⟩:=y;exact#[aY.refl _,m,ws ⟨#[c]⟩,?_,WR.v];unfold BA;rw[bi,aL,Array.getElem?_toList,hc];rfl
instance {t:TE}{a:WE} [ia:IE K t a]:II K (Xz t) (S_ a) where
 imp:=λρ M σ H q R o h k=>ia.imp ρ M σ H _ _ o h λx M1 v H1 ⟨z,e,ha,h1⟩ t1 m1 r1=>by subst e;show#[z,r1.eq,ha,k _ _ _ M1 H1 h1 t1 m1 JO]
def abz:S_ a ρ M q=a ρ M λx M1=>yb x λz=>ci (z.cps.all (· <128)=true) (q ((BA z).map ws) (λ_=>True) M1):=by unfold S_ yb ci;congr 1;funext x M1;show propext #[λ⟨i,a,b,c⟩=>#[i,a,b,c],λ⟨i,a,b,c⟩=>#[i,a,b,c]]
end
end WL
namespace TS
open PySem PyProof.Rows
def uP (x y:gz):Bool:=decide ((strOf x.1).cps.toList< (strOf y.1).cps.toList)
def aa1:Ord uP:=by exact#[λx y h=> ?_,λx y z h1 h2=> ?_];unfold uP at*;rw[cV] at h;show aE λh'=>List.lt_irrefl _ (List.lt_trans h h');unfold LE uP at*;rw[decide_eq_false_iff_not] at*;show λh=>(List.le_trans (List.not_lt.mp h1) (List.not_lt.mp h2)) h
def ltS (h0: ∀v,v∈vs -> ∃x t,v= .str x t):iT prog w A E s oneType' (pairsOf vs) uP:=by
 intro x y st Q hx hy hk hq;have hm: ∀p:gz,p∈(pairsOf vs).toList -> ∃a t,p.1= .str a t:=λp hp=>by rw[pairsOf_toList] at hp;show h0 _ (mem_zip_self hp).2
 let⟨n,t,e1⟩:=hm x hx;let⟨m,u,e2⟩:=hm y hy;rw[lt'_eq];exact ay (wpS_get ?_);rw[hk,keyLt'_oneType,e1,e2];exact ay (wpS_lift (wpAny_attempt (oneLt_str #[rfl,?_])));have e:uP x y=decide (n.cps.toList<m.cps.toList):=by unfold uP;rw[e1,e2];rfl
 rw[e] at hq;show aG hq
def FK (ho:s.heap.get? a=some (seqObj "list" vs.toArray n))(hI:StrsAre vs ss)(hsz:vs.length<=sizeLine)(h: ∀ (out:gA c5) (ss':cA Str),StrsAre out.toList ss' ->ss'.Perm ss ->ss'.Pairwise (λx y=>¬y.cps.toList<x.cps.toList) ->P (.done (.ret .none)) {s with heap:=sortedHeap s.heap a vs out}): wpAny (model prog w) A (Builtin.«list.sort» #[[.ref a],[]]) P E s:=by
 exact zQ aa1 ho hsz (kd:=oneType') (λh2 Q hq=> ?_) (ltS hI.all) λus hp hs=> ?_;let⟨v₁,v₂,cE,rfl⟩:eh λv₁ v₂ cE=>vs=v₁::v₂::cE:=by
  match vs,h2 with
  | [],h2=>simp at h2
  | [_],h2=>simp at h2
  | v₁::v₂::cE,_=>show#[v₁,v₂,cE,rfl]
 rw[keyKind_strs hI];show a5 hq;have wt: ∀v,v∈us -> ∃x t,v= .str x t:=λv hv=>hI.all v (hp.mem_iff.mp hv);exact h us.toArray (us.map strOf) ⇑(strsAre_map us wt) ?_ ?_;have:=hp.map strOf;rwa [hI.strs] at this;rw[List.pairwise_map];exact hs.imp λ{x y} e=> ?_;unfold uP at e;rw[decide_eq_false_iff_not] at e;show e
end TS
namespace L2
open PySem PySem.Spec PyProof.Rows
theorem Dz: ∀ {ks:cA Str} {vs:cA c5},vs.length=ks.length ->(∀ (j:Nat) (v:c5),vs[j]? =some v ->cc λ(k:Str) (t:Tok)=>ks[j]? =some k /\ v= .str k t) ->StrsAre vs ks
 | [],[],_,_=> .nil
 | [],_::_,h,_=>by simp at h
 | _::_,[],h,_=>by simp at h
 | k::ks,v::vs,h,hv=>by let⟨k',t,e1,e2⟩:=hv 0 v rfl;simp at e1;subst e1 e2;show .cons k t (Dz ⇑h λj u e=> ⇑(hv (j+1) u ⇑e))
theorem oi: ∀ {ks:cA Str} {vs:cA c5},StrsAre vs ks ->bW (ks.map V.str) vs
 | _,_, .nil=> .nil
 | _,_, .cons x t r=> .cons #[t,rfl] (oi r)
section
variable {X:Cx}{tg o e:Expr}{td ty:TE}{dD dE:Pos}
def z8:cA V ->Hp ->VK ->Prop:=λxs H Q=>eh λ(d:fM) (kvs:cA (bX×V)) (ks:cA Str)=>f_ (xs= [.ref d]) (H d=some (.dK kvs)) (kvs.map (·.1)=ks.map Sum.inr) (ks.length<=sizeLine) (∀ (p:fM) (ns:cA Str),H p=none ->ns.Perm ks ->ns.Pairwise (λx y=>¬y.cps.toList<x.cps.toList) ->Q (.ref p) (cf H p (.lst (ns.map V.str))))
def hG (hc:X.calm=true):eY X (.builtin "sorted") z8:=by
 intro af s σ H xs us Q I r h;let⟨d,kvs,ks,rfl,hd,hk,N6,q⟩:=h;let⟨u,rfl,ru⟩:=vals1 r;cases ru;have hh:X.A.in1.handled=none:=I.ok.hd hc;let⟨hz,lo,vs,gc,dd⟩:=xz I.cH hd;let⟨ep,hat⟩:=dd.dictAt;have dO:vs.length=ks.length:=by have e1:=congrArg List.length hk;rw[ag,ag] at e1;rw[<- gc.length,e1]
 exact Calls.call_function_entry kind_sorted plain_sorted entry_sorted (args_sorted1 _) ?_;unfold Builtin.«sorted»;exact ax (m:=checkCount "sorted" 1 1 _) (a5 ?_);exact ax (W.kdu_collect (A:=X.A.in1) (W.kdl_dict (knd:=cJ X.prog X.w) (kvs:=vs) (ep:=ep) lo) hh hat (by rw[<- gc.length];show hz) λh' tk fV hkp CG=> ?_);have hl:fV.toList.length=ks.length:=by rw[du,CG.1,dO]
 have hI:StrsAre fV.toList ks:=Dz hl λj v e=>by
  let⟨k,x,hx,X'⟩:=CG.2 j v (by rw[<- Array.getElem?_toList];show e);have J5:(kvs.map (·.1))[j]? =some k:=by
   have:(vs.map (·.1))[j]? =some k:=by rw[aL,hx];rfl
   rw[<- gc.keys] at this;show this
  rw[hk,aL] at J5;cases e2:ks[j]? with
  | none=>rw[e2] at J5;cases J5
  | some n=>
   rw[e2] at J5;cases J5;have Tt:o_ (Sum.inr n) v=true:=X';rcases db Tt with⟨i,t,e3,e4⟩ | ⟨x,t,e3,e4⟩
   cases e3;cases e3;show#[n,t,rfl,e4]
 exact ax (wpAny_newList ?_ (by rw[hl];show N6));have ho:(h'.push (seqObj "list" fV.toList.toArray 0)).get? h'.objs.size=some (seqObj "list" fV.toList.toArray 0):=aW _ rfl;exact ax (wpAny_holding (wpAny_call_entry slot_list_sort #[_,ho,rfl] entry_list_sort (TS.FK (s:= {s with heap:=h'.push (seqObj "list" fV.toList.toArray 0),toks:=tk}) ho hI (by rw[hl];show N6) λout BC a1 a2 a3=>#[_,rfl,?_]) (args_list_sort _)));let⟨ee,TF⟩:=sortedHeap_at (out:=out) ho;have I':Inv X af σ H {s with heap:=h',toks:=tk}:=I.kept (t':=tk) hkp;exact a5 #[_,rfl, .ref h'.objs.size,_,I'.laid (t':=tk) (o:= .lst (BC.map V.str)) (λb o hb=> ?_) (aq _) ?_,rfl,q _ BC (I'.cH.fresh (aq _)) a2 a3];have mX:b<h'.objs.size:=aN hb;rw[sortedHeap_old (bu mX) (by rw[Heap.size_push];show Nat.lt_succ_of_lt mX)];show av _ hb;exact#[?_,out.toList,ee,oi a1, ⇑TF];rw[ag,a2.length_eq];show N6
def Iy:cA V ->Hp ->VK ->Prop:=λxs H Q=>cc λ(d:fM) (kvs:cA (bX×V))=>cW (xs= [.ref d]) (H d=some (.dK kvs)) (∀p,H p=none ->Q (.ref p) (cf H p (.dK kvs)))
def j6:eY X (.type "dict") Iy:=by intro af s σ H xs us Q I r h;let⟨d,kvs,rfl,hd,q⟩:=h;let⟨u,rfl,ru⟩:=vals1 r;cases ru;let⟨hz,lo,vs,gc,dd⟩:=xz I.cH hd;exact kt_call_dict lo dd (by rw[<- gc.length];show hz) λh' Yd sb=> ?_;have big:=I.big;exact#[.ref s.heap.objs.size,_,I.laid (a:=s.heap.objs.size) (o:= .dK kvs) (t':=s.toks) (λb u e=> ?_) (aq _) #[hz,?_,vs,gc,Yd],rfl,q _ (I.cH.fresh (aq _))];rw[sb.2 b (bu (aN e))];show av _ e;show beq_eq_false_iff_ne.mpr (λz=>by rw[z] at big;show Nat.lt_irrefl _ big)
def OM (d:fM)(o:Obj)(kvs:cA (bX×V)):It:=#[λi H=>i<kvs.length /\ H d=some (.lc o (.dK kvs)),λi H x H'=>H'=H /\ ∃kv,kvs[i]? =some kv /\ x=kV kv.1,λi H=>kvs.length<=i /\ H d=some (.lc o (.dK kvs))]
theorem Jz: ∀ {kvs:cA (bX×V)} {vs:cA (bX×c5)} {i:Nat} {q:bX×c5},KV kvs vs ->vs[i]? =some q -> ∃p,kvs[i]? =some p /\ p.1=q.1
 | _,_,0,_, .cons ⟨e0,r⟩ _,e=>by cases e;show#[_,rfl,e0]
 | _,_,i+1,q, .cons _ t,e=>by have e':_=some q:=e;rw[List.getElem?_cons_succ] at e' ⊢;show Jz t e'
def FE {P:Program}{w:World}{K:Xu}{tg:Expr}{d it:fM}{o:Obj}{kvs:cA (bX×V)}{es:gA DictEntry}{ep:Nat}(ho:o.data= .dict es ep): ze P w K tg (OM d o kvs) [it] it (λi h=>h.IsKeyIter it d i kvs.length ep) where
 mem:=by simp
 obj:=λi h st b hb=>by have e:b=it:= ⇑hb;subst e;let⟨o,e,c,d⟩:=st;show#[o,e,λv z=>by rw[d] at z;cases z]
 keep:=λi h h' st k=>st.at λo e=>k it (by simp) o e
 item:=by
  intro X hP hw hK hc i af s σ H E I hf st hg;subst hP hw hK;let⟨hi,hH⟩:=hg;let⟨vs,gc,hd⟩:=yV I ho hH;have hl:=gc.length;rw[hl] at st hi;let⟨f0,f1,f2,f3,f4,f5⟩:=hf it (by simp);let⟨⟨k,x⟩,hx⟩: ∃q,vs[i]? =some q:=#[vs[i],by simp[hi]]
  let⟨p,hp,rp⟩:=Jz gc hx;exact wpAny_pyNext_dict_item st hd hx λkey h' Tu CC gD=> ?_;have I1:Inv X af σ H {s with heap:=h'}:=I.turned (t':=s.toks) (λb o hb e=>(gD.2 b hb).trans e) f0 f1 f3 f4 f5;let⟨oo,e,c,dd⟩:=id CC;rw[<- hl] at CC;have rk:RelV (kV p.1) key:=by
   rw[show p.1=k from rp];rcases db (show o_ k key=true from Tu) with⟨i,t,e,e2⟩ | ⟨x,t,e,e2⟩
   subst e;show#[t,e2];subst e;show#[t,e2]
  show#[key,rfl,xn (s:= {s with heap:=h'}) e c dd ⋯ #[kV p.1,H,I1,rk,#[rfl,p,hp,rfl],CC,λb hb=>(hf b hb).1]]
 done:=by intro X hP hw hK hc i af s σ H E I hf st hg;subst hP hw hK;let⟨hi,hH⟩:=hg;let⟨vs,gc,hd⟩:=yV I ho hH;have hl:=gc.length;rw[hl] at st hi;let⟨f0,f1,f2,f3,f4,f5⟩:=hf it (by simp);show wpAny_pyNext_dict_end (I.ok.hd hc) st hd (by simp;omega) λh' eb=>#[rfl,I.turned (t':=s.toks) (λb o hb e=>eb b o hb e) f0 f1 f3 f4 f5]
 self:=λ_ _ _ _ _ st h=>wpAny_pyIter_keyiter st h
def Qp (td:TE):TI:=λσ H R=>td σ H λx H1=>cc λd kvs=>cW (x= .ref d) (H1 d=some (.dK kvs)) (∀o,R (OM d o kvs) (cf H1 d (.lc o (.dK kvs))))
def MM (ho:PE X o td):PI X tg o (Qp td):=by
 intro af s σ H R I h;exact cQ (ho af s σ H _ I h) λv s1 ⟨x,H1,I1,r1,d,kvs,ex,hd,q1⟩=> ?_;subst ex;obtain rfl:v=Value.ref d:=r1;let⟨z,Th,vs,gc,dd⟩:=pJ I1.cH (.inl hd);let⟨ob,es,ep,g1,g2,g3,g4⟩:=dd;have da:s1.heap.DictAt (cJ X.prog X.w) d vs ep:=#[ob,es,g1,g2,g3,g4]
 exact wpAny_pyIter_dict (knd:=cJ X.prog X.w) Th da ?_;have I2:=I1.freeze hd g1;exact#[_,[_],_,OM d ob kvs,_,rfl,I2.kept (t':=s1.toks) λb o e=>av _ e,FE g3,?_,λb hb=> ?_,q1 ob];rw[gc.length];show#[_,aW _ rfl,rfl,rfl];have e:=aV.mp hb;subst e;show I2.CI (aq _) (I2.cH.fresh (aq _))
def Pf (t:TE):TE:=λσ H Q=>cc λd kvs=>H d=some (.dK kvs) /\ t σ H λv H'=>cc λo us=>H' d=some (.lc o (.dK us)) /\ Q v (cf H' d (.dK us))
def Ed (h:PE X e t):PE X e (Pf t):=by
 rintro af s σ H Q I ⟨d,kvs,hd,ht⟩;have h0: ∀o u,X.H₀ d≠some (.lc o u):=λo u e=>by have:=I.base.lX d o u e;rw[hd] at this;cases this
 exact cQ (h af s σ H _ I ht) λv s' ⟨x,H',I',r,o,us,e,q⟩=>#[x,_,I'.aaJ e h0,?_,q]
 show r
structure Uj (K:PySem.W.Frag)(mg:Str ->Option Value)(x:Str)(ns:List Int):Prop where
 ex: ∃a,mg x=some (.ref a) /\ ∀H,kP K H a (ns.map V.int)
def tGT (K:Xu)(ns:cA Int):TE:=λ_ H Q=> ∀a,kP K H a (ns.map V.int) ->Q (.ref a) H
def MP (hg:Gl X x)(T:Uj X.K X.mg x ns)(hd:(x==("__debug__" :Str))=false:=by decide):PE X (.Name x pos) (tGT X.K ns):=by let⟨a,hm,hs⟩:=T.ex;intro af s σ H Q I h;show fj (v:= .ref a) hg hm rfl hd af s σ H Q I (h a (hs H))
end
end L2
namespace WL
open PySem L2
section
variable {K:Xu}
def wGT (ns:cA Int):WE:=λ_ M q=>q (.tup (ns.map wi)) M
instance {ns:cA Int}:IE K (tGT K ns) (wGT ns) where
 imp:=λρ M σ H q Q o h k=>λa hs=>k _ M _ H h (aY.refl H) o.hp (WR.Sx hs (by
  exact cK.mk (by simp) λj d v e1 e2=> ?_;rw[aL] at e1 e2;cases hj:ns[j]? with
  | none=>rw[hj] at e1;cases e1
  | some n=>rw[hj] at e1 e2;cases e1;cases e2;show WR.v))
theorem aiC:wGT ns ρ M q=q (.tup (ns.map wi)) M:=rfl
def Hr:zd:=λxs M q=>eh λ(d:fM) (kvs:cA (bX×W)) (ks:cA Str)=>f_ (xs= [wr d]) (M d=some (.dK kvs)) (kvs.map (·.1)=ks.map Sum.inr) (ks.length<=sizeLine) (∀ (p:fM) (ns:cA Str),M p=none ->ns.Perm ks ->ns.Pairwise (λx y=>¬y.cps.toList<x.cps.toList) ->q (wr p) (um M p (.lst (ns.map ws))))
theorem EC {H:Hp}: ∀ {kvs:cA (bX×W)} {vs:cA (bX×V)},KR K H kvs vs ->kvs.map (·.1)=vs.map (·.1)
 | _,_, .nil=>rfl
 | _,_, .cons ⟨e,_⟩ t=>by rw[aT,aT,EC t,e]
theorem zB {H:Hp}: ∀ (ns:cA Str),cK K H (ns.map ws) (ns.map V.str)
 | []=>cK.nil
 | _::r=>cK.cons WR.v (zB r)
instance:IC K z8 Hr where
 imp:=by rintro xs v M H q Q m r1 ⟨d,kvs,ks,rfl,hd,hk,hl,h⟩ k;let⟨v,rfl,r⟩:=r1.one;cases r.eq;let⟨us,e,rr⟩:=m d _ hd;show#[d,us,ks,rfl,e,by rw[<- EC rr];show hk,hl,λp ns hp h1 h2=>k _ _ _ _ (h p ns (m.fresh hp) h1 h2) (L2.fF.ts (bO hp)) (m.jW hp (zB ns)) WR.v]
def Hv:zd:=λxs M q=>cc λ(d:fM) (kvs:cA (bX×W))=>cW (xs= [wr d]) (M d=some (.dK kvs)) (∀p,M p=none ->q (wr p) (um M p (.dK kvs)))
instance:IC K Iy Hv where
 imp:=by rintro xs v M H q Q m r1 ⟨d,kvs,rfl,hd,h⟩ k;let⟨v,rfl,r⟩:=r1.one;cases r.eq;let⟨us,e,rr⟩:=m d _ hd;show#[d,us,rfl,e,λp hp=>k _ _ _ _ (h p (m.fresh hp)) (L2.fF.ts (bO hp)) (m.put (L2.fF.ts (bO hp)) #[us,bM,KR.ts (L2.fF.ts (bO hp)) rr]) WR.v]
def Vs:Hv [.v (.ref d)] M q=fC (M d) λkvs=> ∀p,M p=none ->q (wr p) (um M p (.dK kvs)):=by apply propext;symm;rintro⟨_,kvs,h1,h2,k⟩;cases h1;show#[kvs,h2,k];rintro⟨kvs,h2,k⟩;show#[_,kvs,rfl,h2,k]
def JK (a:WE):WI:=λρ M q=>a ρ M λx M1=>cc λd kvs=>cW (x=wr d) (M1 d=some (.dK kvs)) (∀o ks,q (kvs.map λkv=>iW kv.1) (λM'=>M' d=some (.fz o ks kvs)) (um M1 d (.fz o ks kvs)))
def Gv:C5 K H1 (OM d o ks) (kvs.map λkv=>iW kv.1) (λM'=>M' d=some (.fz o ks kvs)):=by intro i M H t m hM;let⟨e1,r1⟩:=m d _ hM;have hl:=Cv r1;rw[ag];exact#[λh=>#[by omega,e1],λh=>#[by omega,e1],λv H' hi ⟨e2,kv,hk,e3⟩=> ?_];subst e2 e3;let⟨p,hp,e4,rp⟩:=JA r1 hk;exact#[aY.refl _,m,iW p.1,by rw[aL,hp];rfl,?_];rw[e4];cases kv.1<;>show WR.v
instance {t:TE}{a:WE} [ia:IE K t a]:II K (Qp t) (JK a) where
 imp:=λρ M σ H q R o h k=>ia.imp ρ M σ H _ _ o h λx M1 v H1 ⟨d,kvs,ex,hd,h1⟩ t1 m1 r1=>by subst ex;let⟨ks,e,r⟩:=m1 d _ hd;exact#[d,ks,r1.eq,e,λob=>k _ _ _ _ _ (h1 ob ks) (t1.trans (lm e)) (m1.put (lm e) #[bM,KR.ts (lm e) r]) Gv]
def _e:JK a ρ M q=a ρ M λx M1=>dU x λd=>fC (M1 d) λkvs=> ∀o ks,q (kvs.map λkv=>iW kv.1) (λM'=>M' d=some (.fz o ks kvs)) (um M1 d (.fz o ks kvs)):=by unfold JK dU fC;congr 1;funext x M1;apply propext;symm;rintro⟨d,kvs,e1,e2,h⟩;show#[d,e1,kvs,e2,h];rintro⟨d,e1,kvs,e2,h⟩;show#[d,kvs,e1,e2,h]
def Vb (t:WE):WE:=λρ M q=>cc λd kvs=>M d=some (.dK kvs) /\ t ρ M λv M'=>eh λo ks us=>M' d=some (.fz o ks us) /\ q v (um M' d (.dK us))
instance {t:TE}{a:WE} [ia:IE K t a]:IE K (Pf t) (Vb a) where
 imp:=λρ M σ H q Q o ⟨d,kvs,hd,h⟩ k=>by let⟨ks,ek,r⟩:=o.hp d _ hd;exact#[d,ks,ek,ia.imp ρ M σ H _ _ o h ?_];rintro x M' v H' ⟨ob,us,ws,hM,hq⟩ ts m' r';let⟨e1,r1⟩:=m' d _ hM;have t2:=Rq (u:= .dK us) e1;show#[ob,us,e1,k _ _ _ _ hq (ts.trans t2) (m'.put t2 #[us,bM,KR.ts t2 r1]) (r'.ts t2)]
end
end WL
namespace L2
open PySem
def jC (hK:X.K=K):gI X (compareOp .NotIn) (Wn K true):=by subst hK;show yA
theorem gT (X:K.In h)(G:h.Ns mainGlobals mg)(a:W.nsIn K mainGlobals x=some (some (.ref C))):mg x=some (.ref C):=W.mg_of X G a
theorem iq (_:K.In h)(a:W.nsIn K mainGlobals x=some (some (.ref C)))(e:W.excIn K C YC "ValueError.__new__" =true)(k1:W.clsIn K C=some cd)(k2:W.findIn K (.ref C) "__getattribute__" =some (some (.builtin "BaseException.__getattribute__")))(k3:W.findIn K (.ref C) "__getattr__" =some none)(k4:W.findIn K (.ref C) "__class__" =some (some (.builtin "object.__class__")))(k5:W.mroIn K C (.type "object")=some true)(k6:W.mroIn K C (.type "BaseException")=some true):lb K x C:=U7 a e k1 k2 k3 k4 k5 k6
theorem Rx (X:K.In h)(G:h.Ns mainGlobals mg)(a:W.nsIn K mainGlobals x=some (some (.str z t))): ∃t,mg x=some (.str z t):=#[t,W.mg_of X G a]
theorem Rl (X:K.In h)(G:h.Ns mainGlobals mg)(a:W.nsIn K mainGlobals x=some (some (.ref ad)))(l:K.lookup ad=some #[.type "tuple",none, .seq (List.toArray [.int n1 t1, .int n2 t2, .int n3 t3, .int n4 t4]) n,sl]):Uj K mg x [n1,n2,n3,n4]:=#[ad,W.mg_of X G a,λH=> .inr #[_,_,_,l,rfl,rfl,rfl,by change 4<=sizeLine;decide, .cons #[_,rfl] (.cons #[_,rfl] (.cons #[_,rfl] (.cons #[_,rfl] .nil)))]]
end L2
namespace WL
open PySem L2
section
variable {K:Xu}
def BM (a b:WE):WE:=λρ M q=>a ρ M λx M1=> ∃p,cW (x=wr p) (∃kvs,M1 p=some (.dK kvs)) (b ρ M1 λy M2=>eh λkvs k z=>fg (M2 p=some (.dK kvs)) (y=iW k) (eD kvs k=some z) (q z (um M2 p (.dK (jK kvs k)))))
instance {t u:TE}{a b:WE} [ia:IE K t a] [ib:IE K u b]:IE K (HN t u) (BM a b) where
 imp :=λρ M σ H q Q o h k=>ia.imp ρ M σ H _ _ o h λx M1 v H1 ⟨p,e,⟨kvs,hp⟩,h1⟩ t1 m1 r1=>by
  subst e;let⟨ks,hk,rr⟩:=m1 p _ hp;exact#[p,r1.eq, .inl #[ks, .inl hk],ib.imp ρ M1 σ H1 _ _ (o.mv t1 m1) h1 λy M2 u H2 ⟨kvs,ky,z,e2,e3,e4,h2⟩ t2 m2 r2=> ?_];subst e3;let⟨ks,hk,rr⟩:=m2 p _ e2;have ts:=lm (u:= .dK (mj ks ky)) hk;rcases rr.val ky with⟨n1,_⟩ | ⟨x',v',n1,n2,rx⟩
  rw[n1] at e4;cases e4;rw[n1] at e4;cases e4;show#[ks,ky,v',hk,i9 r2,n2,k _ _ _ _ h2 ((t1.trans t2).trans ts) (m2.putD hk rr.drop) (rx.ts ts)]
def Vt:BM a b ρ M q=a ρ M λx M1=>dU x λp=>fC (M1 p) λ_=>b ρ M1 λy M2=>iX y λk=>fC (M2 p) λkvs=>iL (eD kvs k) λz=>q z (um M2 p (.dK (jK kvs k))):=by
 unfold BM dU fC iX iL;congr 1;funext x M1;apply propext;symm;rintro⟨p,e1,⟨kvs,e2⟩,h⟩;exact#[p,e1,kvs,e2,?_];have:(λy M2=>eh λkvs k z=>fg (M2 p=some (.dK kvs)) (y=iW k) (eD kvs k=some z) (q z (um M2 p (.dK (jK kvs k)))))=(λy M2=> ∃k,y=iW k /\ ∃l,M2 p=some (.dK l) /\ ∃z,eD l k=some z /\ q z (um M2 p (.dK (jK l k)))):=by funext y M2;apply propext;symm;rintro⟨kvs,k,z,h1,h2,h3,h4⟩;show#[k,h2,kvs,h1,z,h3,h4];rintro⟨k,h2,kvs,h1,z,h3,h4⟩;show#[kvs,k,z,h1,h2,h3,h4]
 rw[this] at h;show h;rintro⟨p,e1,kvs,e2,h⟩;exact#[p,e1,#[kvs,e2],?_];have:(λy M2=>eh λkvs k z=>fg (M2 p=some (.dK kvs)) (y=iW k) (eD kvs k=some z) (q z (um M2 p (.dK (jK kvs k)))))=(λy M2=> ∃k,y=iW k /\ ∃l,M2 p=some (.dK l) /\ ∃z,eD l k=some z /\ q z (um M2 p (.dK (jK l k)))):=by funext y M2;apply propext;symm;rintro⟨kvs,k,z,h1,h2,h3,h4⟩;show#[k,h2,kvs,h1,z,h3,h4];rintro⟨k,h2,kvs,h1,z,h3,h4⟩;show#[kvs,k,z,h1,h2,h3,h4]
 rw[this];show h
end
end WL
namespace WQ
open PySem L2 WL WP
section
variable {α:Type}
def sy (f:α ->W)(l:cA (Str×α)):cA (bX×W):=l.map λz=>(.inr z.1,f z.2)
def cB (l:cA (Str×α))(n:Str):eM α:=(l.find? λz=>decide (z.1=n)).map (·.2)
def gQ (l:cA (Str×α))(n:Str)(a:α):cA (Str×α):=if(l.any λz=>decide (z.1=n))=true then l.map (λz=>if z.1=n then(z.1,a) else z) else l++ [(n,a)]
def nW (l:cA (Str×α))(n:Str):cA (Str×α):=l.filter λz=>decide (z.1≠n)
theorem tP:((Sum.inr a:bX)= .inr b)↔a=b:=#[Sum.inr.inj,λh=>by rw[h]]
def cY (f:α ->W)(l:cA (Str×α))(n:Str):eD (sy f l) (.inr n)=(cB l n).map f:=by
 unfold eD sy cB;induction l with
 | nil=>rfl
 | cons z l ih=>rw[aT,cL,cL];simp![tP];by_cases h:z.1=n;simp[h];simpa [h] using ih
def gr (f:α ->W)(l:cA (Str×α))(n:Str)(a:α):ur (sy f l) (.inr n) (f a)=sy f (gQ l n a):=by
 have e:((sy f l).any λkv=>decide (kv.1= .inr n))=(l.any λz=>decide (z.1=n)):=by unfold sy;rw[List.any_map];congr 1;funext z;simp![Function.comp,tP]
 unfold ur gQ;rw[e];split;unfold sy;rw[bi,bi];apply List.map_congr_left;intro z _;simp![Function.comp,tP];split<;>rfl;unfold sy;rw[aB];rfl
def pH (f:α ->W)(l:cA (Str×α))(n:Str):jK (sy f l) (.inr n)=sy f (nW l n):=by unfold jK sy nW;rw[List.filter_map];congr 2;funext z;simp![Function.comp,ne_eq,tP]
def oq (f:α ->W)(l:cA (Str×α)):(sy f l).map (·.1)=(l.map (·.1)).map Sum.inr:=by unfold sy;rw[bi,bi];rfl
def om (f:α ->W)(l:cA (Str×α)):(sy f l).length=l.length:=by unfold sy;rw[ag]
def mP (l:cA (Str×α))(n:Str)(a:α):(gQ l n a).length<=l.length+1:=by unfold gQ;split<;>simp
theorem tV (l:cA (Str×α))(n:Str):(nW l n).length<=l.length:=List.length_filter_le _ _
def eV {a:α}(h:cB l n=some a): ∃z∈l,z.1=n /\ z.2=a:=by
 unfold cB at h;cases e:l.find? λz=>decide (z.1=n) with
 | none=>rw[e] at h;cases h
 | some z=>rw[e] at h;cases h;show#[z,List.mem_of_find?_eq_some e, ⇑(List.find?_some e),rfl]
def N9 {z:Str×α}(h:z∈l): ∃a,cB l z.1=some a:=by
 unfold cB;cases e:l.find? λy=>decide (y.1=z.1) with
 | none=>simpa using List.find?_eq_none.mp e z h
 | some y=>show#[_,rfl]
def oN {z:Str×α}(h:z∈gQ l n a):z∈l \/ z=(n,a):=by unfold gQ at h;split at h;let⟨y,hy,rfl⟩:=List.mem_map.mp h;split;rename_i e;rw[e];show .inr rfl;show .inl hy;obtain h | h:=a8.mp h;show .inl h;show .inr (aV.mp h)
theorem pK {z:Str×α}(h:z∈nW l n):z∈l:=(List.mem_filter.mp h).1
def ID (l:cA (Str×α))(n:Str)(a:α):(gQ l n a).map (·.1)=if(l.any λz=>decide (z.1=n))=true then l.map (·.1) else l.map (·.1)++ [n]:=by unfold gQ;split;rw[bi];apply List.map_congr_left;intro z _;simp![Function.comp];split<;>rfl;rw[aB];rfl
def IB {a:α}(h:(l.map (·.1)).Nodup):((gQ l n a).map (·.1)).Nodup:=by rw[ID];split;show h;rename_i hn;rw[List.nodup_append];exact#[h,by simp,λx hx y hy=> ?_];rw[aV.mp hy];rintro rfl;apply hn;let⟨z,hz,e⟩:=List.mem_map.mp hx;show List.any_eq_true.mpr #[z,hz, ⇑e]
theorem KC {l:cA (Str×α)}(h:(l.map (·.1)).Nodup):((nW l n).map (·.1)).Nodup:=h.sublist (List.Sublist.map _ List.filter_sublist)
def zP {a b c:cA Str}(h1:a.Perm c)(h2:b.Perm c)(s1:a.Pairwise λx y=>¬y.cps.toList<x.cps.toList)(s2:b.Pairwise λx y=>¬y.cps.toList<x.cps.toList):a=b:=by exact List.Perm.eq_of_pairwise (le:=λx y=>¬y.cps.toList<x.cps.toList) (λx y _ _ _h hyx=> ?_) s1 s2 (h1.trans h2.symm);show DB (List.le_antisymm _h hyx)
end
inductive Rf where
 | BadName | NoDeed | NoRound | NoCrew | Taken | InUse | TooMany | TooFar | NoMore | NoState
def DO:Rf ->Str
 | .BadName=> "BadName" | .NoDeed=> "NoDeed" | .NoRound=> "NoRound" | .NoCrew=> "NoCrew" | .Taken=> "Taken" | .InUse=> "InUse" | .TooMany=> "TooMany" | .TooFar=> "TooFar" | .NoMore=> "NoMore" | .NoState=> "NoState"
abbrev zu:Str:= "abcdefghijklmnopqrstuvwxyz"
abbrev Rm:=cA (Str×Rd)
abbrev Tm:=cA (Str×cA Str)
def fo (l:cA Str):W:= .tup (l.map ws)
abbrev yk (R:Rm):cA (bX×W):=sy gM R
abbrev qd (T:Tm):cA (bX×W):=sy fo T
def rJ (n:Str)(l:cA Str):Bool:=CA (.str n) (l.map V.str)
def sx (T:Tm)(n:Str):Bool:=T.any λz=>rJ n z.2
def cg (n:Str):Bool:=decide (1<=n.length) && decide (n.length<=12) && (BA n).all λc=>BB c zu
def gF (a:Rd)(m r:Int):Bool:= !(decide ((if a.1<0 then -a.1 else a.1) <=m) && a.2.all λz=>decide ((if z.1<0 then -z.1 else z.1) <=r))
abbrev gL (n:Str):Prop:=n.cps.all (· <128)=true
def kS (r t:fM):cA (Str×W):= [("rounds",wr r),("teams",wr t)]
def ed (p:Int)(now la lu lh:fM):cA (Str×W):= [("p",wi p),("now",wr now),("past",wr la),("undone",wr lu),("held",wr lh)]
theorem qm:(kS r t).lookup ("rounds" :Str)=some (wr r):=rfl
theorem nJ:(kS r t).lookup ("teams" :Str)=some (wr t):=rfl
theorem GX:(ed p now la lu lh).lookup ("p" :Str)=some (wi p):=rfl
theorem hJ:(ed p now la lu lh).lookup ("now" :Str)=some (wr now):=rfl
theorem K_:(ed p now la lu lh).lookup ("past" :Str)=some (wr la):=rfl
theorem OB:(ed p now la lu lh).lookup ("undone" :Str)=some (wr lu):=rfl
theorem OC:(ed p now la lu lh).lookup ("held" :Str)=some (wr lh):=rfl
theorem Uc:gV "now" (wr x) (ed p now la lu lh)=ed p x la lu lh:=rfl
theorem aii:gV "undone" (wr x) (ed p now la lu lh)=ed p now la x lh:=rfl
theorem Ue:((ed p now la lu lh).length<1000)=True:=az (by change 5<1000;decide)
theorem Be:(ed p now la lu lh).lookup ("settings" :Str)=none:=rfl
theorem gq:(ed p now la lu lh).lookup ("turn_to" :Str)=none:=rfl
theorem vC:(ed p now la lu lh).lookup ("put" :Str)=none:=rfl
theorem mG:(ed p now la lu lh).lookup ("put_team" :Str)=none:=rfl
theorem sj:(ed p now la lu lh).lookup ("enlisted" :Str)=none:=rfl
theorem tX:(ed p now la lu lh).lookup ("team" :Str)=none:=rfl
theorem Ow:(ed p now la lu lh).lookup ("tell" :Str)=none:=rfl
theorem CU:(ed p now la lu lh).lookup ("join_as" :Str)=none:=rfl
theorem CY:(ed p now la lu lh).lookup ("back_as" :Str)=none:=rfl
theorem Bd:(ed p now la lu lh).lookup ("times_as" :Str)=none:=rfl
theorem Oz:(ed p now la lu lh).lookup ("drop" :Str)=none:=rfl
theorem K':(ed p now la lu lh).lookup ("found" :Str)=none:=rfl
theorem CW:(ed p now la lu lh).lookup ("disband" :Str)=none:=rfl
theorem GW:(ed p now la lu lh).lookup ("enlist" :Str)=none:=rfl
theorem CV:(ed p now la lu lh).lookup ("dismiss" :Str)=none:=rfl
theorem Ov:(ed p now la lu lh).lookup ("undo" :Str)=none:=rfl
theorem Ox:(ed p now la lu lh).lookup ("redo" :Str)=none:=rfl
theorem Oy:(ed p now la lu lh).lookup ("hold" :Str)=none:=rfl
theorem y9:(ed p now la lu lh).lookup ("return_to" :Str)=none:=rfl
theorem Bg:(ed p now la lu lh).lookup ("names" :Str)=none:=rfl
theorem Bh:(ed p now la lu lh).lookup ("crews" :Str)=none:=rfl
theorem fe:(ed p now la lu lh).lookup ("round_of" :Str)=none:=rfl
theorem CT:(ed p now la lu lh).lookup ("members" :Str)=none:=rfl
def HI (f:α ->W)(l:cA (Str×α)):(sy f l).map (λx=>x.2)=l.map λz=>f z.2:=by unfold sy;rw[bi];rfl
def xr (l:cA Str):(l.map V.str).all lZ=true:=by rw[List.all_map];show List.all_eq_true.mpr λ_ _=>rfl
theorem tQ (h:q (wb (rJ n l)) M):Zo false (ws n) (fo l) M q:=#[.str n,l.map V.str,rfl, .inl (by unfold fo;rw[bi];rfl),rfl,xr l,h]
theorem nP (h:q (wb (!rJ n l)) M):Zo true (ws n) (fo l) M q:=#[.str n,l.map V.str,rfl, .inl (by unfold fo;rw[bi];rfl),rfl,xr l,h]
theorem Ds (h:M t=some o)(hu:um M t f u=none):Sm M (um (um (um M t f) u l) t o):=λa x e=>by by_cases ht:a=t;subst ht;rw[ao];rw[h] at e;show e;rw[aP ht,aP (cF (M:=um M t f) (by rw[aP ht];show e) hu),aP ht];show e
def Pg (C:fM)(M:Mp)(a:fM)(R:Rm)(T:Tm):Prop:=eh λ(dx r t:fM)=>cW (M a=some (.ins C dx (kS r t))) (M r=some (.dK (yk R))) (M t=some (.dK (qd T)))
structure Bk (B C:Addr)(M:Mp)(b la lu lh:Addr)(p:Int)(now:Addr)(pa un he:List Addr)(R:Rm)(T:Tm):Prop where
 ob: ∃dx,M b=some (.ins B dx (ed p now la lu lh))
 pa:M la=some (.lst (pa.map wr))
 un:M lu=some (.lst (un.map wr))
 he:M lh=some (.lst (he.map wr))
 ne:la≠lu /\ la≠lh /\ lu≠lh
 pg:Pg C M now R T
def zw (b la:fM)(M M':Mp):Prop:= ∀a o,M a=some o ->a≠b ->a≠la ->M' a=some o
def Pg.sm (h:Pg C M a R T)(s:Sm M M'):Pg C M' a R T:=by let⟨dx,r,t,h1,h2,h3⟩:=h;show#[dx,r,t,s _ _ h1,s _ _ h2,s _ _ h3]
def Bk.sm {pa un he:cA fM}(h:Bk B C M b la lu lh p now pa un he R T)(s:Sm M M'):Bk B C M' b la lu lh p now pa un he R T:=by let⟨⟨dx,h1⟩,h2,h3,h4,h5,h6⟩:=h;show#[#[dx,s _ _ h1],s _ _ h2,s _ _ h3,s _ _ h4,h5,h6.sm s]
theorem zw.sm {M M1 M':Mp}(F:zw b la M1 M')(s:Sm M M1):zw b la M M':=λa o h n1 n2=>F a o (s a o h) n1 n2
theorem zw.E9 (F:zw b la M M')(hb:M b=some (.ins B dx fs))(ha:M la=some (.lst l))(h:M r=some (.dK kvs)):M' r=some (.dK kvs):=F _ _ h (λz=>by subst z;rw[hb] at h;cases h) λz=>by subst z;rw[ha] at h;cases h
def zw.pg (F:zw b la M M')(hb:M b=some (.ins B dx (ed p now SG lu lh)))(ha:M la=some (.lst l))(h:Pg C M a R T):Pg C M' a R T:=by let⟨lg,r,t,h1,h2,h3⟩:=h;exact#[lg,r,t,F _ _ h1 (λz=> ?_) (λz=> ?_),F.E9 hb ha h2,F.E9 hb ha h3];subst z;rw[hb] at h1;injection h1 with h1;injection h1 with _ _ h1;have:=congrArg List.length h1;revert this;change 5=2 ->False;decide;subst z;rw[ha] at h1;cases h1
def Fs (s:fM)(M M':Mp):Prop:= ∀a o,M a=some o ->a≠s ->M' a=some o
theorem Fs.trans {M M1 M2:Mp}(f:Fs s M M1)(g:Fs s M1 M2):Fs s M M2:=λa o h n=>g a o (f a o h n) n
theorem Fs.self:Fs s M (um M s o):=λa u h n=>by rw[aP n];show h
theorem Fs.new (f:Fs s M M')(hp:M' p=none):Fs s M (um M' p o):=λa u h n=>by rw[aP (cF (f a u h n) hp)];show f a u h n
theorem Fs.put (f:Fs s M M'):Fs s M (um M' s o):=λa u h n=>by rw[aP n];show f a u h n
def Fs.free (f:Fs s M M')(hp:M' p=none)(n:p≠s):M p=none:=by
 cases e:M p with
 | none=>rfl
 | some o=>rw[f p o e n] at hp;cases hp
structure qZ (p:Int)(R:Rm):Prop where
 nd:(R.map (·.1)).Nodup
 len:R.length<=1000
 ok: ∀z∈R,dI p z.2.2 /\ z.2.2.length<=401 /\ gF z.2 200 200=false
def Sd (C:fM):eB:=λxs M q e=> ∃n:Str,f_ (xs= [ws n]) (gL n) (n.length<=100) (cg n=true ->q wn M) (cg n=false ->e C M)
def RY:eZ:=λxs M q=>fQ λ(d:fM) (kvs:cA (bX×W)) (n:Str) (x:W)=>fg (xs= [wr d,ws n,x]) (M d=some (.dK kvs)) (kvs.length<=2000) (∀r,M r=none ->q (wr r) (um M r (.dK (ur kvs (.inr n) x))))
def IV:eZ:=λxs M q=>eh λ(d:fM) (kvs:cA (bX×W)) (n:Str)=>fg (xs= [wr d,ws n]) (M d=some (.dK kvs)) ((eD kvs (.inr n)).isSome=true) (∀r,M r=none ->q (wr r) (um M r (.dK (jK kvs (.inr n)))))
def WB (C:fM):eZ:=λxs M q=>fQ λ(s dx r t:fM)=>cW (xs= [wr s,wr r,wr t]) (M s=some (.ins C dx [])) (q wn (um M s (.ins C dx (kS r t))))
def FT (B C:fM):eZ:=λxs M q=>tq λ(b la lu lh now:fM)=>fQ λ(p:Int) (pa un he:cA fM)=>cc λ(R:Rm) (T:Tm)=>cW (xs= [wr b]) (Bk B C M b la lu lh p now pa un he R T) (q (wi p) M)
def Wv (B C:fM):eZ:=λxs M q=>U0 λ(b la lu lh now pg:fM)=>fQ λ(p:Int) (pa un he:cA fM)=>fQ λ(R:Rm) (T:Tm) (R':Rm) (T':Tm)=>f_ (xs= [wr b,wr pg]) (Bk B C M b la lu lh p now pa un he R T) (Pg C M pg R' T') (pa.length<=1000) (∀M' dS,Bk B C M' b la dS lh p pg (pa++ [now]) [] he R' T' ->zw b la M M' ->M dS=none ->q wn M')
def FW (B C:fM):eZ:=λxs M q=>tq λ(b la lu lh now:fM)=>fQ λ(p:Int) (pa un he:cA fM)=>eh λ(R:Rm) (T:Tm) (n:Str)=>fg (xs= [wr b,ws n]) (Bk B C M b la lu lh p now pa un he R T) (T.length<=1000) (q (wb (sx T n)) M)
def di (T:Tm)(n:Str)(a:Rd):Bool:=gF a 200 200 || (sx T n && gF a 8 24)
def FU (B C X:fM):eB:=λxs M q e=>tq λ(b la lu lh now:fM)=>fQ λ(p:Int) (pa un he:cA fM)=>fQ λ(R:Rm) (T:Tm) (n:Str) (a:Rd)=>BG (xs= [wr b,ws n,gM a]) (Bk B C M b la lu lh p now pa un he R T) (pa.length<=1000) (R.length<=1000) (T.length<=1000) (a.2.length<=1000000) (di T n a=false -> ∀M' dS pg,Bk B C M' b la dS lh p pg (pa++ [now]) [] he (gQ R n a) T ->zw b la M M' ->M dS=none ->M pg=none ->q wn M') (di T n a=true ->e X M)
def IW:eZ:=λxs M q=>eh λ(a:Rd) (e r:Int)=>cW (xs= [gM a,wi e,wi r]) (a.2.length<=1000000) (q (wb (!gF a e r)) M)
def Sc:eZ:=λxs M q=> ∃a:Rd,cW (xs= [gM a]) (a.2.length<=1000000) (q (wb (!gF a 8 24)) M)
inductive dF where
 | tell (n:Str) (ds:List (Str×Int)) | join (n x y:Str) | back (n x:Str) | times (n x:Str) (k:Int) | drop (n:Str)
inductive Oc (α:Type) where
 | ok (R:α) | bad (r:Rf)
noncomputable def Iu (p:Int) (a:Rd) (n:Int):Rd:=Classical.epsilon λr=>gZ p a n r
theorem DS (hp:0<p)(h:gZ p a n r):Iu p a n=r:=(Classical.epsilon_spec (p:=λr=>gZ p a n r) #[r,h]).eq hp h
def Wg (hp:0<p)(h:dI p a.2):gZ p a 1 a:=by
 exact#[by rw[Int.mul_one],h,λx=> ?_];have e:ln (fw a.2) a.1 1 x=fw a.2 x:=by simp[ln,fX]
 rw[e, <- mM hp,Jk hp h]
theorem RJ (hp:0<p):gZ p a (-1) (bk p a):=(Wg hp (CZ hp a)).yH hp ⋯
def ji (ds:cA (Str×Int)):Bool:=ds.all λd=>decide (d.1= "go") || decide (d.1= "turn")
def vd:ji ds=true↔ ∀d∈ds,Good d:=by unfold ji Good;rw[List.all_eq_true];simp![Bool.or_eq_true,cV]
def jE (R:Rm)(T:Tm)(n:Str)(a:Rd):Oc Rm:=if di T n a=true then .bad .TooFar else .ok (gQ R n a)
noncomputable def cD (p:Int) (R:Rm) (T:Tm):dF ->Oc Rm
 | .tell n ds=>if cg n=false then .bad .BadName else if ji ds=false then .bad .NoDeed else jE R T n ((eN ds).1,qu p (eN ds).2)
 | .join n x y=>if cg n=false then .bad .BadName else match cB R x,cB R y with
  | some a,some b=>jE R T n (jn p a b)
  | _,_=> .bad .NoRound
 | .back n x=>if cg n=false then .bad .BadName else match cB R x with
  | some a=>jE R T n (bk p a)
  | none=> .bad .NoRound
 | .times n x k=>if cg n=false then .bad .BadName else match cB R x with
  | some a=>jE R T n (Iu p a k)
  | none=> .bad .NoRound
 | .drop n=>match cB R n with
  | none=> .bad .NoRound
  | some _=>if sx T n=true then .bad .InUse else .ok (nW R n)
structure Nm (n:Str):Prop where
 as:gL n
 len:n.length<=100
def Hf:dF ->Prop
 | .tell n ds=>cW (Nm n) (ds.length<=50) (∀d∈ds,d.1.length<=100)
 | .join n x y=>cW (Nm n) (Nm x) (Nm y)
 | .back n x=>Nm n /\ Nm x
 | .times n x k=>fg (Nm n) (Nm x) (-100<=k) (k<=100)
 | .drop n=>Nm n
structure OZ (p:Int)(R:Rm)(T:Tm)(pa:List Addr):Prop where
 p4:p=2 \/ p=3 \/ p=5 \/ p=7
 pa:pa.length<=900
 r:qZ p R
 t:T.length<=900
def sv (B C:fM)(M:Mp)(b la lh:fM)(p:Int)(now:fM)(pa he:cA fM)(R:Rm)(T:Tm)(q:WK):Prop:=∀M' dS pg,Bk B C M' b la dS lh p pg (pa++ [now]) [] he R T ->zw b la M M' ->M dS=none ->M pg=none ->q wn M'
def WN (B C:fM)(vB:Rf ->fM)(f:cA W ->Mp ->dF ->Prop):eB:=λxs M q e=>tq λ(b la lu lh now:fM)=>fQ λ(p:Int) (pa un he:cA fM)=>fQ λ(R:Rm) (T:Tm) (dd:dF) (ys:cA W)=>Lf (xs=wr b::ys) (f ys M dd) (Hf dd) (Bk B C M b la lu lh p now pa un he R T) (OZ p R T pa) (∀R',cD p R T dd= .ok R' ->sv B C M b la lh p now pa he R' T q) (∀r,cD p R T dd= .bad r ->e (vB r) M)
def yo {vB:Rf ->fM}(hB:Bk B C M b la lu lh p now pa un he R T)(hS:OZ p R T pa)(hl:a.2.length<=1000000)(ho:O=jE R T n a)(kq: ∀R',O= .ok R' ->sv B C M b la lh p now pa he R' T q)(ke: ∀r,O= .bad r ->up e (vB r) M)(hX:X=vB .TooFar:=by rfl):FU B C X [wr b,ws n,gM a] M (λ_ M1=> ∃M0,Sm M0 M1 /\ q wn M0) (up e):=by have h1:=hS.pa;have h2:=hS.r.len;have h3:=hS.t;exact#[b,la,lu,lh,now,p,pa,un,he,R,T,n,a,rfl,hB,by omega,h2,by omega,hl,λhb M' dS pg B' F hu hp=>eC (kq _ (by rw[ho,jE,ak (by rw[hb];decide)]) M' dS pg B' F hu hp),λhb=> ?_];rw[hX];show ke .TooFar (by rw[ho,jE,am hb])
def Yt (ys:cA W)(M:Mp)(dd:dF):Prop:=eh λ(n:Str) (a:fM) (ds:cA (Str×Int))=>cW (ys= [ws n,wr a]) (dd= .tell n ds) (M a=some (.lst (ds.map fU)))
def Yu (ys:cA W)(_:Mp)(dd:dF):Prop:=eh λ(n x y:Str)=>ys= [ws n,ws x,ws y] /\ dd= .join n x y
def Yw (ys:cA W)(_:Mp)(dd:dF):Prop:=cc λ(n x:Str)=>ys= [ws n,ws x] /\ dd= .back n x
def TW (ys:cA W)(_:Mp)(dd:dF):Prop:=eh λ(n x:Str) (k:Int)=>ys= [ws n,ws x,wi k] /\ dd= .times n x k
def Yv (ys:cA W)(_:Mp)(dd:dF):Prop:= ∃n:Str,ys= [ws n] /\ dd= .drop n
def IX (B C X:fM):eB:=λxs M q e=>tq λ(b la lu lh now:fM)=>fQ λ(p:Int) (pa un he:cA fM)=>eh λ(R:Rm) (T:Tm) (n:Str)=>f_ (xs= [wr b,ws n]) (Bk B C M b la lu lh p now pa un he R T) (n.length<=100) (∀a,cB R n=some a ->q (gM a) M) (cB R n=none ->e X M)
def MV (B C:fM):eZ:=λxs M q=>tq λ(b la lu lh now:fM)=>fQ λ(p:Int) (pa un he:cA fM)=>cc λ(R:Rm) (T:Tm)=>fg (xs= [wr b]) (Bk B C M b la lu lh p now pa un he R T) (R.length<=1000) (∀ (u:fM) (ns:cA Str),M u=none ->ns.Perm (R.map (·.1)) ->ns.Pairwise (λx y=>¬y.cps.toList<x.cps.toList) ->q (wr u) (um M u (.lst (ns.map ws))))
def MZ (B C:fM):eZ:=λxs M q=>tq λ(b la lu lh now:fM)=>fQ λ(p:Int) (pa un he:cA fM)=>cc λ(R:Rm) (T:Tm)=>fg (xs= [wr b]) (Bk B C M b la lu lh p now pa un he R T) (T.length<=1000) (∀ (u:fM) (ns:cA Str),M u=none ->ns.Perm (T.map (·.1)) ->ns.Pairwise (λx y=>¬y.cps.toList<x.cps.toList) ->q (wr u) (um M u (.lst (ns.map ws))))
theorem QB {a n:Str}(h:a.length<=100)(hn:n.length<=100):(a++n).length<=sizeLine:=ce (by rw[gs];omega)
theorem QA {a n c:Str}(h:a.length<=100)(hn:n.length<=100)(hc:c.length<=100):(a++n++c).length<=sizeLine:=ce (by rw[gs,gs];omega)
theorem _x {a n c d:Str}(h:a.length<=100)(hn:n.length<=100)(hc:c.length<=100)(hd:d.length<=100):(a++n++c++d).length<=sizeLine:=ce (by rw[gs,gs,gs];omega)
theorem z6 {lo hi:Int}: ∀ {l:Pt} {a:Int},l.Pairwise (λx y=>x.1<y.1) ->(∀z∈l,a<=z.1 /\ z.1<=hi) ->a<=hi+1 ->(l.length:Int) <=hi+1 - a
 | [],a,_,_,h=>by simp;omega
 | z::l,a,hp,hb,h=>by have h0:=hb z (by simp);have:=z6 (lo:=lo) (hi:=hi) (l:=l) (a:=z.1+1) (bU.mp hp).2 (λy hy=>#[by have:=(bU.mp hp).1 y hy;omega,(hb y (by simp[hy])).2]) (by omega);rw[aQ];push_cast;omega
def Og (h:gF a 200 200=false)(hp:dI p a.2):a.2.length<=401:=by unfold gF at h;rw[Bool.not_eq_false',cP,List.all_eq_true] at h;have:=z6 (lo:=0) (hi:=200) (a:= -200) hp.2 (λz hz=>by have:=of_decide_eq_true (h.2 z hz);split at this<;>omega) ⋯;omega
def qZ.put (h:qZ p R)(hl:R.length<1000)(ha:dI p a.2)(hb:di T n a=false):qZ p (gQ R n a):=by
 have hf:gF a 200 200=false:=by unfold di at hb;rw[Bool.or_eq_false_iff] at hb;show hb.1
 show#[IB h.nd,aw (mP _ _ _) hl,λz hz=>(oN hz).elim (h.ok z) λe=>by rw[e];show#[ha,Og hf ha,hf]]
theorem qZ.del (h:qZ p R):qZ p (nW R n):=#[KC h.nd,aw (tV _ _) h.len,λz hz=>h.ok z (pK hz)]
def mI:gL x↔ ∀c∈x.cps.toList,c<128:=by unfold gL;rw[<- Array.all_toList,List.all_eq_true];simp![cV]
def Nm.app (hx:gL x)(hy:gL y):gL (x++y):=by rw[mI] at*;intro c hc;rw[yY] at hc;show(a8.mp hc).elim (hx c) (hy c)
def Bl (hx:gL x):gL (Txt.slice x lo hi):=by unfold Txt.slice;split;show hx;rw[mI] at*;intro c hc;rw[List.mem_filterMap] at hc;let⟨i,_,hi⟩:=hc;show hx c (Array.mem_toList_iff.mpr (Array.mem_of_getElem? hi))
def Lc (hx:gL x):gL (iz x n):=by
 unfold iz;split;decide+kernel;split;show hx;rw [mI] at*;have: ∀ (n:Nat) (a:gA Nat),(∀c∈a.toList,c<128) -> ∀c∈((List.replicate n x.cps).foldl (· ++ ·) a).toList,c<128:=by
  intro n;induction n with
  | zero=>intro a ha c hc;show ha c hc
  | succ n ih=>intro a ha c hc;rw[List.replicate_succ,List.foldl_cons] at hc;exact ih (a++x.cps) (λc hc=> ?_) c hc;rw[bQ] at hc;show(a8.mp hc).elim (ha c) (hx c)
 show this n #[] (by simp)
def FF:(iz x n).length<=n*x.length:=by unfold iz;split;change 0<=_;omega;split;rename_i h0 h;obtain h | h:=h;subst h;omega;rw[h];omega;rw[DQ];show aq _
def Ld (h0:gL jo)(h: ∀x∈ss,gL x):gL (Builtin.Str.glued jo ss):=by
 cases ss with
 | nil=>rw[xo];decide+kernel
 | cons x ss=>rw[mI];intro c hc;rw[xp,a8] at hc;obtain hc | hc:=hc;show mI.mp (h x (by simp)) c hc;let⟨l,hl,hc⟩:=List.mem_flatten.mp hc;let⟨y,hy,rfl⟩:=List.mem_map.mp hl;obtain hc | hc:=a8.mp hc;show mI.mp h0 c hc;show mI.mp (h y (by simp[hy])) c hc
def Js (h0:0<=i)(h1:i<26): ∃c,fE zu.cps.toList i=some c /\ gL ⟨#[c]⟩:=by
 have hl:zu.cps.toList.length=26:=by decide+kernel
 have hj:i.toNat<zu.cps.toList.length:=by omega
 have ha: ∀c∈zu.cps.toList,c<128:=by decide+kernel
 exact#[zu.cps.toList[i.toNat],hV h0 (aC hj),mI.mpr λc hc=> ?_];have e:c=zu.cps.toList[i.toNat]:= ⇑hc;rw[e];show ha _ (List.getElem_mem _)
end WQ
namespace WL
open PySem L2
section
variable {K:Xu}
def HB:WM:=λx ys M q=>cc λa l=>fg (x=wr a) (ys= []) (M a=some (.lst l)) (q wn (um M a (.lst [])))
instance:IM K Iz HB where
 imp:=by
  rintro x v ys us M H q Q m r1 r2 ⟨a,l,rfl,rfl,ha,h⟩ k;cases r1.eq;let⟨vs,hv,rr⟩:=m a _ ha;have e:us= []:=by simpa only[cK] using r2
  subst e;show#[a,vs,rfl,rfl,hv,k _ _ _ _ h (ix hv) (m.putL hv cK.nil) WR.v]
def Vx:HB (.v (.ref a)) [] M q=lstK (M a) λ_=>q wn (um M a (.lst [])):=by apply propext;symm;rintro⟨_,l,h1,_,h2,k⟩;cases h1;show#[l,h2,k];rintro⟨l,h2,k⟩;show#[_,l,rfl,rfl,h2,k]
end
end WL
namespace WQ
open PySem L2 WL WP
def Xw (x:Str):CA (.str x) [.str "go", .str "turn"]=(decide (x= "go") || decide (x= "turn")):=by
 change(zt (.str "go") (.str x) || (zt (.str "turn") (.str x) || false))=_;rw[Bool.or_false,Bool.eq_iff_iff,Bool.or_eq_true,Bool.or_eq_true,cV,cV];have e: ∀y:Str,zt (.str y) (.str x)=true↔x=y:=λy=>by simp[zt];show eq_comm
 rw[e,e]
theorem jk:Oo ws Dt.str:=λ_=>rfl
def vo (l:cA Str):qV (.lst (l.map Dt.str)) <=50:=by
 have: ∀l:cA Str,kZ (l.map Dt.str) <=1:=λl=>by
  induction l with
  | nil=>simp[kZ]
  | cons x l ih=>simp[kZ,qV];omega
 have:=this l;simp![qV];omega
theorem ye (h:p xs M q λ_ _=>False):mF (Wa p) xs M q:=h
def mR (P:W ->Prop)(h0:0<=y)(h1:y<xs.length)(hP: ∀x∈xs,P x)(hk: ∀x,P x ->k x):iL (fE xs y) k:=by
 have hj:y.toNat<xs.length:=by omega
 show#[xs[y.toNat],hV h0 (aC hj),hk _ (hP _ (List.getElem_mem _))]
structure vE (T:Tm):Prop where
 nd:(T.map (·.1)).Nodup
 len:T.length<=900
 key: ∀z∈T,z.1.length<=100
 mem: ∀z∈T,z.2.length<=100
def Kd (h:(l.map (·.1)).Nodup){z:Str×α}(hz:z∈l):cB l z.1=some z.2:=by
 induction l with
 | nil=>cases hz
 | cons y l ih=>rw[aT,List.nodup_cons] at h;unfold cB;rw[cL];obtain e | e:=aS.mp hz;subst e;simp;have ku:y.1≠z.1:=λe2=>h.1 (List.mem_map.mpr #[z,e,e2.symm]);rw[aE ku];show ih h.2 e
def Iq (M:Mp)(h:fM):Mp:=λa=>if a=h then none else M a
theorem qh (n:a≠h):Iq M h a=M a:=ak n
theorem MA {M M2:Mp}(s:Sm M M2):Sm (Iq M h) (um M2 h o):=λa u e=>by by_cases n:a=h;subst n;unfold Iq at e;rw[am rfl] at e;cases e;rw[qh n] at e;rw[aP n];show s _ _ e
def Bk.Iq {pa un he:cA fM}(hB:Bk B C M b la lu lh p now pa un he R T)(hh:M h=some (.lst l))(n1:la≠h)(n2:lu≠h)(n3:lh≠h):Bk B C (Iq M h) b la lu lh p now pa un he R T:=by
 let⟨⟨dx,h1⟩,h2,h3,h4,h5,lg,r,t,h6,h7,h8⟩:=hB;have ni: ∀ {a:fM} {o:MO},M a=some o ->(∀l,o≠ .lst l) ->WQ.Iq M h a=some o:=λ{a o} e n=>by rw[qh (λz=>by subst z;rw[e] at hh;cases hh;show n _ rfl)];show e
 show#[#[dx,ni h1 (λ_ z=>nomatch z)],by rw[qh n1];show h2,by rw[qh n2];show h3,by rw[qh n3];show h4,h5,lg,r,t,ni h6 (λ_ z=>nomatch z),ni h7 (λ_ z=>nomatch z),ni h8 (λ_ z=>nomatch z)]
theorem zw.Iq {M M1 M':Mp}(F:zw b la M1 M')(s:Sm M M1)(hh:M h=none):zw b la M (Iq M' h):=λa o e n1 n2=>by rw[qh (cF e hh)];show F a o (s a o e) n1 n2
def DV (M:Mp):dF ->W ->Prop
 | .tell n ds,w=> ∃a:fM,w= .tup [ws "tell",ws n,wr a] /\ M a=some (.lst (ds.map fU))
 | .join n x y,w=>w= .tup [ws "join",ws n, .tup [ws x,ws y]]
 | .back n x,w=>w= .tup [ws "back",ws n, .tup [ws x],wi (-1)]
 | .times n x k,w=>w= .tup [ws "times",ws n, .tup [ws x],wi k]
 | .drop n,w=>w= .tup [ws "drop",ws n]
def DV.mv (h:DV M dd w)(f: ∀a l,M a=some (.lst l) ->(∃n,w= .tup [ws "tell",n,wr a]) ->M' a=some (.lst l)):DV M' dd w:=by
 cases dd with
 | tell n ds=>let⟨a,rfl,ha⟩:=h;show#[a,rfl,f a _ ha #[_,rfl]]
 | _=>show h
theorem DV.sm (h:DV M dd w)(s:Sm M M'):DV M' dd w:=h.mv λa l e _=>s a _ e
noncomputable def i0 (p:Int) (R:Rm):dF ->eM Rd
 | .tell _ ds=>some ((eN ds).1,qu p (eN ds).2)
 | .join _ x y=>match cB R x,cB R y with
  | some a,some b=>some (jn p a b)
  | _,_=>none
 | .back _ x=>(cB R x).map λa=>Iu p a (-1)
 | .times _ x k=>(cB R x).map λa=>Iu p a k
 | .drop _=>none
def gd:dF ->Str
 | .tell n _=>n | .join n _ _=>n | .back n _=>n | .times n _ _=>n | .drop n=>n
def kdOf:dF ->Str
 | .tell _ _=> "tell" | .join _ _ _=> "join" | .back _ _=> "back" | .times _ _ _=> "times" | .drop _=> "drop"
def MX:eZ:=λxs M q=> ∃n:Str,cW (xs= [ws n]) (Nm n) (q (wb (cg n)) M)
def WD:eZ:=λxs M q=>eh λ(a:Rd) (m r:Int)=>cW (xs= [gM a,wi m,wi r]) (a.2.length<=1000000) (q (wb (gF a m r)) M)
def R0:eZ:=λxs M q=>tq λ(p:Int) (r:fM) (R:Rm) (dd:dF) (w:W)=>BG (xs= [wi p,wr r,w]) (p=2 \/ p=3 \/ p=5 \/ p=7) (M r=some (.dK (yk R))) (qZ p R) (DV M dd w) (Hf dd) ((i0 p R dd).isSome=true) (∀a,i0 p R dd=some a ->dI p a.2 ->a.2.length<=1000000 ->q (gM a) M)
def WF:eZ:=λxs M q=>_G λ(p:Int) (r t:fM) (R:Rm) (T:Tm) (dd:dF) (w:W)=>BG (xs= [wi p, .tup [wr r,wr t],w]) (p=2 \/ p=3 \/ p=5 \/ p=7) (M r=some (.dK (yk R)) /\ M t=some (.dK (qd T))) (qZ p R /\ vE T) (DV M dd w) (Hf dd) (∀R',cD p R T dd= .ok R' ->qZ p R /\ (R.length<1000 ->qZ p R') -> ∀r' M',Sm M M' ->M r'=none ->M' r'=some (.dK (yk R')) ->q (.tup [ws "", .tup [wr r',wr t]]) M') (∀f,cD p R T dd= .bad f ->q (.tup [ws (DO f), .tup [wr r,wr t]]) M)
def El (h:cg (gd dd)=false)(hd: ∀n,dd≠ .drop n):cD p R T dd= .bad .BadName:=by
 cases dd with
 | drop n=>show absurd rfl (hd n)
 | _=>rw[cD];show am h
def Jj (p0:0<p)(h:cg (gd dd)=true)(hg: ∀n ds,dd= .tell n ds ->ji ds=true)(hv:i0 p R dd=some a):cD p R T dd=jE R T (gd dd) a:=by
 have hn:¬cg (gd dd)=false:=by rw[h];decide
 cases dd with
 | tell n ds=>replace hn:¬cg n=false:=hn;rw[cD,ak hn,ak (by rw[hg n ds rfl];decide)];cases hv;rfl
 | join n x y=>
  replace hn:¬cg n=false:=hn;rw[cD,ak hn];rw[i0] at hv;cases hx:cB R x with
  | none=>rw[hx] at hv;cases hv
  | some a1=>
   cases hy:cB R y with
   | none=>rw[hx,hy] at hv;cases hv
   | some a2=>rw[hx,hy] at hv;cases hv;rfl
 | back n x=>
  replace hn:¬cg n=false:=hn;rw[cD,ak hn];rw[i0] at hv;cases hx:cB R x with
  | none=>rw[hx] at hv;cases hv
  | some a1=>rw[hx] at hv;cases hv;change jE R T n (bk p a1)=jE R T n (Iu p a1 (-1));rw[DS p0 (RJ p0)]
 | times n x k=>
  replace hn:¬cg n=false:=hn;rw[cD,ak hn];rw[i0] at hv;cases hx:cB R x with
  | none=>rw[hx] at hv;cases hv
  | some a1=>rw[hx] at hv;cases hv;rfl
 | drop n=>cases hv
def TX (la:fM)(w:W):Prop:= ∀n,w≠ .tup [ws "tell",n,wr la]
def MS (B C:fM):eZ:=λxs M q=>_G λ(b la lu lh now r t:fM)=>fQ λ(p:Int) (pa un he:cA fM)=>cc λ(R:Rm) (T:Tm)=>k9 (xs= [wi p,wr b, .tup [wr r,wr t]]) (Bk B C M b la lu lh p now pa un he R T) (M r=some (.dK (yk R)) /\ M t=some (.dK (qd T))) (qZ p R) (vE T /\ ∀z∈R,z.1.length<=100) (q (wb true) M)
def MY:eZ:=λxs M q=>cc λ(d l:fM)=>cW (xs= [wr d]) (Dr M d l) (∀ (u:fM) (ds:cA (Str×Int)) (M':Mp),M u=none ->M' u=some (.lst (ds.map fU)) ->ds.length<=50 ->(∀z∈ds,z.1.length<=100) ->Dr M' d l ->Fs d M M' ->q (wr u) M')
def yx:eZ:=λxs M q=>fQ λ(d l nl:fM) (ns:cA Str)=>Lf (xs= [wr d,wr nl]) (Dr M d l) (M nl=some (.lst (ns.map ws))) (nl≠d) (0<ns.length /\ ns.length<=100) (∀n∈ns,Nm n) (∀ (n:Str) (M':Mp),Nm n ->Dr M' d l ->NB d M M' ->q (ws n) M')
def R9:eZ:=λxs M q=>fQ λ(d l nl:fM) (ns:cA Str)=>Lf (xs= [wr d,wr nl]) (Dr M d l) (M nl=some (.lst (ns.map ws))) (nl≠d) (0<ns.length /\ ns.length<=100) (∀n∈ns,Nm n) (∀ (dd:dF) (w:W) (M':Mp),DV M' dd w ->Hf dd ->(∀a n,w= .tup [ws "tell",n,wr a] ->M a=none) ->Dr M' d l ->Fs d M M' ->q w M')
def Ww (B C X:fM):eB:=λxs M q e=>tq λ(b la lu lh now:fM)=>fQ λ(p:Int) (pa un he:cA fM)=>eh λ(R:Rm) (T:Tm) (n:Str)=>f_ (xs= [wr b,ws n]) (Bk B C M b la lu lh p now pa un he R T) (n.length<=100) (∀a,cB T n=some a ->q (fo a) M) (cB T n=none ->e X M)
def I_ (B C X:fM):eB:=λxs M q e=>tq λ(b la lu lh now:fM)=>fQ λ(p:Int) (pa un he:cA fM)=>eh λ(R:Rm) (T:Tm) (n:Str)=>f_ (xs= [wr b,ws n]) (Bk B C M b la lu lh p now pa un he R T) (n.length<=100) (∀a,cB T n=some a -> ∀u,M u=none ->q (wr u) (um M u (.lst (a.map ws)))) (cB T n=none ->e X M)
def yy (h:jE R T n a= .ok R'):R'=gQ R n a:=by unfold jE at h;split at h;cases h;cases h;rfl
def W1 (h:cD p R T dd= .ok R'):(∃a,R'=gQ R (gd dd) a /\ cg (gd dd)=true) \/ R'=nW R (gd dd):=by
 cases dd<;>rw[cD] at h;case drop n=>
  repeat' split at h
  all_goals first
  | (cases h;done)
  | (cases h;show .inr rfl)
 all_goals
  repeat' split at h
  all_goals first
  | (cases h;done)
  | (rename_i h1 _;exact .inl #[_,yy h,?_];show(Bool.not_eq_false _).mp h1)
  | (rename_i h1 _ _ _;exact .inl #[_,yy h,?_];show(Bool.not_eq_false _).mp h1)
  | (rename_i h1 _ _ _ _ _ _;exact .inl #[_,yy h,?_];show(Bool.not_eq_false _).mp h1)
def Jq (h:cg n=true):n.length<=100:=by unfold cg at h;rw[cP,cP] at h;have:=of_decide_eq_true h.1.2;omega
def Nj (h:cD p R T dd= .ok R')(hk: ∀z∈R,z.1.length<=100):(∀z∈R',z.1.length<=100) /\ R'.length<=R.length+1:=by
 rcases W1 h with⟨a,rfl,hn⟩ | rfl
 show#[λz hz=>(oN hz).elim (hk z) λe=>by rw[e];show Jq hn,mP _ _ _];show#[λz hz=>hk z (pK hz),aw (tV _ _) (by omega)]
def DV.head (h:DV M dd w): ∃cE,w= .tup (ws (kdOf dd)::cE):=by
 cases dd with
 | tell n ds=>let⟨a,rfl,_⟩:=h;show#[_,rfl]
 | _=>cases h;show#[_,rfl]
def Bk.fs {pa un he:cA fM}(hB:Bk B C M b la lu lh p now pa un he R T)(F:Fs d M M')(hd:M d=some (.lst x))(n1:la≠d)(n2:lu≠d)(n3:lh≠d):Bk B C M' b la lu lh p now pa un he R T:=by let⟨⟨dx,h1⟩,h2,h3,h4,h5,lg,r,t,h6,h7,h8⟩:=hB;have ni: ∀ {a:fM} {o:MO},M a=some o ->(∀l,o≠ .lst l) ->M' a=some o:=λ{a o} e n=>F a o e (λz=>by subst z;rw[e] at hd;cases hd;show n _ rfl);show#[#[dx,ni h1 (λ_ z=>nomatch z)],F _ _ h2 n1,F _ _ h3 n2,F _ _ h4 n3,h5,lg,r,t,ni h6 (λ_ z=>nomatch z),ni h7 (λ_ z=>nomatch z),ni h8 (λ_ z=>nomatch z)]
theorem Fs.E9 (F:Fs d M M')(hd:M d=some (.lst x))(h:M r=some (.dK kvs)):M' r=some (.dK kvs):=F _ _ h λz=>by subst z;rw[hd] at h;cases h
def E8 (h:Dr M d l)(s:Sm M M'):Dr M' d l:=by let⟨ns,i,c,sd,h1,h2,h3,h4⟩:=h;show#[ns,i,c,sd,s _ _ h1,s _ _ h2,h3,h4]
def Kz (h:Dr M d l): ∃x,M d=some (.lst x):=by let⟨ns,i,c,sd,h1,h2,h3,h4⟩:=h;show#[_,h1]
def Ir (f:Rf):DO f≠ "" :=by cases f<;>decide+kernel
end WQ
namespace L2
open PySem
def HQ (td ty:TE):TE:=HS td ty
theorem IN (hu:X.A.units+1<cLine)(ho:PE X o td)(hi:PE X i ty)(hs:Ul i):PE X (.Subscript o i pos) (HQ td ty):=eT hu ho hi hs
end L2
namespace WL
open PySem L2
section
variable {K:Xu}
def Oj (o:eM MO)(k:cA (bX×W) ->Prop):Prop:= ∃l,(o=some (.dK l) \/ cc λb ks=>o=some (.fz b ks l)) /\ k l
def Hx (a b:WE):WE:=λρ M q=>a ρ M λx M1=>b ρ M1 λy M2=>dU x λp=>iX y λk=>Oj (M2 p) λkvs=>iL (eD kvs k) λz=>q z M2
instance {t u:TE}{a b:WE} [ia:IE K t a] [ib:IE K u b]:IE K (HQ t u) (Hx a b) where
 imp :=λρ M σ H q Q o h k=>ia.imp ρ M σ H _ _ o h λx M1 v H1 h1 t1 m1 r1=>ib.imp ρ M1 σ H1 _ _ (o.mv t1 m1) h1 λy M2 u H2 h2 t2 m2 r2=>by
  let⟨p,e1,ky,e3,kvs,e2,z,e4,h2⟩:=h2;subst e1 e3;have fin: ∀ks,KR K H2 kvs ks ->Rd H2 p (.dK ks) ->cc λa v=>cW (V.ref p= .ref a) (mZ H2 a (kV ky) (some v)) (Q v H2):=λks rr hk=>by
   rcases rr.val ky with⟨n1,_⟩ | ⟨x',v',n1,n2,rx⟩
   rw[n1] at e4;cases e4;rw[n1] at e4;cases e4;show#[p,v',rfl, .inl #[ks,ky,hk,rfl,n2.symm],k _ M2 _ H2 h2 (t1.trans t2) m2 rx]
  rw[i9 r2,r1.eq];obtain e2 | ⟨ob,ks,e2⟩:=e2;let⟨ks,hk,rr⟩:=m2 p _ e2;show fin ks rr (.inl hk);let⟨hk,rr⟩:=m2 p _ e2;show fin ks rr (.inr #[ob,hk])
def aid:Oj (some (.fz b ks l)) k=k l:=by unfold Oj;apply propext;symm;rintro⟨_,h | ⟨_,_,h⟩,k⟩;cases h;cases h;show k;intro h;show#[l, .inr #[b,ks,rfl],h]
theorem Vu:Hx a b ρ M q=a ρ M λx M1=>b ρ M1 λy M2=>dU x λp=>iX y λk=>Oj (M2 p) λkvs=>iL (eD kvs k) λz=>q z M2:=rfl
end
end WL
namespace WQ
open PySem L2 WL WP
inductive gb where
 | found (c:Str) | disband (c:Str) | enlist (c n:Str) | dismiss (c n:Str)
def cI (R:Rm)(T:Tm):gb ->Oc Tm
 | .found c=>if cg c=false then .bad .BadName else match cB T c with
  | some _=> .bad .Taken
  | none=> .ok (gQ T c [])
 | .disband c=>match cB T c with
  | none=> .bad .NoCrew
  | some _=> .ok (nW T c)
 | .enlist c n=>match cB T c with
  | none=> .bad .NoCrew
  | some l=>match cB R n with
   | none=> .bad .NoRound
   | some a=>if rJ n l=true then .bad .Taken else if 6<=l.length then .bad .TooMany else if gF a 8 24=true then .bad .TooFar else .ok (gQ T c (l++ [n]))
 | .dismiss c n=>match cB T c with
  | none=> .bad .NoCrew
  | some l=>if rJ n l=false then .bad .NoRound else .ok (gQ T c (l.filter λm=>decide (m≠n)))
def Bz:gb ->Prop
 | .found c=>Nm c
 | .disband c=>Nm c
 | .enlist c n=>Nm c /\ Nm n
 | .dismiss c n=>Nm c /\ Nm n
def IY (B C:fM):eZ:=λxs M q=>tq λ(b la lu lh now:fM)=>fQ λ(p:Int) (pa un he:cA fM)=>fQ λ(R:Rm) (T:Tm) (c:Str) (l:cA Str)=>f_ (xs= [wr b,ws c,fo l]) (Bk B C M b la lu lh p now pa un he R T) (pa.length<=900) (T.length<=900) (sv B C M b la lh p now pa he R (gQ T c l) q)
def tN (B C:fM)(vB:Rf ->fM)(f:cA W ->gb ->Prop):eB:=λxs M q e=>tq λ(b la lu lh now:fM)=>fQ λ(p:Int) (pa un he:cA fM)=>fQ λ(R:Rm) (T:Tm) (dd:gb) (ys:cA W)=>BG (xs=wr b::ys) (f ys dd) (Bz dd) (Bk B C M b la lu lh p now pa un he R T) (OZ p R T pa) (vE T) (∀T',cI R T dd= .ok T' ->sv B C M b la lh p now pa he R T' q) (∀r,cI R T dd= .bad r ->e (vB r) M)
def TY (ys:cA W)(dd:gb):Prop:= ∃c:Str,ys= [ws c] /\ dd= .found c
def Kp (ys:cA W)(dd:gb):Prop:= ∃c:Str,ys= [ws c] /\ dd= .disband c
def Oh (ys:cA W)(dd:gb):Prop:=cc λ(c n:Str)=>ys= [ws c,ws n] /\ dd= .enlist c n
def Ko (ys:cA W)(dd:gb):Prop:=cc λ(c n:Str)=>ys= [ws c,ws n] /\ dd= .dismiss c n
def U5 (b la lu:fM)(M M':Mp):Prop:= ∀a o,M a=some o ->a≠b ->a≠la ->a≠lu ->M' a=some o
def U5.pg (F:U5 b la lu M M')(hb:M b=some (.ins B dx (ed p now SG dS lh)))(ha:M la=some (.lst l))(hu:M lu=some (.lst l2))(h:Pg C M a R T):Pg C M' a R T:=by
 have F2:zw b la M (λx=>if x=lu then M x else M' x):=λx o e n1 n2=>by change(if x=lu then M x else M' x)=some o;split;show e;rename_i n3;show F x o e n1 n2 n3
 let⟨lg,r,t,h1,h2,h3⟩:=F2.pg hb ha h;have nl: ∀ {x:fM} {o:MO},(if x=lu then M x else M' x)=some o ->(∀l,o≠ .lst l) ->M' x=some o:=λ{x o} e n=>by split at e;rename_i z;rw[z,hu] at e;cases e;show absurd rfl (n _);show e
 show#[lg,r,t,nl h1 (λ_ z=>nomatch z),nl h2 (λ_ z=>nomatch z),nl h3 (λ_ z=>nomatch z)]
def PK (B C X:fM):eB:=λxs M q e=>tq λ(b la lu lh now:fM)=>fQ λ(p:Int) (pa un he:cA fM)=>cc λ(R:Rm) (T:Tm)=>f_ (xs= [wr b]) (Bk B C M b la lu lh p now pa un he R T) (un.length<=1000) (pa= [] ->e X M) (∀MQ pg,pa=MQ++ [pg] ->cc λR' T'=>Pg C M pg R' T' /\ ∀M',Bk B C M' b la lu lh p pg MQ (un++ [now]) he R' T' ->U5 b la lu M M' ->q wn M')
def PP (B C X:fM):eB:=λxs M q e=>tq λ(b la lu lh now:fM)=>fQ λ(p:Int) (pa un he:cA fM)=>cc λ(R:Rm) (T:Tm)=>f_ (xs= [wr b]) (Bk B C M b la lu lh p now pa un he R T) (pa.length<=1000) (un= [] ->e X M) (∀Ri pg,un=Ri++ [pg] ->cc λR' T'=>Pg C M pg R' T' /\ ∀M',Bk B C M' b la lu lh p pg (pa++ [now]) Ri he R' T' ->U5 b la lu M M' ->q wn M')
def PQ (B C:fM):eZ:=λxs M q=>tq λ(b la lu lh now:fM)=>fQ λ(p:Int) (pa un he:cA fM)=>cc λ(R:Rm) (T:Tm)=>fg (xs= [wr b]) (Bk B C M b la lu lh p now pa un he R T) (he.length<=1000) (∀M',Bk B C M' b la lu lh p now pa un (he++ [now]) R T ->zw b lh M M' ->q (wi he.length) M')
inductive gg where
 | r (d:dF) | c (d:gb) | undo | redo | hold | ret (k:Int)
def yQ:gg ->Prop
 | .r _=>True | .c _=>True | _=>False
structure fG where
 R:Rm
 T:Tm
 past:List (Addr×Rm×Tm)
 ud:List (Addr×Rm×Tm)
 held:List (Addr×Rm×Tm)
def zf (C:fM)(M:Mp)(l:cA (fM×Rm×Tm)):Prop:= ∀z∈l,Pg C M z.1 z.2.1 z.2.2
structure kQ (B C:Addr)(M:Mp)(b la lu lh:Addr)(p:Int)(now:Addr)(S:fG):Prop where
 bk:Bk B C M b la lu lh p now (S.past.map (·.1)) (S.ud.map (·.1)) (S.held.map (·.1)) S.R S.T
 pp:zf C M S.past
 pu:zf C M S.ud
 ph:zf C M S.held
theorem zf.sm (h:zf C M l)(s:Sm M M'):zf C M' l:=λz hz=>(h z hz).sm s
theorem zf.snoc (h:zf C M l)(hz:Pg C M z.1 z.2.1 z.2.2):zf C M (l++ [z]):=λy hy=>(a8.mp hy).elim (h y) λe=>by rw[aV.mp e];show hz
theorem kQ.sm (h:kQ B C M b la lu lh p now S)(s:Sm M M'):kQ B C M' b la lu lh p now S:=#[h.bk.sm s,h.pp.sm s,h.pu.sm s,h.ph.sm s]
def Bq (b la lu lh:fM)(M M':Mp):Prop:= ∀a o,M a=some o ->a≠b ->a≠la ->a≠lu ->a≠lh ->M' a=some o
def keep (s:fG)(now:fM):fG:= {s with past:=s.past++ [(now,s.R,s.T)],ud:= []}
noncomputable def yI (p:Int) (R:Rm) (T:Tm):gg ->Oc (Rm×Tm)
 | .r d=>match cD p R T d with
  | .ok R'=> .ok (R',T)
  | .bad f=> .bad f
 | .c d=>match cI R T d with
  | .ok T'=> .ok (R,T')
  | .bad f=> .bad f
 | _=> .bad .NoMore
noncomputable def oA (p:Int) (now:fM) (S:fG):gg ->Oc (fG×W)
 | .undo=>match S.past.getLast? with
  | none=> .bad .NoMore
  | some z=> .ok (#[z.2.1,z.2.2,S.past.dropLast,S.ud++ [(now,S.R,S.T)],S.held],wn)
 | .redo=>match S.ud.getLast? with
  | none=> .bad .NoMore
  | some z=> .ok (#[z.2.1,z.2.2,S.past++ [(now,S.R,S.T)],S.ud.dropLast,S.held],wn)
 | .hold=> .ok ({S with held:=S.held++ [(now,S.R,S.T)]},wi S.held.length)
 | .ret k=>if 0<=k then match S.held[k.toNat]? with
   | none=> .bad .NoState
   | some z=> .ok (#[z.2.1,z.2.2,S.past++ [(now,S.R,S.T)],[],S.held],wn)
  else .bad .NoState
 | dd=>match yI p S.R S.T dd with
  | .ok z=> .ok (#[z.1,z.2,S.past++ [(now,S.R,S.T)],[],S.held],wn)
  | .bad f=> .bad f
theorem uI (h:yQ dd):oA p now S dd=match yI p S.R S.T dd with
  | .ok z=> .ok (#[z.1,z.2,S.past++ [(now,S.R,S.T)],[],S.held],wn)
  | .bad f=> .bad f:=by
 cases dd with
 | r d=>rfl
 | c d=>rfl
 | _=>cases h
def Dg (B C:fM)(M:Mp)(b la lu lh:fM)(p:Int)(S:fG)(q:WK)(v:W):Prop:= ∀M' dS oX,kQ B C M' b la dS lh p oX S ->Bq b la lu lh M M' ->(dS=lu \/ M dS=none) ->q v M'
theorem Le (hS:kQ B C M b la lu lh p now S)(k:Dg B C M b la lu lh p #[R',T',S.past++ [(now,S.R,S.T)],[],S.held] q wn):sv B C M b la lh p now (S.past.map (·.1)) (S.held.map (·.1)) R' T' q:=λM' dS pg B' F hu _=>by let⟨dx,hb⟩:=hS.bk.ob;have pm: ∀ {l},zf C M l ->zf C M' l:=λh z hz=>F.pg hb hS.bk.pa (h z hz);exact k M' dS pg #[?_,(pm hS.pp).snoc (F.pg hb hS.bk.pa hS.bk.pg),λz hz=>(by cases hz),pm hS.ph] (λa o h n1 n2 _ _=>F a o h n1 n2) (.inr hu);change Bk B C M' b la dS lh p pg ((S.past++ [(now,S.R,S.T)]).map (·.1)) [] (S.held.map (·.1)) R' T';rw[aB];show B'
def DA (M:Mp):gg ->W ->Prop
 | .r d,w=>DV M d w
 | .c (.found c),w=>w= .tup [ws "found",ws c]
 | .c (.disband c),w=>w= .tup [ws "disband",ws c]
 | .c (.enlist c n),w=>w= .tup [ws "enlist",ws c,ws n]
 | .c (.dismiss c n),w=>w= .tup [ws "dismiss",ws c,ws n]
 | .undo,w=>w= .tup [ws "undo"]
 | .redo,w=>w= .tup [ws "redo"]
 | .hold,w=>w= .tup [ws "hold"]
 | .ret k,w=>w= .tup [ws "return",wi k]
def DA.sm (h:DA M dd w)(s:Sm M M'):DA M' dd w:=by
 cases dd with
 | r d=>show DV.sm h s
 | c d=>cases d<;>show h
 | _=>show h
def _R:gg ->Prop
 | .r d=>Hf d
 | .c d=>Bz d
 | _=>True
structure sr (p:Int)(R:Rm)(T:Tm):Prop where
 r:qZ p R
 t:vE T
 k: ∀z∈R,z.1.length<=100
 m: ∀z∈T, ∀n∈z.2,n.length<=100
structure G3 (p:Int)(S:fG):Prop where
 p4:p=2 \/ p=3 \/ p=5 \/ p=7
 s:sr p S.R S.T
 pa:S.past.length<=900
 un:S.ud.length<=900
 he:S.held.length<=900
theorem G3.bk (h:G3 p S):OZ p S.R S.T (S.past.map (·.1)):=#[h.p4,by rw[ag];show h.pa,h.s.r,h.s.t.len]
def Wy (ok:gg ->Prop)(B C:fM)(vB:Rf ->fM):eB:=λxs M q e=>U0 λ(b la lu lh now:fM) (p:Int)=>eh λ(S:fG) (dd:gg) (w:W)=>BG (xs= [wr b,w]) (DA M dd w /\ ok dd) (TX la w) (_R dd) (kQ B C M b la lu lh p now S) (G3 p S) (∀S' v,oA p now S dd= .ok (S',v) ->Dg B C M b la lu lh p S' q v) (∀r,oA p now S dd= .bad r ->e (vB r) M)
def Se (ok:gg ->Prop)(B C:fM):eZ:=λxs M q=>U0 λ(b la lu lh now:fM) (p:Int)=>eh λ(S:fG) (dd:gg) (w:W)=>BG (xs= [wr b,w]) (DA M dd w /\ ok dd) (TX la w) (_R dd) (kQ B C M b la lu lh p now S) (G3 p S) (∀S' v,oA p now S dd= .ok (S',v) ->Dg B C M b la lu lh p S' (λv M'=>q (.tup [ws "",v]) M') v) (∀r,oA p now S dd= .bad r ->q (.tup [ws (DO r),wn]) M)
def nO (R:Rm)(l:cA Str):gb ->Oc (cA Str)
 | .dismiss _ n=>if rJ n l=false then .bad .NoRound else .ok (l.filter λm=>decide (m≠n))
 | .enlist _ n=>match cB R n with
  | none=> .bad .NoRound
  | some a=>if rJ n l=true then .bad .Taken else if 6<=l.length then .bad .TooMany else if gF a 8 24=true then .bad .TooFar else .ok (l++ [n])
 | _=> .bad .NoMore
def Ot:gb ->Str
 | .found c=>c | .disband c=>c | .enlist c _=>c | .dismiss c _=>c
def JQ:gb ->Prop
 | .enlist _ _=>True | .dismiss _ _=>True | _=>False
theorem Ba {T:Tm}(h:JQ d)(hg:cB T (Ot d)=some l):cI R T d=match nO R l d with
  | .ok l'=> .ok (gQ T (Ot d) l')
  | .bad f=> .bad f:=by
 cases d with
 | found c=>cases h
 | disband c=>cases h
 | enlist c n=>
  rw[cI,nO];replace hg:cB T c=some l:=hg;rw[hg];dsimp only;cases cB R n with
  | none=>rfl
  | some a=>dsimp only;by_cases h1:rJ n l=true;rw[am h1,am h1];rw[ak h1,ak h1];by_cases h2:6<=l.length;rw[am h2,am h2];rw[ak h2,ak h2];by_cases h3:gF a 8 24=true;rw[am h3,am h3];rw[ak h3,ak h3];rfl
 | dismiss c n=>rw[cI,nO];replace hg:cB T c=some l:=hg;rw[hg];dsimp only;by_cases h1:rJ n l=false;rw[am h1,am h1];rw[ak h1,ak h1];rfl
def PU:eZ:=λxs M q=>tq λ(r t:fM) (R:Rm) (T:Tm) (d:gb)=>cc λ(w:W) (l:cA Str)=>BG (xs= [.tup [wr r,wr t],w]) (M r=some (.dK (yk R)) /\ M t=some (.dK (qd T))) (JQ d /\ Bz d) (DA M (.c d) w) (cB T (Ot d)=some l) (l.length<=100 /\ ∀z∈R,z.2.2.length<=1000) (∀l',nO R l d= .ok l' ->q (.tup [ws "",fo l']) M) (∀f,nO R l d= .bad f ->q (.tup [ws (DO f), .tup []]) M)
def WH:eZ:=λxs M q=>U0 λ(r t:fM) (R:Rm) (T:Tm) (d:gb) (w:W)=>BG (xs= [.tup [wr r,wr t],w]) (M r=some (.dK (yk R)) /\ M t=some (.dK (qd T))) (Bz d) (DA M (.c d) w) (vE T) (∀z∈R,z.2.2.length<=1000) (∀T',cI R T d= .ok T' -> ∀t' M',Sm M M' ->M' t'=some (.dK (qd T')) ->q (.tup [ws "", .tup [wr r,wr t']]) M') (∀f,cI R T d= .bad f ->q (.tup [ws (DO f), .tup [wr r,wr t]]) M)
def WJ:eZ:=λxs M q=>_G λ(p:Int) (r t:fM) (R:Rm) (T:Tm) (dd:gg) (w:W)=>BG (xs= [wi p, .tup [wr r,wr t],w]) (p=2 \/ p=3 \/ p=5 \/ p=7) (M r=some (.dK (yk R)) /\ M t=some (.dK (qd T))) (sr p R T) (DA M dd w /\ yQ dd) (_R dd) (∀R' T',yI p R T dd= .ok (R',T') ->(R.length<1000 ->T.length<900 ->sr p R' T') ->(R'.length<=R.length+1 /\ T'.length<=T.length+1) -> ∀r' t' M',Sm M M' ->M' r'=some (.dK (yk R')) ->M' t'=some (.dK (qd T')) ->q (.tup [ws "", .tup [wr r',wr t']]) M') (∀f,yI p R T dd= .bad f ->q (.tup [ws (DO f), .tup [wr r,wr t]]) M)
def ET (h:vE T)(hg:cB T c=some l):l.length<=100:=by let⟨z,hz,_,rfl⟩:=eV hg;show h.mem z hz
theorem vE.put (h:vE T)(hl:T.length<900)(hc:c.length<=100)(hm:l.length<=100):vE (gQ T c l):=#[IB h.nd,aw (mP _ _ _) hl,λz hz=>(oN hz).elim (h.key z) λe=>by rw[e];show hc,λz hz=>(oN hz).elim (h.mem z) λe=>by rw[e];show hm]
def Op (hd:Bz d)(h:vE T)(ho:cI R T d= .ok T'):(T.length<900 ->vE T') /\ T'.length<=T.length+1:=by
 cases d with
 | found c=>
  rw[cI] at ho;repeat' split at ho
  all_goals first
  | (cases ho;done)
  | (cases ho;show#[λhl=>h.put hl hd.len (by simp),mP _ _ _])
 | disband c=>rw[cI] at ho;split at ho;cases ho;cases ho;show#[λhl=>#[KC h.nd,aw (tV _ _) h.len,λz hz=>h.key z (pK hz),λz hz=>h.mem z (pK hz)],aw (tV _ _) (by omega)]
 | enlist c n=>
  rw[cI] at ho;split at ho;cases ho;split at ho;cases ho;repeat' split at ho
  all_goals first
  | (cases ho;done)
  | (cases ho;show#[λhl=>h.put hl hd.1.len (by rw[aD];simp;omega),mP _ _ _])
 | dismiss c n=>rw[cI] at ho;split at ho;cases ho;rename_i l hg;split at ho;cases ho;cases ho;show#[λhl=>h.put hl hd.1.len (aw (List.length_filter_le _ _) (ET h hg)),mP _ _ _]
def Oq (hd:Bz d)(h: ∀z∈T, ∀n∈z.2,n.length<=100)(ho:cI R T d= .ok T'): ∀z∈T', ∀n∈z.2,n.length<=100:=by
 have pt: ∀ {c:Str} {l:cA Str},(∀n∈l,n.length<=100) -> ∀z∈gQ T c l, ∀n∈z.2,n.length<=100:=λhl z hz=>(oN hz).elim (h z) λe=>by rw[e];show hl
 have gt: ∀ {c:Str} {l:cA Str},cB T c=some l -> ∀n∈l,n.length<=100:=λhg=>by let⟨z,hz,_,rfl⟩:=eV hg;show h z hz
 cases d with
 | found c=>
  rw[cI] at ho;repeat' split at ho
  all_goals first
  | (cases ho;done)
  | (cases ho;show pt (by simp))
 | disband c=>rw[cI] at ho;split at ho;cases ho;cases ho;show λz hz=>h z (pK hz)
 | enlist c n=>
  rw[cI] at ho;split at ho;cases ho;rename_i l hg;split at ho;cases ho;repeat' split at ho
  all_goals first
  | (cases ho;done)
  | (cases ho;show pt λy hy=>(a8.mp hy).elim (gt hg y) λe=>by rw[aV.mp e];show hd.2.len)
 | dismiss c n=>rw[cI] at ho;split at ho;cases ho;rename_i l hg;split at ho;cases ho;cases ho;show pt λy hy=>gt hg y (List.mem_filter.mp hy).1
def Sf:eZ:=λxs M q=>fQ λ(d l nl:fM) (ns:cA Str)=>Lf (xs= [wr d,wr nl]) (Dr M d l) (M nl=some (.lst (ns.map ws))) (nl≠d) (2<=ns.length /\ ns.length<=100) (∀n∈ns,Nm n) (∀ (dd:gb) (w:W) (M':Mp),DA M' (.c dd) w ->Bz dd ->Dr M' d l ->NB d M M' ->q w M')
def Pg.fs (h:Pg C M a R T)(F:Fs d M M')(hd:M d=some (.lst x)):Pg C M' a R T:=by let⟨lg,r,t,h6,h7,h8⟩:=h;have ni: ∀ {a:fM} {o:MO},M a=some o ->(∀l,o≠ .lst l) ->M' a=some o:=λ{a o} e n=>F a o e (λz=>by subst z;rw[e] at hd;cases hd;show n _ rfl);show#[lg,r,t,ni h6 (λ_ z=>nomatch z),ni h7 (λ_ z=>nomatch z),ni h8 (λ_ z=>nomatch z)]
structure Ap (x la lu lh:Addr):Prop where
 a:la≠x
 u:lu≠x
 h:lh≠x
theorem kQ.fs (h:kQ B C M b la lu lh p now S)(F:Fs d M M')(hd:M d=some (.lst x))(n:Ap d la lu lh):kQ B C M' b la lu lh p now S:=#[h.bk.fs F hd n.a n.u n.h,λz hz=>(h.pp z hz).fs F hd,λz hz=>(h.pu z hz).fs F hd,λz hz=>(h.ph z hz).fs F hd]
def Bq.lst {B C b la lu lh now x:fM}{M M':Mp}{p:Int}{S:fG}{l:cA W}(F:Bq b la lu lh M M')(hB:kQ B C M b la lu lh p now S)(h:M x=some (.lst l))(n:Ap x la lu lh):M' x=some (.lst l):=by let⟨dx,hb⟩:=hB.bk.ob;show F _ _ h (λz=>by subst z;rw[hb] at h;cases h) n.a.symm n.u.symm n.h.symm
def Bq.E9 (F:Bq b la lu lh M M')(hB:kQ B C M b la lu lh p now S)(h:M x=some (.dK l)):M' x=some (.dK l):=by let⟨dx,hb⟩:=hB.bk.ob;show F _ _ h (λz=>by subst z;rw[hb] at h;cases h) (λz=>by subst z;rw[hB.bk.pa] at h;cases h) (λz=>by subst z;rw[hB.bk.un] at h;cases h) λz=>by subst z;rw[hB.bk.he] at h;cases h
def Bq.dr (F:Bq b la lu lh M M')(hB:kQ B C M b la lu lh p now S)(h:Dr M d l)(n1:Ap d la lu lh)(n2:Ap l la lu lh):Dr M' d l:=by let⟨ns,i,c,sd,h1,h2,h3,h4⟩:=h;show#[ns,i,c,sd,F.lst hB h1 n1,F.lst hB h2 n2,h3,h4]
def aib (h:Dr M d l): ∃x,M l=some (.lst x):=by let⟨ns,i,c,sd,h1,h2,h3,h4⟩:=h;show#[_,h2]
def k_join_tell:decide (("join" :Str)= "tell")=false:=by decide+kernel
def k_back_tell:decide (("back" :Str)= "tell")=false:=by decide+kernel
def k_back_join:decide (("back" :Str)= "join")=false:=by decide+kernel
def k_times_tell:decide (("times" :Str)= "tell")=false:=by decide+kernel
def k_times_join:decide (("times" :Str)= "join")=false:=by decide+kernel
def k_times_back:decide (("times" :Str)= "back")=false:=by decide+kernel
def k_drop_tell:decide (("drop" :Str)= "tell")=false:=by decide+kernel
def k_drop_join:decide (("drop" :Str)= "join")=false:=by decide+kernel
def k_drop_back:decide (("drop" :Str)= "back")=false:=by decide+kernel
def k_drop_times:decide (("drop" :Str)= "times")=false:=by decide+kernel
def k_found_tell:decide (("found" :Str)= "tell")=false:=by decide+kernel
def k_found_join:decide (("found" :Str)= "join")=false:=by decide+kernel
def k_found_back:decide (("found" :Str)= "back")=false:=by decide+kernel
def k_found_times:decide (("found" :Str)= "times")=false:=by decide+kernel
def k_found_drop:decide (("found" :Str)= "drop")=false:=by decide+kernel
def k_disband_tell:decide (("disband" :Str)= "tell")=false:=by decide+kernel
def k_disband_join:decide (("disband" :Str)= "join")=false:=by decide+kernel
def k_disband_back:decide (("disband" :Str)= "back")=false:=by decide+kernel
def k_disband_times:decide (("disband" :Str)= "times")=false:=by decide+kernel
def k_disband_drop:decide (("disband" :Str)= "drop")=false:=by decide+kernel
def k_disband_found:decide (("disband" :Str)= "found")=false:=by decide+kernel
def k_enlist_tell:decide (("enlist" :Str)= "tell")=false:=by decide+kernel
def k_enlist_join:decide (("enlist" :Str)= "join")=false:=by decide+kernel
def k_enlist_back:decide (("enlist" :Str)= "back")=false:=by decide+kernel
def k_enlist_times:decide (("enlist" :Str)= "times")=false:=by decide+kernel
def k_enlist_drop:decide (("enlist" :Str)= "drop")=false:=by decide+kernel
def k_enlist_found:decide (("enlist" :Str)= "found")=false:=by decide+kernel
def k_enlist_disband:decide (("enlist" :Str)= "disband")=false:=by decide+kernel
def k_dismiss_tell:decide (("dismiss" :Str)= "tell")=false:=by decide+kernel
def k_dismiss_join:decide (("dismiss" :Str)= "join")=false:=by decide+kernel
def k_dismiss_back:decide (("dismiss" :Str)= "back")=false:=by decide+kernel
def k_dismiss_times:decide (("dismiss" :Str)= "times")=false:=by decide+kernel
def k_dismiss_drop:decide (("dismiss" :Str)= "drop")=false:=by decide+kernel
def k_dismiss_found:decide (("dismiss" :Str)= "found")=false:=by decide+kernel
def k_dismiss_disband:decide (("dismiss" :Str)= "disband")=false:=by decide+kernel
def k_dismiss_enlist:decide (("dismiss" :Str)= "enlist")=false:=by decide+kernel
def k_undo_tell:decide (("undo" :Str)= "tell")=false:=by decide+kernel
def k_undo_join:decide (("undo" :Str)= "join")=false:=by decide+kernel
def k_undo_back:decide (("undo" :Str)= "back")=false:=by decide+kernel
def k_undo_times:decide (("undo" :Str)= "times")=false:=by decide+kernel
def k_undo_drop:decide (("undo" :Str)= "drop")=false:=by decide+kernel
def k_undo_found:decide (("undo" :Str)= "found")=false:=by decide+kernel
def k_undo_disband:decide (("undo" :Str)= "disband")=false:=by decide+kernel
def k_undo_enlist:decide (("undo" :Str)= "enlist")=false:=by decide+kernel
def k_undo_dismiss:decide (("undo" :Str)= "dismiss")=false:=by decide+kernel
def k_redo_tell:decide (("redo" :Str)= "tell")=false:=by decide+kernel
def k_redo_join:decide (("redo" :Str)= "join")=false:=by decide+kernel
def k_redo_back:decide (("redo" :Str)= "back")=false:=by decide+kernel
def k_redo_times:decide (("redo" :Str)= "times")=false:=by decide+kernel
def k_redo_drop:decide (("redo" :Str)= "drop")=false:=by decide+kernel
def k_redo_found:decide (("redo" :Str)= "found")=false:=by decide+kernel
def k_redo_disband:decide (("redo" :Str)= "disband")=false:=by decide+kernel
def k_redo_enlist:decide (("redo" :Str)= "enlist")=false:=by decide+kernel
def k_redo_dismiss:decide (("redo" :Str)= "dismiss")=false:=by decide+kernel
def k_redo_undo:decide (("redo" :Str)= "undo")=false:=by decide+kernel
def k_hold_tell:decide (("hold" :Str)= "tell")=false:=by decide+kernel
def k_hold_join:decide (("hold" :Str)= "join")=false:=by decide+kernel
def k_hold_back:decide (("hold" :Str)= "back")=false:=by decide+kernel
def k_hold_times:decide (("hold" :Str)= "times")=false:=by decide+kernel
def k_hold_drop:decide (("hold" :Str)= "drop")=false:=by decide+kernel
def k_hold_found:decide (("hold" :Str)= "found")=false:=by decide+kernel
def k_hold_disband:decide (("hold" :Str)= "disband")=false:=by decide+kernel
def k_hold_enlist:decide (("hold" :Str)= "enlist")=false:=by decide+kernel
def k_hold_dismiss:decide (("hold" :Str)= "dismiss")=false:=by decide+kernel
def k_hold_undo:decide (("hold" :Str)= "undo")=false:=by decide+kernel
def k_hold_redo:decide (("hold" :Str)= "redo")=false:=by decide+kernel
def k_return_tell:decide (("return" :Str)= "tell")=false:=by decide+kernel
def k_return_join:decide (("return" :Str)= "join")=false:=by decide+kernel
def k_return_back:decide (("return" :Str)= "back")=false:=by decide+kernel
def k_return_times:decide (("return" :Str)= "times")=false:=by decide+kernel
def k_return_drop:decide (("return" :Str)= "drop")=false:=by decide+kernel
def k_return_found:decide (("return" :Str)= "found")=false:=by decide+kernel
def k_return_disband:decide (("return" :Str)= "disband")=false:=by decide+kernel
def k_return_enlist:decide (("return" :Str)= "enlist")=false:=by decide+kernel
def k_return_dismiss:decide (("return" :Str)= "dismiss")=false:=by decide+kernel
def k_return_undo:decide (("return" :Str)= "undo")=false:=by decide+kernel
def k_return_redo:decide (("return" :Str)= "redo")=false:=by decide+kernel
def k_return_hold:decide (("return" :Str)= "hold")=false:=by decide+kernel
def k_enlist_dismiss:decide (("enlist" :Str)= "dismiss")=false:=by decide+kernel
def at0 (hρ:ρ[i]? =some (some (.tup (ws k::l))))(h:q (wb (decide (k=s))) M):LH Ux (LH Fw (ft i) (wC (W.v (V.int 0)))) (wC (W.v (V.str s))) ρ M q:=by
 unfold LH ft wC;rw[hρ];exact#[_,0,_,rfl,rfl,YK,_,_,rfl,rfl,rfl,?_];have e:decide (V.str k=V.str s)=decide (k=s):=by simp
 rw[e];show h
theorem eG {a cE:WS}(hρ:ρ[i]? =some (some (.tup (ws k::l))))(ku:decide (k=s)=false)(h:cE D ρ M):FN (RC (wJ (LH Ux (LH Fw (ft i) (wC (W.v (V.int 0)))) (wC (W.v (V.str s))))) a DM) cE D ρ M:=at0 hρ #[false,by rw[ku],h]
theorem Hg {a cE:WS}(hρ:ρ[i]? =some (some (.tup (ws s::l))))(h:a {nx:=hold (cE D),rt:=D.rt,bk:=D.bk,ct:=D.ct} ρ M):FN (RC (wJ (LH Ux (LH Fw (ft i) (wC (W.v (V.int 0)))) (wC (W.v (V.str s))))) a DM) cE D ρ M:=at0 hρ #[true,by rw[bh rfl],h]
def jp:dF ->cA Str
 | .join _ x y=> [x,y] | .back _ x=> [x] | .times _ x _=> [x] | _=> []
def UN:dF ->Prop
 | .join _ _ _=>True | .back _ _=>True | .times _ _ _=>True | _=>False
def dvn (h:DV M dd w)(hn:UN dd): ∃tail,w= .tup (ws (kdOf dd)::ws (gd dd):: .tup ((jp dd).map ws)::tail):=by cases dd<;>first | cases hn;done | (cases h;show#[_,rfl])
def kdn (hn:UN dd):cW (decide (kdOf dd= "drop")=false) (decide (kdOf dd= "tell")=false) (decide (kdOf dd≠ "tell")=true):=by
 have h: ∀k:Str,k= "join" \/ k= "back" \/ k= "times" ->cW (decide (k= "drop")=false) (decide (k= "tell")=false) (decide (k≠ "tell")=true):=by rintro k (rfl | rfl | rfl) <;>show#[by decide+kernel,by decide+kernel,by decide+kernel]
 cases dd<;>first | cases hn;done | show h _ (.inl rfl) | show h _ (.inr (.inl rfl)) | show h _ (.inr (.inr rfl))
def nmn (hn:UN dd)(h:Hf dd):Nm (gd dd):=by cases dd<;>first | cases hn;done | show h.1
def W2 {R:Rm}(hn:UN dd)(kY:cg (gd dd)=true)(h:((jp dd).all λx=>(cB R x).isSome)=false):cD p R T dd= .bad .NoRound:=by
 have yS:¬cg (gd dd)=false:=by rw[kY];decide
 cases dd with
 | join n x y=>
  replace yS:¬cg n=false:=yS;rw[cD,ak yS];simp![jp,List.all_cons,List.all_nil,Bool.and_true] at h;cases hx:cB R x with
  | none=>rfl
  | some a=>
   cases hy:cB R y with
   | none=>rfl
   | some b=>rw[hx,hy] at h;cases h
 | back n x=>
  replace yS:¬cg n=false:=yS;rw[cD,ak yS];simp![jp,List.all_cons,List.all_nil,Bool.and_true] at h;cases hx:cB R x with
  | none=>rfl
  | some a=>rw[hx] at h;cases h
 | times n x k=>
  replace yS:¬cg n=false:=yS;rw[cD,ak yS];simp![jp,List.all_cons,List.all_nil,Bool.and_true] at h;cases hx:cB R x with
  | none=>rfl
  | some a=>rw[hx] at h;cases h
 | _=>cases hn
def Ml {R:Rm}(hn:UN dd)(h:((jp dd).all λx=>(cB R x).isSome)=true):(i0 p R dd).isSome=true:=by
 cases dd with
 | join n x y=>simp![jp,List.all_cons,List.all_nil,Bool.and_true,cP] at h;let⟨a,ha⟩:=cZ.mp h.1;let⟨b,hb⟩:=cZ.mp h.2;rw[i0,ha,hb];rfl
 | back n x=>simp![jp,List.all_cons,List.all_nil,Bool.and_true] at h;rw[i0,bT];show h
 | times n x k=>simp![jp,List.all_cons,List.all_nil,Bool.and_true] at h;rw[i0,bT];show h
 | _=>cases hn
def QR (dd:dF):(jp dd).length<=2:=by cases dd<;>simp[jp]
def fY {α:Type}(l:cA α):l= [] \/ ∃l' z,l=l'++ [z]:=by obtain h | ⟨l',z,h⟩:=List.eq_nil_or_concat l;show .inl h;show .inr #[l',z,by rw[h,List.concat_eq_append]]
section
variable {B C X b la lu lh now:fM}{M:Mp}{p:Int}{S:fG}{q:WK}{e:WX}
def Mm (hS:kQ B C M b la lu lh p now S)(hl:S.ud.length<=900)(ke:S.past= [] ->e X M)(kq: ∀z l,S.past=l++ [z] -> ∀M',kQ B C M' b la lu lh p z.1 #[z.2.1,z.2.2,l,S.ud++ [(now,S.R,S.T)],S.held] ->Bq b la lu lh M M' ->q wn M'):PK B C X [wr b] M q e:=by let⟨dx,hb⟩:=hS.bk.ob;exact#[b,la,lu,lh,now,p,_,_,_,_,_,rfl,hS.bk,by rw[ag];omega,λh=>ke (List.map_eq_nil_iff.mp h),λMQ pg h=> ?_];obtain h0 | ⟨l,z,h0⟩:=fY S.past;rw[h0] at h;simp at h;rw[h0,aB] at h;let⟨h1,h2⟩:=List.append_inj' h rfl;cases h2;exact#[z.2.1,z.2.2,hS.pp z (by rw[h0];simp),λM' B' F=> ?_];have pm: ∀ {l},zf C M l ->zf C M' l:=λh z hz=>F.pg hb hS.bk.pa hS.bk.un (h z hz);exact kq z l h0 M' #[?_,λy hy=>pm hS.pp y (by rw[h0];show List.mem_append_left _ hy),(pm hS.pu).snoc (F.pg hb hS.bk.pa hS.bk.un hS.bk.pg),pm hS.ph] λa o h n1 n2 n3 _=>F a o h n1 n2 n3;change Bk B C M' b la lu lh p z.1 (l.map (·.1)) ((S.ud++ [(now,S.R,S.T)]).map (·.1)) (S.held.map (·.1)) z.2.1 z.2.2;rw[aB,h1];show B'
def MB (hS:kQ B C M b la lu lh p now S)(hl:S.past.length<=900)(ke:S.ud= [] ->e X M)(kq: ∀z l,S.ud=l++ [z] -> ∀M',kQ B C M' b la lu lh p z.1 #[z.2.1,z.2.2,S.past++ [(now,S.R,S.T)],l,S.held] ->Bq b la lu lh M M' ->q wn M'):PP B C X [wr b] M q e:=by let⟨dx,hb⟩:=hS.bk.ob;exact#[b,la,lu,lh,now,p,_,_,_,_,_,rfl,hS.bk,by rw[ag];omega,λh=>ke (List.map_eq_nil_iff.mp h),λMQ pg h=> ?_];obtain h0 | ⟨l,z,h0⟩:=fY S.ud;rw[h0] at h;simp at h;rw[h0,aB] at h;let⟨h1,h2⟩:=List.append_inj' h rfl;cases h2;exact#[z.2.1,z.2.2,hS.pu z (by rw[h0];simp),λM' B' F=> ?_];have pm: ∀ {l},zf C M l ->zf C M' l:=λh z hz=>F.pg hb hS.bk.pa hS.bk.un (h z hz);exact kq z l h0 M' #[?_,(pm hS.pp).snoc (F.pg hb hS.bk.pa hS.bk.un hS.bk.pg),λy hy=>pm hS.pu y (by rw[h0];show List.mem_append_left _ hy),pm hS.ph] λa o h n1 n2 n3 _=>F a o h n1 n2 n3;change Bk B C M' b la lu lh p z.1 ((S.past++ [(now,S.R,S.T)]).map (·.1)) (l.map (·.1)) (S.held.map (·.1)) z.2.1 z.2.2;rw[aB,h1];show B'
def NU (hS:kQ B C M b la lu lh p now S)(hl:S.held.length<=900)(kq: ∀M',kQ B C M' b la lu lh p now {S with held:=S.held++ [(now,S.R,S.T)]} ->Bq b la lu lh M M' ->q (wi S.held.length) M'):PQ B C [wr b] M q:=by let⟨dx,hb⟩:=hS.bk.ob;exact#[b,la,lu,lh,now,p,_,_,_,_,_,rfl,hS.bk,by rw[ag];omega,λM' B' F=> ?_];rw[ag];have pm: ∀ {l},zf C M l ->zf C M' l:=λh z hz=>F.pg hb hS.bk.he (h z hz);exact kq M' #[?_,pm hS.pp,pm hS.pu,(pm hS.ph).snoc (F.pg hb hS.bk.he hS.bk.pg)] λa o h n1 _ _ n2=>F a o h n1 n2;change Bk B C M' b la lu lh p now (S.past.map (·.1)) (S.ud.map (·.1)) ((S.held++ [(now,S.R,S.T)]).map (·.1)) S.R S.T;rw[aB];show B'
def Wz (B C X:fM):eB:=λxs M q e=>U0 λ(b la lu lh now:fM) (k:Int)=>fQ λ(p:Int) (pa un he:cA fM)=>cc λ(R:Rm) (T:Tm)=>Lf (xs= [wr b,wi k]) (Bk B C M b la lu lh p now pa un he R T) (pa.length<=1000) (he.length<=1000) (k.natAbs<10 ^ 60) (¬(0<=k /\ k<he.length) ->e X M) (∀pg,0<=k ->he[k.toNat]? =some pg ->cc λR' T'=>Pg C M pg R' T' /\ ∀M' dS,Bk B C M' b la dS lh p pg (pa++ [now]) [] he R' T' ->zw b la M M' ->M dS=none ->q wn M')
def RH {k:Int}(hS:kQ B C M b la lu lh p now S)(hl:S.past.length<=900)(hh:S.held.length<=900)(hk:k.natAbs<10 ^ 60)(ke:¬(0<=k /\ k<S.held.length) ->e X M)(kq: ∀z,0<=k ->S.held[k.toNat]? =some z -> ∀M' dS,kQ B C M' b la dS lh p z.1 #[z.2.1,z.2.2,S.past++ [(now,S.R,S.T)],[],S.held] ->Bq b la lu lh M M' ->M dS=none ->q wn M'):Wz B C X [wr b,wi k] M q e:=by
 let⟨dx,hb⟩:=hS.bk.ob;exact#[b,la,lu,lh,now,k,p,_,_,_,_,_,rfl,hS.bk,by rw[ag];omega,by rw[ag];omega,hk,λh=>ke (by rw[ag] at h;show h),λpg k0 h=> ?_];rw[aL] at h;cases hz:S.held[k.toNat]? with
 | none=>rw[hz] at h;cases h
 | some z=>rw[hz] at h;cases h;exact#[z.2.1,z.2.2,hS.ph z (a_ hz),λM' dS B' F hu=> ?_];have pm: ∀ {l},zf C M l ->zf C M' l:=λh z hz=>F.pg hb hS.bk.pa (h z hz);exact kq z k0 hz M' dS #[?_,(pm hS.pp).snoc (F.pg hb hS.bk.pa hS.bk.pg),λz hz=>(by cases hz),pm hS.ph] (λa o h n1 n2 _ _=>F a o h n1 n2) hu;change Bk B C M' b la dS lh p z.1 ((S.past++ [(now,S.R,S.T)]).map (·.1)) [] (S.held.map (·.1)) z.2.1 z.2.2;rw[aB];show B'
end
structure QM where
 R:Rm
 T:Tm
 past:List (Rm×Tm)
 ud:List (Rm×Tm)
 held:List (Rm×Tm)
def fG.pure (S:fG):QM:=#[S.R,S.T,S.past.map (·.2),S.ud.map (·.2),S.held.map (·.2)]
noncomputable def oS (p:Int) (Z:QM):gg ->Oc (QM×W)
 | .undo=>match Z.past.getLast? with
  | none=> .bad .NoMore
  | some z=> .ok (#[z.1,z.2,Z.past.dropLast,Z.ud++ [(Z.R,Z.T)],Z.held],wn)
 | .redo=>match Z.ud.getLast? with
  | none=> .bad .NoMore
  | some z=> .ok (#[z.1,z.2,Z.past++ [(Z.R,Z.T)],Z.ud.dropLast,Z.held],wn)
 | .hold=> .ok ({Z with held:=Z.held++ [(Z.R,Z.T)]},wi Z.held.length)
 | .ret k=>if 0<=k then match Z.held[k.toNat]? with
   | none=> .bad .NoState
   | some z=> .ok (#[z.1,z.2,Z.past++ [(Z.R,Z.T)],[],Z.held],wn)
  else .bad .NoState
 | dd=>match yI p Z.R Z.T dd with
  | .ok z=> .ok (#[z.1,z.2,Z.past++ [(Z.R,Z.T)],[],Z.held],wn)
  | .bad f=> .bad f
def Oc.pu:Oc (fG×W) ->Oc (QM×W)
 | .ok z=> .ok (z.1.pure,z.2)
 | .bad f=> .bad f
def Nk:oS p S.pure dd=(oA p now S dd).pu:=by
 have rc:yQ dd ->oS p S.pure dd=(oA p now S dd).pu:=λh=>by
  rw[uI h];have e:oS p S.pure dd=match yI p S.R S.T dd with
  | .ok z=> .ok (#[z.1,z.2,S.pure.past++ [(S.R,S.T)],[],S.pure.held],wn)
  | .bad f=> .bad f:=by cases dd<;>first | rfl | cases h
  rw[e];cases yI p S.R S.T dd with
  | ok z=>simp[Oc.pu,fG.pure]
  | bad f=>rfl
 cases dd with
 | r d=>show rc trivial
 | c d=>show rc trivial
 | undo=>rw[oS,oA];obtain h | ⟨l,z,h⟩:=fY S.past;simp[fG.pure,h,Oc.pu];simp[fG.pure,h,Oc.pu]
 | redo=>rw[oS,oA];obtain h | ⟨l,z,h⟩:=fY S.ud;simp[fG.pure,h,Oc.pu];simp[fG.pure,h,Oc.pu]
 | hold=>rw[oS,oA];simp[fG.pure,Oc.pu]
 | ret k=>
  rw[oS,oA];split;cases h:S.held[k.toNat]? with
  | none=>simp[fG.pure,h,Oc.pu]
  | some z=>simp[fG.pure,h,Oc.pu]
  rfl
def Ji:gg ->Prop
 | .ret k=>k.natAbs<1000
 | _=>True
abbrev Lp:=cA ((fM×fM)×Rm×Tm)
def zN (z:(fM×fM)×Rm×Tm):W:= .tup [wr z.1.1,wr z.1.2]
def C4 (M:Mp)(a:fM)(l:cA (Rm×Tm)):Prop:= ∃lp:Lp,cW (M a=some (.lst (lp.map zN))) (lp.map (·.2)=l) (∀z∈lp,M z.1.1=some (.dK (yk z.2.1)) /\ M z.1.2=some (.dK (qd z.2.2)))
def C4.sm (h:C4 M a l)(s:Sm M M'):C4 M' a l:=by let⟨lp,h1,h2,h3⟩:=h;show#[lp,s _ _ h1,h2,λz hz=>#[s _ _ (h3 z hz).1,s _ _ (h3 z hz).2]]
def C4.at (h:C4 M a l): ∃x,M a=some (.lst x):=by let⟨lp,h1,h2,h3⟩:=h;show#[_,h1]
def C4.fs (h:C4 M a l)(F:Fs d M M')(hd:M d=some (.lst x))(n:a≠d):C4 M' a l:=by let⟨lp,h1,h2,h3⟩:=h;show#[lp,F _ _ h1 n,h2,λz hz=>#[F.E9 hd (h3 z hz).1,F.E9 hd (h3 z hz).2]]
def C4.fr (h:C4 M a l)(F:Bq b la lu lh M M')(hB:kQ B C M b la lu lh p now S)(n:Ap a la lu lh):C4 M' a l:=by let⟨lp,h1,h2,h3⟩:=h;show#[lp,F.lst hB h1 n,h2,λz hz=>#[F.E9 hB (h3 z hz).1,F.E9 hB (h3 z hz).2]]
theorem W4 (h:yQ dd):oS p Z dd=match yI p Z.R Z.T dd with
 | .ok z=> .ok (#[z.1,z.2,Z.past++ [(Z.R,Z.T)],[],Z.held],wn)
 | .bad f=> .bad f:=by cases dd<;>first | rfl | cases h
structure Gd (p:Int)(i:Nat)(z:Rm×Tm):Prop where
 s:sr p z.1 z.2
 r:z.1.length<=i
 t:z.2.length<=i
structure G2 (p:Int)(i:Nat)(Z:QM):Prop where
 now:Gd p i (Z.R,Z.T)
 pa:Z.past.length<=i /\ ∀z∈Z.past,Gd p i z
 un:Z.ud.length<=i /\ ∀z∈Z.ud,Gd p i z
 he:Z.held.length<=i /\ ∀z∈Z.held,Gd p i z
theorem Gd.up (h:Gd p i z):Gd p (i+1) z:=#[h.s,Nat.le_succ_of_le h.r,Nat.le_succ_of_le h.t]
theorem py {l:cA (Rm×Tm)}(h:l.length<=i /\ ∀z∈l,Gd p i z):l.length<=i+1 /\ ∀z∈l,Gd p (i+1) z:=#[Nat.le_succ_of_le h.1,λz hz=>(h.2 z hz).up]
theorem ve (h:l.length<=i /\ ∀z∈l,Gd p i z)(hy:Gd p i y):(l++ [y]).length<=i+1 /\ ∀z∈l++ [y],Gd p (i+1) z:=#[by rw[aD];simp;omega,λz hz=>(a8.mp hz).elim (λe=>(h.2 z e).up) λe=>by rw[aV.mp e];show hy.up]
theorem EV {l:cA (Rm×Tm)}(h:l.length<=i /\ ∀z∈l,Gd p i z):l.dropLast.length<=i+1 /\ ∀z∈l.dropLast,Gd p (i+1) z:=#[by rw[List.length_dropLast];omega,λz hz=>(h.2 z (List.dropLast_subset _ hz)).up]
theorem G2.up (h:G2 p i Z):G2 p (i+1) Z:=#[h.now.up,py h.pa,py h.un,py h.he]
def G2.step (h:G2 p i Z)(ho:oS p Z dd= .ok (Z',v))(hr:yQ dd ->sr p Z'.R Z'.T /\ Z'.R.length<=Z.R.length+1 /\ Z'.T.length<=Z.T.length+1):G2 p (i+1) Z' /\ (v=wn \/ ∃n:Nat,v=wi n):=by
 have rc:yQ dd ->G2 p (i+1) Z' /\ (v=wn \/ ∃n:Nat,v=wi n):=λGz=>by
  have h1:=hr Gz;rw[W4 Gz] at ho;cases hz:yI p Z.R Z.T dd with
  | bad f=>rw[hz] at ho;cases ho
  | ok z=>rw[hz] at ho;cases ho;have a1:=h.now.r;have a2:=h.now.t;show#[#[#[h1.1,aw h1.2.1 (Nat.succ_le_succ a1),aw h1.2.2 (Nat.succ_le_succ a2)],ve h.pa h.now,#[by simp,by simp],py h.he], .inl rfl]
 cases dd with
 | r d=>show rc trivial
 | c d=>show rc trivial
 | undo=>
  rw[oS] at ho;cases hz:Z.past.getLast? with
  | none=>rw[hz] at ho;cases ho
  | some z=>rw[hz] at ho;cases ho;show#[#[(h.pa.2 z (List.mem_of_getLast? hz)).up,EV h.pa,ve h.un h.now,py h.he], .inl rfl]
 | redo=>
  rw[oS] at ho;cases hz:Z.ud.getLast? with
  | none=>rw[hz] at ho;cases ho
  | some z=>rw[hz] at ho;cases ho;show#[#[(h.un.2 z (List.mem_of_getLast? hz)).up,ve h.pa h.now,EV h.un,py h.he], .inl rfl]
 | hold=>cases ho;show#[#[h.now.up,py h.pa,py h.un,ve h.he h.now], .inr #[_,rfl]]
 | ret k=>
  rw[oS] at ho;split at ho;cases hz:Z.held[k.toNat]? with
  | none=>rw[hz] at ho;cases ho
  | some z=>rw[hz] at ho;cases ho;show#[#[(h.he.2 z (a_ hz)).up,ve h.pa h.now,#[by simp,by simp],py h.he], .inl rfl]
  cases ho
def G2.sk (h:G2 p i S.pure)(hp:p=2 \/ p=3 \/ p=5 \/ p=7)(hi:i<=800):G3 p S:=by have h1:=h.pa.1;have h2:=h.un.1;have h3:=h.he.1;simp![fG.pure,ag] at h1 h2 h3;show#[hp,h.now.s,by omega,by omega,by omega]
theorem U6:G2 p 0 (fG.pure #[[],[],[],[],[]]):=#[#[#[#[List.nodup_nil,by simp[fG.pure],by simp[fG.pure]],#[List.nodup_nil,by simp[fG.pure],by simp[fG.pure],by simp[fG.pure]],by simp[fG.pure],by simp[fG.pure]],by simp[fG.pure],by simp[fG.pure]],by simp[fG.pure],by simp[fG.pure],by simp[fG.pure]]
end WQ
namespace WL
open PySem L2
section
variable {M:Mp}{ρ:bS}{q:WK}{a b c:WE}{D:dH}{x y z:W}
def xh (b:WE)(ρ:bS)(k:W ->WK):WK:=λx M=>b ρ M (k x)
theorem Z6:xh b ρ k x M=b ρ M (k x):=rfl
def kR (f:W ->Mp ->WK ->Prop)(q:WK):WK:=λy M=>f y M q
theorem ajC:kR f q y M=f y M q:=rfl
theorem aiv:LH r a b ρ M q=a ρ M (xh b ρ λx=>kR (r x) q):=rfl
theorem aip:wUn r a ρ M q=a ρ M (kR r q):=rfl
def kB (q:Bool ->Mp ->Prop):WK:=λx M=>Qm x M q
theorem ajE {q:Bool ->Mp ->Prop}:kB q x M=Qm x M q:=rfl
theorem Zf {q:Bool ->Mp ->Prop}:wJ a ρ M q=a ρ M (kB q):=rfl
def Xr (b:WT)(ρ:bS)(q:Bool ->Mp ->Prop):Bool ->Mp ->Prop:=λc M=>gC c (b ρ M q) (q false M)
def kb (b:WT)(q:Bool ->Mp ->Prop):bS ->Mp ->Prop:=λρ M=>b ρ M q
theorem ajz {b:WT}{q:Bool ->Mp ->Prop}:kb b q ρ M=b ρ M q:=rfl
def kq (q:Bool ->Mp ->Prop)(c:Bool):bS ->Mp ->Prop:=λ_ M=>q c M
theorem ajy {q:Bool ->Mp ->Prop}{c:Bool}:kq q c ρ M=q c M:=rfl
theorem abw {b:WT}{q:Bool ->Mp ->Prop}{c:Bool}:Xr b ρ q c M=gC c (hold (kb b q) ρ M) (hold (kq q false) ρ M):=rfl
theorem aaC {a b:WT}{q:Bool ->Mp ->Prop}:Rc a b ρ M q=a ρ M (Xr b ρ q):=rfl
def kOr (b:WT)(ρ:bS)(q:Bool ->Mp ->Prop):Bool ->Mp ->Prop:=λc M=>gC c (q true M) (b ρ M q)
theorem aiU {b:WT}{q:Bool ->Mp ->Prop}{c:Bool}:kOr b ρ q c M=gC c (hold (kq q true) ρ M) (hold (kb b q) ρ M):=rfl
theorem ait {a b:WT}{q:Bool ->Mp ->Prop}:wOr a b ρ M q=a ρ M (kOr b ρ q):=rfl
def Xn (q:Bool ->Mp ->Prop):Bool ->Mp ->Prop:=λc M=>q (!c) M
theorem abh {c:Bool}{q:Bool ->Mp ->Prop}:Xn q c M=q (!c) M:=rfl
theorem aaj {a:WT}{q:Bool ->Mp ->Prop}:QV a ρ M q=a ρ M (Xn q):=rfl
def kIf (a b:WS)(D:dH)(ρ:bS):Bool ->Mp ->Prop:=λk M=>gC k (a D ρ M) (b D ρ M)
theorem ai4 {a b:WS}:kIf a b D ρ k M=gC k (hold (a D) ρ M) (hold (b D) ρ M):=rfl
theorem aiI {c:WT}{a b:WS}:RC c a b D ρ M=c ρ M (kIf a b D ρ):=rfl
def kC2 (q:cA W ->Mp ->Prop)(x:W):cA W ->Mp ->Prop:=λxs M=>q (x::xs) M
theorem ajf {q:cA W ->Mp ->Prop}:kC2 q x xs M=q (x::xs) M:=rfl
def Qk (r:WA)(ρ:bS)(q:cA W ->Mp ->Prop):WK:=λx M=>r ρ M (kC2 q x)
theorem Z_ {q:cA W ->Mp ->Prop}:Qk r ρ q x M=r ρ M (kC2 q x):=rfl
theorem Zs {q:cA W ->Mp ->Prop}:Hy a r ρ M q=a ρ M (Qk r ρ q):=rfl
def Xl (q:WK):cA W ->Mp ->Prop:=λxs M=>ci (xs.length<=sizeLine) (q (.tup xs) M)
theorem abc:Xl q xs M=ci (xs.length<=sizeLine) (q (.tup xs) M):=rfl
theorem aaf {a:WA}:QT a ρ M q=a ρ M (Xl q):=rfl
def jW (q:WK)(M:Mp)(o:MO):Prop:= ∀p,M p=none ->q (wr p) (um M p o)
def kLs (q:WK):cA W ->Mp ->Prop:=λxs M=>ci (xs.length<=sizeLine) (jW q M (.lst xs))
theorem aiX:kLs q xs M=ci (xs.length<=sizeLine) (jW q M (.lst xs)):=rfl
theorem aam {a:WA}:QX a ρ M q=a ρ M (kLs q):=rfl
def kU (q:WK)(M:Mp):W ->Prop:=λu=>q u M
theorem ajB:kU q M x=q x M:=rfl
def kIx (i:Int)(q:WK)(M:Mp):cA W ->Prop:=λl=>iL (fE l i) (kU q M)
theorem ai3:kIx i q M l=iL (fE l i) (kU q M):=rfl
theorem aar {x:fM}:Q3 (.v (.ref x)) (.v (.int i)) M q=lstK (M x) (kIx i q M):=Q2
theorem aap:Fw (.tup l) (.v (.int i)) M q=iL (fE l i) (kU q M):=Q1
def Ql (p:eZ)(q:WK):cA W ->Mp ->Prop:=λxs M=>mF p xs M q
theorem _a:Ql p q xs M=mF p xs M q:=rfl
theorem Zx {a:WA}:HD p a ρ M q=a ρ M (Ql p q):=rfl
def kCl (r:zd)(q:WK):cA W ->Mp ->Prop:=λxs M=>r xs M q
theorem aje:kCl r q xs M=r xs M q:=rfl
theorem aiF {a:WA}:wCB r a ρ M q=a ρ M (kCl r q):=rfl
def Xq (g:WG)(ρ:bS)(n:bS ->Mp ->Prop):WK:=λx M=>g x ρ M n
theorem abv:Xq g ρ n x M=g x ρ M n:=rfl
theorem aaU:RE a g D ρ M=a ρ M (Xq g ρ D.nx):=rfl
def Qj (n:bS ->Mp ->Prop)(ρ:bS):WK:=λ_ M=>n ρ M
theorem Z9:Qj n ρ x M=n ρ M:=rfl
theorem ZM:Ij a D ρ M=a ρ M (Qj D.nx ρ):=rfl
def kFor (g:WG)(b:WS)(D:dH)(ρ:bS):cA W ->(Mp ->Prop) ->Mp ->Prop:=λxs keep M=>Oe xs keep g b D ρ M
theorem abl {b:WS}:kFor g b D ρ xs keep M=Oe xs keep g b D ρ M:=rfl
theorem aaR {b:WS}:RD it g b D ρ M=it ρ M (kFor g b D ρ):=rfl
def SW (r:WM)(x:W)(q:WK):cA W ->Mp ->Prop:=λxs M=>r x xs M q
theorem abr:SW r x q xs M=r x xs M q:=rfl
def SX (r:WM)(b:WA)(ρ:bS)(x:W)(q:WK)(M:Mp):cA W ->Prop:=λ_=>b ρ M (SW r x q)
theorem abt {b:WA}:SX r b ρ x q M l=b ρ M (SW r x q):=rfl
def kBm (r:WM)(b:WA)(ρ:bS)(q:WK):WK:=λx M=>dU x λp=>lstK (M p) (SX r b ρ x q M)
theorem ajh {b:WA}:kBm r b ρ q (.v (.ref p)) M=lstK (M p) (SX r b ρ (.v (.ref p)) q M):=gj
theorem aiH {b:WA}:Zz r a b ρ M q=a ρ M (kBm r b ρ q):=VB
def SY (r:WM)(x:W)(q:WK)(M:Mp):cA W ->Prop:=λ_=>r x [] M q
theorem abu:SY r x q M l=r x [] M q:=rfl
def kBz (r:WM)(q:WK):WK:=λx M=>dU x λp=>lstK (M p) (SY r x q M)
theorem ajg:kBz r q (.v (.ref p)) M=lstK (M p) (SY r (.v (.ref p)) q M):=gj
theorem aaA:Mi r a ρ M q=a ρ M (kBz r q):=Rb
def kM2 (p:eZ)(x:W)(q:WK):cA W ->Mp ->Prop:=λxs M=>mF p (x::xs) M q
theorem aiV:kM2 p x q xs M=mF p (x::xs) M q:=rfl
def kM1 (C:fM)(m:Str)(p:eZ)(b:WA)(ρ:bS)(x:W)(q:WK)(M:Mp):fM ->fM ->cA (Str×W) ->Prop:=λC' _ fs=>ci (C'=C /\ fs.lookup m=none) (b ρ M (kM2 p x q))
theorem aiW {b:WA}:kM1 C m p b ρ x q M C' dx fs=ci (C'=C /\ fs.lookup m=none) (b ρ M (kM2 p x q)):=rfl
def kM (C:fM)(m:Str)(p:eZ)(b:WA)(ρ:bS)(q:WK):WK:=λx M=>dU x λo=>lT (M o) (kM1 C m p b ρ x q M)
theorem ajD {b:WA}:kM C m p b ρ q (.v (.ref o)) M=lT (M o) (kM1 C m p b ρ (.v (.ref o)) q M):=gj
theorem Zl {b:WA}:Dm C m p a b ρ M q=a ρ M (kM C m p b ρ q):=Mc
def Z8 (k:bX)(q:WK)(M:Mp):cA (bX×W) ->Prop:=λkvs=>iL (eD kvs k) (kU q M)
theorem ai5:Z8 k q M kvs=iL (eD kvs k) (kU q M):=rfl
def Xo (x:W)(q:WK):WK:=λy M=>dU x λp=>iX y λk=>fC (M p) (Z8 k q M)
def ai7:Xo (.v (.ref p)) q (.v (.int i)) M=fC (M p) (Z8 (.inl i) q M):=by unfold Xo;rw[gj,JG]
def ai6:Xo (.v (.ref p)) q (.v (.str i)) M=fC (M p) (Z8 (.inr i) q M):=by unfold Xo;rw[gj,yN]
theorem Zr:Dn a b ρ M q=a ρ M (xh b ρ λx=>Xo x q):=Mh
def SN (q:cA W ->(Mp ->Prop) ->Mp ->Prop)(M:Mp)(p:fM):cA W ->Prop:=λl=>q l (λM'=>M' p=some (.lst l)) M
theorem abi {q:cA W ->(Mp ->Prop) ->Mp ->Prop}:SN q M p l=q l (λM'=>M' p=some (.lst l)) M:=rfl
def kJl (q:cA W ->(Mp ->Prop) ->Mp ->Prop):WK:=λx M=>dU x λp=>lstK (M p) (SN q M p)
theorem ai2 {q:cA W ->(Mp ->Prop) ->Mp ->Prop}:kJl q (.v (.ref p)) M=lstK (M p) (SN q M p):=gj
theorem _d {q:cA W ->(Mp ->Prop) ->Mp ->Prop}:EH a ρ M q=a ρ M (kJl q):=NM
theorem Zp:Hw ρ M q=jW q M (.dK []):=rfl
def kLo (q:WK)(M:Mp):cA W ->Prop:=λl=>jW q M (.lst l)
theorem aiY:kLo q M l=jW q M (.lst l):=rfl
theorem QZ {x:fM}:oh [.v (.ref x)] M q=lstK (M x) (kLo q M):=Fv
theorem QY:oh [.tup l] M q=jW q M (.lst l):=Fu
def kTo (q:WK)(M:Mp):cA W ->Prop:=λl=>q (.tup l) M
theorem aiN:kTo q M l=q (.tup l) M:=rfl
theorem O0 {x:fM}:t_ [.v (.ref x)] M q=lstK (M x) (kTo q M):=BK
def kPt (q:eM Int ->Mp ->Prop):WK:=λx M=>AD x λi=>q (some i) M
theorem aiT {q:eM Int ->Mp ->Prop}:kPt q (.v (.int i)) M=q (some i) M:=JR
theorem Zi {q:eM Int ->Mp ->Prop}:Ht a ρ M q=a ρ M (kPt q):=rfl
def kS3 (r:Hj)(x:W)(l:eM Int)(q:WK):eM Int ->Mp ->Prop:=λu M=>r x l u M q
theorem aiO:kS3 r x l q u M=r x l u M q:=rfl
def kS2 (r:Hj)(hi:WO)(ρ:bS)(x:W)(q:WK):eM Int ->Mp ->Prop:=λl M=>hi ρ M (kS3 r x l q)
theorem aiP:kS2 r hi ρ x q l M=hi ρ M (kS3 r x l q):=rfl
def kS1 (r:Hj)(lo hi:WO)(ρ:bS)(q:WK):WK:=λx M=>lo ρ M (kS2 r hi ρ x q)
theorem aiQ:kS1 r lo hi ρ q x M=lo ρ M (kS2 r hi ρ x q):=rfl
theorem air:wSl r a lo hi ρ M q=a ρ M (kS1 r lo hi ρ q):=rfl
def kLn (q:WK)(M:Mp):cA W ->Prop:=λl=>q (wi l.length) M
theorem aiZ:kLn q M l=q (wi l.length) M:=rfl
theorem Zm {x:fM}:Md [.v (.ref x)] M q=lstK (M x) (kLn q M):=Q0
def kAp (x:fM)(y:W)(q:WK)(M:Mp):cA W ->Prop:=λl=>ci (l.length<sizeLine) (q wn (um M x (.lst (l++ [y]))))
theorem aji {x:fM}:kAp x y q M l=ci (l.length<sizeLine) (q wn (um M x (.lst (l++ [y])))):=rfl
theorem Uz {x:fM}:xY (.v (.ref x)) [y] M q=lstK (M x) (kAp x y q M):=Fz
def SR (x:fM)(l:cA W)(q:WK)(M:Mp):cA W ->Prop:=λl'=>ci (l.length+l'.length<=sizeLine) (q wn (um M x (.lst (l++l'))))
theorem abn {x:fM}:SR x l q M l'=ci (l.length+l'.length<=sizeLine) (q wn (um M x (.lst (l++l')))):=rfl
def kEx (x y:fM)(q:WK)(M:Mp):cA W ->Prop:=λl=>lstK (M y) (SR x l q M)
theorem ai9 {x y:fM}:kEx x y q M l=lstK (M y) (SR x l q M):=rfl
theorem Uw {x y:fM}:xX (.v (.ref x)) [.v (.ref y)] M q=lstK (M x) (kEx x y q M):=Fx
def SV (l:cA W)(q:WK)(M:Mp):cA W ->Prop:=λl'=>ci (l.length+l'.length<=sizeLine) (jW q M (.lst (l++l')))
theorem abq:SV l q M l'=ci (l.length+l'.length<=sizeLine) (jW q M (.lst (l++l'))):=rfl
def kCt (y:fM)(q:WK)(M:Mp):cA W ->Prop:=λl=>lstK (M y) (SV l q M)
theorem ajc {y:fM}:kCt y q M l=lstK (M y) (SV l q M):=rfl
theorem aay {x y:fM}:Q_ (.v (.ref x)) (.v (.ref y)) M q=lstK (M x) (kCt y q M):=Q9
def kD1 (k:bX)(q:WK)(M:Mp):cA (bX×W) ->Prop:=λkvs=>q (wb (eD kvs k).isSome) M
theorem ai':kD1 k q M kvs=q (wb (eD kvs k).isSome) M:=rfl
def kD0 (k:bX)(q:WK)(M:Mp):cA (bX×W) ->Prop:=λkvs=>q (wb (!(eD kvs k).isSome)) M
theorem aja:kD0 k q M kvs=q (wb (!(eD kvs k).isSome)) M:=rfl
def SS (y:W)(q:WK):WK:=λx M=>dU x λp=>iX y λk=>fC (M p) (kD1 k q M)
def abo:SS (.v (.str i)) q (.v (.ref p)) M=fC (M p) (kD1 (.inr i) q M):=by unfold SS;rw[gj,yN]
theorem aax:Mg a b ρ M q=a ρ M (xh b ρ λy=>SS y q):=Q8
def SU (y:W)(q:WK):WK:=λx M=>dU x λp=>iX y λk=>fC (M p) (kD0 k q M)
def abp:SU (.v (.str i)) q (.v (.ref p)) M=fC (M p) (kD0 (.inr i) q M):=by unfold SU;rw[gj,yN]
theorem Uy:tH a b ρ M q=a ρ M (xh b ρ λy=>SU y q):=Fy
def Z7 (p:fM)(k:bX)(z:W)(n:bS ->Mp ->Prop)(ρ:bS)(M:Mp):cA (bX×W) ->Prop:=λkvs=>ci (kvs.length<sizeLine) (n ρ (um M p (.dK (ur kvs k z))))
theorem aiS:Z7 p k z n ρ M kvs=ci (kvs.length<sizeLine) (n ρ (um M p (.dK (ur kvs k z)))):=rfl
def Gs (z x:W)(n:bS ->Mp ->Prop)(ρ:bS):WK:=λy M=>dU x λp=>iX y λk=>fC (M p) (Z7 p k z n ρ M)
def abe:Gs z (.v (.ref p)) n ρ (.v (.int i)) M=fC (M p) (Z7 p (.inl i) z n ρ M):=by unfold Gs;rw[gj,JG]
def abd:Gs z (.v (.ref p)) n ρ (.v (.str i)) M=fC (M p) (Z7 p (.inr i) z n ρ M):=by unfold Gs;rw[gj,yN]
def SM (b:WE)(z:W)(n:bS ->Mp ->Prop)(ρ:bS):WK:=λx M=>b ρ M (Gs z x n ρ)
theorem abf:SM b z n ρ x M=b ρ M (Gs z x n ρ):=rfl
def Xm (a b:WE)(n:bS ->Mp ->Prop)(ρ:bS):WK:=λz M=>a ρ M (SM b z n ρ)
theorem abg:Xm a b n ρ z M=a ρ M (SM b z n ρ):=rfl
theorem Wd:yj a b c D ρ M=c ρ M (Xm a b D.nx ρ):=Ik
def SQ (K:Xu)(f:Str)(q:WK)(M:Mp):fM ->fM ->cA (Str×W) ->Prop:=λC _ fs=>ci (wE K C) (ci (dZ K C f) (iL (fs.lookup f) (kU q M)))
theorem abm:SQ K f q M C dx fs=ci (wE K C) (ci (dZ K C f) (iL (fs.lookup f) (kU q M))):=rfl
def kFl (K:Xu)(f:Str)(q:WK):WK:=λx M=>dU x λp=>lT (M p) (SQ K f q M)
theorem ai8:kFl K f q (.v (.ref p)) M=lT (M p) (SQ K f q M):=gj
theorem aaw:Mf K a f ρ M q=a ρ M (kFl K f q):=Q7
def SO (K:Xu)(f:Str)(p:fM)(y:W)(n:bS ->Mp ->Prop)(ρ:bS)(M:Mp):fM ->fM ->cA (Str×W) ->Prop:=λC dx fs=>ci (wE K C) (ci (dZ K C f) (ci (fs.length<1000) (n ρ (um M p (.ins C dx (gV f y fs))))))
theorem abk:SO K f p y n ρ M C dx fs=ci (wE K C) (ci (dZ K C f) (ci (fs.length<1000) (n ρ (um M p (.ins C dx (gV f y fs)))))):=rfl
def Xp (K:Xu)(f:Str)(y:W)(n:bS ->Mp ->Prop)(ρ:bS):WK:=λx M=>dU x λp=>lT (M p) (SO K f p y n ρ M)
theorem abj:Xp K f y n ρ (.v (.ref p)) M=lT (M p) (SO K f p y n ρ M):=gj
theorem ZL:DN K a b f D ρ M=b ρ M (xh a ρ λy=>Xp K f y D.nx ρ):=Mx
def kX2 (p:eB)(x:W)(e:WX)(q:WK):cA W ->Mp ->Prop:=λxs M=>pV p (x::xs) M q (up e)
theorem aiL:kX2 p x e q xs M=pV p (x::xs) M q (up e):=rfl
def kX1 (C:fM)(m:Str)(p:eB)(e:WX)(b:WA)(ρ:bS)(x:W)(q:WK)(M:Mp):fM ->fM ->cA (Str×W) ->Prop:=λC' _ fs=>ci (C'=C /\ fs.lookup m=none) (b ρ M (kX2 p x e q))
theorem aiM {b:WA}:kX1 C m p e b ρ x q M C' dx fs=ci (C'=C /\ fs.lookup m=none) (b ρ M (kX2 p x e q)):=rfl
def kX (C:fM)(m:Str)(p:eB)(e:WX)(b:WA)(ρ:bS)(q:WK):WK:=λx M=>dU x λo=>lT (M o) (kX1 C m p e b ρ x q M)
theorem ajA {b:WA}:kX C m p e b ρ q (.v (.ref o)) M=lT (M o) (kX1 C m p e b ρ (.v (.ref o)) q M):=gj
theorem Vn {b:WA}:xW C m p e a b ρ M q=a ρ M (kX C m p e b ρ q):=Hu
def kCx (p:eB)(e:WX)(q:WK):cA W ->Mp ->Prop:=λxs M=>pV p xs M q (up e)
theorem ajb:kCx p e q xs M=pV p xs M q (up e):=rfl
theorem Vz {a:WA}:BO p e a ρ M q=a ρ M (kCx p e q):=rfl
def kRs (C:fM)(e:WX):cA W ->Mp ->Prop:=λxs M=>ci (xs.length<=sizeLine) (up e C M)
theorem aiR:kRs C e xs M=ci (xs.length<=sizeLine) (up e C M):=rfl
theorem Ve {a:WA}:BL C e a D ρ M=a ρ M (kRs C e):=rfl
def kJr (q:cA W ->(Mp ->Prop) ->Mp ->Prop):cA W ->Mp ->Prop:=λxs M=>Nf xs λx=>AD x λj=>ci (-(2 ^ 62) <=j /\ j<2 ^ 62) (q (gk 0 j.toNat) (λ_=>True) M)
def ai1 {q:cA W ->(Mp ->Prop) ->Mp ->Prop}:kJr q [.v (.int j)] M=ci (-(2 ^ 62) <=j /\ j<2 ^ 62) (q (gk 0 j.toNat) (λ_=>True) M):=by unfold kJr;rw[Sl,JR]
theorem _c {a:WA}{q:cA W ->(Mp ->Prop) ->Mp ->Prop}:EG a ρ M q=a ρ M (kJr q):=NL
def kJt (q:cA W ->(Mp ->Prop) ->Mp ->Prop):WK:=λx M=>tupK x λl=>q l (λ_=>True) M
theorem ai0 {q:cA W ->(Mp ->Prop) ->Mp ->Prop}:kJt q (.tup l) M=q l (λ_=>True) M:=Ro
theorem abx {q:cA W ->(Mp ->Prop) ->Mp ->Prop}:S6 a ρ M q=a ρ M (kJt q):=rfl
def kCo (own:Nat)(fr:cA Nat)(g:WG)(c:WT)(el:WE)(ρ:bS)(q:WK):cA W ->(Mp ->Prop) ->Mp ->Prop:=λxs keep M=>vy xs keep own fr g c el ρ M q
theorem ajd {c:WT}:kCo own fr g c el ρ q xs keep M=vy xs keep own fr g c el ρ M q:=rfl
theorem Zu {c:WT}:HA it own fr g c el ρ M q=it ρ M (kCo own fr g c el ρ q):=rfl
end
end WL
namespace L2
open PySem PyProof.Rows PyProof.V PySem.Calls PySem.Spec
abbrev XH:=Hp ->XK
abbrev TR:=St ->Hp ->VK ->XH ->Prop
abbrev U1:=j8 ->(St ->XH) ->St ->Hp ->Prop
def XP (X:Cx)(af:cA (fM×Obj))(σ:St)(E:XH)(ev:c5)(s':dq):Prop:=cc λH1 s1=>Inv X af σ H1 s1 /\ gJ X.prog X.w X.stack H1 s1 (E H1) ev s'
def PR (X:Cx)(e:Expr)(t:TR):Prop:=∀ (af:cA (fM×Obj)) (s:dq) (σ:St) (H:Hp) (Q:VK) (E:XH),Inv X af σ H s ->t σ H Q E ->wpAny (model X.prog X.w) X.A (eval e X.env) (EP X af σ Q) (XP X af σ E) s
def PRS (X:Cx)(st:Stmt)(t:U1):Prop:=∀ (af:cA (fM×Obj)) (s:dq) (σ:St) (H:Hp) (D:j8) (E:St ->XH),Inv X af σ H s ->t D E σ H ->wpAny (model X.prog X.w) X.A (exec st X.env) (SP X af D) (λev s'=> ∃σ',XP X af σ' (E σ') ev s') s
def tRK (C:fM)(sp:Sp)(t:TA):TR:=λσ H Q E=>t σ H λvs H1=> ∀x dx,H1 x=none ->H1 dx=none ->dx≠x ->sp (.ref x::(vs++ [])) (cf (cf H1 dx (.own x)) x (.ins C dx [])) (λv H2=>v= .dG /\ Q (.ref x) H2) (E (cf (cf H1 dx (.own x)) x (.ins C dx [])))
def tRL (t:TR):TR:=λσ H Q E=>t σ H (λx H1=> ∀p,H1 p=none ->Q (.ref p) (cf H1 p (.lst [x]))) E
def tRA (i:Nat)(t:TR):U1:=λD E σ H=>t σ H (λx H1=>D.nx (σ.set i (some x)) H1) (E σ)
theorem RX (h:PA X.Gf es t){σ:St}(I:Inv X af σ H s)(hw:t σ H Q):wpAny (model X.prog X.w) X.A (spliced (backTo pos (starEach es X.env))) (AP X af σ Q) E s:=bw (h pos af s σ H Q (I.og _) hw) (λ_ _ ⟨v,H',I',r,q⟩=>#[v,H',I'.gN,r,q]) λ_ _ z=>False.elim z
def FP {σ:St}(M:Mk X.K C f)(F:bD X.prog X.w X.K X.mg X.base (gJ X.prog X.w) k f fd ps sp)(hr:d7 (k+1) X.A)(hb:Binds X.K fd ps ds)(hd:bW tf ds)(I:Inv X af σ H s)(r:bW vs us)(h: ∀x dx,H x=none ->H dx=none ->dx≠x ->sp (.ref x::(vs++tf)) (cf (cf H dx (.own x)) x (.ins C dx [])) (λv H2=>v= .dG /\ Q (.ref x) H2) (E (cf (cf H dx (.own x)) x (.ins C dx [])))): wpAny (model X.prog X.w) X.A (call (.ref C) us) (EP X af σ Q) (XP X af σ E) s:=by
 have hq:=h (s.heap.objs.size+1) s.heap.objs.size (I.cH.fresh (Nat.le_succ _)) (I.cH.fresh (aq _)) (bu (Nat.lt_succ_self _));have I2:=Inv.made (C:=C) I;have r2:bW (V.ref (s.heap.objs.size+1)::(vs++tf)) (Value.ref (s.heap.objs.size+1)::(us++ds)):= .cons rfl (r.append hd);have hl:(Value.ref (s.heap.objs.size+1)::us++ds).length=ps.length:=by have e:=r2.length;rw[F.len _ _ _ _ hq] at e;show e.symm
 exact wpAny_call (Aq (f:=f) I.kT M.makes M.init (beq_iff_eq.mp M.fn) (codeAny_mono (F.run _ X.stack _ _ #[Value.ref (s.heap.objs.size+1)::us,[]] (Value.ref (s.heap.objs.size+1)::(us++ds)) _ _ _ (hr.make C us []) (I2.Ky.make C us []) (hb _ (Value.ref (s.heap.objs.size+1)::us) I2.kT hl) r2 hq) λr s' JX=> ?_));cases r with
 | error e=>show#[_,_,I2,JX]
 | ok fl=>
  cases fl with
  | ret u=>let⟨v,H',I3,rv,ev,q3⟩:=I2.after JX;subst ev;show#[rv,#[V.ref (s.heap.objs.size+1),H',I3,rfl,q3]]
  | next=>show False.elim JX
  | brk=>show False.elim JX
  | cont=>show False.elim JX
def MJ {p pos:Pos}(M:Mk X.K C f)(F:bD X.prog X.w X.K X.mg X.base (gJ X.prog X.w) k f fd ps sp)(hr:d7 (k+1) X.A)(hg:Gl X x)(hm:X.mg x=some (.ref C))(hb:Binds X.K fd ps [])(ha:PA X.Gf (e::es) ta)(n_:(x==("__debug__" :Str))=false:=by decide)(he:starEach (e::es) X.env=(false,eval e X.env)::starEach es X.env:=by rfl)(no:(backTo pos (starEach es X.env)).any (·.1)=false:=by rfl): PR X (.Call (.Name x p) (e::es) [] pos) (tRK C sp ta):=by intro af s σ H Q E I h;exact wpAny_Call_Name_kw (mT I hg hm ?_ n_);exact W.callWith_K (h₀:=X.base) I.ok.mod.NK M.kp (cQ (RX ha I h) λus s1 ⟨vs,H1,I1,r,q⟩=>#[I1.kT,?_]) he no;show FP M F hr hb .nil I1 r q
theorem IK {p pos:Pos}{st:Stmt}(M:Us X.K X.mg x qual ps st C f fd)(F:bD X.prog X.w X.K X.mg X.base (gJ X.prog X.w) k f fd ps sp)(hr:d7 (k+1) X.A)(hg:Gl X x)(ha:PA X.Gf (e::es) ta)(n_:(x==("__debug__" :Str))=false:=by decide)(he:starEach (e::es) X.env=(false,eval e X.env)::starEach es X.env:=by rfl)(no:(backTo pos (starEach es X.env)).any (·.1)=false:=by rfl): PR X (.Call (.Name x p) (e::es) [] pos) (tRK C sp ta):=MJ M.mkr F hr hg M.at_ M.bd ha n_ he no
def MK (h:PR X e t)(hs:starEach (e:: []) X.env=(false,eval e X.env)::starEach [] X.env:=by rfl):PR X (.List [e] pos) (tRL t):=by intro af s σ H Q E I hq;exact wpAny_List_spliced ?_;rw[hs];change wpAny _ _ (spliced ((false,eval e X.env)::backTo pos (starEach [] X.env))) _ _ s;exact Calls.spliced_cons (cQ (h af s σ H _ E I hq) λu s1 ⟨x,H1,I1,r1,q⟩=> ?_);exact Calls.spliced_nil #[by change 1<=sizeLine;decide,?_];have hf:H1 s1.heap.objs.size=none:=I1.cH.fresh (aq _);exact#[.ref s1.heap.objs.size,cf H1 s1.heap.objs.size (.lst [x]),I1.laid (t':=s1.toks) (λb u e=>av _ e) (aq _) ?_,rfl,q _ hf];show#[by change 1<=sizeLine;decide,[u],0, .cons r1 .nil,aW _ rfl]
def MG (hN:X.N.Nodup)(hi:X.N[i]? =some y)(hy:X.env.kindOf y=some .local)(he:PR X e t)(hs:swapsWith e (some (.Name y jA)) pos.line X.env=pure false:=by rfl):PRS X (.Assign [.Name y jA] e pos) (tRA i t):=by intro af s σ H D E I h;exact wpAny_Assign_Name (bw (he af s σ H _ _ I h) (λv s1 ⟨y,H1,I1,r1,q1⟩=> ?_) λev s2 z=>#[σ,z]) hs;show ju I1 hN hi (.inl hy) r1 (λs2 I2=>#[_,H1,I2,q1]) (.inr hy)
def asN (i:Nat)(ts:TS):fM ->TS:=λea D σ H=>ts (AL i D) (σ.set i (some (.ref ea))) H
def asU (ts:TS):fM ->TS:=λ_=>ts
inductive OJ (X:Cx):List ExceptHandler ->List (Addr× (Addr ->TS)) ->Prop
 | nil:OJ X [] []
 | cons {x:Str} {np wj:Pos} {b₀:Stmt} {ka:List Stmt} {C:Addr} {ts:TS} {cE:List ExceptHandler} {al:List (Addr× (Addr ->TS))} (hg:Gl X x) (O:lb X.K x C) (Qq: ∀ea,xO (X.i_ (.ref ea)) (b₀::ka) ts) (r:OJ X cE al) (n_:(x==("__debug__" :Str))=false:=by decide): OJ X (.ExceptHandler (some (.Name x np)) none (b₀::ka) wj::cE) ((C,asU ts)::al)
 | name {x n:Str} {i:Nat} {np wj:Pos} {b₀:Stmt} {ka:List Stmt} {C:Addr} {ts:TS} {cE:List ExceptHandler} {al:List (Addr× (Addr ->TS))} (hg:Gl X x) (O:lb X.K x C) (hN:X.N.Nodup) (hi:X.N[i]? =some n) (hk:X.env.kindOf n=some .local) (Qq: ∀ea,xO (X.i_ (.ref ea)) (b₀::ka) ts) (r:OJ X cE al) (n_:(x==("__debug__" :Str))=false:=by decide): OJ X (.ExceptHandler (some (.Name x np)) (some n) (b₀::ka) wj::cE) ((C,asN i ts)::al)
def Dy (K:Xu):cA (fM× (fM ->TS)) ->fM ->fM ->TS
 | [],_,_=>λ_ _ _=>False
 | (D,ts)::r,C,ea=>λE σ H=> ∃b,cW (W.kitOne K (.ref C) (.ref D)=some b) (b=true ->ts ea E σ H) (b=false ->Dy K r C ea E σ H)
section
variable {X:Cx}{af:cA (fM×Obj)}{σ:St}{s':dq}
def CQ {E0:XK}(pk:X.stack=X.env::X.outer)(EQ:X.env.frame=some X.env.locals)(I:Inv X af σ H1 s1)(fl:gJ X.prog X.w X.stack H1 s1 E0 ev s')(ph:OJ X hs al)(k: ∀cls d H',E0 cls d H' -> ∃C,cls= .ref C /\ ∀ea,H' ea=none ->aY H1 (cf H' ea (.ext (fq ea C))) ->Dy X.K al C ea D σ (cf H' ea (.ext (fq ea C)))): wpAny (model X.prog X.w) X.A (noteFrame ev X.env) (λ_ s₂=>wpAny (model X.prog X.w) X.A (setFlight ev none) (λ_ s₃=>wpAny (model X.prog X.w) X.A (handleBy ev X.env hs) (SP X af D) X.xe s₃) X.xe s₂) X.xe s':=by
 let⟨ea,cls,a0,B,H2,rfl,os,bare,fl,cH,tT,un,kb,kt,hE⟩:=fl;let⟨C,rfl,kk⟩:=k _ _ _ hE;exact wpAny_looks_onW (by rw[I.ok.frames,pk]) EQ (pk▸fl) λh₄ Ka UB=> ?_;exact wpAny_landsW Ka λh₅ L4 UA=> ?_;rw[<- pk] at L4;let⟨I5,ts5⟩:=iM I os bare fl cH tT un kb kt L4 (UB.trans UA) (tk:=s'.toks);let⟨ob,XS,JY⟩:=L4.there;have key:=kk ea tT ts5;clear kk k;have matched: ∀ {A:Around} {b:Bool} {x:Str} {D':fM} {Q:Bool ->dq ->Prop} {E:c5 ->dq ->Prop},lb X.K x D' ->W.kitOne X.K (.ref C) (.ref D')=some b ->Q b {s' with heap:=h₅} ->wpAny (model X.prog X.w) A (excMatches (.ref ea) (.ref D')) Q E {s' with heap:=h₅}:=λ{A b x D' Q E} O hk hq=>by
  have O':=oP I.ok.mod O.ns O.exc;by_cases Ym:C=D';subst Ym;have hb:b=true:=by unfold W.kitOne at hk;rw[am (beq_self_eq_true _)] at hk;show(bp hk).symm
  let⟨bm,N,nm,qn,bs,hdct,sn,sub,ab,col,dd,k0,k1,k2,k3,k5,mN,hC,N4,EO,TL⟩:=(O'.keeps I5.bk).obj;subst hb;show wpAny_excMatches_sub_self hC XS JY (TL.hasType (by decide+kernel)) hq;show(E7 (M:=model X.prog X.w) I5.kT O.k Ym XS JY hk).here hq
 induction ph with
 | nil=>show key.elim
 | @cons x np wj b₀ ka D' ts cE al' hg O Qq r n_ ih=>
  let⟨b,hk,ht,hf⟩:=key;have O':=oP I.ok.mod O.ns O.exc;exact wpAny_handleBy_cons (codeAny_handlers_test (yJ I5 hg O'.bound ?_ n_)) (by intro q;cases q);exact matched O hk ?_;cases b with
  | false=>show ih (hf rfl)
  | true=>
   exact codeAny_handlers_suite ?_;exact PyProof.Rows.lands_againW L4 λh₆ Ys VG=> ?_;let⟨I6,ts⟩:=iM I os bare fl cH tT un kb kt Ys ((UB.trans UA).trans VG) (tk:=s'.toks);exact bw (Qq ea af _ σ _ D (I6.i_ (.ref ea)) (ht rfl)) (λf s8 h8=> ?_) λ_ _ z=>z.elim;cases f with
   | next=>let⟨σ',H3,I8,q⟩:=h8;show#[_,_,I8.jU I.ok,q]
   | brk=>let⟨σ',H3,I8,q⟩:=h8;show#[_,_,I8.jU I.ok,q]
   | cont=>let⟨σ',H3,I8,q⟩:=h8;show#[_,_,I8.jU I.ok,q]
   | ret u=>let⟨v,σ',H3,I8,r,q⟩:=h8;show#[v,_,_,I8.jU I.ok,r,q]
 | @name x n i np wj b₀ ka D' ts cE al' hg O hN hi xl Qq r n_ ih=>
  let⟨b,hk,ht,hf⟩:=key;have O':=oP I.ok.mod O.ns O.exc;exact wpAny_handleBy_cons (codeAny_handlers_test (yJ I5 hg O'.bound ?_ n_)) (by intro q;cases q);exact matched O hk ?_;cases b with
  | false=>show ih (hf rfl)
  | true=>
   exact codeAny_handlers_suite_as ?_;exact PyProof.Rows.lands_againW L4 λh₆ Ys VG=> ?_;let⟨I6,ts⟩:=iM I os bare fl cH tT un kb kt Ys ((UB.trans UA).trans VG) (tk:=s'.toks);exact ju (X:=X.i_ (.ref ea)) (I6.i_ (.ref ea)) hN hi (.inl xl) (v:= .ref ea) (by rfl) (λs7 I7=> ?_) (.inr xl);exact bw (Qq ea af s7 _ _ _ I7 (ht rfl)) (λf s8 h8=> ?_) λ_ _ z=>z.elim;have fin: ∀ {σ':St} {H3:Hp} {Q:Unit ->dq ->Prop},Inv (X.i_ (.ref ea)) af σ' H3 s8 ->(∀s9,Inv X af (σ'.set i none) H3 s9 ->Q () s9) ->wpAny (model X.prog X.w) X.A (do bindName X.env n .none;unbindBehindTheSuite X.env n wj) Q X.xe s8:=λI8 hq=>N7 (I8.jU I.ok) hN hi xl hq;cases f with
   | next=>let⟨σ',H3,I8,q⟩:=h8;show fin I8 λs9 I9=>#[_,_,I9,q]
   | brk=>let⟨σ',H3,I8,q⟩:=h8;show fin I8 λs9 I9=>#[_,_,I9,q]
   | cont=>let⟨σ',H3,I8,q⟩:=h8;show fin I8 λs9 I9=>#[_,_,I9,q]
   | ret u=>let⟨v,σ',H3,I8,r,q⟩:=h8;show fin I8 λs9 I9=>#[v,_,_,I9,r,q]
def Pe (K:Xu)(tb:U1)(al:cA (fM× (fM ->TS))):TS:=λD σ H=>tb D (λσ' H1 cls _ H'=> ∃C,cls= .ref C /\ ∀ea,H' ea=none ->aY H1 (cf H' ea (.ext (fq ea C))) ->Dy K al C ea D σ' (cf H' ea (.ext (fq ea C)))) σ H
def ME {st:Stmt}(pk:X.stack=X.env::X.outer)(EQ:X.env.frame=some X.env.locals)(hb:PRS X st tb)(ph:OJ X (h₀::hs) al): PS X (.Try [st] (h₀::hs) [] [] pos) (Pe X.K tb al):=by
 intro af s σ H D I h;exact wpAny_Try_except (wpAny_execs_cons (bw (hb af s σ H D _ I h) (λf s1 q=> ?_) λev s1 ⟨σ',H1,s0,I1,fl⟩=>CQ pk EQ I1 fl ph λcls d H' z=>z));cases f with
 | next=>show wpAny_execs_nil (wpAny_execs_nil q)
 | brk=>show q
 | cont=>show q
 | ret u=>show q
end
end L2
namespace WL
open PySem L2
abbrev OF:=bS ->Mp ->WK ->WX ->Prop
abbrev YO:=dH ->(bS ->WX) ->bS ->Mp ->Prop
class _M (K:PySem.W.Frag) (t:TR) (w:outParam OF):Prop where
 imp: ∀ (ρ:bS) (M:Mp) (σ:L2.St) (H:Hp) (q:WK) (Q:VK) (e:WX) (E:XH),Ok K ρ M σ H ->w ρ M q e ->(∀x M' v H',q x M' ->aY H H' ->fR K M' H' ->WR K H' x v ->Q v H') ->(∀C M' H1 H',e C M' ->aY H H1 ->fR K M' H' ->E H1 (.ref C) none H') ->t σ H Q E
class IRS (K:PySem.W.Frag) (t:U1) (w:outParam YO):Prop where
 imp: ∀ (ρ:bS) (M:Mp) (σ:L2.St) (H:Hp) (D':dH) (D:j8) (e:bS ->WX) (E:L2.St ->XH),Ok K ρ M σ H ->w D' e ρ M ->iU K H D' D ->(∀C ρ' M' σ' H1 H',e ρ' C M' ->aY H H1 ->Fo K H1 ρ' σ' ->fR K M' H' ->E σ' H1 (.ref C) none H') ->t D E σ H
section
variable {K:Xu}
def wRK (C:fM)(p:eB)(a:WA):OF:=λρ M q e=>a ρ M λxs M1=> ∀x dx,M1 x=none ->M1 dx=none ->dx≠x ->p (wr x::xs) (um M1 x (.ins C dx [])) (λv M2=>v=wn /\ q (wr x) M2) e
instance {C:fM}{p:eB}{t:TA}{a:WA} [ia:IA K t a]:_M K (tRK C (rf K p) t) (wRK C p a) where
 imp:=λρ M σ H q Q e E o h k kE=>ia.imp ρ M σ H _ _ o h λxs M1 vs H1 h1 t1 m1 r1=>λx dx hx CF ku=>by
  have XC:cf H1 dx (.own x) x=none:=by rw[bL (cX ku)];show hx
  have UC:aY H1 (cf H1 dx (.own x)):=L2.fF.ts (bO CF);have LI:aY (cf H1 dx (.own x)) (cf (cf H1 dx (.own x)) x (.ins C dx [])):=L2.fF.ts (bO XC);exact#[wr x::xs,um M1 x (.ins C dx []),λv M2=>v=wn /\ q (wr x) M2,e,cK.cons WR.v (by rw[c4];show r1.ts (UC.trans LI)),(m1.new CF).put LI #[[],bM, .nil],h1 x dx (m1.fresh hx) (m1.fresh CF) ku,?_,λC M' H' h m=>kE C M' _ H' h (t1.trans (UC.trans LI)) m];rintro y M' u H' ⟨rfl,hq⟩ ts m' r';show#[r'.eq,k _ _ _ _ hq (t1.trans ((UC.trans LI).trans ts)) m' WR.v]
def wRL (a:OF):OF:=λρ M q e=>a ρ M (λx M1=> ∀p,M1 p=none ->q (wr p) (um M1 p (.lst [x]))) e
instance {t:TR}{a:OF} [ia:_M K t a]:_M K (tRL t) (wRL a) where
 imp:=λρ M σ H q Q e E o h k kE=>ia.imp ρ M σ H _ _ e E o h (λx M1 v H1 h1 t1 m1 r1=>λp hp=>k _ _ _ _ (h1 p (m1.fresh hp)) (t1.trans (L2.fF.ts (bO hp))) (m1.jW hp (cK.cons r1 cK.nil)) WR.v) kE
def wRA (i:Nat)(a:OF):YO:=λD e ρ M=>a ρ M (λx M1=>D.nx (ρ.set i (some x)) M1) (e ρ)
instance {i:Nat}{t:TR}{a:OF} [ia:_M K t a]:IRS K (tRA i t) (wRA i a) where
 imp:=λρ M σ H D' D e E o h qU kE=>ia.imp ρ M σ H _ _ (e ρ) (E σ) o h (λx M1 v H1 h1 t1 m1 r1=>qU.nx _ _ _ _ h1 t1 #[(o.env.ts t1).set i r1,m1]) λC M' H1 H' h t1 m=>kE C ρ M' σ H1 H' h t1 (o.env.ts t1) m
def VC (i:Nat)(s:WS):fM ->WS:=λea D ρ M=>s (Kc i D) (ρ.set i (some (wr ea))) M
class IAs (K:PySem.W.Frag) (t:Addr ->TS) (w:outParam (Addr ->WS)):Prop where
 imp: ∀ (ea:Addr) (ρ:bS) (M:Mp) (σ:L2.St) (H:Hp) (D':dH) (D:j8),Ok K ρ M σ H ->w ea D' ρ M ->iU K H D' D ->t ea D σ H
instance {i:Nat}{t:TS}{s:WS} [is:IS K t s]:IAs K (asN i t) (VC i s) where
 imp:=λea ρ M σ H D' D o h qU=>is.imp _ M _ H (Kc i D') (AL i D) #[o.env.set i WR.v,o.hp] h #[λρ' M5 σ' H5 h5 t5 o5=>qU.nx _ _ _ _ h5 t5 (o5.Ib i),qU.rt,λρ' M5 σ' H5 h5 t5 o5=>qU.bk _ _ _ _ h5 t5 (o5.Ib i),λρ' M5 σ' H5 h5 t5 o5=>qU.ct _ _ _ _ h5 t5 (o5.Ib i)]
def wK (K:Xu):cA (fM× (fM ->WS)) ->fM ->fM ->WS
 | [],_,_=>λ_ _ _=>False
 | (D,s)::r,C,ea=>λE ρ M=> ∃b,cW (W.kitOne K (.ref C) (.ref D)=some b) (b=true ->s ea E ρ M) (b=false ->wK K r C ea E ρ M)
class _P (K:PySem.W.Frag) (t:List (Addr× (Addr ->TS))) (w:outParam (List (Addr× (Addr ->WS)))):Prop where
 imp: ∀ (C ea:Addr) (ρ:bS) (M:Mp) (σ:L2.St) (H:Hp) (D':dH) (D:j8),Ok K ρ M σ H ->wK K w C ea D' ρ M ->iU K H D' D ->Dy K t C ea D σ H
instance:_P K [] [] where
 imp:=λ_ _ _ _ _ _ _ _ _ h _=>h.elim
instance {D:fM}{t:fM ->TS}{s:fM ->WS}{r:cA (fM× (fM ->TS))}{r':cA (fM× (fM ->WS))} [is:IAs K t s] [ir:_P K r r']:_P K ((D,t)::r) ((D,s)::r') where
 imp:=λC ea ρ M σ H D' D o ⟨b,hk,h1,h2⟩ e=>#[b,hk,λhb=>is.imp ea ρ M σ H D' D o (h1 hb) e,λhb=>ir.imp C ea ρ M σ H D' D o (h2 hb) e]
theorem Ug (hk:W.kitOne K (.ref C) (.ref D)=some true)(h:s ea E ρ M):wK K ((D,s)::r) C ea E ρ M:=#[true, .mk hk (λ_=>h) λz=>nomatch z]
theorem Uh (h:s ea E ρ M):wK K ((C,s)::r) C ea E ρ M:=Ug (by unfold W.kitOne;rw[am (beq_self_eq_true _)]) h
def O2 (K:Xu)(b:YO)(al:cA (fM× (fM ->WS))):WS:=λD ρ M=>b D (λρ' C M'=> ∀ea,M' ea=none ->wK K al C ea D ρ' (um M' ea (.exc C))) ρ M
instance {tb:U1}{b:YO}{al:cA (fM× (fM ->TS))}{wl:cA (fM× (fM ->WS))} [ib:IRS K tb b] [il:_P K al wl]:IS K (Pe K tb al) (O2 K b wl) where
 imp:=λρ M σ H D' D o h qU=>ib.imp ρ M σ H D' D _ _ o h qU λC ρ' M' σ' H1 H' h t1 en m=>#[C,rfl,λea tT VI=>il.imp C ea ρ' (um M' ea (.exc C)) σ' _ D' D #[en.ts VI,m.put (L2.fF.ts (bO tT)) bM] (h ea (m.fresh tT)) (qU.of t1 VI)]
theorem Vi:wRA i a D e ρ M=a ρ M (λx M1=>D.nx (ρ.set i (some x)) M1) (e ρ):=rfl
theorem Vg:wRL a ρ M q e=a ρ M (λx M1=>jW q M1 (.lst [x])) e:=rfl
theorem Vh:wRK C p a ρ M q e=a ρ M λxs M1=> ∀x dx,M1 x=none ->M1 dx=none ->dx≠x ->pV p (wr x::xs) (um M1 x (.ins C dx [])) (λv M2=>v=wn /\ q (wr x) M2) e:=rfl
theorem Ma:O2 K b al D ρ M=b D (λρ' C M'=> ∀ea,M' ea=none ->wK K al C ea D ρ' (um M' ea (.exc C))) ρ M:=rfl
end
end WL
namespace WQ
open PySem L2 WL
def Sh (B C D:fM):eB:=λxs M q e=>eh λ(s dx:fM) (p:Int)=>fg (xs= [wr s,wi p]) (M s=some (.ins B dx [])) ((p=2 \/ p=3 \/ p=5 \/ p=7) -> ∀M' la lu lh now,Bk B C M' s la lu lh p now [] [] [] [] [] ->Fs s M M' ->M la=none ->M lu=none ->M lh=none ->la≠s ->q wn M') (¬(p=2 \/ p=3 \/ p=5 \/ p=7) ->e D M)
def JS (p:Int):CA (.int p) [.int 2, .int 3, .int 5, .int 7]=decide (p=2 \/ p=3 \/ p=5 \/ p=7):=by
 change(zt (.int 2) (.int p) || (zt (.int 3) (.int p) || (zt (.int 5) (.int p) || (zt (.int 7) (.int p) || false))))=_;have e: ∀y:Int,zt (.int y) (.int p)=true↔p=y:=λy=>by simp[zt];show eq_comm
 rw[Bool.or_false,Bool.eq_iff_iff,Bool.or_eq_true,Bool.or_eq_true,Bool.or_eq_true,cV,e,e,e,e]
def qg (S:fG):cA (Rm×Tm):=S.past.map (·.2)++ [(S.R,S.T)]
def x_ {α:Type}(f:Nat ->α)(j:Nat)(v:α):Nat ->α:=λi=>if i=j then v else f i
theorem iw {v:α}:x_ f j v j=v:=am rfl
theorem fu {v:α}(h:i≠j):x_ f j v i=f i:=ak h
structure TB (B C:Addr)(p:Nat ->Int)(b now g:Nat ->Addr)(ns:List Str)(S:Nat ->fG)(R:Nat ->List (Rm×Tm))(M:Mp):Prop where
 dr:Dr M (g 0) (g 1)
 nl:M (g 2)=some (.lst (ns.map ws))
 ps:M (g 3)=some (.lst [wi (p 0),wi (p 1)])
 bs:M (g 4)=some (.lst [wr (b 0),wr (b 1)])
 rs:M (g 5)=some (.lst [wr (g 6),wr (g 7)])
 bk: ∀j,j<2 ->kQ B C M (b j) (g (8+j)) (g (10+j)) (g (12+j)) (p j) (now j) (S j)
 rw: ∀j,j<2 ->C4 M (g (6+j)) (R j)
 ne:b 0≠b 1
 inj: ∀i k,i<14 ->k<14 ->g i=g k ->i=k
theorem TB.sm (h:TB B C p b now g ns S R M)(s:Sm M M'):TB B C p b now g ns S R M':=#[E8 h.dr s,s _ _ h.nl,s _ _ h.ps,s _ _ h.bs,s _ _ h.rs,λj hj=>(h.bk j hj).sm s,λj hj=>(h.rw j hj).sm s,h.ne,h.inj]
def qc {Q:Nat ->Prop}(hj:j<2)(h0:Q 0)(h1:Q 1):Q j:=by obtain rfl | rfl:=(show j=0 \/ j=1 by omega);show h0;show h1
def TB.at (h:TB B C p b now g ns S R M)(i:Nat)(hi:i<14): ∃x,M (g i)=some (.lst x):=by obtain rfl | rfl | rfl | rfl | rfl | rfl | ⟨j,hj,rfl⟩ | ⟨j,hj,rfl⟩ | ⟨j,hj,rfl⟩ | ⟨j,hj,rfl⟩:=(show i=0 \/ i=1 \/ i=2 \/ i=3 \/ i=4 \/ i=5 \/ (∃j,j<2 /\ i=6+j) \/ (∃j,j<2 /\ i=8+j) \/ (∃j,j<2 /\ i=10+j) \/ ∃j,j<2 /\ i=12+j by by_cases h0:i<6;omega;by_cases h1:i<8;show .inr (.inr (.inr (.inr (.inr (.inr (.inl #[i - 6,by omega,by omega]))))));by_cases h2:i<10;show .inr (.inr (.inr (.inr (.inr (.inr (.inr (.inl #[i - 8,by omega,by omega])))))));by_cases h3:i<12;show .inr (.inr (.inr (.inr (.inr (.inr (.inr (.inr (.inl #[i - 10,by omega,by omega]))))))));show .inr (.inr (.inr (.inr (.inr (.inr (.inr (.inr (.inr #[i - 12,by omega,by omega])))))))));show Kz h.dr;show aib h.dr;show#[_,h.nl];show#[_,h.ps];show#[_,h.bs];show#[_,h.rs];show(h.rw j hj).at;show#[_,(h.bk j hj).bk.pa];show#[_,(h.bk j hj).bk.un];show#[_,(h.bk j hj).bk.he]
theorem TB.n (h:TB B C p b now g ns S R M)(hi:i<14)(hk:k<14)(n:i≠k):g i≠g k:=λe=>n (h.inj i k hi hk e)
theorem TB.ap (h:TB B C p b now g ns S R M)(hj:j<2)(hi:i<14)(n:i≠8+j /\ i≠10+j /\ i≠12+j):Ap (g i) (g (8+j)) (g (10+j)) (g (12+j)):=#[h.n (by omega) hi (by omega),h.n (by omega) hi (by omega),h.n (by omega) hi (by omega)]
def TB.fs (h:TB B C p b now g ns S R M)(F:Fs (g 0) M M')(D:Dr M' (g 0) (g 1)):TB B C p b now g ns S R M':=by let⟨x,hx⟩:=Kz h.dr;show#[D,F _ _ h.nl (h.n ⋯ ⋯ ⋯),F _ _ h.ps (h.n ⋯ ⋯ ⋯),F _ _ h.bs (h.n ⋯ ⋯ ⋯),F _ _ h.rs (h.n ⋯ ⋯ ⋯),λj hj=>(h.bk j hj).fs F hx (h.ap hj ⋯ #[by omega,by omega,by omega]),λj hj=>(h.rw j hj).fs F hx (h.n (by omega) ⋯ (by omega)),h.ne,h.inj]
def Yz (h:Dr M d l)(F:Fs a M M')(n1:d≠a)(n2:l≠a):Dr M' d l:=by let⟨ns,i,c,s,h1,h2,h3,h4⟩:=h;show#[ns,i,c,s,F _ _ h1 n1,F _ _ h2 n2,h3,h4]
def TB.row (h:TB B C p b now g ns S R M)(hj:j<2){lp:Lp}(hl: ∀z∈lp,M z.1.1=some (.dK (yk z.2.1)) /\ M z.1.2=some (.dK (qd z.2.2))): TB B C p b now g ns S (x_ R j (lp.map (·.2))) (um M (g (6+j)) (.lst (lp.map zN))):=by let⟨x,hx⟩:=(h.rw j hj).at;have F:Fs (g (6+j)) M (um M (g (6+j)) (.lst (lp.map zN))):=Fs.self;exact#[Yz h.dr F (h.n ⋯ (by omega) (by omega)) (h.n ⋯ (by omega) (by omega)),F _ _ h.nl (h.n ⋯ (by omega) (by omega)),F _ _ h.ps (h.n ⋯ (by omega) (by omega)),F _ _ h.bs (h.n ⋯ (by omega) (by omega)),F _ _ h.rs (h.n ⋯ (by omega) (by omega)),λk hk=>(h.bk k hk).fs F hx (h.ap hk (by omega) #[by omega,by omega,by omega]),λk hk=> ?_,h.ne,h.inj];by_cases e:k=j;subst e;rw[iw];show#[lp,ao,rfl,λz hz=>#[F.E9 hx (hl z hz).1,F.E9 hx (hl z hz).2]];rw[fu e];show(h.rw k hk).fs F hx (h.n (by omega) (by omega) (by omega))
def Pg.LZ (h:Pg C M a R T)(F:Bq b la lu lh M M')(hB:kQ B C M b la lu lh p now S):Pg C M' a R T:=by let⟨dx,r,t,h1,h2,h3⟩:=h;let⟨dx',hb⟩:=hB.bk.ob;exact#[dx,r,t,F _ _ h1 ?_ ?_ ?_ ?_,F.E9 hB h2,F.E9 hB h3];rintro rfl;rw[hb] at h1;simp[ed,kS] at h1;rintro rfl;rw[hB.bk.pa] at h1;cases h1;rintro rfl;rw[hB.bk.un] at h1;cases h1;rintro rfl;rw[hB.bk.he] at h1;cases h1
def kQ.other (h:kQ B C M b' SG dS lh' p' oX S')(hB:kQ B C M b la lu lh p now S)(F:Bq b la lu lh M M')(nb:b'≠b)(n1:Ap SG la lu lh)(n2:Ap dS la lu lh)(n3:Ap lh' la lu lh):kQ B C M' b' SG dS lh' p' oX S':=by let⟨⟨⟨dx,h1⟩,h2,h3,h4,h5,h6⟩,pp,pu,ph⟩:=h;exact#[#[#[dx,F _ _ h1 nb ?_ ?_ ?_],F.lst hB h2 n1,F.lst hB h3 n2,F.lst hB h4 n3,h5,h6.LZ F hB],λz hz=>(pp z hz).LZ F hB,λz hz=>(pu z hz).LZ F hB,λz hz=>(ph z hz).LZ F hB];rintro rfl;rw[hB.bk.pa] at h1;cases h1;rintro rfl;rw[hB.bk.un] at h1;cases h1;rintro rfl;rw[hB.bk.he] at h1;cases h1
def TB.call (h:TB B C p b now g ns S R M)(hj:j<2)(F:Bq (b j) (g (8+j)) (g (10+j)) (g (12+j)) M M')(hB:kQ B C M' (b j) (g (8+j)) dS (g (12+j)) (p j) oX S')(hu:dS=g (10+j) \/ M dS=none): TB B C p b (x_ now j oX) (x_ g (10+j) dS) ns (x_ S j S') R M':=by
 have TQ:=h.bk j hj;have gn: ∀ {i:Nat},i≠10+j ->x_ g (10+j) dS i=g i:=λn=>fu n;have bn: ∀ {k:Nat},k<2 ->k≠j ->b k≠b j:=λ{k} hk n=>by
  rcases (show k=0 /\ j=1 \/ k=1 /\ j=0 by omega) with⟨rfl,rfl⟩ | ⟨rfl,rfl⟩
  show h.ne;show λe=>h.ne e.symm
 exact#[?_,?_,?_,?_,?_,λk hk=> ?_,λk hk=> ?_,h.ne,λi k hi hk e=> ?_];rw[gn (by omega),gn (by omega)];show F.dr TQ h.dr (h.ap hj ⋯ #[by omega,by omega,by omega]) (h.ap hj ⋯ #[by omega,by omega,by omega]);rw[gn (by omega)];show F.lst TQ h.nl (h.ap hj ⋯ #[by omega,by omega,by omega]);rw[gn (by omega)];show F.lst TQ h.ps (h.ap hj ⋯ #[by omega,by omega,by omega]);rw[gn (by omega)];show F.lst TQ h.bs (h.ap hj ⋯ #[by omega,by omega,by omega]);rw[gn (by omega),gn (by omega),gn (by omega)];show F.lst TQ h.rs (h.ap hj ⋯ #[by omega,by omega,by omega]);by_cases e:k=j;subst e;rw[gn (i:=8+k) (by omega),gn (i:=12+k) (by omega),iw,iw,iw];show hB;rw[gn (i:=8+k) (by omega),gn (i:=10+k) (by omega),gn (i:=12+k) (by omega),fu e,fu e];show(h.bk k hk).other TQ F (bn hk e) (h.ap hj (by omega) #[by omega,by omega,by omega]) (h.ap hj (by omega) #[by omega,by omega,by omega]) (h.ap hj (by omega) #[by omega,by omega,by omega]);rw[gn (by omega)];show(h.rw k hk).fr F TQ (h.ap hj (by omega) #[by omega,by omega,by omega]);have key: ∀ {m:Nat},m<14 ->dS=g m ->m=10+j:=λ{m} hm e=>by obtain hu | hu:=hu;show h.inj _ _ hm (by omega) (e.symm.trans hu);let⟨x,hx⟩:=h.at m hm;rw[e,hx] at hu;cases hu
 unfold x_ at e;split at e;split at e;omega;have:=key hk e;omega;split at e;have:=key hi e.symm;omega;show h.inj i k hi hk e
def mH {α:Type}{f:α ->W}{q:Nat ->α}{j:Nat}(hj:j<2):fE [f (q 0),f (q 1)] (j:Int)=some (f (q j)):=by obtain rfl | rfl:=(show j=0 \/ j=1 by omega) <;>rfl
def WU (B C:fM):eZ:=λxs M q=>fQ λ(p:Nat ->Int) (b now g:Nat ->fM)=>eh λ(ns:cA Str) (S:Nat ->fG) (R:Nat ->cA (Rm×Tm))=>f_ (xs= [wr (g 3),wr (g 4),wr (g 5)]) (TB B C p b now g ns S R M) (∀j,j<2 ->sr (p j) (S j).R (S j).T) (∀j,j<2 ->R j=qg (S j)) (q (wb true) M)
theorem Fs.Ju (f:Fs s M M')(hp:M p=none):Fs s M (um M' p o):=λa u h n=>by rw[aP (cF h hp)];show f a u h n
def MU:eZ:=λxs M q=>eh λ(d l:fM) (m:Int)=>f_ (xs= [wr d,wi m]) (Dr M d l) (0<=m) (m<=20) (∀ (u:fM) (ns:cA Str) (M':Mp),M' u=some (.lst (ns.map ws)) ->(ns.length:Int)=m ->(∀n∈ns,Nm n) ->u≠d ->u≠l ->Dr M' d l ->Fs d M M' ->M u=none ->q (wr u) M')
structure Kn (L:List Addr)(M:Mp):Prop where
 nd:L.Nodup
 at_: ∀a∈L, ∃x,M a=some (.lst x)
def Kn.start (h:Dr M d l):Kn [l,d] M:=by let⟨ns,i,c,s,h1,h2,h3,h4⟩:=h;exact#[by simp[cX h4],λa ha=> ?_];obtain rfl | ha:=aS.mp ha;show#[_,h2];rw[aV.mp ha];show#[_,h1]
theorem Kn.out (h:Kn L M)(hx:M x=none):x∉L:=λe=>by let⟨y,hy⟩:=h.at_ x e;rw[hx] at hy;cases hy
theorem Kn.fs (h:Kn L M)(F:Fs d M M')(hd: ∃x,M' d=some (.lst x)):Kn L M':=#[h.nd,λa ha=>by let⟨x,hx⟩:=h.at_ a ha;by_cases e:a=d;rw[e];show hd;show#[x,F _ _ hx e]]
theorem Kn.sm (h:Kn L M)(s:Sm M M'):Kn L M':=#[h.nd,λa ha=>let ⟨x,hx⟩:=h.at_ a ha;#[x,s _ _ hx]]
theorem Kn.cons {L:cA fM}{M:Mp}{x:fM}{y:cA W}(h:Kn L M)(hx:x∉L)(hy:M x=some (.lst y)):Kn (x::L) M:=#[List.nodup_cons.mpr #[hx,h.nd],λa ha=>by obtain rfl | ha:=aS.mp ha;show#[y,hy];show h.at_ a ha]
theorem Kn.add (h:Kn L M)(hx:M x=none):Kn (x::L) (um M x (.lst y)):=(h.sm (a6 hx)).cons (h.out hx) ao
def Kn.book (h:Kn L M)(s:Sm M M')(k:kQ B C M' b la lu lh p now S)(h1:M la=none)(h2:M lu=none)(h3:M lh=none):Kn (lh::lu::la::L) M':=by let⟨n1,n2,n3⟩:=k.bk.ne;exact(((h.sm s).cons (h.out h1) k.bk.pa).cons ?_ k.bk.un).cons ?_ k.bk.he;show λe=>(aS.mp e).elim (λe=>n1 e.symm) (h.out h2);show λe=>(aS.mp e).elim (λe=>n3 e.symm) λe=>(aS.mp e).elim (λe=>n2 e.symm) (h.out h3)
def Qz (L:cA fM)(i:Nat):fM:=(L[([13,12,10,11,3,0,2,1,9,6,8,5,7,4]:cA Nat).getD i 0]?).getD 0
def Od (h:L.Nodup)(hl:L.length=14): ∀i k,i<14 ->k<14 ->Qz L i=Qz L k ->i=k:=by
 have lt: ∀i,i<14 ->([13,12,10,11,3,0,2,1,9,6,8,5,7,4]:cA Nat).getD i 0<14:=⋯
 have ij: ∀i,i<14 -> ∀k,k<14 ->([13,12,10,11,3,0,2,1,9,6,8,5,7,4]:cA Nat).getD i 0=([13,12,10,11,3,0,2,1,9,6,8,5,7,4]:cA Nat).getD k 0 ->i=k:=⋯
 intro i k hi hk e;have h1:=lt i hi;have h2:=lt k hk;unfold Qz at e;rw[aC (by omega),aC (by omega)] at e;show ij i hi k hk ((List.getElem?_inj (by omega) h).mp (by rw[aC (by omega),aC (by omega)];show congrArg some e))
def TB.last (h:TB B C p b now g ns S R M)(hj:j<2)(hR:R j=qg (S j)): ∃ (l:Lp) (z:(fM×fM)×Rm×Tm),fg (M (g (6+j))=some (.lst ((l++ [z]).map zN))) (l.map (·.2)=(S j).past.map (·.2)) (z.2=((S j).R,(S j).T)) (∀y∈l++ [z],M y.1.1=some (.dK (yk y.2.1)) /\ M y.1.2=some (.dK (qd y.2.2))):=by let⟨lp,h5,h6,h7⟩:=h.rw j hj;rw[hR] at h6;obtain h0 | ⟨l,z,h0⟩:=fY lp;rw[h0] at h6;simp[qg] at h6;subst h0;rw[aB,qg] at h6;show#[l,z,h5,(List.append_inj' h6 rfl).1, ⇑((List.append_inj' h6 rfl).2),h7]
def Pw (g:Nat ->fM)(num:Int)(o7 o8 o9 Nl:eM W):bS:= [none,some (wr (g 0)),some (wi num),some (wr (g 3)),some (wr (g 2)),some (wr (g 4)),some (wr (g 5)),o7,o8,o9,Nl,none]
def RG:Pw (x_ g (10+j) x) num o7 o8 o9 Nl=Pw g num o7 o8 o9 Nl:=by unfold Pw;rw[fu (by omega),fu (by omega),fu (by omega),fu (by omega),fu (by omega)]
def two {α:Type}(a b:α):Nat ->α:=λj=>if j=0 then a else b
def TB.start {B C d l nl ap ab ar b0 b1 Xj Xe Xg Jm Xi Xd Xf Jl r0 t0 w0 r1 t1 w1:fM}(D:Dr M d l)(n9:M nl=some (.lst (ns.map ws)))(UT:M ap=some (.lst [wi p0,wi p1]))(S0:kQ B C M b0 Xj Xe Xg p0 Jm #[[],[],[],[],[]])(S1:kQ B C M b1 Xi Xd Xf p1 Jl #[[],[],[],[],[]])(nb:b0≠b1)(K:Kn [Xf,Xd,Xi,Xg,Xe,Xj,nl,ap,l,d] M){M1 M2 M3 M4 M5 M6 M7 M8:Mp}(e1:M1=um M ab (.lst [wr b0,wr b1]))(xm:M ab=none)(e2:M2=um M1 r0 (.dK []))(XQ:M1 r0=none)(e3:M3=um M2 t0 (.dK []))(NS:M2 t0=none)(e4:M4=um M3 w0 (.lst [.tup [wr r0,wr t0]]))(XF:M3 w0=none)(e5:M5=um M4 r1 (.dK []))(XO:M4 r1=none)(e6:M6=um M5 t1 (.dK []))(XJ:M5 t1=none)(e7:M7=um M6 w1 (.lst [.tup [wr r1,wr t1]]))(XE:M6 w1=none)(e8:M8=um M7 ar (.lst [wr w0,wr w1]))(Yg:M7 ar=none)(Tl:p0=2 \/ p0=3 \/ p0=5 \/ p0=7)(XR:p1=2 \/ p1=3 \/ p1=5 \/ p1=7): fQ λ(p:Nat ->Int) (b now g:Nat ->fM)=>cc λ(S:Nat ->fG) (R:Nat ->cA (Rm×Tm))=>f_ (TB B C p b now g ns S R M8) (k9 (g 0=d) (g 1=l) (g 2=nl) (g 3=ap) (g 4=ab) (g 5=ar)) (∀j,j<2 ->(p j=2 \/ p j=3 \/ p j=5 \/ p j=7)) (∀j,j<2 ->R j=qg (S j)) (∀j,j<2 ->G2 (p j) 0 (S j).pure):=by
 have s8:Sm M7 M8:=e8▸a6 Yg;have s7:Sm M6 M8:=(e7▸a6 XE:Sm M6 M7).trans s8;have s6:Sm M5 M8:=(e6▸a6 XJ:Sm M5 M6).trans s7;have s5:Sm M4 M8:=(e5▸a6 XO:Sm M4 M5).trans s6;have s4:Sm M3 M8:=(e4▸a6 XF:Sm M3 M4).trans s5;have s3:Sm M2 M8:=(e3▸a6 NS:Sm M2 M3).trans s4;have s2:Sm M1 M8:=(e2▸a6 XQ:Sm M1 M2).trans s3;have s1:Sm M M8:=(e1▸a6 xm:Sm M M1).trans s2;have K1:Kn _ M1:=e1▸K.add xm (y:= [wr b0,wr b1]);have K3:Kn _ M3:=(K1.sm (e2▸a6 XQ)).sm (e3▸a6 NS);have K4:Kn _ M4:=e4▸K3.add XF (y:= [.tup [wr r0,wr t0]]);have K6:Kn _ M6:=(K4.sm (e5▸a6 XO)).sm (e6▸a6 XJ);have K7:Kn _ M7:=e7▸K6.add XE (y:= [.tup [wr r1,wr t1]]);have K8:Kn _ M8:=e8▸K7.add Yg (y:= [wr w0,wr w1]);exact#[two p0 p1,two b0 b1,two Jm Jl,Qz [ar,w1,w0,ab,Xf,Xd,Xi,Xg,Xe,Xj,nl,ap,l,d],λ_=>#[[],[],[],[],[]],λ_=> [([],[])],#[E8 D s1,s1 _ _ n9,s1 _ _ UT,?_,?_,λj hj=> ?_,λj hj=> ?_,nb,Od K8.nd rfl],#[rfl,rfl,rfl,rfl,rfl,rfl],λj hj=>qc (Q:=λj=>two p0 p1 j=2 \/ two p0 p1 j=3 \/ two p0 p1 j=5 \/ two p0 p1 j=7) hj Tl XR,λ_ _=>rfl,λ_ _=>U6];show s2 _ _ (e1▸ao);show e8▸ao;show qc (Q:=λj=>kQ B C M8 (two b0 b1 j) (Qz _ (8+j)) (Qz _ (10+j)) (Qz _ (12+j)) (two p0 p1 j) (two Jm Jl j) _) hj (S0.sm s1) (S1.sm s1);have h0:C4 M8 w0 [([],[])]:=#[[((r0,t0),[],[])],s5 _ _ (e4▸ao),rfl,λz hz=>by rw[aV.mp hz];show#[s3 _ _ (e2▸ao),s4 _ _ (e3▸ao)]]
 have h1:C4 M8 w1 [([],[])]:=#[[((r1,t1),[],[])],s8 _ _ (e7▸ao),rfl,λz hz=>by rw[aV.mp hz];show#[s6 _ _ (e5▸ao),s7 _ _ (e6▸ao)]]
 show qc (Q:=λj=>C4 M8 (Qz _ (6+j)) _) hj h0 h1
theorem xZ {Q:Nat ->α ->Prop}(h: ∀k,k<2 ->Q k (f k))(hv:Q j v): ∀k,k<2 ->Q k (x_ f j v k):=λk hk=>by by_cases e:k=j;subst e;rw[iw];show hv;rw[fu e];show h k hk
theorem Il (h: ∀k,k<2 ->R k=qg (S k)): ∀k,k<2 ->x_ R j (qg S') k=qg (x_ S j S' k):=λk hk=>by by_cases e:k=j;subst e;rw[iw,iw];rw[fu e,fu e];show h k hk
def TB.Ju (h:TB B C p b now g ns S R M)(hj:j<2)(F:Bq (b j) (g (8+j)) (g (10+j)) (g (12+j)) M M')(hB:kQ B C M' (b j) (g (8+j)) dS (g (12+j)) (p j) oX S')(hu:dS=g (10+j) \/ M dS=none){lp:Lp}(hl: ∀z∈lp,M z.1.1=some (.dK (yk z.2.1)) /\ M z.1.2=some (.dK (qd z.2.2)))(he:lp.map (·.2)=qg S'): TB B C p b (x_ now j oX) (x_ g (10+j) dS) ns (x_ S j S') (x_ R j (qg S')) (um M' (g (6+j)) (.lst (lp.map zN))):=by
 have h1:=(h.call hj F hB hu).row hj (lp:=lp) λz hz=>#[F.E9 (h.bk j hj) (hl z hz).1,F.E9 (h.bk j hj) (hl z hz).2]
 rw[he,fu (by omega)] at h1;show h1
theorem TB.li (h:TB B C p b now g ns S R M)(hj:j<2)(F:Bq (b j) (g (8+j)) (g (10+j)) (g (12+j)) M M')(hi:i<8)(hx:M (g i)=some (.lst x)):M' (g i)=some (.lst x):=F.lst (h.bk j hj) hx (h.ap hj (by omega) #[by omega,by omega,by omega])
def Ip (hj:j<2): [wr (g 3),wr (g 4),wr (g 5)]= [wr (x_ g (10+j) x 3),wr (x_ g (10+j) x 4),wr (x_ g (10+j) x 5)]:=by rw[fu (by omega),fu (by omega),fu (by omega)]
def aaZ:eZ:=λxs M q=> ∃n:Int,xs= [wi n] /\ q (wb true) M
end WQ
set_option synthInstance.maxSize 100000
set_option synthInstance.maxHeartbeats 0
open PySem L2 WL WP WQ PyProof.Rows
local macro_rules | `(tactic| simp? [$xs,*]) => do let a <- ("aa8 aic aa3 aij abB abC ajn gj Ro JG yN aae aad aac aab aaa _Z _Y _X _W _V Zd Zc Zb Za Y_ Y' Y9 Y8 Y7 Y6 Y5 Y4 Y3 Y2 ajw aiw aiq ajv aiB aju aiE aiy aiD aix Zg aaD aiu aak ZA aai Zk Vy aal Zt aag aan Q2 Q1 Uv JR Zj ais aiG Zy Q0 aao aaF Fv Fu BK aas VB Rb Fz Fx Q9 Va Zq Mh Q8 Fy Vv ZK ZN aaQ aiJ aaV aaT Ik aaS ZC aaI ZD aaG aaH Zh NM aby Sl NL Zv _U Vw ZB aaL aaz aav aau aiA aiz abA aaO aaN Zw Q7 Mx abD We abz aaq aah aat Uu Zn Vs _e _b aiC Hu Mc VA Vf Ze Vt Vx Vu aid".splitOn " ").toArray.mapM λs => `(Lean.Parser.Tactic.simpLemma| ↓ $(Lean.mkIdent s.toName):term); let b <- ("Qi NH Qh LR NG NJ LU NI JF LS Qg ND Qf LO NC Gp EF Go Cw EE LN JD LM Hh JC NF LQ NE JE LP sl1 Pp sl3 sl4 sl5 sl0 List.map_cons List.map_nil List.length_cons List.length_nil Nat.zero_add List.cons_append List.nil_append List.set_cons_zero List.set_cons_succ ao j9 YK ajs ajr ajq ajl ajk ajj Bool.not_true Bool.not_false List.getElem?_cons_zero List.getElem?_cons_succ Option.join_some and_self and_true true_and Option.getD_some Option.getD_none ZE pT".splitOn " ").toArray.mapM λs => `(Lean.Parser.Tactic.simpLemma| $(Lean.mkIdent s.toName):term); `(tactic| try simp only [$a,*, $b,*, Nat.reduceAdd, Nat.reduceSub, List.reduceReplicate, $xs,*])
local macro_rules | `(tactic| dsimp? [$xs,*]) => `(tactic| (simp? [↓cS, $xs,*]; repeat (with_reducible refine f9 ?_; simp? [↓cS, $xs,*])))
local macro_rules | `(tactic| simp?! [$xs,*]) => do let a <- ("aa8 aic aa3 aij abB abC ajn gj Ro JG yN aae aad aac aab aaa _Z _Y _X _W _V Zd Zc Zb Za Y_ Y' Y9 Y8 Y7 Y6 Y5 Y4 Y3 Y2 ajw ajv aiB aju aiE aiy aiD aix ZA aai Zk Vy aal Uv JR aao aaF aas Va Vv ZK aaQ aaT ZC aaI ZD aaG aaH Zh Sl _U Vw ZB aaL aaz aav aau aiA aiz abA aaO aaN Zw abD We abz aaq aah aat Uu Zn Vs _e _b aiC Ze Vt Vx Vu aid Z6 ajC aiv aip ajE Zf ajz ajy abw aaC aiU ait abh aaj ai4 aiI ajf Z_ Zs abc aaf aiX aam ajB ai3 aar aap _a Zx aje aiF abv aaU Z9 ZM abl aaR abr abt ajh aiH abu ajg aaA aiV aiW ajD Zl ai5 ai7 ai6 Zr abi ai2 _d Zp aiY QZ QY aiN O0 aiT Zi aiO aiP aiQ air aiZ Zm aji Uz abn ai9 Uw abq ajc aay ai' aja abo aax abp Uy aiS abe abd abf abg Wd abm ai8 aaw abk abj ZL aiL aiM ajA Vn ajb Vz aiR Ve ai1 _c ai0 abx ajd Zu".splitOn " ").toArray.mapM λs => `(Lean.Parser.Tactic.simpLemma| ↓ $(Lean.mkIdent s.toName):term); let b <- ("Qi NH Qh LR NG NJ LU NI JF LS Qg ND Qf LO NC Gp EF Go Cw EE LN JD LM Hh JC NF LQ NE JE LP sl1 Pp sl3 sl4 sl5 sl0 List.map_cons List.map_nil List.length_cons List.length_nil Nat.zero_add List.cons_append List.nil_append List.set_cons_zero List.set_cons_succ ao j9 YK ajs ajr ajq ajl ajk ajj Bool.not_true Bool.not_false List.getElem?_cons_zero List.getElem?_cons_succ Option.join_some and_self and_true true_and Option.getD_some Option.getD_none ZE pT".splitOn " ").toArray.mapM λs => `(Lean.Parser.Tactic.simpLemma| $(Lean.mkIdent s.toName):term); `(tactic| try simp only [$a,*, $b,*, Nat.reduceAdd, Nat.reduceSub, List.reduceReplicate, $xs,*])
local macro_rules | `(tactic| dsimp?! [$xs,*]) => `(tactic| (simp?! [↓cS, $xs,*]; repeat (with_reducible refine f9 ?_; simp?! [↓cS, $xs,*])))
local macro_rules | `(tactic| trivial) => `(tactic| first | exact Or.inl rfl | exact Or.inr rfl)
local macro_rules | `(tactic| right) => `(tactic| decide +kernel)
local macro_rules | `(tactic| left) => `(tactic| (intro _ _ _ h; (repeat (cases h; rename_i h)); subst_vars; rfl))
set_option hygiene false
local macro_rules | `(tactic| exists $a, $n, $c) => `(tactic| (have nd : List.Nodup ($n : List Str) := (by decide +kernel); refine okS (N := $n) $a ⟨rfl, rfl, rfl, nd, rfl, by decide +kernel, by decide +kernel⟩ (by left) λcdv A' outer s H E hr => ?_; refine ⟨_, $c, ?_⟩; (try dsimp only [d9]); refine ⟨_, inferInstance, ?_⟩))
set_option hygiene true
set_option hygiene false
local macro_rules | `($a ∩ $b) => `(uv (show U3 _ (RN K) from NN) $a $b (λ_ _ => rfl))
local macro_rules | `($a ∪ $b) => `(uv (show U3 _ (RM K) from yO) $a $b (λ_ _ => rfl))
local macro_rules | `($i \ $e) => `(RQ (i := $i) nd rfl (by trivial) $e)
set_option hygiene true
namespace eR
open PySem L2 WL WP WQ PyProof.Rows
nonrec def top (i:Nat):Stmt:=PySem.Challenge.pw_duskround_k49_two_books_at_once.main.body.getD i (.Pass #[0,0,0,0])
nonrec abbrev BW:Stmt:=top 15
nonrec abbrev DL:Stmt:=top 16
nonrec abbrev yh:Stmt:=top 17
nonrec abbrev yg:Stmt:=top 18
nonrec abbrev BX:Stmt:=top 21
nonrec abbrev z3:Stmt:=top 22
nonrec abbrev uq:Stmt:=top 23
nonrec abbrev iA:Stmt:=top 24
nonrec abbrev je:Stmt:=top 25
nonrec abbrev rm:Stmt:=top 53
nonrec abbrev jS:Stmt:=top 64
nonrec abbrev oC:Stmt:=top 65
nonrec abbrev wT:Stmt:=top 66
nonrec abbrev Ih:Stmt:=eK (top 67) 0
nonrec abbrev BY:Stmt:=eK (top 68) 0
nonrec abbrev kl:Stmt:=eK (top 68) 1
nonrec abbrev lC:Stmt:=eK (top 68) 2
nonrec abbrev nH:Stmt:=eK (top 68) 3
nonrec abbrev km:Stmt:=eK (top 68) 4
nonrec abbrev ko:Stmt:=eK (top 68) 5
nonrec abbrev lE:Stmt:=eK (top 68) 6
nonrec abbrev lD:Stmt:=eK (top 68) 7
nonrec abbrev iC:Stmt:=eK (top 68) 8
nonrec abbrev iF:Stmt:=eK (top 68) 9
nonrec abbrev gO:Stmt:=eK (top 68) 10
nonrec abbrev lG:Stmt:=eK (top 68) 11
nonrec abbrev jT:Stmt:=eK (top 68) 12
nonrec abbrev iE:Stmt:=eK (top 68) 13
nonrec abbrev jf:Stmt:=eK (top 68) 14
nonrec abbrev iD:Stmt:=eK (top 68) 15
nonrec abbrev lB:Stmt:=eK (top 68) 16
nonrec abbrev lF:Stmt:=eK (top 68) 17
nonrec abbrev rn:Stmt:=eK (top 68) 18
nonrec abbrev gi:Stmt:=eK (top 68) 19
nonrec abbrev oG:Stmt:=eK (top 68) 21
nonrec abbrev oH:Stmt:=eK (top 68) 22
nonrec abbrev gP:Stmt:=eK (top 68) 23
nonrec abbrev iB:Stmt:=eK (top 68) 24
nonrec abbrev qf:Stmt:=top 70
nonrec abbrev zV:Stmt:=top 71
nonrec abbrev zS:Stmt:=top 72
nonrec abbrev Pq:Stmt:=top 73
nonrec abbrev wX:Stmt:=top 74
nonrec abbrev zU:Stmt:=top 75
nonrec abbrev DG:Stmt:=top 76
nonrec abbrev zW:Stmt:=top 77
nonrec abbrev zZ:Stmt:=top 78
nonrec abbrev wW:Stmt:=top 79
nonrec abbrev rj:Stmt:=top 80
nonrec abbrev DJ:Stmt:=top 81
nonrec abbrev zT:Stmt:=top 82
nonrec abbrev wV:Stmt:=top 83
nonrec abbrev nc:Stmt:=top 84
nonrec abbrev lz:Stmt:=top 85
nonrec abbrev oF:Stmt:=top 86
nonrec abbrev DK:Stmt:=top 87
nonrec abbrev yi:Stmt:=top 88
nonrec abbrev zX:Stmt:=top 89
nonrec abbrev DI:Stmt:=top 90
nonrec abbrev ly:Stmt:=top 91
nonrec abbrev oE:Stmt:=top 92
nonrec abbrev uo:Stmt:=top 93
nonrec abbrev lA:Stmt:=top 94
nonrec abbrev ul:Stmt:=top 95
nonrec abbrev lx:Stmt:=top 96
nonrec abbrev ng:Stmt:=top 97
nonrec abbrev DH:Stmt:=top 98
nonrec abbrev zY:Stmt:=top 99
nonrec abbrev Ig:Stmt:=top 100
set_option genInjectivity false in
set_option genSizeOf false in
structure _Q where
 Kj:Addr
 KG:FuncData
 E5:Addr
 Fl:FuncData
 EX:Addr
 Fe:FuncData
 EW:Addr
 Fd:FuncData
 Kk:Addr
 KH:FuncData
 AV:Addr
 A8:FuncData
 vh:Addr
 vt:FuncData
 iN:Addr
 iO:FuncData
 nq:Addr
 nw:FuncData
 rN:Addr
 rW:FuncData
 pD:Addr
 pO:FuncData
 pA:Addr
 pL:FuncData
 xu:Addr
 xA:FuncData
 Kl:Addr
 KI:FuncData
 Km:Addr
 KJ:FuncData
 kF:Addr
 kK:FuncData
 l9:Addr
 mw:FuncData
 vi:Addr
 vv:FuncData
 kH:Addr
 kN:FuncData
 kI:Addr
 kO:FuncData
 rQ:Addr
 rZ:FuncData
 rP:Addr
 rY:FuncData
 md:Addr
 mB:FuncData
 mh:Addr
 mE:FuncData
 kC:Addr
 kJ:FuncData
 rT:Addr
 sf:FuncData
 pF:Addr
 pR:FuncData
 mf:Addr
 mD:FuncData
 nv:Addr
 nA:FuncData
 me:Addr
 mC:FuncData
 rO:Addr
 rX:FuncData
 rR:Addr
 r_:FuncData
 rS:Addr
 se:FuncData
 jI:Addr
 jL:FuncData
 pE:Addr
 pQ:FuncData
 pG:Addr
 pS:FuncData
 kG:Addr
 kL:FuncData
 l_:Addr
 mx:FuncData
 xy:Addr
 xE:FuncData
 AQ:Addr
 A3:FuncData
 AM:Addr
 A0:FuncData
 QE:Addr
 QI:FuncData
 xx:Addr
 xD:FuncData
 AO:Addr
 A2:FuncData
 EY:Addr
 Ff:FuncData
 AR:Addr
 A4:FuncData
 AU:Addr
 A7:FuncData
 xw:Addr
 xC:FuncData
 rM:Addr
 rV:FuncData
 E3:Addr
 Fj:FuncData
 AN:Addr
 A1:FuncData
 xv:Addr
 xB:FuncData
 nr:Addr
 ny:FuncData
 l5:Addr
 mn:FuncData
 pC:Addr
 pN:FuncData
 E4:Addr
 Fk:FuncData
 EZ:Addr
 Fg:FuncData
 AS:Addr
 A5:FuncData
 E2:Addr
 Fi:FuncData
 l4:Addr
 mm:FuncData
 pB:Addr
 pM:FuncData
 vg:Addr
 vq:FuncData
 l7:Addr
 mq:FuncData
 vf:Addr
 vp:FuncData
 l0:Addr
 ml:FuncData
 nu:Addr
 nz:FuncData
 E1:Addr
 Fh:FuncData
 AT:Addr
 A6:FuncData
 QD:Addr
 QH:FuncData
 gp:Addr
 dm:Addr
 fJ:Addr
 d5:Addr
 eA:Addr
 d4:Addr
 dL:Addr
 c9:Addr
 jl:Addr
 fI:Addr
 dz:Addr
 d3:Addr
 bz:Addr
 a4:Addr
structure e9 (K:PySem.W.Frag)(mg:Str ->Option Value)(A:_Q):Prop where
 za:mg "ValueError" =none
 sq:mg "abs" =none
 vD:mg "all" =none
 QL:mg "any" =none
 Uf:mg "bool" =none
 y_:mg "dict" =none
 YD:mg "int" =none
 c6:mg "isinstance" =none
 jd:mg "len" =none
 iR:mg "list" =none
 hU:mg "range" =none
 jM:mg "sorted" =none
 jc:mg "tuple" =none
 tidy:hW K mg "tidy" ["p","pairs"] BW A.Kj A.KG
 added:hW K mg "added" ["p","one","other"] DL A.E5 A.Fl
 moved:hW K mg "moved" ["pattern","by"] yh A.EX A.Fe
 timed:hW K mg "timed" ["p","pattern","n"] yg A.EW A.Fd
 gone:hW K mg "gone" ["p","deeds"] BX A.Kk A.KH
 joined:hW K mg "joined" ["p","one","other"] z3 A.AV A.A8
 backward:hW K mg "backward" ["p","one"] uq A.vh A.vt
 repeated:hW K mg "repeated" ["p","one","n"] iA A.iN A.iO
 lies_within:hW K mg "lies_within" ["one","farthest_end","farthest_place"] je A.nq A.nw
 fits_crew:hW K mg "fits_crew" ["one"] rm A.rN A.rW
 check_name:hW K mg "check_name" ["name"] jS A.pD A.pO
 with_thing:hW K mg "with_thing" ["things","name","thing"] oC A.pA A.pL
 without:hW K mg "without" ["things","name"] wT A.xu A.xA
 Page:Us K mg "Page" "Page.__init__" ["self","rounds","teams"] Ih A.bz A.Kl A.KI
 Book:Us K mg "Book" "Book.__init__" ["self","p"] BY A.a4 A.Km A.KJ
 nD:pY K "settings" "Book.settings" ["self"] kl A.a4 A.kF A.kK
 fm:pY K "turn_to" "Book.turn_to" ["self","page"] lC A.a4 A.l9 A.mw
 mL:pY K "put" "Book.put" ["self","name","one"] nH A.a4 A.vi A.vv
 gu:pY K "put_team" "Book.put_team" ["self","crew","team"] km A.a4 A.kH A.kN
 jm:pY K "enlisted" "Book.enlisted" ["self","name"] ko A.a4 A.kI A.kO
 jO:pY K "team" "Book.team" ["self","crew"] lE A.a4 A.rQ A.rZ
 xQ:pY K "tell" "Book.tell" ["self","name","deeds"] lD A.a4 A.rP A.rY
 p6:pY K "join_as" "Book.join_as" ["self","name","one","other"] iC A.a4 A.md A.mB
 p9:pY K "back_as" "Book.back_as" ["self","name","one"] iF A.a4 A.mh A.mE
 nC:pY K "times_as" "Book.times_as" ["self","name","one","n"] gO A.a4 A.kC A.kJ
 xT:pY K "drop" "Book.drop" ["self","name"] lG A.a4 A.rT A.sf
 vQ:pY K "found" "Book.found" ["self","crew"] jT A.a4 A.pF A.pR
 p8:pY K "disband" "Book.disband" ["self","crew"] iE A.a4 A.mf A.mD
 su:pY K "enlist" "Book.enlist" ["self","crew","name"] jf A.a4 A.nv A.nA
 p7:pY K "dismiss" "Book.dismiss" ["self","crew","name"] iD A.a4 A.me A.mC
 xP:pY K "undo" "Book.undo" ["self"] lB A.a4 A.rO A.rX
 xR:pY K "redo" "Book.redo" ["self"] lF A.a4 A.rR A.r_
 xS:pY K "hold" "Book.hold" ["self"] rn A.a4 A.rS A.se
 mK:pY K "return_to" "Book.return_to" ["self","k"] gi A.a4 A.jI A.jL
 nZ:pY K "names" "Book.names" ["self"] oG A.a4 A.pE A.pQ
 n6:pY K "crews" "Book.crews" ["self"] oH A.a4 A.pG A.pS
 dJ:pY K "round_of" "Book.round_of" ["self","name"] gP A.a4 A.kG A.kL
 pZ:pY K "members" "Book.members" ["self","crew"] iB A.a4 A.l_ A.mx
 Ez:hW K mg "_law_begin" ["_law_script"] qf A.xy A.xE
 bZ:hW K mg "_law_take" ["_law_draw","_law_many"] zV A.AQ A.A3
 Jv:hW K mg "_law_wide" ["_law_draw"] zS A.AM A.A0
 l_p:hW K mg "_law_p" ["_law_draw"] Pq A.QE A.QI
 Ev:hW K mg "_law_names" ["_law_draw","_law_many"] wX A.xx A.xD
 yL:hW K mg "_law_tidy" ["_law_p_here","_law_pairs"] zU A.AO A.A2
 Eu:hW K mg "_law_sum" ["_law_p_here","_law_one","_law_other","_law_by","_law_many"] DG A.EY A.Ff
 Jx:hW K mg "_law_join" ["_law_p_here","_law_one","_law_other"] zW A.AR A.A4
 Jy:hW K mg "_law_back" ["_law_p_here","_law_one"] zZ A.AU A.A7
 Et:hW K mg "_law_times" ["_law_p_here","_law_one","_law_n"] wW A.xw A.xC
 qx:hW K mg "_law_is_name" ["_law_name"] rj A.rM A.rV
 Ey:hW K mg "_law_far" ["_law_one","_law_most","_law_reach"] DJ A.E3 A.Fj
 Jw:hW K mg "_law_walk" ["_law_p_here","_law_deeds"] zT A.AN A.A1
 Es:hW K mg "_law_value" ["_law_p_here","_law_rounds","_law_deed"] wV A.xv A.xB
 rF:hW K mg "_law_due_round" ["_law_p_here","_law_stand","_law_deed"] nc A.nr A.ny
 o0:hW K mg "_law_due_member" ["_law_stand","_law_deed"] lz A.l5 A.mn
 uS:hW K mg "_law_due_crew" ["_law_stand","_law_deed"] oF A.pC A.pN
 Qc:hW K mg "_law_due" ["_law_p_here","_law_stand","_law_deed"] DK A.E4 A.Fk
 Qa:hW K mg "_law_run" ["_law_book","_law_deed"] yi A.EZ A.Fg
 uT:hW K mg "_law_call" ["_law_book","_law_deed"] zX A.AS A.A5
 Ew:hW K mg "_law_int" ["_law_thing"] DI A.E2 A.Fi
 oZ:hW K mg "_law_is_pattern" ["_law_p_here","_law_thing"] ly A.l4 A.mm
 uR:hW K mg "_law_is_round" ["_law_p_here","_law_thing"] oE A.pB A.pM
 Au:hW K mg "_law_stands" ["_law_p_here","_law_book","_law_stand"] uo A.vg A.vq
 o6:hW K mg "_law_draw_deeds" ["_law_draw"] lA A.l7 A.mq
 jF:hW K mg "_law_target" ["_law_draw","_law_names_here"] ul A.vf A.vp
 oY:hW K mg "_law_round_deed" ["_law_draw","_law_names_here"] lx A.l0 A.ml
 rG:hW K mg "_law_crew_deed" ["_law_draw","_law_names_here"] ng A.nu A.nz
 Qb:hW K mg "_law_new" ["_law_number"] DH A.E1 A.Fh
 yM:hW K mg "_law_both" ["_law_ps","_law_books","_law_rows"] zY A.AT A.A6
 law:hW K mg "law" ["_law_script"] Ig A.QD A.QH
 n_Book_held:dZ K A.a4 "held"
 n_Book_now:dZ K A.a4 "now"
 n_Book_p:dZ K A.a4 "p"
 n_Book_past:dZ K A.a4 "past"
 n_Book_undone:dZ K A.a4 "undone"
 n_Page_rounds:dZ K A.bz "rounds"
 n_Page_teams:dZ K A.bz "teams"
 nE: ∃t,mg "FARTHEST" =some (.int 200 t)
 uc: ∃t,mg "FARTHEST_END" =some (.int 8 t)
 qb: ∃t,mg "FARTHEST_PLACE" =some (.int 24 t)
 ll: ∃t,mg "LONGEST_NAME" =some (.int 12 t)
 lj: ∃t,mg "MOST_MEMBERS" =some (.int 6 t)
 FA: ∃t,mg "LETTERS" =some (.str "abcdefghijklmnopqrstuvwxyz" t)
 HJ:Uj K mg "COUNTS" [2,3,5,7]
 Sz:mg "BadCount" =some (.ref A.gp)
 Gj:mg "BadName" =some (.ref A.dm)
 Z4:mg "InUse" =some (.ref A.fJ)
 Xc:mg "NoCrew" =some (.ref A.d5)
 Xb:mg "NoDeed" =some (.ref A.eA)
 Xa:mg "NoMore" =some (.ref A.d4)
 UL:mg "NoRound" =some (.ref A.dL)
 UK:mg "NoState" =some (.ref A.c9)
 wc:mg "StreetError" =some (.ref A.jl)
 Z3:mg "Taken" =some (.ref A.fI)
 W_:mg "TooFar" =some (.ref A.dz)
 UJ:mg "TooMany" =some (.ref A.d3)
 iu:lb K "BadCount" A.gp
 wH:lb K "BadName" A.dm
 Di:lb K "InUse" A.fJ
 zy:lb K "NoCrew" A.d5
 zx:lb K "NoDeed" A.eA
 tZ:lb K "NoMore" A.d4
 p_:lb K "NoRound" A.dL
 wG:lb K "NoState" A.c9
 xU:lb K "Taken" A.fI
 oa:lb K "TooFar" A.dz
 wF:lb K "TooMany" A.d3
 nR:PySem.W.kitOne K (.ref A.gp) (.ref A.dm)=some false
 jX:PySem.W.kitOne K (.ref A.gp) (.ref A.jl)=some true
 kW:PySem.W.kitOne K (.ref A.gp) (.type "ValueError")=some true
 s_:PySem.W.kitOne K (.ref A.fJ) (.ref A.dm)=some false
 va:PySem.W.kitOne K (.ref A.fJ) (.ref A.d5)=some false
 u_:PySem.W.kitOne K (.ref A.fJ) (.ref A.eA)=some false
 sZ:PySem.W.kitOne K (.ref A.fJ) (.ref A.dL)=some false
 wg:PySem.W.kitOne K (.ref A.fJ) (.ref A.fI)=some false
 qQ:PySem.W.kitOne K (.ref A.d5) (.ref A.dm)=some false
 sY:PySem.W.kitOne K (.ref A.d5) (.ref A.eA)=some false
 qP:PySem.W.kitOne K (.ref A.d5) (.ref A.dL)=some false
 qO:PySem.W.kitOne K (.ref A.eA) (.ref A.dm)=some false
 qM:PySem.W.kitOne K (.ref A.d4) (.ref A.dm)=some false
 u9:PySem.W.kitOne K (.ref A.d4) (.ref A.fJ)=some false
 sX:PySem.W.kitOne K (.ref A.d4) (.ref A.d5)=some false
 sW:PySem.W.kitOne K (.ref A.d4) (.ref A.eA)=some false
 qL:PySem.W.kitOne K (.ref A.d4) (.ref A.dL)=some false
 u8:PySem.W.kitOne K (.ref A.d4) (.ref A.fI)=some false
 sV:PySem.W.kitOne K (.ref A.d4) (.ref A.dz)=some false
 qK:PySem.W.kitOne K (.ref A.d4) (.ref A.d3)=some false
 pj:PySem.W.kitOne K (.ref A.dL) (.ref A.dm)=some false
 qJ:PySem.W.kitOne K (.ref A.dL) (.ref A.eA)=some false
 pi:PySem.W.kitOne K (.ref A.c9) (.ref A.dm)=some false
 sU:PySem.W.kitOne K (.ref A.c9) (.ref A.fJ)=some false
 qI:PySem.W.kitOne K (.ref A.c9) (.ref A.d5)=some false
 qH:PySem.W.kitOne K (.ref A.c9) (.ref A.eA)=some false
 qG:PySem.W.kitOne K (.ref A.c9) (.ref A.d4)=some false
 pf:PySem.W.kitOne K (.ref A.c9) (.ref A.dL)=some false
 sT:PySem.W.kitOne K (.ref A.c9) (.ref A.fI)=some false
 qF:PySem.W.kitOne K (.ref A.c9) (.ref A.dz)=some false
 pe:PySem.W.kitOne K (.ref A.c9) (.ref A.d3)=some false
 sS:PySem.W.kitOne K (.ref A.fI) (.ref A.dm)=some false
 u4:PySem.W.kitOne K (.ref A.fI) (.ref A.d5)=some false
 uZ:PySem.W.kitOne K (.ref A.fI) (.ref A.eA)=some false
 sR:PySem.W.kitOne K (.ref A.fI) (.ref A.dL)=some false
 qE:PySem.W.kitOne K (.ref A.dz) (.ref A.dm)=some false
 uY:PySem.W.kitOne K (.ref A.dz) (.ref A.fJ)=some false
 sQ:PySem.W.kitOne K (.ref A.dz) (.ref A.d5)=some false
 sP:PySem.W.kitOne K (.ref A.dz) (.ref A.eA)=some false
 qD:PySem.W.kitOne K (.ref A.dz) (.ref A.dL)=some false
 uX:PySem.W.kitOne K (.ref A.dz) (.ref A.fI)=some false
 qC:PySem.W.kitOne K (.ref A.dz) (.ref A.d3)=some false
 pd:PySem.W.kitOne K (.ref A.d3) (.ref A.dm)=some false
 sO:PySem.W.kitOne K (.ref A.d3) (.ref A.fJ)=some false
 qB:PySem.W.kitOne K (.ref A.d3) (.ref A.d5)=some false
 qA:PySem.W.kitOne K (.ref A.d3) (.ref A.eA)=some false
 pc:PySem.W.kitOne K (.ref A.d3) (.ref A.dL)=some false
 sN:PySem.W.kitOne K (.ref A.d3) (.ref A.fI)=some false
theorem DE:b_ ["p","deeds","place","pairs","deed","word"] ["p","deeds"] (aU BX):=#[rfl,rfl,rfl,by right,rfl,by right,by right]
theorem i5:b_ ["p","one","n","end","pattern","pairs"] ["p","one","n"] (aU iA):=#[rfl,rfl,rfl,by right,rfl,by right,by right]
theorem m8:b_ ["name"] ["name"] (aU jS):=#[rfl,rfl,rfl,by right,rfl,by right,by right]
theorem DF:b_ ["self","p"] ["self","p"] (aU BY):=#[rfl,rfl,rfl,by right,rfl,by right,by right]
theorem rg:b_ ["self","name","one"] ["self","name","one"] (aU nH):=#[rfl,rfl,rfl,by right,rfl,by right,by right]
theorem oy:b_ ["self","crew"] ["self","crew"] (aU lE):=#[rfl,rfl,rfl,by right,rfl,by right,by right]
theorem ox:b_ ["self","name","deeds"] ["self","name","deeds"] (aU lD):=#[rfl,rfl,rfl,by right,rfl,by right,by right]
theorem kg:b_ ["self","name","one","other"] ["self","name","one","other"] (aU iC):=#[rfl,rfl,rfl,by right,rfl,by right,by right]
theorem kj:b_ ["self","name","one"] ["self","name","one"] (aU iF):=#[rfl,rfl,rfl,by right,rfl,by right,by right]
theorem jw:b_ ["self","name","one","n"] ["self","name","one","n"] (aU gO):=#[rfl,rfl,rfl,by right,rfl,by right,by right]
theorem oB:b_ ["self","name"] ["self","name"] (aU lG):=#[rfl,rfl,rfl,by right,rfl,by right,by right]
theorem m_:b_ ["self","crew"] ["self","crew"] (aU jT):=#[rfl,rfl,rfl,by right,rfl,by right,by right]
theorem ki:b_ ["self","crew"] ["self","crew"] (aU iE):=#[rfl,rfl,rfl,by right,rfl,by right,by right]
theorem lw:b_ ["self","crew","name","team","one"] ["self","crew","name"] (aU jf):=#[rfl,rfl,rfl,by right,rfl,by right,by right]
theorem kh:b_ ["self","crew","name","team"] ["self","crew","name"] (aU iD):=#[rfl,rfl,rfl,by right,rfl,by right,by right]
theorem ou:b_ ["self"] ["self"] (aU lB):=#[rfl,rfl,rfl,by right,rfl,by right,by right]
theorem oz:b_ ["self"] ["self"] (aU lF):=#[rfl,rfl,rfl,by right,rfl,by right,by right]
theorem i6:b_ ["self","k"] ["self","k"] (aU gi):=#[rfl,rfl,rfl,by right,rfl,by right,by right]
theorem jx:b_ ["self","name"] ["self","name"] (aU gP):=#[rfl,rfl,rfl,by right,rfl,by right,by right]
theorem kf:b_ ["self","crew"] ["self","crew"] (aU iB):=#[rfl,rfl,rfl,by right,rfl,by right,by right]
theorem uk:b_ ["_law_script"] ["_law_script"] (aU qf):=#[rfl,rfl,rfl,by right,rfl,by right,by right]
theorem zR:b_ ["_law_book","_law_deed","_law_handed","_law_told"] ["_law_book","_law_deed"] (aU yi):=#[rfl,rfl,rfl,by right,rfl,by right,by right]
theorem Ie:b_ ["_law_script","_law_draw","_law_number","_law_ps","_law_names_here","_law_books","_law_rows","_law_k","_law_at","_law_deed","_law_due_here","_law_told"] ["_law_script"] (aU Ig):=#[rfl,rfl,rfl,by right,rfl,by right,by right]
def vB (A:_Q):Rf ->fM
 | .BadName=>A.dm | .NoDeed=>A.eA | .NoRound=>A.dL | .NoCrew=>A.d5 | .Taken=>A.fI | .InUse=>A.fJ | .TooMany=>A.d3 | .TooFar=>A.dz | .NoMore=>A.d4 | .NoState=>A.c9
def Ck {K:Xu}(T:e9 K mg A):bD P w K mg base fh 1 A.xy A.xE ["_law_script"] (DC K):=by
 exact T.Ez.fn.ok uk (λvs H Q E h=> ?_) (λcdv A' outer s H vs Q E hr h=> ?_);let⟨a,ns,rfl,_⟩:=h;rfl;let⟨a,ns,rfl,hs,k⟩:=h;have nd:=uk.nd;exact#[_,(aj (aH (eP (aa (cT fc (by rfl) T.iR Boot.«list» (aa (uu Mt (pv 0) yt (yr ai)) ae)) (aa ai (aa ai (aa ai ae))))))),?_];have ec: ∃ms:cA Int,GP (ns.map V.int) none (some 63)=ms.map V.int:=by exact#[(ns.drop (HT.zr (ns.map V.int).length 0 none)).take (HT.zr (ns.map V.int).length (ns.map V.int).length (some 63) - HT.zr (ns.map V.int).length 0 none),?_];unfold GP;rw[List.map_take,List.map_drop]
 let⟨ms,em⟩:=ec;exact#[_,rfl,_,rfl,_,_,rfl,hs,λp hp=>#[_,_,rfl, .inl (gY.of bM),λl hl=>#[by change 4<=sizeLine;decide,λd hd=> ?_]]];have hld:l≠d:=λe=>by rw[e,bM] at hd;cases hd
 exact k d l ms _ hld.symm bM ?_;rw[bL hld,bM,em]
def bv {K:Xu}(T:e9 K mg A):bD P w K mg base fh 1 A.AQ A.A3 ["_law_draw","_law_many"] (fT K Wx):=by
 exists T.bZ.fn,["_law_draw","_law_many","_law_number","_law_got"],(ah (bt (qi (aR lN ((pv 0)∩ai) (pv 1) (a7 _)) (mO (aR lN ((pv 0)∩ai) (bg (ez (K:=K) rfl) (by rfl) T.jd Boot.«len» (aa ((pv 0)∩ai) ae)) (a7 _)))).pt (ah (2\(((pv 0)∩ai)∩((pv 0)∩ai))) (ah (gR (bH dY ((pv 0)∩ai) ai) (qk (pv 0) ai jv)) (ah (gR ai (qk (pv 0) ai jv)) (aj (bt (aR Af (bg fO (by rfl) T.sq Boot.«abs» (aa (pv 2) ae)) (bH nN ai ai) (a7 _)) (aj (gR (bg fO (by rfl) T.sq Boot.«abs» (aa (pv 2) ae)) (qk (pv 0) ai jv))) (aj (gR (bH lM (bH dY (bH dY (bH eQ ((pv 0)∩ai) ai) (bH eQ (bH lM (pv 2) ai) ai)) ai) ai) (qk (pv 0) ai jv)))))))) aJ) (ah (bt (aR Af ((pv 0)∩ai) (pv 1) (a7 _)) (ah (3\(bH lM ((pv 0)∩ai) (pv 1))) (ah (gR (bH Eh ((pv 0)∩ai) (pv 1)) (qk (pv 0) ai jv)) (aj (aH (pv 3))))) aJ) (ah (gR (bH lM (bH dY (bH eQ ((pv 0)∩ai) ai) ai) ai) (qk (pv 0) ai jv)) (aj (aH (bH lM (bH Eh ((pv 0)∩ai) ai) (pv 1)))))))
 rintro vs M q ⟨d,l,n,rfl,⟨ns,i,c,sd,hd,hl,hi,ku⟩,n0,n1,k⟩;exact lU (λρ M'=>tq λ(o1 o2:eM W) (i' c' s':Int)=>fg (ρ= [some (wr d),some (wi n),o1,o2]) (M' d=some (.lst [wr l,wi i',wi c',wi s'])) (NB d M M') (0<=i')) ?_ λN hN=> ?_;rintro ρ M' ⟨o1,o2,i',c',s',rfl,h,nb,rL⟩;have fin: ∀ (r c' s':Int),0<=r ->r<n -> ∃M0,Sm M0 (um M' d (.lst [wr l,wi i',wi c',wi s'])) /\ q (wi r) M0:=λr c' s' h0 h1=>eC (k r _ h0 h1 #[ns,i',c',s',ao,by rw[aP (cX ku),nb l (cX ku)];show hl,rL,ku] (nb.trans NB.put));have UW: ∀x,gK x 16807=True:=λx=>by simp[gK]
 have cd1: ∀x,LG x n=True:=λx=>by simp[LG,n0,n1]
 have cd2: ∀x,LG x 64=True:=λx=>by simp[LG]
 have z2:((0:Int) <2147483647)=True:=⋯
 dsimp?! [h];exact dC (λ_=> ?_) λ_=> ?_;dsimp?! [h,n0,cd1];show fin _ _ _ (Int.emod_nonneg _ ∅) (Int.emod_lt_of_pos _ n0);dsimp?! [h,ao,n0,UW,cd2,z2];show fin _ _ _ (Int.emod_nonneg _ ∅) (Int.emod_lt_of_pos _ n0);have nx: ∀ (o1 o2:eM W) (i' c' s':Int),0<=i' ->N [some (wr d),some (wi n),o1,o2] (um M d (.lst [wr l,wi i',wi c',wi s'])):=λ_ _ _ _ _ h=>hN _ _ #[_,_,_,_,_,rfl,ao,NB.put,h];have ZX: ∀ (o1 o2:eM W),N [some (wr d),some (wi n),o1,o2] M:=λ_ _=>hN _ _ #[_,_,_,_,_,rfl,hd,NB.refl d M,hi];have cp:zq 10 18=True:=by simp[zq]
 have cm: ∀x,gK x 48271=True:=λx=>by simp[gK]
 have UX: ∀x,gK x 69621=True:=λx=>by simp[gK]
 have z1:((0:Int) <2147483629)=True:=⋯
 have z2:((0:Int) <2147483647)=True:=⋯
 by_cases mX:i<ns.length;have hx:fE (ns.map wi) i=some (wi (ns[i.toNat]'∅)):=hV hi (by rw[aL,aC ∅];rfl);dsimp?! [hd,hl,ag];exact dC (λ_=> ?_) λ_=>ZX _ _;dsimp?! [hd,hl,ag];exact dC (λ_=> ?_) λ_=>ZX _ _;dsimp?! [hd,hl,hx,ao,aP ku.symm,cp];exact dC (λ_=> ?_) λ_=> ?_;dsimp?! [ao];show nx _ _ _ _ _ ∅;dsimp?! [ao,cm,UX,z1,z2];show nx _ _ _ _ _ ∅;dsimp?! [hd,hl];exact dC (λ_=> ?_) λ_=>ZX _ _;dsimp?! [hd,hl,mX,ag,decide_false];show ZX _ _
def F' {K:Xu}(T:e9 K mg A):bD P w K mg base fh 2 A.AM A.A0 ["_law_draw"] (fT K Wu):=by
 exists T.Jv.fn,["_law_draw","_law_number","_law_size"],(ah (1\(au T.bZ (bv T) hr (aa (pv 0) (aa ai ae)))) (ah (2\(au T.bZ (bv T) hr (aa (pv 0) (aa ai ae)))) (ah (bt (aR Ae (pv 2) ai (a7 _)) (aj (1\(bH dY (bH eQ (pv 1) ai) (au T.bZ (bv T) hr (aa (pv 0) (aa ai ae)))))) aJ) (ah (bt (aR Ae (pv 2) ai (a7 _)) (ah (1\(bH dY (bH dY (bH eQ (pv 1) (bH nN ai ai)) (bH eQ (au T.bZ (bv T) hr (aa (pv 0) (aa (bH nN ai ai) ae))) (bH nN ai ai))) (bH eQ (au T.bZ (bv T) hr (aa (pv 0) (aa (bH nN ai ai) ae))) (bH nN ai ai)))) (aj (1\(bH dY (pv 1) (au T.bZ (bv T) hr (aa (pv 0) (aa (bH nN ai ai) ae))))))) aJ) (aj (aH (bH eQ (pv 1) (bH nM ai (bH eQ ai (au T.bZ (bv T) hr (aa (pv 0) (aa ai ae))))))))))))
 rintro vs M q ⟨d,l,rfl,hD,k⟩;have _D:zq 10 18=True:=by simp[zq]
 have _C:zq 10 6=True:=by simp[zq]
 have _B:zq 10 12=True:=by simp[zq]
 have cm: ∀x,gK x 1000=True:=λx=>by simp[gK]
 have UX: ∀x,gK x (10 ^ Int.toNat 18)=True:=λx=>by simp[gK]
 have UW: ∀x,gK x (10 ^ Int.toNat 12)=True:=λx=>by simp[gK]
 have _E: ∀x,gK x (10 ^ Int.toNat 6)=True:=λx=>by simp[gK]
 have cm5: ∀x,gK 2 x=True:=λx=>by simp[gK]
 simp? [↓cS];exact#[d,l,9,rfl,hD,⋯,⋯,λn0 M1 a0 a1 D1 b1=> ?_];simp? [↓cS];exact f9 ?_;simp? [↓cS];exact#[d,l,4,rfl,D1,⋯,⋯,λz M2 _ _ D2 b2=> ?_];replace b2:=NB.trans b1 b2;simp? [↓cS];exact f9 (lU (λρ M'=> ∃n:Int,f_ (ρ= [some (wr d),some (wi n),some (wi z)]) (Dr M' d l) (NB d M M') (0<=n) (n<10000)) ?_ λN hN=> ?_);rintro ρ M' ⟨n,rfl,D3,b3,h0,h1⟩;exact lU (λρ M'=> ∃n:Int,f_ (ρ= [some (wr d),some (wi n),some (wi z)]) (Dr M' d l) (NB d M M') (0<=n) (n<10 ^ 23)) ?_ λN hN=> ?_;rintro ρ M' ⟨n,rfl,D3,b3,h0,h1⟩;dsimp? [];exact#[d,l,2,rfl,D3,⋯,⋯,λr M4 r0 r1 D4 b4=> ?_];dsimp? [cm5];exact#[.inr #[by omega,by omega],eC (k _ _ ?_ ?_ D4 (NB.trans b3 b4))];have:r=0 \/ r=1:=by omega
 obtain rfl | rfl:=this <;>omega;have:r=0 \/ r=1:=by omega
 obtain rfl | rfl:=this <;>omega;simp? [↓cS,_D,_C,_B,UX,UW,_E];exact dC (λh=> ?_) λh=>hN _ _ #[n,rfl,D3,b3,h0,by omega];exact#[d,l,_,rfl,D3,⋯,⋯,λr M4 r0 r1 D4 b4=> ?_];simp? [↓cS,_D,_C,_B,UX,UW,_E];exact#[d,l,_,rfl,D4,⋯,⋯,λr' M5 r0' r1' D5 b5=> ?_];simp? [↓cS,_D,_C,_B,UX,UW,_E];exact f9 ?_;simp? [↓cS,_D,_C,_B,UX,UW,_E];exact#[d,l,_,rfl,D5,⋯,⋯,λr2 M6 r02 r12 D6 b6=> ?_];simp? [↓cS];exact hN _ _ #[_,rfl,D6,NB.trans (NB.trans (NB.trans b3 b4) b5) b6,?_,?_];simp![Int.reduceToNat,Int.reducePow] at*;omega;simp![Int.reduceToNat,Int.reducePow] at*;omega;simp? [↓cS,cm];exact dC (λh=> ?_) λh=>hN _ _ #[n0,rfl,D2,b2,a0,by omega];exact#[d,l,_,rfl,D2,⋯,⋯,λr M4 r0 r1 D4 b4=> ?_];simp? [↓cS];show hN _ _ #[_,rfl,D4,NB.trans b2 b4,by omega,by omega]
def Je {K:Xu}(T:e9 K mg A):bD P w K mg base fh 2 A.QE A.QI ["_law_draw"] (fT K pP):=by
 exists T.l_p.fn,["_law_draw"],(aj (aH ((aM (aa ai (aa ai (aa ai (aa ai ae)))))∪(au T.bZ (bv T) hr (aa (pv 0) (aa ai ae))))))
 rintro vs M q ⟨d,l,rfl,hD,k⟩;dsimp?! [];exact#[d,l,4,rfl,hD,⋯,⋯,λr M1 r0 r1 D1 b1=> ?_];have hr4:r=0 \/ r=1 \/ r=2 \/ r=3:=by omega
 obtain rfl | rfl | rfl | rfl:=hr4 <;> dsimp?! [];show eC (k 2 _ ⋯ D1 b1);show eC (k 3 _ ⋯ D1 b1);show eC (k 5 _ ⋯ D1 b1);show eC (k 7 _ ⋯ D1 b1)
def uD {K:Xu}(T:e9 K mg A):bD P w K mg base fh 1 A.E2 A.Fi ["_law_thing"] (fT K aa0):=by
 exists T.Ew.fn,["_law_thing"],(aj (aH (nK (bg (fN (K:=K) rfl) (by rfl) T.c6 Boot.«isinstance» (aa (pv 0) (aa (g0 (by rfl) T.YD Boot.«int» (show RelV (.ty "int") _ from rfl)) ae))) (lJ (B_ (bg (fN (K:=K) rfl) (by rfl) T.c6 Boot.«isinstance» (aa (pv 0) (aa (g0 (by rfl) T.Uf Boot.«bool» (show RelV (.ty "bool") _ from rfl)) ae))))))))
 rintro vs M q ⟨i,rfl,k⟩;dsimp?! [];show eC k
def oQ {K:Xu}(T:e9 K mg A):bD P w K mg base fh 1 A.Kj A.KG ["p","pairs"] (fT K PL):=by
 exists T.tidy.fn,["p","pairs","turned","place","setting"],(ah (2\gv) (ah (iH PassesOwn.never rfl (tL (pv 1)) (eO (n:=2) rfl (bE (bj (i:=3) nd rfl (by trivial)) (bE (bj (i:=4) nd rfl (by trivial)) dQ))) (aj (mQ (dW hr) (pv 2) (pv 3) (bH lM (bH dY (Ac (dW hr) (pv 2) (pv 3) ai #[by rfl,by rfl,by rfl,by rfl]) (pv 4)) (pv 0)) rfl))) (aj (aH (cT gG (by rfl) T.jc Boot.«tuple» (aa (dR rfl (dh.of (sc:=aU BW) (N:= ["p","pairs","turned","place","setting"]) (own:= ["place"]) (fr:= [2]) (N':= ["place","turned"])) (tL (bg (pU rfl) (by rfl) T.jM Boot.«sorted» (aa (pv 2) ae))) (λ_ _ _ _=>(bj (i:=0) (by change(["place","turned"]:cA Str).Nodup;decide+kernel) rfl (by trivial))) eo (λ_ _ _ _=>(tK (aR rA (eT (dW hr) (pv 1) (pv 0) (λ_ _=>rfl)) ai (a7 _)))) (λ_ _ _ _=>(aM (aa (pv 0) (aa (eT (dW hr) (pv 1) (pv 0) (λ_ _=>rfl)) ae))))) ae))))))
 rintro vs M q ⟨a,p,ps,rfl,ha,p0,N6,abU,k⟩;dsimp?! [];intro d hd;have W9:a≠d:=cF ha hd;dsimp?! [aP W9,ha];exact lY (λi ρ M'=>eh λ(o1 o2:eM W) (m:Pt)=>k9 (ρ= [some (wi p),some (wr a),some (wr d),o1,o2]) (M'=um M d (.dK (vS m))) ((m.map (·.1)).Nodup) (m.length<=i) (∀x,look m x=fw (ps.take i) x % p) (∀k∈m.map (·.1), ∃q∈ps,q.1=k)) #[none,none,[],rfl,rfl,List.nodup_nil,aq _,λx=>by simp[look,fw],by simp] ?_ ?_ ?_;rintro i ρ M' _ ⟨o1,o2,m,rfl,rfl,_⟩;rw[aP W9];show ha;rintro i x ρ M' hx ⟨o1,o2,m,rfl,rfl,hn,hl,ht,vc⟩ N hN;let⟨z,hz,rfl⟩:=pairs_at hx;have hil:=(bq.mp hz).1;have hs:((vS m).length<sizeLine)=True:=by rw[vS,ag];show az (k8 (by omega))
 dsimp?! [bY,EU,p0,hs,DZ];exact hN _ _ #[_,_,_,rfl,rfl,Eo hn,aw At (by omega),λx=> ?_,λk hk=>(Ao hk).elim (λe=>#[z,a_ hz,e.symm]) (vc k)];rw[xc,List.take_add_one,hz];change _=fw (ps.take i++ [z]) x % p;rw[ug];by_cases hx:x=z.1;subst hx;rw[am rfl,am rfl,ht,Int.emod_add_emod];rw[ak hx,ak (cX hx),Int.add_zero];show ht x;rintro ρ M' ⟨o1,o2,m,rfl,rfl,hn,hl,ht,vc⟩;rw[ag] at hl ht;rw[List.take_length] at ht;dsimp?! [];exact#[d,vS m,m.map (·.1),rfl,ao,Av m,(by rw[ag];show big (by omega)),λsp ns BD gE AF=> ?_];have Tx:d≠sp:=cF ao BD;have vU:ns.length<=16000000:=by rw[gE.length_eq,ag];omega
 dsimp?! [];exact iP (λx=>match x with | .v (.int n)=>if look m n=0 then none else some (bY (n,look m n)) | _=>none) (by rw[ag];show big vU) (λM3 s3=>s3 _ _ ao) ?_ λt NS=> ?_;intro i x hx M3 N s3 hN;let⟨n,yS,rfl⟩:=AC hx;have hdM:M3 d=some (.dK (vS m)):=s3 _ _ (by rw[aP Tx,ao]);have hnk:n∈m.map (·.1):=gE.mem_iff.mp (a_ yS);dsimp?! [hdM,HE hnk];exact Ta (λh=> ?_) λh=> ?_;simp![h,bC] at hN;show hN;simp![h,bV] at hN;show hN;dsimp?! [];exact#[M,((Sm.um (Sm.refl M) hd).trans (a6 BD)).trans (a6 NS),?_];have e:(ns.map wi).filterMap (λx=>match x with | .v (.int n)=>if look m n=0 then none else some (bY (n,look m n)) | _=>none)=(qu p ps).map bY:=by rw[<- DD p0 hn ht gE AF,List.filterMap_map];unfold UF;rw[List.map_filterMap];congr 1;funext n;simp![Function.comp];split<;>rfl
 rw[e];show k
def qo {K:Xu}(T:e9 K mg A):bD P w K mg base fh 1 A.AO A.A2 ["_law_p_here","_law_pairs"] (fT K PL):=by
 exists T.yL.fn,["_law_p_here","_law_pairs","_law_sums","_law_place","_law_setting"],(ah (2\gv) (ah (iH PassesOwn.never rfl (lI (K:=K) rfl (pv 1)) (eO (n:=2) rfl (bE (bj (i:=3) nd rfl (by trivial)) (bE (bj (i:=4) nd rfl (by trivial)) dQ))) (aj (mQ (dW hr) (pv 2) (pv 3) (bH lM (bH dY (Ac (dW hr) (pv 2) (pv 3) ai #[by rfl,by rfl,by rfl,by rfl]) (pv 4)) (pv 0)) rfl))) (aj (aH (cT gG (by rfl) T.jc Boot.«tuple» (aa (dR rfl (dh.of (sc:=_) (N:= ["_law_p_here","_law_pairs","_law_sums","_law_place","_law_setting"]) (own:= ["_law_place"]) (fr:= [2]) (N':= ["_law_place","_law_sums"])) (lI (K:=K) rfl (bg (pU rfl) (by rfl) T.jM Boot.«sorted» (aa (pv 2) ae))) (λ_ _ _ _=>(bj (i:=0) (by change(["_law_place","_law_sums"]:cA Str).Nodup;decide+kernel) rfl (by trivial))) eo (λ_ _ _ _=>(tK (aR Ae (eT (dW hr) (pv 1) (pv 0) (λ_ _=>rfl)) ai (a7 _)))) (λ_ _ _ _=>(aM (aa (pv 0) (aa (eT (dW hr) (pv 1) (pv 0) (λ_ _=>rfl)) ae))))) ae))))))
 rintro vs M q ⟨a,p,ps,rfl,ha,p0,N6,abU,k⟩;dsimp?! [];intro d hd;have W9:a≠d:=cF ha hd;dsimp?! [aP W9,ha];exact lY (λi ρ M'=>eh λ(o1 o2:eM W) (m:Pt)=>k9 (ρ= [some (wi p),some (wr a),some (wr d),o1,o2]) (M'=um M d (.dK (vS m))) ((m.map (·.1)).Nodup) (m.length<=i) (∀x,look m x=fw (ps.take i) x % p) (∀k∈m.map (·.1), ∃q∈ps,q.1=k)) #[none,none,[],rfl,rfl,List.nodup_nil,aq _,λx=>by simp[look,fw],by simp] ?_ ?_ ?_;rintro i ρ M' _ ⟨o1,o2,m,rfl,rfl,_⟩;rw[aP W9];show ha;rintro i x ρ M' hx ⟨o1,o2,m,rfl,rfl,hn,hl,ht,vc⟩ N hN;let⟨z,hz,rfl⟩:=pairs_at hx;have hil:=(bq.mp hz).1;have hs:((vS m).length<sizeLine)=True:=by rw[vS,ag];show az (k8 (by omega))
 dsimp?! [bY,EU,p0,hs,DZ];exact hN _ _ #[_,_,_,rfl,rfl,Eo hn,aw At (by omega),λx=> ?_,λk hk=>(Ao hk).elim (λe=>#[z,a_ hz,e.symm]) (vc k)];rw[xc,List.take_add_one,hz];change _=fw (ps.take i++ [z]) x % p;rw[ug];by_cases hx:x=z.1;subst hx;rw[am rfl,am rfl,ht,Int.emod_add_emod];rw[ak hx,ak (cX hx),Int.add_zero];show ht x;rintro ρ M' ⟨o1,o2,m,rfl,rfl,hn,hl,ht,vc⟩;rw[ag] at hl ht;rw[List.take_length] at ht;dsimp?! [];exact#[d,vS m,m.map (·.1),rfl,ao,Av m,(by rw[ag];show big (by omega)),λsp ns BD gE AF=> ?_];have Tx:d≠sp:=cF ao BD;have vU:ns.length<=16000000:=by rw[gE.length_eq,ag];omega
 dsimp?! [];exact iP (λx=>match x with | .v (.int n)=>if look m n=0 then none else some (bY (n,look m n)) | _=>none) (by rw[ag];show big vU) (λM3 s3=>s3 _ _ ao) ?_ λt NS=> ?_;intro i x hx M3 N s3 hN;let⟨n,yS,rfl⟩:=AC hx;have hdM:M3 d=some (.dK (vS m)):=s3 _ _ (by rw[aP Tx,ao]);have hnk:n∈m.map (·.1):=gE.mem_iff.mp (a_ yS);dsimp?! [hdM,HE hnk];have hge:0<=look m n:=by rw[ht];show Int.emod_nonneg _ (by omega)
 exact dC (λh=> ?_) λh=> ?_;have h':¬look m n=0:=by omega
 simp![h',bC] at hN;show hN;have h':look m n=0:=by omega
 simp![h',bV] at hN;show hN;dsimp?! [];exact#[M,((Sm.um (Sm.refl M) hd).trans (a6 BD)).trans (a6 NS),?_];have e:(ns.map wi).filterMap (λx=>match x with | .v (.int n)=>if look m n=0 then none else some (bY (n,look m n)) | _=>none)=(qu p ps).map bY:=by rw[<- DD p0 hn ht gE AF,List.filterMap_map];unfold UF;rw[List.map_filterMap];congr 1;funext n;simp![Function.comp];split<;>rfl
 rw[e];show k
def Ah {K:Xu}(T:e9 K mg A):bD P w K mg base fh 1 A.EX A.Fe ["pattern","by"] (fT K R_):=by
 exists T.moved.fn,["pattern","by"],(aj (aH (cT gG (by rfl) T.jc Boot.«tuple» (aa (dR rfl (dh.of (sc:=aU yh) (N:= ["pattern","by"]) (own:= ["place","setting"]) (fr:= [1]) (N':= ["place","setting","by"])) (qj (pv 0)) (λ_ _ _ _=>(eO (n:=2) rfl (bE (bj (i:=0) (by change(["place","setting","by"]:cA Str).Nodup;decide+kernel) rfl (by trivial)) (bE (bj (i:=1) (by change(["place","setting","by"]:cA Str).Nodup;decide+kernel) rfl (by trivial)) dQ)))) iQ (λ_ _ _ _=>dP) (λ_ _ _ _=>(aM (aa (bH dY (pv 0) (pv 2)) (aa (pv 1) ae))))) ae))))
 rintro vs M q ⟨ux,b,rfl,hl,k⟩;dsimp?! [gx];exact iP (λx=>match x with | .tup [.v (.int x),s]=>some (.tup [wi (x+b),s]) | _=>none) (by rw[ag];show big hl) (λ_ _=>trivial) ?_ λt ht=> ?_;intro i x hx M3 N s3 hN;let⟨z,hz,rfl⟩:=pairs_at hx;dsimp?! [bY];show hN;dsimp?! [];exact#[M,a6 ht,?_];have e:(ux.map bY).filterMap (λx=>match x with | .tup [.v (.int x),s]=>some (.tup [wi (x+b),s]) | _=>none)=(mv b ux).map bY:=by rw[List.filterMap_map,mv,bi];show List.filterMap_eq_map.symm▸rfl
 rw[e];show k
def sD {K:Xu}(T:e9 K mg A):bD P w K mg base fh 2 A.l4 A.mm ["_law_p_here","_law_thing"] (fT K Sa):=by
 exists T.oZ.fn,["_law_p_here","_law_thing","_law_k","_law_pair"],(ah (bt (dM (dw (bg (fN (K:=K) rfl) (by rfl) T.c6 Boot.«isinstance» (aa (pv 1) (aa (g0 (by rfl) T.jc Boot.«tuple» (show RelV (.ty "tuple") _ from rfl)) ae))))) (aj (aH fL)) aJ) (ah (iH PassesOwn.never rfl (fi (by rfl) T.hU (aa (bg (ez (K:=K) rfl) (by rfl) T.jd Boot.«len» (aa (pv 1) ae)) ae)) (bj (i:=2) nd rfl (by trivial)) (ah (3\((pv 1)∪(pv 2))) (ah (bt (lH (dM (dw (bg (fN (K:=K) rfl) (by rfl) T.c6 Boot.«isinstance» (aa (pv 3) (aa (g0 (by rfl) T.jc Boot.«tuple» (show RelV (.ty "tuple") _ from rfl)) ae))))) (jg (aR rA (bg (ez (K:=K) rfl) (by rfl) T.jd Boot.«len» (aa (pv 3) ae)) ai (a7 _)))).pt (aj (aH fL)) aJ) (ah (bt (lH (dM (dw (au T.Ew (uD T) hr (aa ((pv 3)∪ai) ae)))) (lH (dM (dw (au T.Ew (uD T) hr (aa ((pv 3)∪ai) ae)))) (jg (dM (ut lN lN ai ((pv 3)∪ai) (pv 0)))))).pt (aj (aH fL)) aJ) (aj (bt (qi (aR Ae (pv 2) ai (a7 _)) (mO (aR Af (((pv 1)∪(bH nM (pv 2) ai))∪ai) ((pv 3)∪ai) (a7 _)))).pt (aj (aH fL)) aJ)))))) (aj (aH fL))))
 rintro vs M q ⟨p,ux,rfl,⟨h1,h2⟩,hl,k⟩;have rK:(ux.map bY).length=ux.length:=ag _;dsimp?! [gx,rK];exact#[#[by omega,by omega],lY (λi ρ M'=>cc λ(o1 o2:eM W)=>ρ= [some (wi p),some (gx ux),o1,o2] /\ M'=M) #[none,none,rfl,rfl] (λ_ _ _ _ _=>trivial) ?_ ?_];rintro i x ρ M' hx ⟨o1,o2,rfl,rfl⟩ N hN;let⟨hi,rfl⟩:=jy hx;have rL:i<ux.length:=by omega
 have ha:fE (ux.map bY) (0+(i:Int))=some (bY ux[i]):=by rw[Int.zero_add];show fK (by rw[aL,aC rL];rfl)
 have hz:=h1 ux[i] (List.getElem_mem rL);have e2:decide (((2:Nat):Int)=2)=true:=⋯
 dsimp?! [gx,ha,bY,e2,aK];exact#[_,rfl,?_];dsimp?! [bY,aK];exact#[_,rfl,?_];have hz1:decide (0<ux[i].2)=true:=bh hz.1;have NO:decide (ux[i].2<p)=true:=bh hz.2;dsimp?! [bY,hz1,NO,aK];exact dC (λh=> ?_) λh=>hN _ _ #[_,_,rfl,rfl];have hi1:i - 1<ux.length:=by omega
 have ha':fE (ux.map bY) (0+(i:Int) - 1)=some (bY ux[i - 1]):=by
  have:(0+(i:Int) - 1)=((i - 1:Nat):Int):=by omega
  rw[this];show fK (by rw[aL,aC hi1];rfl)
 have mX:=List.pairwise_iff_getElem.mp h2 (i - 1) i hi1 rL (by omega);dsimp?! [ha',bY];show dC (λh=>by omega) λ_=>hN _ _ #[_,_,rfl,rfl];rintro ρ M' ⟨o1,o2,rfl,rfl⟩;dsimp?! [];show eC k
def Jh {K:Xu}(T:e9 K mg A):bD P w K mg base fh 2 A.E5 A.Fl ["p","one","other"] (fT K Si):=by
 exists T.added.fn,["p","one","other"],(aj (aH (au T.tidy (oQ T) hr (aa (pv 0) (aa (bH Jc (cT fc (by rfl) T.iR Boot.«list» (aa (pv 1) ae)) (cT fc (by rfl) T.iR Boot.«list» (aa (pv 2) ae))) ae)))))
 rintro vs M q ⟨p,a,b,rfl,p0,hf,ha,hb,k⟩;dsimp?! [gx];intro u hu;dsimp?! [];intro v hv;have huv:u≠v:=cF ao hv;have hs:((a.map bY).length+(b.map bY).length<=sizeLine)=True:=az (big (by rw[ag,ag];omega));dsimp?! [aP huv,hs];intro c hc;dsimp?! [];exact#[c,p,a++b,rfl,by rw[ao,aB],p0,hf,by rw[aD];omega,?_];show#[M,((a6 hu).trans (a6 hv)).trans (a6 hc),k]
def uB {K:Xu}(T:e9 K mg A):bD P w K mg base fh 2 A.EW A.Fd ["p","pattern","n"] (fT K R1):=by
 exists T.timed.fn,["p","pattern","n"],(aj (aH (au T.tidy (oQ T) hr (aa (pv 0) (aa (dR rfl (dh.of (sc:=aU yg) (N:= ["p","pattern","n"]) (own:= ["place","setting"]) (fr:= [2]) (N':= ["place","setting","n"])) (qj (pv 1)) (λ_ _ _ _=>(eO (n:=2) rfl (bE (bj (i:=0) (by change(["place","setting","n"]:cA Str).Nodup;decide+kernel) rfl (by trivial)) (bE (bj (i:=1) (by change(["place","setting","n"]:cA Str).Nodup;decide+kernel) rfl (by trivial)) dQ)))) iQ (λ_ _ _ _=>dP) (λ_ _ _ _=>(aM (aa (pv 0) (aa (bH eQ (pv 1) (pv 2)) ae))))) ae)))))
 rintro vs M q ⟨p,a,n,rfl,p0,hf,ha,hz,k⟩;dsimp?! [gx];exact iP (λx=>match x with | .tup [x, .v (.int s)]=>some (.tup [x,wi (s*n)]) | _=>none) (by rw[ag];show big (by omega)) (λ_ _=>trivial) ?_ λt ht=> ?_;intro i x hx M3 N s3 hN;let⟨z,JU,rfl⟩:=pairs_at hx;have:=hz z (a_ JU);have cm:gK z.2 n=True:=az (.inl #[by omega,by omega]);dsimp?! [bY,cm];show hN
 .have e:(a.map bY).filterMap (λx=>match x with | .tup [x, .v (.int s)]=>some (.tup [x,wi (s*n)]) | _=>none)=(tm n a).map bY:=by rw[List.filterMap_map,tm,bi];show List.filterMap_eq_map.symm▸rfl
  rw[e];try dsimp?! []
  exact#[t,p,tm n a,rfl,ao,p0,hf,by rw[tm,ag];omega,M,a6 ht,k]
def uC {K:Xu}(T:e9 K mg A):bD P w K mg base fh 2 A.EY A.Ff ["_law_p_here","_law_one","_law_other","_law_by","_law_many"] (fT K aaY):=by
 exists T.Eu.fn,["_law_p_here","_law_one","_law_other","_law_by","_law_many"],(aj (aH (au T.yL (qo T) hr (aa (pv 0) (aa (bH Jc (cT fc (by rfl) T.iR Boot.«list» (aa (pv 1) ae)) (dR rfl (dh.of (sc:=_) (N:= ["_law_p_here","_law_one","_law_other","_law_by","_law_many"]) (own:= ["_law_place","_law_setting"]) (fr:= [3,4]) (N':= ["_law_place","_law_setting","_law_by","_law_many"])) (oO (K:=K) rfl (pv 2)) (λ_ _ _ _=>(eO (n:=2) rfl (bE (bj (i:=0) (by change(["_law_place","_law_setting","_law_by","_law_many"]:cA Str).Nodup;decide+kernel) rfl (by trivial)) (bE (bj (i:=1) (by change(["_law_place","_law_setting","_law_by","_law_many"]:cA Str).Nodup;decide+kernel) rfl (by trivial)) dQ)))) iQ (λ_ _ _ _=>dP) (λ_ _ _ _=>(aM (aa (bH dY (pv 0) (pv 2)) (aa (bH eQ (pv 1) (pv 3)) ae)))))) ae)))))
 rintro vs M q ⟨p,a,b,y,n,rfl,p0,hf,ha,hb,hz,k⟩;dsimp?! [gx];intro u hu;dsimp?! [];exact iP (λx=>match x with | .tup [.v (.int x), .v (.int s)]=>some (.tup [wi (x+y),wi (s*n)]) | _=>none) (by rw[ag];show big (by omega)) (λ_ _=>trivial) ?_ λt ht=> ?_;intro i x hx M3 N s3 hN;let⟨z,JU,rfl⟩:=pairs_at hx;have:=hz z (a_ JU);have cm:gK z.2 n=True:=az (.inl #[by omega,by omega]);dsimp?! [bY,cm];show hN;have e:(b.map bY).filterMap (λx=>match x with | .tup [.v (.int x), .v (.int s)]=>some (.tup [wi (x+y),wi (s*n)]) | _=>none)=(Ep y n b).map bY:=by rw[List.filterMap_map,Ep,bi];show List.filterMap_eq_map.symm▸rfl
 rw[e];have hut:u≠t:=cF ao ht;have hs:((a.map bY).length+((Ep y n b).map bY).length<=sizeLine)=True:=az (big (by rw[ag,ag,Ep,ag];omega));dsimp?! [aP hut,hs];intro c hc;dsimp?! [];exact#[c,p,a++Ep y n b,rfl,by rw[ao,aB],p0,hf,by rw[aD,Ep,ag];omega,?_];show#[M,((a6 hu).trans (a6 ht)).trans (a6 hc),k]
end eR
open PySem L2 WL WP WQ PyProof.Rows
namespace eR
open PySem L2 WL WP WQ PyProof.Rows
def Gc {K:Xu}(T:e9 K mg A):bD P w K mg base fh 3 A.AV A.A8 ["p","one","other"] (fT K MW):=by
 exists T.joined.fn,["p","one","other","end","pattern","more","behind"],(ah (gR (pv 1) (eO (n:=2) rfl (bE (bj (i:=3) nd rfl (by trivial)) (bE (bj (i:=4) nd rfl (by trivial)) dQ)))) (ah (gR (pv 2) (eO (n:=2) rfl (bE (bj (i:=5) nd rfl (by trivial)) (bE (bj (i:=6) nd rfl (by trivial)) dQ)))) (aj (aH (aM (aa (bH dY (pv 3) (pv 5)) (aa (au T.added (Jh T) hr (aa (pv 0) (aa (pv 4) (aa (au T.moved (Ah T) hr (aa (pv 6) (aa (pv 3) ae))) ae)))) ae)))))))
 rintro vs M q ⟨p,a,b,rfl,p0,hf,ha,hb,k⟩;dsimp?! [gM];exact#[b.2,a.1,rfl,by omega,?_];dsimp?! [];exact#[p,a.2,mv a.1 b.2,rfl,p0,hf,aw ha ⋯,by rw[qw];show aw hb ⋯,?_];dsimp?! [];show eC k
def lP {K:Xu}(T:e9 K mg A):bD P w K mg base fh 3 A.vh A.vt ["p","one"] (fT K PV):=by
 exists T.backward.fn,["p","one","end","pattern"],(ah (gR (pv 1) (eO (n:=2) rfl (bE (bj (i:=2) nd rfl (by trivial)) (bE (bj (i:=3) nd rfl (by trivial)) dQ)))) (aj (aH (aM (aa (fZ eE (pv 2)) (aa (au T.timed (uB T) hr (aa (pv 0) (aa (au T.moved (Ah T) hr (aa (pv 3) (aa (fZ eE (pv 2)) ae))) (aa (fZ eE ai) ae)))) ae))))))
 rintro vs M q ⟨p,a,rfl,p0,hf,ha,hz,k⟩;dsimp?! [gM];exact#[a.2, -a.1,rfl,by omega,?_];dsimp?! [];exact#[p,mv (-a.1) a.2, -1,rfl,p0,Ki hf,by rw[qw];show ha,λz JU=> ?_,?_];let⟨y,hy,rfl⟩:=List.mem_map.mp JU;show hz y hy;dsimp?! [];show eC k
def Ga {K:Xu}(T:e9 K mg A):bD P w K mg base fh 3 A.AR A.A4 ["_law_p_here","_law_one","_law_other"] (fT K WC):=by
 exists T.Jx.fn,["_law_p_here","_law_one","_law_other"],(aj (aH (aM (aa (bH dY ((pv 1)∪ai) ((pv 2)∪ai)) (aa (au T.Eu (uC T) hr (aa (pv 0) (aa ((pv 1)∪ai) (aa ((pv 2)∪ai) (aa ((pv 1)∪ai) (aa ai ae)))))) ae)))))
 rintro vs M q ⟨p,a,b,rfl,p0,hf,ha,hb,hz,k⟩;have e:Ep a.1 1 b.2=mv a.1 b.2:=by rw[Cm,Rt]
 dsimp?! [gM];exact#[p,a.2,b.2,a.1,1,rfl,p0,by rw[e];show hf,aw ha ⋯,aw hb ⋯,hz,?_];rw[e];dsimp?! [];show eC k
def Gb {K:Xu}(T:e9 K mg A):bD P w K mg base fh 3 A.AU A.A7 ["_law_p_here","_law_one"] (fT K PV):=by
 exists T.Jy.fn,["_law_p_here","_law_one"],(aj (aH (aM (aa (fZ eE ((pv 1)∪ai)) (aa (au T.Eu (uC T) hr (aa (pv 0) (aa (aM ae) (aa ((pv 1)∪ai) (aa (fZ eE ((pv 1)∪ai)) (aa (fZ eE ai) ae)))))) ae)))))
 rintro vs M q ⟨p,a,rfl,p0,hf,ha,hz,k⟩;have e:Ep (-a.1) (-1) a.2=tm (-1) (mv (-a.1) a.2):=Cm;dsimp?! [gM];exact#[p,[],a.2, -a.1, -1,rfl,p0,by rw[e];show Ki hf,⋯,aw ha ⋯,hz,?_];rw[e,List.nil_append];dsimp?! [];show eC k
def v7 {K:Xu}(T:e9 K mg A):bD P w K mg base fh 3 A.pB A.pM ["_law_p_here","_law_thing"] (fT K Ja):=by
 exists T.uR.fn,["_law_p_here","_law_thing"],(ah (bt (lH (dM (dw (bg (fN (K:=K) rfl) (by rfl) T.c6 Boot.«isinstance» (aa (pv 1) (aa (g0 (by rfl) T.jc Boot.«tuple» (show RelV (.ty "tuple") _ from rfl)) ae))))) (jg (aR rA (bg (ez (K:=K) rfl) (by rfl) T.jd Boot.«len» (aa (pv 1) ae)) ai (a7 _)))).pt (aj (aH fL)) aJ) (aj (aH (nK (au T.Ew (uD T) hr (aa ((pv 1)∪ai) ae)) (lJ (au T.oZ (sD T) hr (aa (pv 0) (aa ((pv 1)∪ai) ae))))))))
 rintro vs M q ⟨p,a,rfl,hp,hl,k⟩;have e2:decide ((((0+1+1:Nat)):Int)=2)=true:=⋯
 have e2':decide (((2:Nat):Int)=2)=true:=⋯
 dsimp?! [gM,e2,e2'];exact#[_,rfl,?_];dsimp?! [];show#[p,a.2,rfl,hp,aw hl ⋯,eC k]
def Nh {K:Xu}(T:e9 K mg A):bD P w K mg base (gJ P w) 2 A.Kk A.KH ["p","deeds"] (rf K (Sb A.eA)):=by
 exact w5 T.gone.fn DE (by rintro vs M q e ⟨a,p,ds,rfl,_⟩;rfl) λcdv A' outer s H E e hr hF hP=> ?_;have nd:=DE.nd;exact#[_,(ah (2\ai) (ah (3\(eP ae)) (ah (iH M_ rfl (tL (pv 1)) (bj (i:=4) nd rfl (by trivial)) (ah (5\(uv yO (pv 4) ai (λ_ _=>rfl))) (aj (bt (aR dn (pv 5) aF (a7 _)) (aj (RS (i:=2) nd rfl (Or.inl rfl) (uv yO (pv 4) ai (λ_ _=>rfl)) Tc)) (aj (bt (aR dn (pv 5) aF (a7 _)) (aj (bK (gw aO bB bA dk (pv 3) (aa (aM (aa (pv 2) (aa (uv yO (pv 4) ai (λ_ _=>rfl)) ae))) ae)))) (aj (c8 hF rfl (by rfl) T.zx (aa (fH (cr aF (cr (jh (pv 5)) gS))) ae))))))))) (aj (aH (aM (aa (pv 2) (aa (au T.tidy (oQ T) hr (aa (pv 0) (aa (pv 3) ae))) ae)))))))),?_];try dsimp only[d9]
 exact#[_,inferInstance,?_];rintro vs M q ⟨a,p,ds,rfl,ha,p0,hf,hl,hw,kq,ke⟩;dsimp?! [];intro b hb;have xm:a≠b:=cF ha hb;dsimp?! [aP xm,ha];exact lY (λi ρ M'=> ∃ (o1 o2:eM W),(∀d∈ds.take i,Good d) /\ ρ= [some (wi p),some (wr a),some (wi (eN (ds.take i)).1),some (wr b),o1,o2] /\ M'=um M b (.lst ((eN (ds.take i)).2.map bY))) #[none,none,by simp,rfl,rfl] ?_ ?_ ?_;rintro i ρ M' _ ⟨o1,o2,_,rfl,rfl⟩;rw[aP xm];show ha
 .rintro i x ρ M' hx ⟨o1,o2,UR,rfl,rfl⟩ N hN;let⟨z,hz,rfl⟩:=QG hx;have hil:=(bq.mp hz).1;have et:ds.take (i+1)=ds.take i++ [z]:=by rw[List.take_add_one,hz];rfl
  have dO:(((eN (ds.take i)).2.map bY).length<sizeLine)=True:=az (k8 (by have:=jt (ds.take i);rw[ag];rw[cz] at this;omega));have NY:Good z -> ∀d∈ds.take (i+1),Good d:=λhg d hd=>by rw[et,a8] at hd;obtain hd | hd:=hd;show UR d hd;simp at hd;rw[hd];show hg
  have hzm:z∈ds:=a_ hz;let⟨z1,z2⟩:=z;have _g:=hw _ hzm;have e3:decide (("go" :Str)= "go")=true:=by right
  have e1:decide (("turn" :Str)= "go")=false:=by right
  have e2:decide (("turn" :Str)= "turn")=true:=by right
  by_cases h1:z1= "go";subst h1;have hs:sstep (eN (ds.take i)) ("go",z2)=((eN (ds.take i)).1+z2,(eN (ds.take i)).2):=am rfl;dsimp?! [fU,e3,b8];simp![et,jr,hs] at hN NY;show hN _ _ #[_,_,NY (.inl rfl),rfl,rfl];by_cases h2:z1= "turn";subst h2;have hs:sstep (eN (ds.take i)) ("turn",z2)=((eN (ds.take i)).1,(eN (ds.take i)).2++ [((eN (ds.take i)).1,z2)]):=ak (show ¬((("turn" :Str),z2).1=("go" :Str)) from(by right:¬(("turn" :Str)=("go" :Str))));dsimp?! [fU,e1,e2,dO,b8];simp![et,jr,hs,aB,aT,List.map_nil] at hN NY;show hN _ _ #[_,_,NY (.inr rfl),rfl,rfl];have f1:decide (z1= "go")=false:=aE h1;have f2:decide (z1= "turn")=false:=aE h2;dsimp?! [fU,f1,f2];have XB:z1.length<=100:=_g;(repeat (exact#[by first | decide | decide+kernel | show ce (by omega) | show QB (by right) XB | show QA (by right) XB (by right),?_]));show#[M,a6 hb,ke #[(z1,z2),hzm,λh=>h.elim h1 h2]]
 rintro ρ M' ⟨o1,o2,UR,rfl,rfl⟩;rw[ag,List.take_length] at*;dsimp?! [];have:=jt ds;exact#[b,p,(eN ds).2,rfl,ao,p0,hf,by omega,?_];dsimp?! [];show#[M,a6 hb,kq UR]
def F_ {K:Xu}(T:e9 K mg A):bD P w K mg base fh 2 A.AN A.A1 ["_law_p_here","_law_deeds"] (fT K RZ):=by
 exists T.Jw.fn,["_law_p_here","_law_deeds","_law_here","_law_pairs","_law_word","_law_number"],(ah (2\ai) (ah (3\(eP ae)) (ah (iH PassesOwn.never rfl (lI (K:=K) rfl (pv 1)) (eO (n:=2) rfl (bE (bj (i:=4) nd rfl (by trivial)) (bE (bj (i:=5) nd rfl (by trivial)) dQ))) (aj (bt (aR dn (pv 4) aF (a7 _)) (aj (2\(bH dY (pv 2) (pv 5)))) (aj (bK (gw aO bB bA dk (pv 3) (aa (aM (aa (pv 2) (aa (pv 5) ae))) ae))))))) (aj (aH (aM (aa (pv 2) (aa (au T.yL (qo T) hr (aa (pv 0) (aa (pv 3) ae))) ae))))))))
 rintro vs M q ⟨a,p,ds,rfl,ha,p0,hf,hl,k⟩;dsimp?! [];intro b hb;have xm:a≠b:=cF ha hb;dsimp?! [aP xm,ha];exact lY (λi ρ M'=> ∃ (o1 o2:eM W),ρ= [some (wi p),some (wr a),some (wi (eN (ds.take i)).1),some (wr b),o1,o2] /\ M'=um M b (.lst ((eN (ds.take i)).2.map bY))) #[none,none,rfl,rfl] ?_ ?_ ?_;rintro i ρ M' _ ⟨o1,o2,rfl,rfl⟩;rw[aP xm];show ha;rintro i x ρ M' hx ⟨o1,o2,rfl,rfl⟩ N hN;let⟨z,hz,rfl⟩:=QG hx;have hil:=(bq.mp hz).1;have et:ds.take (i+1)=ds.take i++ [z]:=by rw[List.take_add_one,hz];rfl
 have dO:(((eN (ds.take i)).2.map bY).length<sizeLine)=True:=az (k8 (by have:=jt (ds.take i);rw[ag];rw[cz] at this;omega));let⟨z1,z2⟩:=z;have e3:decide (("go" :Str)= "go")=true:=by right
 by_cases h1:z1= "go";subst h1;have hs:sstep (eN (ds.take i)) ("go",z2)=((eN (ds.take i)).1+z2,(eN (ds.take i)).2):=am rfl;dsimp?! [fU,e3,b8];simp![et,jr,hs] at hN;show hN _ _ #[_,_,rfl,rfl];have hs:sstep (eN (ds.take i)) (z1,z2)=((eN (ds.take i)).1,(eN (ds.take i)).2++ [((eN (ds.take i)).1,z2)]):=ak h1;have f1:decide (z1= "go")=false:=aE h1;dsimp?! [fU,f1,dO];simp![et,jr,hs,aB,aT,List.map_nil] at hN;show hN _ _ #[_,_,rfl,rfl];rintro ρ M' ⟨o1,o2,rfl,rfl⟩;rw[ag,List.take_length];dsimp?! [];have:=jt ds;exact#[b,p,(eN ds).2,rfl,ao,p0,hf,by omega,?_];dsimp?! [];show#[M,a6 hb,k]
def oR {K:Xu}(T:e9 K mg A):bD P w K mg base fh 4 A.iN A.iO ["p","one","n"] (fT K PN):=by
 have nY:bD P w K mg base fh 3 A.iN A.iO ["p","one","n"] (fT K IZ):=Kf;exact okS T.repeated.fn i5 (by left) λcdv A' outer s H E hr=> ?_;have nd:=i5.nd;exact#[_,(ah (bt (aR lN (pv 2) ai (a7 _)) (aj (aH (au T.repeated nY hr (aa (pv 0) (aa (au T.backward (lP T) hr (aa (pv 0) (aa (pv 1) ae))) (aa (fZ eE (pv 2)) ae)))))) aJ) (ah (gR (pv 1) (eO (n:=2) rfl (bE (bj (i:=3) nd rfl (by trivial)) (bE (bj (i:=4) nd rfl (by trivial)) dQ)))) (ah (bt (aR dn (pv 3) ai (a7 _)) (aj (aH (aM (aa ai (aa (au T.timed (uB T) hr (aa (pv 0) (aa (pv 4) (aa (pv 2) ae)))) ae))))) aJ) (ah (rq (i:=5) (n1:=2) rfl nd rfl (Or.inl rfl) (dh.of (sc:=aU iA) (N:= ["p","one","n","end","pattern","pairs"]) (own:= ["place","setting","k"]) (fr:= [3,2]) (N':= ["place","setting","k","end","n"])) (qj (pv 4)) (λ_ _ _ _=>(eO (n:=2) rfl (bE (bj (i:=0) (by change(["place","setting","k","end","n"]:cA Str).Nodup;decide+kernel) rfl (by trivial)) (bE (bj (i:=1) (by change(["place","setting","k","end","n"]:cA Str).Nodup;decide+kernel) rfl (by trivial)) dQ)))) ⋯ (ED (by change _<_;decide) (by change _<_;decide)) (λ_ _ _ _=>dP) (λ_ _ _ _=>(fi (by rfl) T.hU (aa (pv 4) ae))) (λ_ _ _ _=>(bj (i:=2) (by change(["place","setting","k","end","n"]:cA Str).Nodup;decide+kernel) rfl (by trivial))) (Ax (by change _<=_ /\ _<_;decide)) (λ_ _ _ _=>dP) (λ_ _ _ _=>(aM (aa (bH dY (pv 0) (bH eQ (pv 3) (pv 2))) (aa (pv 1) ae)))) rfl) (aj (aH (aM (aa (bH eQ (pv 3) (pv 2)) (aa (au T.tidy (oQ T) hr (aa (pv 0) (aa (pv 5) ae))) ae))))))))),?_];try dsimp only[d9]
 exact#[_,inferInstance,?_];rintro vs M q ⟨p,a,n,rfl,p0,p1,hP,hl,n0,hb,k⟩;have Tq:decide (n<0)=false:=aE (by omega);have sA:=lv hP p1;dsimp?! [gM,Tq];exact dC (λh=> ?_) λh=> ?_;simp?! [↓cS];exact#[p,a.2,n,rfl,p0,CJ,hl,sA,?_];simp?! [↓cS];exact eC (k (0,qu p (tm n a.2)) #[?_,f8 p0 _,λx=> ?_] (λ_=> ?_) λh'=>absurd h h');rw[h,Int.zero_mul];rw[mM p0,BQ];unfold ln;rw[ak (by omega),h,jQ];have:((n.toNat:Nat):Int)=n:=by omega
 rw[this];show aw (i8 _ _) (by rw[tm,ag];show aq _);let⟨nb,dO⟩:=hb h;have cm: ∀j:Int,j<100000 ->0<=j ->gK a.1 j=True:=λj h1 h2=>az (.inr #[by omega,by omega]);dsimp?! [gx];exact GS (λ_=>List.range n.toNat) (λ(k:Nat)=>wi (0+(k:Int))) (λz k=>bY (z.1+a.1*(0+(k:Int)),z.2)) ?_ (λ_ _=>trivial) ?_ λt ht=> ?_;exact k8 ?_;simp![List.length_range];rw[List.map_const',List.sum_replicate_nat];show aw dO ⋯;intro z hz M3 s3 B N0 hB;simp?! [↓Ii,bY];exact#[#[by omega,by omega],hB _ _ (λ_ _=>trivial) ?_];intro j hj M4 s4 N hN;have hj:=List.mem_range.mp hj;simp?! [↓Ii,cm (0+(j:Int)) (by omega) (by omega)];show hN;have e:(a.2.map λz=>(List.range n.toNat).map λ(k:Nat)=>bY (z.1+a.1*(0+(k:Int)),z.2)).flatten=(lS a.1 n.toNat a.2).map bY:=by rw[lS,List.map_flatten,bi];congr 1;apply List.map_congr_left;intro z _;simp![Function.comp_apply,oI,bi];apply List.map_congr_left;intro j _;rw[Int.zero_add];rfl
 rw[e];have cn:gK a.1 n=True:=cm n nb n0;dsimp?! [cn];exact#[t,p,lS a.1 n.toNat a.2,rfl,ao,p0,CJ,by rw[uN];show aw dO ⋯,?_];simp?! [↓cS];exact#[M,a6 ht,k (a.1*n,qu p (lS a.1 n.toNat a.2)) #[rfl,f8 p0 _,λx=> ?_] (λh'=>absurd h' h) λ_=> ?_];rw[mM p0,zF];unfold ln;rw[ak (by omega)];exact aw (i8 _ _) ?_;rw[uN];have:n.toNat=n.natAbs:=by omega
 rw[this];show aq _
def yB {K:Xu}(T:e9 K mg A):bD P w K mg base fh 5 A.iN A.iO ["p","one","n"] (fT K PM):=by
 have nY:=oR (P:=P) (w:=w) (base:=base) T;exact okS T.repeated.fn i5 (by left) λcdv A' outer s H E hr=> ?_;have nd:=i5.nd;exact#[_,(ah (bt (aR lN (pv 2) ai (a7 _)) (aj (aH (au T.repeated nY hr (aa (pv 0) (aa (au T.backward (lP T) hr (aa (pv 0) (aa (pv 1) ae))) (aa (fZ eE (pv 2)) ae)))))) aJ) (ah (gR (pv 1) (eO (n:=2) rfl (bE (bj (i:=3) nd rfl (by trivial)) (bE (bj (i:=4) nd rfl (by trivial)) dQ)))) (ah (bt (aR dn (pv 3) ai (a7 _)) (aj (aH (aM (aa ai (aa (au T.timed (uB T) hr (aa (pv 0) (aa (pv 4) (aa (pv 2) ae)))) ae))))) aJ) (ah (rq (i:=5) (n1:=2) rfl nd rfl (Or.inl rfl) (dh.of (sc:=aU iA) (N:= ["p","one","n","end","pattern","pairs"]) (own:= ["place","setting","k"]) (fr:= [3,2]) (N':= ["place","setting","k","end","n"])) (qj (pv 4)) (λ_ _ _ _=>(eO (n:=2) rfl (bE (bj (i:=0) (by change(["place","setting","k","end","n"]:cA Str).Nodup;decide+kernel) rfl (by trivial)) (bE (bj (i:=1) (by change(["place","setting","k","end","n"]:cA Str).Nodup;decide+kernel) rfl (by trivial)) dQ)))) ⋯ (ED (by change _<_;decide) (by change _<_;decide)) (λ_ _ _ _=>dP) (λ_ _ _ _=>(fi (by rfl) T.hU (aa (pv 4) ae))) (λ_ _ _ _=>(bj (i:=2) (by change(["place","setting","k","end","n"]:cA Str).Nodup;decide+kernel) rfl (by trivial))) (Ax (by change _<=_ /\ _<_;decide)) (λ_ _ _ _=>dP) (λ_ _ _ _=>(aM (aa (bH dY (pv 0) (bH eQ (pv 3) (pv 2))) (aa (pv 1) ae)))) rfl) (aj (aH (aM (aa (bH eQ (pv 3) (pv 2)) (aa (au T.tidy (oQ T) hr (aa (pv 0) (aa (pv 5) ae))) ae))))))))),?_];try dsimp only[d9]
 exact#[_,inferInstance,?_];rintro vs M q ⟨p,a,n,rfl,p0,p1,hP,hl,hn,hb,k⟩;have Tq:decide (n<0)=true:=bh hn;have sA:=lv hP p1;dsimp?! [Tq];exact#[p,a,rfl,p0,CJ,hl,sA,?_];dsimp?! [];have hB:=C0 p a;exact#[p,bk p a, -n,rfl,p0,p1,CZ p0 a,by omega,by omega,λhe=> ?_,λr hr X3 NW=> ?_];have he':a.1≠0:=λz=>he (by change -a.1=0;omega);let⟨h1,h2,h3⟩:=hb he';exact#[by omega,aw (Nat.mul_le_mul hB (Nat.le_of_eq ?_)) h3];omega;dsimp?! [];have e:(-n).natAbs=n.natAbs:=by omega
 rw[e] at NW;have hm:(bk p a).2.length*n.natAbs<=a.2.length*n.natAbs:=Nat.mul_le_mul_right _ hB;show eC (k r (hr.yH p0 hn) (λh=>aw (X3 (by change -a.1=0;omega)) hB) λh=>aw (NW (by change -a.1≠0;omega)) hm)
theorem Ag {K:Xu}(T:e9 K mg A):bD P w K mg base fh 5 A.iN A.iO ["p","one","n"] (fT K R8):=Yr ((oR T).mono ⋯) (yB T) λ_ _ _=>MT
def Ci {K:Xu}(T:e9 K mg A):bD P w K mg base fh 4 A.xw A.xC ["_law_p_here","_law_one","_law_n"] (fT K R8):=by
 exists T.Et.fn,["_law_p_here","_law_one","_law_n","_law_base","_law_pairs","_law_k"],(ah (bt (aR dn ((pv 1)∪ai) ai (a7 _)) (aj (aH (aM (aa ai (aa (au T.Eu (uC T) hr (aa (pv 0) (aa (aM ae) (aa ((pv 1)∪ai) (aa ai (aa (pv 2) ae)))))) ae))))) aJ) (ah (3\(pv 1)) (ah (bt (aR lN (pv 2) ai (a7 _)) (aj (3\(au T.Jy (Gb T) hr (aa (pv 0) (aa (pv 1) ae))))) aJ) (ah (4\(eP ae)) (ah (iH PassesOwn.never rfl (fi (by rfl) T.hU (aa (bg fO (by rfl) T.sq Boot.«abs» (aa (pv 2) ae)) ae)) (bj (i:=5) nd rfl (by trivial)) (aj (bK (gw aO PySem.F.slot_list_extend PySem.F.type_list_extend Gh (pv 4) (aa (dR rfl (dh.of (sc:=_) (N:= ["_law_p_here","_law_one","_law_n","_law_base","_law_pairs","_law_k"]) (own:= ["_law_place","_law_setting"]) (fr:= [5,3]) (N':= ["_law_place","_law_setting","_law_k","_law_base"])) (oO (K:=K) rfl ((pv 3)∪ai)) (λ_ _ _ _=>(eO (n:=2) rfl (bE (bj (i:=0) (by change(["_law_place","_law_setting","_law_k","_law_base"]:cA Str).Nodup;decide+kernel) rfl (by trivial)) (bE (bj (i:=1) (by change(["_law_place","_law_setting","_law_k","_law_base"]:cA Str).Nodup;decide+kernel) rfl (by trivial)) dQ)))) iQ (λ_ _ _ _=>dP) (λ_ _ _ _=>(aM (aa (bH dY (pv 0) (bH eQ (pv 2) ((pv 3)∪ai))) (aa (pv 1) ae))))) ae))))) (aj (aH (aM (aa (bH eQ ((pv 3)∪ai) (bg fO (by rfl) T.sq Boot.«abs» (aa (pv 2) ae))) (aa (au T.yL (qo T) hr (aa (pv 0) (aa (pv 4) ae))) ae))))))))))
 rintro vs M q ⟨p,a,n,rfl,p0,p1,hP,hl,hb,k⟩;have sA:=lv hP p1;dsimp?! [gM];exact dC (λh=> ?_) λh=> ?_;dsimp?! [gM];exact#[p,[],a.2,0,n,rfl,p0,CJ,⋯,by omega,sA,?_];dsimp?! [];exact eC (k (0,qu p (Ep 0 n a.2)) #[by rw[h,Int.zero_mul],f8 p0 _,λx=> ?_] (λ_=> ?_) λh'=>absurd h h');rw[mM p0,Cm,BQ,Nw,h];unfold ln;by_cases hn:n<0;rw[am hn, <- ui (f:=fw a.2) (g:=λx=> -fw a.2 (x+0)) (λ_=>rfl)];change _=fX (λx=> -fw a.2 (x+0)) 0 (-n).toNat x % p;rw[jQ,Int.add_zero];have:(((-n).toNat:Nat):Int)= -n:=by omega
 rw[this,Int.neg_mul_neg];rw[ak hn,jQ];have:((n.toNat:Nat):Int)=n:=by omega
 rw[this];exact aw (i8 _ _) ?_;rw[Ep,ag];show aq _;let⟨b1,b2,b3⟩:=hb h;exact f9 ?_; simp?! [↓cS];exact f9 ?_; simp?! [↓cS];exact f9 (lU (λρ M'=>M'=M /\ ∃b:WQ.Rd,f_ (ρ= [some (wi p),some (gM a),some (wi n),some (gM b),none,none]) (dI p b.2) (b.2.length<=a.2.length) (b.2.length*n.natAbs<=100000) (∀r,gZ p b n.natAbs r ->gZ p a n r)) ?_ λN hN=> ?_);rintro ρ M' ⟨rfl,b,rfl,hPb,hlb,hbn,abH⟩;have Yi:(if n<0 then -n else n)=(n.natAbs:Int):=by split<;>omega
 dsimp?! [];intro t ht;dsimp?! [Yi];exact#[#[by omega,by omega],lY (λi ρ QO=> ∃o1:eM W,ρ= [some (wi p),some (gM a),some (wi n),some (gM b),some (wr t),o1] /\ QO t=some (.lst ((oM b i).map bY)) /\ Sm M' QO) #[none,rfl,ao,a6 ht] (λ_ _ _ _ _=>trivial) ?_ ?_];rintro i x ρ QO hx ⟨o1,rfl,hM,sM⟩ N hN;let⟨hi,rfl⟩:=jy hx;have cm:gK (0+(i:Int)) b.1=True:=az (.inl #[by omega,by omega]);dsimp?! [hM,gM,gx];exact fD (λz=>bY (z.1+(0+(i:Int))*b.1,z.2)) (big (by omega)) (λ_ _=>trivial) ?_ λu hu=> ?_;intro z hz M3 N3 s3 kA;dsimp?! [bY,cm];show kA;have e:b.2.map (λz=>bY (z.1+(0+(i:Int))*b.1,z.2))=(mv ((i:Int)*b.1) b.2).map bY:=by rw[mv,bi,Int.zero_add];rfl
 rw[e];have htu:t≠u:=cF hM hu;have dO:(((oM b i).map bY).length+((mv ((i:Int)*b.1) b.2).map bY).length<=sizeLine)=True:=az (big (by rw[ag,ag,oK,qw];have h1:(i+1)*b.2.length<=n.natAbs*b.2.length:=Nat.mul_le_mul_right _ (by omega);rw[Nat.succ_mul] at h1;rw[Nat.mul_comm n.natAbs] at h1;omega));dsimp?! [aP htu,hM,dO];exact hN _ _ #[_,rfl,?_,λc o e=> ?_];rw[ao,oM,aB];rw[aP (cF e ht)];show(a6 hu) _ _ (sM c o e);rintro ρ QO ⟨o1,rfl,hM,sM⟩;rw[h_] at hM;have en:((n.natAbs:Int)).toNat=n.natAbs:=by omega
 rw[en] at hM;dsimp only;have cm:gK b.1 (n.natAbs:Int)=True:=az (.inr #[by omega,by omega]);dsimp?! [Yi,gM,cm];exact#[t,p,oM b n.natAbs,rfl,hM,p0,CJ,by rw[oK,Nat.mul_comm];omega,?_];dsimp?! [];exact#[M',sM,k (b.1*(n.natAbs:Int),qu p (oM b n.natAbs)) (abH _ #[rfl,f8 p0 _,λx=> ?_]) (λh'=>absurd h' h) λ_=> ?_];rw[mM p0,wO];unfold ln;rw[ak (by omega)];have:((n.natAbs:Int)).toNat=n.natAbs:=by omega
 rw[this];exact aw (i8 _ _) ?_;rw[oK,Nat.mul_comm];show Nat.mul_le_mul_right _ hlb;dsimp?! [];have hB:=C0 p a;exact dC (λhn=> ?_) λhn=> ?_;dsimp?! [];exact#[p,a,rfl,p0,CJ,hl,sA,?_];dsimp?! [];exact hN _ _ #[rfl,bk p a,rfl,CZ p0 a,hB,aw (Nat.mul_le_mul_right _ hB) b3,λr hr=> ?_];have e:((n.natAbs:Nat):Int)= -n:=by omega
 rw[e] at hr;show hr.yH p0 hn;dsimp?! [];exact hN _ _ #[rfl,a,rfl,hP,aq _,b3,λr hr=> ?_];have e:((n.natAbs:Nat):Int)=n:=by omega
 rw[e] at hr;show hr
def fA {K:Xu}(T:e9 K mg A):bD P w K mg base (gJ P w) 1 A.pD A.pO ["name"] (rf K (Sd A.dm)):=by
 exact w5 T.check_name.fn m8 (by rintro vs M q e ⟨n,rfl,_⟩;rfl) λcdv A' outer s H E e hr hF hP=> ?_;have nd:=m8.nd;exact#[_,(aj (bt (lH (dM (ut rB rB ai (bg qX (by rfl) T.jd Boot.«len» (aa (pv 0) ae)) (fj (by rfl) T.ll.choose_spec (show RelV (.int 12) _ from#[_,rfl])))) (jg (dw (bg (xH rfl) (by rfl) T.QL Boot.«any» (aa (dR rfl (dh.of (sc:=_) (N:= ["name"]) (own:= ["sign"]) (fr:= []) (N':= ["sign"])) (IL (pv 0)) (λ_ _ _ _=>(bj (i:=0) (by change(["sign"]:cA Str).Nodup;decide+kernel) rfl (by trivial))) eo (λ_ _ _ _=>dP) (λ_ _ _ _=>(eU FX (pv 0) (fj (by rfl) T.FA.choose_spec (show RelV (.str "abcdefghijklmnopqrstuvwxyz") _ from#[_,rfl])) (by rfl)))) ae))))).pt (aj (c8 hF rfl (by rfl) T.wH (aa (fH (cr aF (cr (yw (fj (by rfl) T.ll.choose_spec (show RelV (.int 12) _ from#[_,rfl]))) (cr aF gS)))) ae))) aJ)),?_];try dsimp only[d9]
 exact#[_,inferInstance,?_];rintro vs M q ⟨n,rfl,ha,hl,kq,ke⟩;have hz:n.length<=sizeLine:=ce (by omega);have JU:(n.length<=sizeLine)=True:=az hz;dsimp?! [JU];by_cases h1:1<=n.length
 .have e1:decide (1<=(n.length:Int))=true:=bh (by omega);by_cases h2:n.length<=12
  .have e2:decide ((n.length:Int) <=12)=true:=bh (by omega);dsimp?! [e1,e2,ha,aK];exact fD (λc=>wb (!BB c zu)) (by unfold BA;rw[ag, <- str_len];show hz) (λ_ _=>trivial) ?_ λu hu=> ?_;intro c hc M3 N3 s3 kA;dsimp?! [];show kA;exact#[u,(BA n).map λc=> !BB c zu,rfl,by rw[ao,bi];rfl,?_];have e3:((BA n).map λc=> !BB c zu).any id= !cg n:=by have d1:decide (1<=n.length)=true:=bh h1;have d2:decide (n.length<=12)=true:=bh h2;unfold cg;rw[d1,d2,List.any_map,Bool.true_and,Bool.true_and,List.not_all_eq_any_not];rfl
   rw[e3];dsimp?! [];cases hn:cg n with
   | true=> dsimp?! [aK];show#[M,a6 hu,kq hn]
   | false=> dsimp?! [aZ];(repeat (exact#[by first | decide | decide+kernel,?_]));show#[M,a6 hu,ke hn]
  .have e2:decide ((n.length:Int) <=12)=false:=aE (by omega);dsimp?! [e1,e2,aZ];(repeat (exact#[by first | decide | decide+kernel,?_]));show#[M,Sm.refl M,ke (by unfold cg;rw[aE h2];simp)]
 .have e1:decide (1<=(n.length:Int))=false:=aE (by omega);dsimp?! [e1];(repeat (exact#[by first | decide | decide+kernel,?_]));show#[M,Sm.refl M,ke (by unfold cg;rw[aE h1];simp)]
def nj {K:Xu}(T:e9 K mg A):bD P w K mg base fh 1 A.pA A.pL ["things","name","thing"] (fT K RY):=by
 exists T.with_thing.fn,["things","name","thing","changed"],(ah (3\(cT j6 (by rfl) T.y_ Boot.«dict» (aa (pv 0) ae))) (ah (mQ (dW hr) (pv 3) (pv 1) (pv 2) rfl) (aj (aH (pv 3)))))
 rintro vs M q ⟨d,kvs,n,x,rfl,hd,hl,k⟩;dsimp?! [hd];intro u hu;have hs:(kvs.length<sizeLine)=True:=az (k8 (by omega));exact f9 ?_; simp?! [↓cS,hs];show eC (k u hu)
def uA {K:Xu}(T:e9 K mg A):bD P w K mg base fh 1 A.xu A.xA ["things","name"] (fT K IV):=by
 exists T.without.fn,["things","name","changed"],(ah (2\(cT j6 (by rfl) T.y_ Boot.«dict» (aa (pv 0) ae))) (ah (MF (pv 2) (pv 1)) (aj (aH (pv 2)))))
 rintro vs M q ⟨d,kvs,n,rfl,hd,hl,k⟩;dsimp?! [hd];intro u hu;exact f9 ?_; simp?! [↓cS,hl];show eC (k u hu)
def oV {K:Xu}(T:e9 K mg A):bD P w K mg base fh 1 A.Kl A.KI ["self","rounds","teams"] (fT K (WB A.bz)):=by
 have cl:=az T.Page.cl;have n1:=az T.n_Page_rounds;have n2:=az T.n_Page_teams;exists T.Page.fn,["self","rounds","teams"],(ah (iI (pv 0) (pv 1) rfl) (aj (iI (pv 0) (pv 2) rfl)))
 rintro vs M q ⟨s,dx,r,t,rfl,hs,k⟩;have e1:gV "rounds" (wr r) []= [(("rounds" :Str),wr r)]:=rfl;have e2:gV "teams" (wr t) [(("rounds" :Str),wr r)]=kS r t:=rfl;dsimp?! [hs,cl,n1,n2,e1,e2,Nat.reduceLT];show eC k
def Ek {K:Xu}(T:e9 K mg A):bD P w K mg base (gJ P w) 3 A.Km A.KJ ["self","p"] (rf K (Sh A.a4 A.bz A.gp)):=by
 have cl:=az T.Book.cl;have n1:=az T.n_Book_p;have n2:=az T.n_Book_now;have n3:=az T.n_Book_past;have n4:=az T.n_Book_undone;have n5:=az T.n_Book_held;exact w5 T.Book.fn DF (by rintro vs M q e ⟨s,dx,p,rfl,_⟩;rfl) λcdv A' outer s H E e hr hF hP=> ?_;have nd:=DF.nd;exact#[_,(ah (bt (aR (jC (K:=K) rfl) (pv 1) (MP (by rfl) T.HJ) (by rfl)) (aj (c8 hF rfl (by rfl) T.iu (aa aF ae))) aJ) (ah (iI (pv 0) (pv 1) rfl) (ah (iI (pv 0) (iK T.Page (oV T) (hr.mono ⋯) (by rfl) (aa gv (aa gv ae))) rfl) (ah (iI (pv 0) (eP ae) rfl) (ah (iI (pv 0) (eP ae) rfl) (aj (iI (pv 0) (eP ae) rfl))))))),?_];try dsimp only[d9]
 exact#[_,inferInstance,?_];rintro vs M q ⟨s,dx,p,rfl,hs,k,ke⟩;dsimp?! [];exact#[.int p,[.int 2, .int 3, .int 5, .int 7],rfl, .inl rfl,rfl,rfl,?_];by_cases hp:p=2 \/ p=3 \/ p=5 \/ p=7;rotate_left
 .have vc:(if true=true then !CA (.int p) [.int 2, .int 3, .int 5, .int 7] else CA (.int p) [.int 2, .int 3, .int 5, .int 7])=true:=by rw[JS,aE hp];rfl
  rw[vc];dsimp?! [];(repeat (exact#[by first | decide | decide+kernel,?_]));show#[M,λ_ _ h=>h,ke hp]
 replace k:=k hp;have vc:(if true=true then !CA (.int p) [.int 2, .int 3, .int 5, .int 7] else CA (.int p) [.int 2, .int 3, .int 5, .int 7])=false:=by obtain rfl | rfl | rfl | rfl:=hp <;>decide+kernel
 rw[vc];have e1:gV "p" (wi p) []= [(("p" :Str),wi p)]:=rfl;dsimp?! [hs,cl,n1,e1,Nat.reduceLT];intro r jG;dsimp?! [];intro t ht;dsimp?! [];intro pg lg mU CF ku;exact#[pg,lg,r,t,rfl,ao,rfl,?_];have h1:Fs s M (um M s (.ins A.a4 dx [("p",wi p)])):=Fs.self;have h2:=h1.new (o:= .dK []) jG;have h3:=h2.new (o:= .dK []) ht;have h4:=(h3.new (o:= .ins A.bz lg []) mU)
 have Z0:s≠r:=cF ao jG;have nts:s≠t:=cF (by rw[aP Z0];show ao) ht;have nps:s≠pg:=cF (by rw[aP nts,aP Z0];show ao) mU;have nrt:r≠t:=cF ao ht;have nrp:r≠pg:=cF (by rw[aP nrt];show ao) mU;have ntp:t≠pg:=cF ao mU;have f5:Fs s M (um (um (um (um (um M s (.ins A.a4 dx [("p",wi p)])) r (.dK [])) t (.dK [])) pg (.ins A.bz lg [])) pg (.ins A.bz lg (kS r t))):=by rw[j9];show h3.new mU
 have g1:(um (um (um (um (um M s (.ins A.a4 dx [("p",wi p)])) r (.dK [])) t (.dK [])) pg (.ins A.bz lg [])) pg (.ins A.bz lg (kS r t))) s=some (.ins A.a4 dx [("p",wi p)]):=by rw[j9,aP nps,aP nts,aP Z0];show ao
 have g2:(um (um (um (um (um M s (.ins A.a4 dx [("p",wi p)])) r (.dK [])) t (.dK [])) pg (.ins A.bz lg [])) pg (.ins A.bz lg (kS r t))) r=some (.dK []):=by rw[j9,aP nrp,aP nrt];show ao
 have g3:(um (um (um (um (um M s (.ins A.a4 dx [("p",wi p)])) r (.dK [])) t (.dK [])) pg (.ins A.bz lg [])) pg (.ins A.bz lg (kS r t))) t=some (.dK []):=by rw[j9,aP ntp];show ao
 have g4:(um (um (um (um (um M s (.ins A.a4 dx [("p",wi p)])) r (.dK [])) t (.dK [])) pg (.ins A.bz lg [])) pg (.ins A.bz lg (kS r t))) pg=some (.ins A.bz lg (kS r t)):=ao;generalize (um (um (um (um (um M s (.ins A.a4 dx [("p",wi p)])) r (.dK [])) t (.dK [])) pg (.ins A.bz lg [])) pg (.ins A.bz lg (kS r t)))=M4 at f5 g1 g2 g3 g4;clear h1 h2 h3 h4 jG ht mU CF;have e2:gV "now" (wr pg) [(("p" :Str),wi p)]= [(("p" :Str),wi p),("now",wr pg)]:=rfl;dsimp?! [g1,cl,n2,e2,aQ,List.length_nil,Nat.reduceLT];intro la Qt;have Jo:s≠la:=cF ao Qt;have e3:gV "past" (wr la) [(("p" :Str),wi p),("now",wr pg)]= [(("p" :Str),wi p),("now",wr pg),("past",wr la)]:=rfl;dsimp?! [aP Jo,cl,n3,e3,aQ,List.length_nil,Nat.reduceLT];intro lu BE;have Su:s≠lu:=cF ao BE;have Nr:la≠lu:=cF (by rw[aP Jo.symm];show ao) BE;have e4:gV "undone" (wr lu) [(("p" :Str),wi p),("now",wr pg),("past",wr la)]= [(("p" :Str),wi p),("now",wr pg),("past",wr la),("undone",wr lu)]:=rfl;dsimp?! [aP Su,cl,n4,e4,aQ,List.length_nil,Nat.reduceLT];intro lh Ts;have PY:s≠lh:=cF ao Ts;have Sv:la≠lh:=cF (by rw[aP Jo.symm,aP Nr,aP Jo.symm];show ao) Ts;have Ss:lu≠lh:=cF (by rw[aP Su.symm];show ao) Ts;have e5:gV "held" (wr lh) [(("p" :Str),wi p),("now",wr pg),("past",wr la),("undone",wr lu)]=ed p pg la lu lh:=rfl;dsimp?! [aP PY,cl,n5,e5,aQ,List.length_nil,Nat.reduceLT];have F:=((((((Fs.self (M:=M4) (s:=s)).new Qt (o:= .lst [])).put (o:= .ins A.a4 dx [(("p" :Str),wi p),("now",wr pg),("past",wr la)])).new BE (o:= .lst [])).put (o:= .ins A.a4 dx [(("p" :Str),wi p),("now",wr pg),("past",wr la),("undone",wr lu)])).new Ts (o:= .lst [])).put (o:= .ins A.a4 dx (ed p pg la lu lh));exact eC (k _ la lu lh pg #[#[dx,ao],?_,?_,?_,#[Nr,Sv,Ss],lg,r,t,F _ _ g4 nps.symm,F _ _ g2 Z0.symm,F _ _ g3 nts.symm] (f5.trans F) ?_ ?_ ?_ Jo.symm);rw[aP Jo.symm,aP Sv,aP Jo.symm,aP Nr,aP Jo.symm];show ao;rw[aP Su.symm,aP Ss,aP Su.symm];show ao;rw[aP PY.symm];show ao;rw[aP Jo.symm] at Qt;show f5.free Qt Jo.symm;rw[aP Su.symm,aP Nr.symm,aP Su.symm] at BE;show f5.free BE Su.symm;rw[aP PY.symm,aP Ss.symm,aP PY.symm,aP Sv.symm,aP PY.symm] at Ts;show f5.free Ts PY.symm
def qt {K:Xu}(T:e9 K mg A):bD P w K mg base fh 1 A.kF A.kK ["self"] (fT K (FT A.a4 A.bz)):=by
 have cl:=az T.Book.cl;have n1:=az T.n_Book_p;exists T.nD.fn,["self"],(aj (aH (bx (K:=K) rfl (pv 0) rfl)))
 rintro vs M q ⟨b,la,lu,lh,now,p,pa,un,he,R,T',rfl,hB,k⟩;let⟨dx,hb⟩:=hB.ob;dsimp?! [hb,cl,n1,GX];show eC k
def lO {K:Xu}(T:e9 K mg A):bD P w K mg base fh 1 A.nq A.nw ["one","farthest_end","farthest_place"] (fT K IW):=by
 exists T.lies_within.fn,["one","farthest_end","farthest_place","end","pattern"],(ah (gR (pv 0) (eO (n:=2) rfl (bE (bj (i:=3) nd rfl (by trivial)) (bE (bj (i:=4) nd rfl (by trivial)) dQ)))) (aj (aH (nK (eU rB (bg fO (by rfl) T.sq Boot.«abs» (aa (pv 3) ae)) (pv 1) (a7 _)) (lJ (bg (gm rfl) (by rfl) T.vD Boot.«all» (aa (dR rfl (dh.of (sc:=aU je) (N:= ["one","farthest_end","farthest_place","end","pattern"]) (own:= ["place","setting"]) (fr:= [2]) (N':= ["place","setting","farthest_place"])) (qj (pv 4)) (λ_ _ _ _=>(eO (n:=2) rfl (bE (bj (i:=0) (by change(["place","setting","farthest_place"]:cA Str).Nodup;decide+kernel) rfl (by trivial)) (bE (bj (i:=1) (by change(["place","setting","farthest_place"]:cA Str).Nodup;decide+kernel) rfl (by trivial)) dQ)))) iQ (λ_ _ _ _=>dP) (λ_ _ _ _=>(eU rB (bg fO (by rfl) T.sq Boot.«abs» (aa (pv 0) ae)) (pv 2) (a7 _)))) ae)))))))
 rintro vs M q ⟨a,e,r,rfl,hl,k⟩;have sm: ∀u o,M u=none ->Sm M (um M u o):=λu o h=>a6 h;have ef:gF a e r= !(decide ((if a.1<0 then -a.1 else a.1) <=e) && a.2.all λz=>decide ((if z.1<0 then -z.1 else z.1) <=r)):=rfl;dsimp?! [gM,gx];cases h1:decide ((if a.1<0 then -a.1 else a.1) <=e) with
 | false=>rw[h1,Bool.false_and] at ef;rw[ef] at k;dsimp?! [];show eC k
 | true=>rw[h1,Bool.true_and] at ef;rw[ef,Bool.not_not] at k;dsimp?! [];exact fD (λz=>wb (decide ((if z.1<0 then -z.1 else z.1) <=r))) (big (by omega)) (λ_ _=>trivial) ?_ λu hu=> ?_;intro z hz M3 N3 s3 kA;dsimp?! [bY];show kA;exact#[u,a.2.map λz=>decide ((if z.1<0 then -z.1 else z.1) <=r),rfl,by rw[ao,bi];rfl,?_];rw[List.all_map];show#[M,a6 hu,k]
def oU {K:Xu}(T:e9 K mg A):bD P w K mg base fh 2 A.rN A.rW ["one"] (fT K Sc):=by
 exists T.fits_crew.fn,["one"],(aj (aH (au T.lies_within (lO T) hr (aa (pv 0) (aa (fj (by rfl) T.uc.choose_spec (show RelV (.int 8) _ from#[_,rfl])) (aa (fj (by rfl) T.qb.choose_spec (show RelV (.int 24) _ from#[_,rfl])) ae))))))
 rintro vs M q ⟨a,rfl,hl,k⟩;dsimp?! [];show#[a,8,24,rfl,hl,eC k]
def eJ {K:Xu}(T:e9 K mg A):bD P w K mg base fh 1 A.l9 A.mw ["self","page"] (fT K (Wv A.a4 A.bz)):=by
 have cl:=az T.Book.cl;have n2:=az T.n_Book_now;have n3:=az T.n_Book_past;have n4:=az T.n_Book_undone;exists T.fm.fn,["self","page"],(ah (bK (gw aO bB bA dk (bx (K:=K) rfl (pv 0) rfl) (aa (bx (K:=K) rfl (pv 0) rfl) ae))) (ah (iI (pv 0) (eP ae) rfl) (aj (iI (pv 0) (pv 1) rfl))))
 rintro vs M q ⟨b,la,lu,lh,now,pg,p,pa,un,he,R,T',R',T1,rfl,hB,hP,hl,k⟩;let⟨dx,hb⟩:=hB.ob;have hs:((pa.map wr).length<sizeLine)=True:=az (k8 (by rw[ag];omega));have ha:=hB.pa;have LL:b≠la:=λz=>by subst z;rw[hb] at ha;cases ha
 dsimp?! [hb,cl,n2,n3,n4,hJ,K_,ha,hs];intro dS hu;have Nv:la≠dS:=cF ao hu;have Nu:b≠dS:=cF (by rw[aP LL];show hb) hu;dsimp?! [aP Nu,aP LL,hb,cl,n2,n4,Ue,aii,Uc];have NR:M dS=none:=by rwa [aP Nv.symm] at hu
 have F:zw b la M (um (um (um M la (.lst (pa.map wr++ [wr now]))) dS (.lst [])) b (.ins A.a4 dx (ed p pg la dS lh))):=λa o h n1 n2=>by rw[aP n1,aP (cF h NR),aP n2];show h
 have hh:=hB.he;exact eC (k _ dS #[#[dx,ao],?_,?_,F _ _ hh (λz=>by subst z;rw[hb] at hh;cases hh) hB.ne.2.1.symm,#[Nv,hB.ne.2.1,(cF hh NR).symm],F.pg hb ha hP] F NR);rw[aP LL.symm,aP Nv,ao,aB];rfl;rw[aP Nu.symm];show ao
def jD {K:Xu}(T:e9 K mg A):bD P w K mg base fh 1 A.kI A.kO ["self","name"] (fT K (FW A.a4 A.bz)):=by
 have cl:=az T.Book.cl;have qW:=az T.Page.cl;have n2:=az T.n_Book_now;have n3:=az T.n_Page_teams;exists T.jm.fn,["self","name"],(aj (aH (bg (xH rfl) (by rfl) T.QL Boot.«any» (aa (Ed (dR rfl (dh.of (sc:=_) (N:= ["self","name"]) (own:= ["team"]) (fr:= [1]) (N':= ["team","name"])) (ML (bx (K:=K) rfl (bx (K:=K) rfl (pv 0) rfl) rfl)) (λ_ _ _ _=>(bj (i:=0) (by change(["team","name"]:cA Str).Nodup;decide+kernel) rfl (by trivial))) eo (λ_ _ _ _=>dP) (λ_ _ _ _=>(eU (uy (K:=K) rfl) (pv 1) (pv 0) (by rfl))))) ae))))
 rintro vs M q ⟨b,la,lu,lh,now,p,pa,un,he,R,T',n,rfl,hB,hl,k⟩;let⟨dx,hb⟩:=hB.ob;let⟨lg,r,t,h1,h2,h3⟩:=hB.pg;dsimp?! [];exact#[t,_,h3,?_];dsimp?! [hb,h1,cl,qW,n2,n3,hJ,nJ,h3];intro o ks;rw[HI];exact fD (λz=>wb (rJ n z.2)) (big (by omega)) (λM2 s2=>s2 _ _ ao) ?_ λu hu=> ?_;intro z hz M3 N3 s3 kA;dsimp?! [];show tQ kA;have nut:t≠u:=cF ao hu;exact#[o,ks,_,by rw[aP nut];show ao,u,T'.map λz=>rJ n z.2,rfl,by rw[aP nut.symm,ao,bi];rfl,M,Ds h3 hu,?_];rw[List.any_map];show k
def i7 {K:Xu}(T:e9 K mg A):bD P w K mg base (gJ P w) 4 A.vi A.vv ["self","name","one"] (rf K (FU A.a4 A.bz A.dz)):=by
 have cl:=az T.Book.cl;have qW:=az T.Page.cl;have n2:=az T.n_Book_now;have n3:=az T.n_Page_teams;have n4:=az T.n_Page_rounds;exact w5 T.mL.fn rg (by rintro vs M q e ⟨b,la,lu,lh,now,p,pa,un,he,R,T',n,a,rfl,_⟩;rfl) λcdv A' outer s H E e hr hF hP=> ?_;have nd:=rg.nd;exact#[_,(ah (bt (dM (dw (au T.lies_within (lO T) hr (aa (pv 2) (aa (fj (by rfl) T.nE.choose_spec (show RelV (.int 200) _ from#[_,rfl])) (aa (fj (by rfl) T.nE.choose_spec (show RelV (.int 200) _ from#[_,rfl])) ae)))))) (aj (c8 hF rfl (by rfl) T.oa (aa (fH (cr aF (cr (yw (fj (by rfl) T.nE.choose_spec (show RelV (.int 200) _ from#[_,rfl]))) (cr aF gS)))) ae))) aJ) (ah (bt (qi (dw (eI T.jm (jD T) (hr.mono ⋯) (pv 0) (aa (pv 1) ae))) (mO (dM (dw (au T.fits_crew (oU T) hr (aa (pv 2) ae)))))).pt (aj (c8 hF rfl (by rfl) T.oa (aa aF ae))) aJ) (aj (bK (eI T.fm (eJ T) (hr.mono ⋯) (pv 0) (aa (iK T.Page (oV T) (hr.mono ⋯) (by rfl) (aa (au T.with_thing (nj T) hr (aa (bx (K:=K) rfl (bx (K:=K) rfl (pv 0) rfl) rfl) (aa (pv 1) (aa (pv 2) ae)))) (aa (bx (K:=K) rfl (bx (K:=K) rfl (pv 0) rfl) rfl) ae))) ae)))))),?_];try dsimp only[d9]
 exact#[_,inferInstance,?_];rintro vs M q ⟨b,la,lu,lh,now,p,pa,un,he,R,T',n,a,rfl,hB,hl,hlR,hlT,Qt,kq,ke⟩;let⟨dx,hb⟩:=hB.ob;let⟨lg,r,t,h1,h2,h3⟩:=hB.pg;have up: ∀C,e C M ->WL.up e C M:=λC h=>#[M,Sm.refl M,h]
 dsimp?! [];exact#[a,200,200,rfl,Qt,?_];cases hf:gF a 200 200 with
 | true=>dsimp?! [aK,aZ];(repeat (exact#[by first | decide | decide+kernel,?_]));show up _ (ke (by unfold di;rw[hf];rfl))
 | false=>
  dsimp?! [aK,aZ,hb,sj];exact#[b,la,lu,lh,now,p,pa,un,he,R,T',n,rfl,hB,hlT,?_];cases hu:sx T' n with
  | false=>
   have nT:di T' n a=false:=by unfold di;rw[hf,hu];rfl
   dsimp?! [hb,h1,cl,qW,n2,n3,n4,hJ,nJ,qm,gq];rw[jP];dsimp?! [hb,h1,cl,qW,n2,n3,n4,hJ,nJ,qm];exact#[r,_,n,_,rfl,h2,by rw[om];omega,λu hu=> ?_];have NV:=cF hb hu;have nS:=cF h1 hu;dsimp?! [aP NV,aP nS,hb,h1,cl,qW,n2,n3,n4,hJ,nJ,qm];intro pg yX mU CF ku;rw[gr] at mU ⊢;exact#[pg,yX,u,t,rfl,ao,rfl,?_];rw[j9];have s2:=(a6 hu (o:= .dK (sy gM (gQ R n a)))).trans (a6 mU (o:= .ins A.bz yX (kS u t)));have Nn:=cF ao mU;show#[b,la,lu,lh,now,pg,p,pa,un,he,R,T',_,T',rfl,hB.sm s2,#[yX,u,t,ao,by rw[aP Nn];show ao,s2 _ _ h3],hl,λM' dS B' F BE=>eC (kq nT M' dS pg B' (F.sm s2) (s2.free BE) ((a6 hu).free mU))]
  | true=>
   dsimp?! [];exact#[a,rfl,Qt,?_];cases LV:gF a 8 24 with
   | true=>dsimp?! [aK,aZ];(repeat (exact#[by first | decide | decide+kernel,?_]));show up _ (ke (by unfold di;rw[hu,LV,hf];rfl))
   | false=>
    have nT:di T' n a=false:=by unfold di;rw[hf,hu,LV];rfl
    dsimp?! [aK,aZ,hb,h1,cl,qW,n2,n3,n4,hJ,nJ,qm,gq];rw[jP];dsimp?! [hb,h1,cl,qW,n2,n3,n4,hJ,nJ,qm];exact#[r,_,n,_,rfl,h2,by rw[om];omega,λu hu=> ?_];have NV:=cF hb hu;have nS:=cF h1 hu;dsimp?! [aP NV,aP nS,hb,h1,cl,qW,n2,n3,n4,hJ,nJ,qm];intro pg yX mU CF ku;rw[gr] at mU ⊢;exact#[pg,yX,u,t,rfl,ao,rfl,?_];rw[j9];have s2:=(a6 hu (o:= .dK (sy gM (gQ R n a)))).trans (a6 mU (o:= .ins A.bz yX (kS u t)));have Nn:=cF ao mU;show#[b,la,lu,lh,now,pg,p,pa,un,he,R,T',_,T',rfl,hB.sm s2,#[yX,u,t,ao,by rw[aP Nn];show ao,s2 _ _ h3],hl,λM' dS B' F BE=>eC (kq nT M' dS pg B' (F.sm s2) (s2.free BE) ((a6 hu).free mU))]
def dj {K:Xu}(T:e9 K mg A):bD P w K mg base (gJ P w) 1 A.kG A.kL ["self","name"] (rf K (IX A.a4 A.bz A.dL)):=by
 have cl:=az T.Book.cl;have qW:=az T.Page.cl;have n2:=az T.n_Book_now;have n4:=az T.n_Page_rounds;exact w5 T.dJ.fn jx (by rintro vs M q e ⟨b,la,lu,lh,now,p,pa,un,he,R,T',n,rfl,_⟩;rfl) λcdv A' outer s H E e hr hF hP=> ?_;have nd:=jx.nd;exact#[_,(ah (bt (nI (jB (dW hr) (pv 1) (bx (K:=K) rfl (bx (K:=K) rfl (pv 0) rfl) rfl))) (aj (c8 hF rfl (by rfl) T.p_ (aa (fH (cr aF (cr (jh (pv 1)) gS))) ae))) aJ) (aj (aH (eT (dW hr) (bx (K:=K) rfl (bx (K:=K) rfl (pv 0) rfl) rfl) (pv 1) (λ_ _=>rfl))))),?_];try dsimp only[d9]
 exact#[_,inferInstance,?_];rintro vs M q ⟨b,la,lu,lh,now,p,pa,un,he,R,T',n,rfl,hB,hl,kq,ke⟩;let⟨dx,hb⟩:=hB.ob;let⟨lg,r,t,h1,h2,h3⟩:=hB.pg;dsimp?! [hb,h1,h2,cl,qW,n2,n4,hJ,qm,cY];cases hg:cB R n with
 | some a=>dsimp?! [bJ,cj,aK];dsimp?! [hb,h1,h2,cl,qW,n2,n4,hJ,qm,cY,hg,bJ];show eC (kq a hg)
 | none=>dsimp?! [Option.map_none,c_,aZ];(repeat (exact#[by first | decide | decide+kernel | show ce (by omega) | show QB (by right) hl | show QA (by right) hl (by right),?_]));show#[M,Sm.refl M,ke hg]
def nk {K:Xu}(T:e9 K mg A):bD P w K mg base fh 1 A.pE A.pQ ["self"] (fT K (MV A.a4 A.bz)):=by
 have cl:=az T.Book.cl;have qW:=az T.Page.cl;have n2:=az T.n_Book_now;have n4:=az T.n_Page_rounds;exists T.nZ.fn,["self"],(aj (aH (bg (hG rfl) (by rfl) T.jM Boot.«sorted» (aa (bx (K:=K) rfl (bx (K:=K) rfl (pv 0) rfl) rfl) ae))))
 rintro vs M q ⟨b,la,lu,lh,now,p,pa,un,he,R,T',rfl,hB,hl,k⟩;let⟨dx,hb⟩:=hB.ob;let⟨lg,r,t,h1,h2,h3⟩:=hB.pg;dsimp?! [hb,h1,h2,cl,qW,n2,n4,hJ,qm];show#[r,_,R.map (·.1),rfl,h2,oq _ _,by rw[ag];show big (by omega),λu ns hu h3 h4=>eC (k u ns hu h3 h4)]
def nn {K:Xu}(T:e9 K mg A):bD P w K mg base fh 1 A.pG A.pS ["self"] (fT K (MZ A.a4 A.bz)):=by
 have cl:=az T.Book.cl;have qW:=az T.Page.cl;have n2:=az T.n_Book_now;have n4:=az T.n_Page_teams;exists T.n6.fn,["self"],(aj (aH (bg (hG rfl) (by rfl) T.jM Boot.«sorted» (aa (bx (K:=K) rfl (bx (K:=K) rfl (pv 0) rfl) rfl) ae))))
 rintro vs M q ⟨b,la,lu,lh,now,p,pa,un,he,R,T',rfl,hB,hl,k⟩;let⟨dx,hb⟩:=hB.ob;let⟨lg,r,t,h1,h2,h3⟩:=hB.pg;dsimp?! [hb,h1,h3,cl,qW,n2,n4,hJ,nJ];show#[t,_,T'.map (·.1),rfl,h3,oq _ _,by rw[ag];show big (by omega),λu ns hu h3 h4=>eC (k u ns hu h3 h4)]
def yD {K:Xu}(T:e9 K mg A):bD P w K mg base (gJ P w) 5 A.rP A.rY ["self","name","deeds"] (rf K (WN A.a4 A.bz (vB A) Yt)):=by
 have cl:=az T.Book.cl;have n1:=az T.n_Book_p;exact w5 T.xQ.fn ox (by rintro vs M q e ⟨b,la,lu,lh,now,p,pa,un,he,R,T',dd,ys,rfl,⟨n,a,ds,rfl,_⟩,_⟩;rfl) λcdv A' outer s H E e hr hF hP=> ?_;have nd:=ox.nd;exact#[_,(ah (bK (im hP T.check_name (fA T) (hr.mono ⋯) (by rfl) (aa (pv 1) ae))) (aj (bK (cw hP T.mL (i7 T) (hr.mono ⋯) (pv 0) (aa (pv 1) (aa (im hP T.gone (Nh T) (hr.mono ⋯) (by rfl) (aa (bx (K:=K) rfl (pv 0) rfl) (aa (pv 2) ae))) ae)))))),?_];try dsimp only[d9]
 exact#[_,inferInstance,?_];rintro vs M q ⟨b,la,lu,lh,now,p,pa,un,he,R,T',dd,ys,rfl,⟨n,a,ds,rfl,rfl,ha⟩,⟨hn,hd,hw⟩,hB,hS,kq,ke⟩;let⟨dx,hb⟩:=hB.ob;have p0:0<p:=by have:=hS.p4;omega
 have up: ∀C,e C M ->WL.up e C M:=λC h=>#[M,Sm.refl M,h]
 exact#[n,rfl,hn.as,hn.len,λkY=> ?_,λkY=>up _ (ke .BadName (by rw[cD,am kY]))];have CB: ∀ (a':WQ.Rd),a'.2.length<=1000000 ->cD p R T' (.tell n ds)=jE R T' n a' ->FU A.a4 A.bz A.dz [wr b,ws n,gM a'] M (λ_ M1=> ∃M0,Sm M0 M1 /\ q wn M0) (WL.up e):=λa' hl ho=>yo hB hS hl ho kq λr h=>up _ (ke r h);dsimp?! [hb,cl,n1,GX,vC];exact#[a,p,ds,rfl,ha,p0,CJ,by omega,hw,λhg=> ?_,λhg=>up _ (ke .NoDeed ?_)];dsimp?! [];show CB _ (aw (i8 _ _) (aw (jt _) (by omega))) (by rw[cD,ak (by rw[kY];decide),ak (by rw[vd.mpr hg];decide)]);have:ji ds=false:=by
  cases h:ji ds with
  | false=>rfl
  | true=>let⟨d,h1,h2⟩:=hg;show absurd (vd.mp h d h1) h2
 rw[cD,ak (by rw[kY];decide),am this]
def sH {K:Xu}(T:e9 K mg A):bD P w K mg base (gJ P w) 5 A.md A.mB ["self","name","one","other"] (rf K (WN A.a4 A.bz (vB A) Yu)):=by
 have cl:=az T.Book.cl;have n1:=az T.n_Book_p;exact w5 T.p6.fn kg (by rintro vs M q e ⟨b,la,lu,lh,now,p,pa,un,he,R,T',dd,ys,rfl,⟨n,x,y,rfl,_⟩,_⟩;rfl) λcdv A' outer s H E e hr hF hP=> ?_;have nd:=kg.nd;exact#[_,(ah (bK (im hP T.check_name (fA T) (hr.mono ⋯) (by rfl) (aa (pv 1) ae))) (aj (bK (cw hP T.mL (i7 T) (hr.mono ⋯) (pv 0) (aa (pv 1) (aa (au T.joined (Gc T) hr (aa (bx (K:=K) rfl (pv 0) rfl) (aa (cw hP T.dJ (dj T) (hr.mono ⋯) (pv 0) (aa (pv 2) ae)) (aa (cw hP T.dJ (dj T) (hr.mono ⋯) (pv 0) (aa (pv 3) ae)) ae)))) ae)))))),?_];try dsimp only[d9]
 exact#[_,inferInstance,?_];rintro vs M q ⟨b,la,lu,lh,now,p,pa,un,he,R,T',dd,ys,rfl,⟨n,x,y,rfl,rfl⟩,⟨hn,hx,hy⟩,hB,hS,kq,ke⟩;let⟨dx,hb⟩:=hB.ob;have p0:0<p:=by have:=hS.p4;omega
 have up: ∀C,e C M ->WL.up e C M:=λC h=>#[M,Sm.refl M,h]
 dsimp?! [];exact#[n,rfl,hn.as,hn.len,λkY=> ?_,λkY=>up _ (ke .BadName (by rw[cD,am kY]))];have CB: ∀ (a':WQ.Rd),a'.2.length<=1000000 ->cD p R T' (.join n x y)=jE R T' n a' ->FU A.a4 A.bz A.dz [wr b,ws n,gM a'] M (λ_ M1=> ∃M0,Sm M0 M1 /\ q wn M0) (WL.up e):=λa' hl ho=>yo hB hS hl ho kq λr h=>up _ (ke r h);have nS:¬cg n=false:=by rw[kY];decide
 dsimp?! [hb,cl,n1,GX,vC,fe];exact#[b,la,lu,lh,now,p,pa,un,he,R,T',x,rfl,hB,hx.len,λa hg=> ?_,λhg=>up _ (ke .NoRound (by rw[cD,ak nS,hg]))];dsimp?! [hb,cl,n1,GX,vC,fe];exact#[b,la,lu,lh,now,p,pa,un,he,R,T',y,rfl,hB,hy.len,λa2 BF=> ?_,λBF=>up _ (ke .NoRound (by rw[cD,ak nS,hg,BF]))];dsimp?! [];let⟨z,hz,rfl,rfl⟩:=eV hg;let⟨z2,NO,rfl,rfl⟩:=eV BF;have l1:=(hS.r.ok z hz).2.1;have l2:=(hS.r.ok z2 NO).2.1;exact#[p,z.2,z2.2,rfl,p0,CJ,by omega,by omega,?_];dsimp?! [];show CB _ (aw (JI _ _ _) (by omega)) (by rw[cD,ak nS,hg,BF])
def sK {K:Xu}(T:e9 K mg A):bD P w K mg base (gJ P w) 5 A.mh A.mE ["self","name","one"] (rf K (WN A.a4 A.bz (vB A) Yw)):=by
 have cl:=az T.Book.cl;have n1:=az T.n_Book_p;exact w5 T.p9.fn kj (by rintro vs M q e ⟨b,la,lu,lh,now,p,pa,un,he,R,T',dd,ys,rfl,⟨n,x,rfl,_⟩,_⟩;rfl) λcdv A' outer s H E e hr hF hP=> ?_;have nd:=kj.nd;exact#[_,(ah (bK (im hP T.check_name (fA T) (hr.mono ⋯) (by rfl) (aa (pv 1) ae))) (aj (bK (cw hP T.mL (i7 T) (hr.mono ⋯) (pv 0) (aa (pv 1) (aa (au T.backward (lP T) hr (aa (bx (K:=K) rfl (pv 0) rfl) (aa (cw hP T.dJ (dj T) (hr.mono ⋯) (pv 0) (aa (pv 2) ae)) ae))) ae)))))),?_];try dsimp only[d9]
 exact#[_,inferInstance,?_];rintro vs M q ⟨b,la,lu,lh,now,p,pa,un,he,R,T',dd,ys,rfl,⟨n,x,rfl,rfl⟩,⟨hn,hx⟩,hB,hS,kq,ke⟩;let⟨dx,hb⟩:=hB.ob;have p0:0<p:=by have:=hS.p4;omega
 have p1:p<1000:=by have:=hS.p4;omega
 have up: ∀C,e C M ->WL.up e C M:=λC h=>#[M,Sm.refl M,h]
 dsimp?! [];exact#[n,rfl,hn.as,hn.len,λkY=> ?_,λkY=>up _ (ke .BadName (by rw[cD,am kY]))];have CB: ∀ (a':WQ.Rd),a'.2.length<=1000000 ->cD p R T' (.back n x)=jE R T' n a' ->FU A.a4 A.bz A.dz [wr b,ws n,gM a'] M (λ_ M1=> ∃M0,Sm M0 M1 /\ q wn M0) (WL.up e):=λa' hl ho=>yo hB hS hl ho kq λr h=>up _ (ke r h);have nS:¬cg n=false:=by rw[kY];decide
 dsimp?! [hb,cl,n1,GX,vC,fe];exact#[b,la,lu,lh,now,p,pa,un,he,R,T',x,rfl,hB,hx.len,λa hg=> ?_,λhg=>up _ (ke .NoRound (by rw[cD,ak nS,hg]))];dsimp?! [];let⟨z,hz,rfl,rfl⟩:=eV hg;have l1:=(hS.r.ok z hz).2.1;exact#[p,z.2,rfl,p0,CJ,by omega,lv (hS.r.ok z hz).1 p1,?_];dsimp?! [];show CB _ (aw (C0 _ _) (by omega)) (by rw[cD,ak nS,hg])
def qq {K:Xu}(T:e9 K mg A):bD P w K mg base (gJ P w) 6 A.kC A.kJ ["self","name","one","n"] (rf K (WN A.a4 A.bz (vB A) TW)):=by
 have cl:=az T.Book.cl;have n1:=az T.n_Book_p;exact w5 T.nC.fn jw (by rintro vs M q e ⟨b,la,lu,lh,now,p,pa,un,he,R,T',dd,ys,rfl,⟨n,x,j,rfl,_⟩,_⟩;rfl) λcdv A' outer s H E e hr hF hP=> ?_;have nd:=jw.nd;exact#[_,(ah (bK (im hP T.check_name (fA T) (hr.mono ⋯) (by rfl) (aa (pv 1) ae))) (aj (bK (cw hP T.mL (i7 T) (hr.mono ⋯) (pv 0) (aa (pv 1) (aa (au T.repeated (Ag T) hr (aa (bx (K:=K) rfl (pv 0) rfl) (aa (cw hP T.dJ (dj T) (hr.mono ⋯) (pv 0) (aa (pv 2) ae)) (aa (pv 3) ae)))) ae)))))),?_];try dsimp only[d9]
 exact#[_,inferInstance,?_];rintro vs M q ⟨b,la,lu,lh,now,p,pa,un,he,R,T',dd,ys,rfl,⟨n,x,j,rfl,rfl⟩,⟨hn,hx,j0,j1⟩,hB,hS,kq,ke⟩;let⟨dx,hb⟩:=hB.ob;have p0:0<p:=by have:=hS.p4;omega
 have p1:p<1000:=by have:=hS.p4;omega
 have up: ∀C,e C M ->WL.up e C M:=λC h=>#[M,Sm.refl M,h]
 dsimp?! [];exact#[n,rfl,hn.as,hn.len,λkY=> ?_,λkY=>up _ (ke .BadName (by rw[cD,am kY]))];have CB: ∀ (a':WQ.Rd),a'.2.length<=1000000 ->cD p R T' (.times n x j)=jE R T' n a' ->FU A.a4 A.bz A.dz [wr b,ws n,gM a'] M (λ_ M1=> ∃M0,Sm M0 M1 /\ q wn M0) (WL.up e):=λa' hl ho=>yo hB hS hl ho kq λr h=>up _ (ke r h);have nS:¬cg n=false:=by rw[kY];decide
 dsimp?! [hb,cl,n1,GX,vC,fe];exact#[b,la,lu,lh,now,p,pa,un,he,R,T',x,rfl,hB,hx.len,λa hg=> ?_,λhg=>up _ (ke .NoRound (by rw[cD,ak nS,hg]))];dsimp?! [];let⟨z,hz,rfl,rfl⟩:=eV hg;have l1:=(hS.r.ok z hz).2.1;have l3:z.2.2.length*j.natAbs<=401*100:=Nat.mul_le_mul l1 (by omega);exact#[p,z.2,j,rfl,p0,p1,(hS.r.ok z hz).1,by omega,λ_=>#[by omega,by omega,by omega],λr hr X3 NW=> ?_];dsimp?! [];exact CB _ ?_ (by rw[cD,ak nS,hg];simp![DS p0 hr]);by_cases h0:z.2.1=0;have:=X3 h0;omega;have:=NW h0;omega
def yG {K:Xu}(T:e9 K mg A):bD P w K mg base (gJ P w) 3 A.rT A.sf ["self","name"] (rf K (WN A.a4 A.bz (vB A) Yv)):=by
 have cl:=az T.Book.cl;have qW:=az T.Page.cl;have n2:=az T.n_Book_now;have n3:=az T.n_Page_teams;have n4:=az T.n_Page_rounds;exact w5 T.xT.fn oB (by rintro vs M q e ⟨b,la,lu,lh,now,p,pa,un,he,R,T',dd,ys,rfl,⟨n,rfl,_⟩,_⟩;rfl) λcdv A' outer s H E e hr hF hP=> ?_;have nd:=oB.nd;exact#[_,(ah (bK (cw hP T.dJ (dj T) (hr.mono ⋯) (pv 0) (aa (pv 1) ae))) (ah (bt (dw (eI T.jm (jD T) (hr.mono ⋯) (pv 0) (aa (pv 1) ae))) (aj (c8 hF rfl (by rfl) T.Di (aa (fH (cr (jh (pv 1)) (cr aF gS))) ae))) aJ) (aj (bK (eI T.fm (eJ T) (hr.mono ⋯) (pv 0) (aa (iK T.Page (oV T) (hr.mono ⋯) (by rfl) (aa (au T.without (uA T) hr (aa (bx (K:=K) rfl (bx (K:=K) rfl (pv 0) rfl) rfl) (aa (pv 1) ae))) (aa (bx (K:=K) rfl (bx (K:=K) rfl (pv 0) rfl) rfl) ae))) ae)))))),?_];try dsimp only[d9]
 exact#[_,inferInstance,?_];rintro vs M q ⟨b,la,lu,lh,now,p,pa,un,he,R,T',dd,ys,rfl,⟨n,rfl,rfl⟩,hn,hB,hS,kq,ke⟩;let⟨dx,hb⟩:=hB.ob;let⟨lg,r,t,h1,h2,h3⟩:=hB.pg;have up: ∀C,e C M ->WL.up e C M:=λC h=>#[M,Sm.refl M,h]
 have hT:=hS.t;have hPa:=hS.pa;dsimp?! [hb,fe];exact#[b,la,lu,lh,now,p,pa,un,he,R,T',n,rfl,hB,hn.len,λa hg=> ?_,λhg=>up _ (ke .NoRound (by rw[cD,hg]))];dsimp?! [hb,sj];exact#[b,la,lu,lh,now,p,pa,un,he,R,T',n,rfl,hB,by omega,?_];cases hu:sx T' n with
 | true=>dsimp?! [];have n9:=hn.len;(repeat (exact#[by first | decide | decide+kernel | show ce (by omega) | show QB (by right) n9 | show QA (by right) n9 (by right),?_]));show up _ (ke .InUse (by rw[cD,hg];show am hu))
 | false=>
  have ho:cD p R T' (.drop n)= .ok (nW R n):=by rw[cD,hg];show ak (by rw[hu];decide)
  dsimp?! [hb,gq];rw[jP];dsimp?! [hb,h1,cl,qW,n2,n3,n4,hJ,nJ,qm];exact#[r,_,n,rfl,h2,by rw[cY,hg];rfl,λu hu=> ?_];have NV:=cF hb hu;have nS:=cF h1 hu;dsimp?! [aP NV,aP nS,hb,h1,cl,qW,n2,n3,n4,hJ,nJ,qm];intro pg yX mU CF ku;rw[pH] at mU ⊢;exact#[pg,yX,u,t,rfl,ao,rfl,?_];rw[j9];have s2:=(a6 hu (o:= .dK (sy gM (nW R n)))).trans (a6 mU (o:= .ins A.bz yX (kS u t)));have Nn:=cF ao mU;show#[b,la,lu,lh,now,pg,p,pa,un,he,R,T',_,T',rfl,hB.sm s2,#[yX,u,t,ao,by rw[aP Nn];show ao,s2 _ _ h3],by omega,λM' dS B' F BE=>eC (kq _ ho M' dS pg B' (F.sm s2) (s2.free BE) ((a6 hu).free mU))]
def Cj {K:Xu}(T:e9 K mg A):bD P w K mg base fh 2 A.xx A.xD ["_law_draw","_law_many"] (fT K MU):=by
 exists T.Ev.fn,["_law_draw","_law_many","_law_letters","_law_body","_law_cut","_law_start","_law_names_here","_law_k","_law_sign"],(ah (2\aF) (ah (3\(gw PySem.F.plainAttrs_str PySem.F.slot_str_join PySem.F.type_str_join (show YV _ _ (Iw K) from Nx) aF (aa (dR rfl (dh.of (sc:=_) (N:= ["_law_draw","_law_many","_law_letters","_law_body","_law_cut","_law_start","_law_names_here","_law_k","_law_sign"]) (own:= ["_law_k"]) (fr:= [2,0]) (N':= ["_law_k","_law_letters","_law_draw"])) (fi (by rfl) T.hU (aa (au T.bZ (bv T) hr (aa (pv 0) (aa ai ae))) ae)) (λ_ _ _ _=>(bj (i:=0) (by change(["_law_k","_law_letters","_law_draw"]:cA Str).Nodup;decide+kernel) rfl (by trivial))) eo (λ_ _ _ _=>dP) (λ_ _ _ _=>(uv JM (pv 1) (au T.bZ (bv T) hr (aa (pv 2) (aa ai ae))) (λ_ _=>rfl)))) ae))) (ah (4\(au T.bZ (bv T) hr (aa (pv 0) (aa (bH dY (bg qX (by rfl) T.jd Boot.«len» (aa (pv 3) ae)) ai) ae)))) (ah (5\(au T.bZ (bv T) hr (aa (pv 0) (aa ai ae)))) (ah (6\(eP ae)) (ah (iH PassesOwn.never rfl (fi (by rfl) T.hU (aa (pv 1) ae)) (bj (i:=7) nd rfl (by trivial)) (ah (8\(bH Na (uv JM (pv 2) (bH lM (bH dY (pv 5) (bH eQ ai (pv 7))) ai) (λ_ _=>rfl)) (bH dY ai (au T.bZ (bv T) hr (aa (pv 0) (aa ai ae)))))) (aj (bK (gw aO bB bA dk (pv 6) (aa (bH Ej (bH Ej (uu H_ (pv 3) yt (yr (pv 4))) (pv 8)) (uu H_ (pv 3) (yr (pv 4)) yt)) ae)))))) (aj (aH (pv 6)))))))))
 rintro vs M q ⟨d,l,m,rfl,hD,m0,m1,k⟩;have hLz:(zu.length<=sizeLine)=True:=az (by right);dsimp?! [];exact#[d,l,11,rfl,hD,⋯,⋯,λj M1 j0 j1 D1 b1=> ?_];have F1:Fs d M M1:=λa o h n=>by rw[b1 a n];show h
 dsimp?! [];exact#[#[by omega,by omega],Ub (by rw[h_];show big (by omega)) λu hu=> ?_];let⟨Em,nul⟩:=D1.ne hu;have NR:=F1.free hu Em;exact#[λi ys M'=> ∃ss:cA Str,k9 (ys=ss.map ws) (ss.length=i) (∀x∈ss,gL x /\ x.length=1) (M' u=some (.lst ys)) (Dr M' d l) (Fs d M M'),#[[],rfl,rfl,by simp,ao,D1.put hu,F1.new hu],?_,?_,?_];rintro i ys M' _ ⟨ss,rfl,hl,_,hM,_,_⟩;show#[trivial,hM,by rw[ag];omega];rintro i x ys M' hx ⟨ss,rfl,hl,hs,hM,D2,F2⟩ N hN;let⟨hi,rfl⟩:=jy hx;dsimp?! [];exact#[d,l,26,rfl,D2,⋯,⋯,λr M3 r0 r1 D3 b3=> ?_];have F3:Fs d M M3:=F2.trans λa o h n=>by rw[b3 a n];show h
 let⟨c,hc,ac⟩:=Js r0 r1;dsimp?! [hLz,hc];exact#[by rw[b3 u Em];show hM,hN _ _ #[ss++ [⟨#[c]⟩],by rw[aB];rfl,by simp[hl],λx hx=> ?_,by rw[ao],D3.RP Em nul,F3.Ju NR]];obtain h | h:=a8.mp hx;show hs x h;rw[aV.mp h];show#[ac,rfl];rintro ys M' ⟨ss,rfl,hl,hs,hM,D2,F2⟩;rw[h_] at hl;exact S2 hM (c:=1) (λx hx=>by rw[(hs x hx).2];show aq _) (ce (by
  have:(Str.ofString "").length=0:=by right
  rw[this];omega)) ?_
 have Qv:(Builtin.Str.glued (Str.ofString "") ss).length<=10:=aw (px _ ss (c:=1) λx hx=>by rw[(hs x hx).2];show aq _) (by
  have:(Str.ofString "").length=0:=by right
  rw[this];omega)
 have ha0:gL (Builtin.Str.glued (Str.ofString "") ss):=Ld (by right) λx hx=>(hs x hx).1;generalize Builtin.Str.glued (Str.ofString "") ss=bo at Qv ha0;have hbz:(bo.length<=sizeLine)=True:=az (ce (by omega));clear hM hs hl hu b1 D1 F1 NR;dsimp?! [hbz];exact#[d,l,_,rfl,D2,by omega,by omega,λcu M3 c0 c1 D3 b3=> ?_];dsimp?! [];exact#[d,l,26,rfl,D3,⋯,⋯,λsta M4 s0 s1 D4 b4=> ?_];dsimp?! [];have F3:Fs d M M3:=F2.trans λa o h n=>by rw[b3 a n];show h
 have F4:Fs d M M4:=F3.trans λa o h n=>by rw[b4 a n];show h
 intro v hv;let⟨ZY,nvl⟩:=D4.ne hv;have hv0:=F4.free hv ZY;dsimp?! [];exact#[#[by omega,by omega],lY (λi ρ M'=>eh λ(o1 o2:eM W) (ns:cA Str)=>k9 (ρ= [some (wr d),some (wi m),some (ws zu),some (ws bo),some (wi cu),some (wi sta),some (wr v),o1,o2]) (ns.length=i) (∀n∈ns,Nm n) (M' v=some (.lst (ns.map ws))) (Dr M' d l) (Fs d M M')) #[none,none,[],rfl,rfl,by simp,ao,D4.put hv,F4.new hv] (λ_ _ _ _ _=>trivial) ?_ ?_];rintro i x ρ M5 hx ⟨o1,o2,ns,rfl,hl,vU,hM,D5,F5⟩ N hN;let⟨hi,rfl⟩:=jy hx;have cm:gK 7 (0+(i:Int))=True:=az (.inl #[by omega,by omega]);have h26:((0:Int) <26)=True:=az ⋯;let⟨c,hc,ac⟩:=Js (i:=(sta+7*(0+(i:Int))) % 26) (by omega) (by omega);dsimp?! [cm,h26,hLz,hc];exact#[d,l,2,rfl,D5,⋯,⋯,λr M6 r0 r1 D6 b6=> ?_];dsimp?! [];let⟨w,rfl⟩:=Int.eq_ofNat_of_zero_le r0;exact#[⟨#[c]⟩,1+w,rfl,by push_cast;rfl,by omega,by change 1<=1000;decide,?_];have tl:=FF (x:=⟨#[c]⟩) (n:=1+w);have tl':(iz ⟨#[c]⟩ (1+w)).length<=2:=aw tl (by change(1+w)*1<=2;omega);have l1:=Txt.slice_le bo none (some cu);have l2:=Txt.slice_le bo (some cu) none;have z1:((Txt.slice bo none (some cu)).length+(iz ⟨#[c]⟩ (1+w)).length<=sizeLine)=True:=az (ce (by omega));have z2:(((Txt.slice bo none (some cu))++(iz ⟨#[c]⟩ (1+w))).length+(Txt.slice bo (some cu) none).length<=sizeLine)=True:=az (ce (by rw[gs];omega));have F6:Fs d M M6:=F5.trans λa o h n=>by rw[b6 a n];show h
 have N5:M6 v=some (.lst (ns.map ws)):=by rw[b6 v ZY];show hM
 have hls:((ns.map ws).length<sizeLine)=True:=az (k8 (by rw[ag];omega));dsimp?! [hbz,z1,z2,N5,hls];exact hN _ _ #[_,_,ns++ [Txt.slice bo none (some cu)++iz ⟨#[c]⟩ (1+w)++Txt.slice bo (some cu) none],rfl,by simp[hl],λn hn=> ?_,by rw[ao,aB];rfl,D6.RP ZY nvl,F6.Ju hv0];obtain h | h:=a8.mp hn;show vU n h;rw[aV.mp h];show#[Nm.app (Nm.app (Bl ha0) (Lc ac)) (Bl ha0),by rw[gs,gs];omega];rintro ρ M5 ⟨o1,o2,ns,rfl,hl,vU,hM,D5,F5⟩;rw[h_] at hl;dsimp?! [];show eC (k v ns M5 hM (by omega) vU ZY nvl D5 F5 hv0)
def oT {K:Xu}(T:e9 K mg A):bD P w K mg base fh 1 A.rM A.rV ["_law_name"] (fT K MX):=by
 exists T.qx.fn,["_law_name","_law_good"],(ah (1\(bg (gm rfl) (by rfl) T.vD Boot.«all» (aa (dR rfl (dh.of (sc:=_) (N:= ["_law_name","_law_good"]) (own:= ["_law_sign"]) (fr:= []) (N':= ["_law_sign"])) (IL (pv 0)) (λ_ _ _ _=>(bj (i:=0) (by change(["_law_sign"]:cA Str).Nodup;decide+kernel) rfl (by trivial))) eo (λ_ _ _ _=>dP) (λ_ _ _ _=>(eU Sj (pv 0) aF (by rfl)))) ae))) (aj (aH (nK (pv 1) (lJ (IP rB rB ai (bg qX (by rfl) T.jd Boot.«len» (aa (pv 0) ae)) ai))))))
 rintro vs M q ⟨n,rfl,hn,k⟩;have hz:n.length<=sizeLine:=ce (by have:=hn.len;omega);have JU:(n.length<=sizeLine)=True:=az hz;have ha:=hn.as;dsimp?! [JU,ha];exact fD (λc=>wb (BB c zu)) (by unfold BA;rw[ag, <- str_len];show hz) (λ_ _=>trivial) ?_ λu hu=> ?_;intro c hc M3 N3 s3 kA;dsimp?! [];show kA;exact#[u,(BA n).map λc=>BB c zu,rfl,by rw[ao,bi];rfl,?_];have e3:((BA n).map λc=>BB c zu).all id=(BA n).all λc=>BB c zu:=by rw[List.all_map];rfl
 rw[e3];have ek:cg n=(decide (1<=n.length) && decide (n.length<=12) && (BA n).all λc=>BB c zu):=rfl;dsimp?! [JU];cases hA:(BA n).all λc=>BB c zu with
 | false=>rw[hA,Bool.and_false] at ek;rw[ek] at k;dsimp?! [];show#[M,a6 hu,k]
 | true=>rw[hA,Bool.and_true] at ek;dsimp?! [JU];by_cases h1:1<=n.length;have e1:decide (1<=(n.length:Int))=true:=bh (by omega);have e2:decide ((n.length:Int) <=12)=decide (n.length<=12):=decide_eq_decide.mpr (by omega);rw[bh h1,Bool.true_and] at ek;rw[ek] at k;dsimp?! [e1,e2];show#[M,a6 hu,k];have e1:decide (1<=(n.length:Int))=false:=aE (by omega);rw[aE h1,Bool.false_and] at ek;rw[ek] at k;dsimp?! [e1];show#[M,a6 hu,k]
def uE {K:Xu}(T:e9 K mg A):bD P w K mg base fh 1 A.E3 A.Fj ["_law_one","_law_most","_law_reach"] (fT K WD):=by
 exists T.Ey.fn,["_law_one","_law_most","_law_reach"],(aj (aH (Wt (eU Ae (bg fO (by rfl) T.sq Boot.«abs» (aa ((pv 0)∪ai) ae)) (pv 1) (a7 _)) (lJ (B_ (bg (gm rfl) (by rfl) T.vD Boot.«all» (aa (dR rfl (dh.of (sc:=_) (N:= ["_law_one","_law_most","_law_reach"]) (own:= ["_law_place","_law_setting"]) (fr:= [2]) (N':= ["_law_place","_law_setting","_law_reach"])) (oO (K:=K) rfl ((pv 0)∪ai)) (λ_ _ _ _=>(eO (n:=2) rfl (bE (bj (i:=0) (by change(["_law_place","_law_setting","_law_reach"]:cA Str).Nodup;decide+kernel) rfl (by trivial)) (bE (bj (i:=1) (by change(["_law_place","_law_setting","_law_reach"]:cA Str).Nodup;decide+kernel) rfl (by trivial)) dQ)))) iQ (λ_ _ _ _=>dP) (λ_ _ _ _=>(eU rB (bg fO (by rfl) T.sq Boot.«abs» (aa (pv 0) ae)) (pv 2) (a7 _)))) ae)))))))
 rintro vs M q ⟨a,m,r,rfl,hl,k⟩;have ef:gF a m r= !(decide ((if a.1<0 then -a.1 else a.1) <=m) && a.2.all λz=>decide ((if z.1<0 then -z.1 else z.1) <=r)):=rfl;dsimp?! [gM,gx];by_cases h1:(if a.1<0 then -a.1 else a.1) <=m;have e1:decide (m<if a.1<0 then -a.1 else a.1)=false:=aE (by omega);rw[bh h1,Bool.true_and] at ef;rw[ef] at k;dsimp?! [e1];exact fD (λz=>wb (decide ((if z.1<0 then -z.1 else z.1) <=r))) (big (by omega)) (λ_ _=>trivial) ?_ λu hu=> ?_;intro z hz M3 N3 s3 kA;dsimp?! [bY];show kA;exact#[u,a.2.map λz=>decide ((if z.1<0 then -z.1 else z.1) <=r),rfl,by rw[ao,bi];rfl,?_];rw[List.all_map];dsimp?! [];show#[M,a6 hu,k];have e1:decide (m<if a.1<0 then -a.1 else a.1)=true:=bh (by omega);rw[aE h1,Bool.false_and] at ef;rw[ef] at k;dsimp?! [e1];show eC k
def Cg {K:Xu}(T:e9 K mg A):bD P w K mg base fh 5 A.xv A.xB ["_law_p_here","_law_rounds","_law_deed"] (fT K R0):=by
 exists T.Es.fn,["_law_p_here","_law_rounds","_law_deed"],(ah (bt (aR dn ((pv 2)∪ai) aF (a7 _)) (aj (aH (au T.Jw (F_ T) hr (aa (pv 0) (aa ((pv 2)∪ai) ae))))) aJ) (ah (bt (aR dn ((pv 2)∪ai) aF (a7 _)) (aj (aH (au T.Jx (Ga T) hr (aa (pv 0) (aa (eT (dW hr) (pv 1) (((pv 2)∪ai)∪ai) (λ_ _=>rfl)) (aa (eT (dW hr) (pv 1) (((pv 2)∪ai)∪ai) (λ_ _=>rfl)) ae)))))) aJ) (aj (aH (au T.Et (Ci T) hr (aa (pv 0) (aa (eT (dW hr) (pv 1) (((pv 2)∪ai)∪ai) (λ_ _=>rfl)) (aa ((pv 2)∪ai) ae))))))))
 rintro vs M q ⟨p,r,R,dd,w,rfl,hp,jG,hR,hD,hO,Hi,k⟩;have p0:0<p:=by omega
 have p1:p<1000:=by omega
 have s1:decide (("tell" :Str)= "tell")=true:=by right
 have s2:decide (("join" :Str)= "tell")=false:=by right
 have s3:decide (("join" :Str)= "join")=true:=by right
 have s4:decide (("back" :Str)= "tell")=false:=by right
 have s5:decide (("back" :Str)= "join")=false:=by right
 have s6:decide (("times" :Str)= "tell")=false:=by right
 have s7:decide (("times" :Str)= "join")=false:=by right
 cases dd with
 | tell n ds=>let⟨c,rfl,hc⟩:=hD;let⟨hn,hds,hw⟩:=hO;dsimp?! [s1,b8];exact#[c,p,ds,rfl,hc,p0,CJ,by omega,?_];dsimp?! [];show eC (k _ rfl (f8 p0 _) (aw (i8 _ _) (aw (jt _) (by omega))))
 | join n x y=>
  cases hD;rw[i0] at Hi k;cases hx:cB R x with
  | none=>rw[hx] at Hi;cases Hi
  | some a1=>
  cases hy:cB R y with
  | none=>rw[hx,hy] at Hi;cases Hi
  | some a2=>
  rw[hx,hy] at k;let⟨z,hz,_,rfl⟩:=eV hx;let⟨z2,NO,_,rfl⟩:=eV hy;have l1:=(hR.ok z hz).2.1;have l2:=(hR.ok z2 NO).2.1;dsimp?! [s2,b8,jG,cY,hx,hy,bJ,b8];show#[p,z.2,z2.2,rfl,p0,CJ,by omega,by omega,lv (hR.ok z2 NO).1 p1,eC (k _ rfl (S4 p0 _ _) (aw (JI _ _ _) (by omega)))]
 | back n x=>
  cases hD;rw[i0] at Hi k;cases hx:cB R x with
  | none=>rw[hx] at Hi;cases Hi
  | some a1=>
  rw[hx] at k;let⟨z,hz,_,rfl⟩:=eV hx;have l1:=(hR.ok z hz).2.1;dsimp?! [s4,s5,jG,cY,hx,bJ];exact#[p,z.2, -1,rfl,p0,p1,(hR.ok z hz).1,by omega,λ_=>#[by omega,by omega,by change z.2.2.length*1<=100000;omega],λr hr h0 h1=>eC (k _ (by rw[bJ,DS p0 hr]) hr.pt ?_)];by_cases Tg:z.2.1=0;have:=h0 Tg;omega
  .have:=h1 Tg;try simp![Int.natAbs_neg,Int.natAbs_one,Nat.mul_one] at this
   omega
 | times n x j=>
  cases hD;let⟨hn,XD,j0,j1⟩:=hO;rw[i0] at Hi k;cases hx:cB R x with
  | none=>rw[hx] at Hi;cases Hi
  | some a1=>
  rw[hx] at k;let⟨z,hz,_,rfl⟩:=eV hx;have l1:=(hR.ok z hz).2.1;have l3:z.2.2.length*j.natAbs<=401*100:=Nat.mul_le_mul l1 (by omega);dsimp?! [s6,s7,jG,cY,hx,bJ];exact#[p,z.2,j,rfl,p0,p1,(hR.ok z hz).1,by omega,λ_=>#[by omega,by omega,by omega],λr hr h0 h1=>eC (k _ (by rw[bJ,DS p0 hr]) hr.pt ?_)];by_cases Tg:z.2.1=0;have:=h0 Tg;omega
  .have:=h1 Tg;try simp![Int.natAbs_neg,Int.natAbs_one,Nat.mul_one] at this
   omega
 | drop n=>cases Hi
def uF {K:Xu}(T:e9 K mg A):bD P w K mg base fh 6 A.nr A.ny ["_law_p_here","_law_stand","_law_deed"] (fT K WF):=by
 exists T.rF.fn,["_law_p_here","_law_stand","_law_deed","_law_rounds","_law_used","_law_one"],(ah (3\(cT j6 (by rfl) T.y_ Boot.«dict» (aa ((pv 1)∪ai) ae))) (ah (4\(B_ (bg (gm rfl) (by rfl) T.vD Boot.«all» (aa (Ed (dR rfl (dh.of (sc:=_) (N:= ["_law_p_here","_law_stand","_law_deed","_law_rounds","_law_used","_law_one"]) (own:= ["_law_crew"]) (fr:= [2,1]) (N':= ["_law_crew","_law_deed","_law_stand"])) (MM ((pv 1)∪ai)) (λ_ _ _ _=>(bj (i:=0) (by change(["_law_crew","_law_deed","_law_stand"]:cA Str).Nodup;decide+kernel) rfl (by trivial))) eo (λ_ _ _ _=>dP) (λ_ _ _ _=>(eU (jC (K:=K) rfl) ((pv 1)∪ai) (IN (dW hr) ((pv 2)∪ai) (pv 0) (λ_ _=>rfl)) (by rfl))))) ae)))) (ah (bt (aR dn ((pv 2)∪ai) aF (a7 _)) (ah (bt (nI (jB (dW hr) ((pv 2)∪ai) (pv 3))) (aj (aH (aM (aa aF (aa (pv 1) ae))))) aJ) (ah (bt (dw (pv 4)) (aj (aH (aM (aa aF (aa (pv 1) ae))))) aJ) (ah (bK (Ab (pv 3) ((pv 2)∪ai) #[by rfl,by rfl,by rfl,by rfl])) (aj (aH (aM (aa aF (aa (aM (aa (pv 3) (aa ((pv 1)∪ai) ae))) ae)))))))) aJ) (ah (bt (dM (dw (au T.qx (oT T) hr (aa ((pv 2)∪ai) ae)))) (aj (aH (aM (aa aF (aa (pv 1) ae))))) aJ) (ah (bt (qi (aR dn ((pv 2)∪ai) aF (a7 _)) (mO (dM (dw (bg (gm rfl) (by rfl) T.vD Boot.«all» (aa (dR rfl (dh.of (sc:=_) (N:= ["_law_p_here","_law_stand","_law_deed","_law_rounds","_law_used","_law_one"]) (own:= ["_law_word","_law_number"]) (fr:= []) (N':= ["_law_word","_law_number"])) (Ec (K:=K) rfl ((pv 2)∪ai)) (λ_ _ _ _=>(eO (n:=2) rfl (bE (bj (i:=0) (by change(["_law_word","_law_number"]:cA Str).Nodup;decide+kernel) rfl (by trivial)) (bE (bj (i:=1) (by change(["_law_word","_law_number"]:cA Str).Nodup;decide+kernel) rfl (by trivial)) dQ)))) iQ (λ_ _ _ _=>dP) (λ_ _ _ _=>(eU (uy (K:=K) rfl) (pv 0) (aM (aa aF (aa aF ae))) (by rfl)))) ae)))))).pt (aj (aH (aM (aa aF (aa (pv 1) ae))))) aJ) (ah (bt (qi (aR rA ((pv 2)∪ai) aF (a7 _)) (mO (dM (dw (bg (gm rfl) (by rfl) T.vD Boot.«all» (aa (dR rfl (dh.of (sc:=_) (N:= ["_law_p_here","_law_stand","_law_deed","_law_rounds","_law_used","_law_one"]) (own:= ["_law_name"]) (fr:= [3]) (N':= ["_law_name","_law_rounds"])) (Ec (K:=K) rfl ((pv 2)∪ai)) (λ_ _ _ _=>(bj (i:=0) (by change(["_law_name","_law_rounds"]:cA Str).Nodup;decide+kernel) rfl (by trivial))) eo (λ_ _ _ _=>dP) (λ_ _ _ _=>(RW (Ca (dW hr) (pv 0) (pv 1))))) ae)))))).pt (aj (aH (aM (aa aF (aa (pv 1) ae))))) aJ) (ah (5\(au T.Es (Cg T) hr (aa (pv 0) (aa (pv 3) (aa (pv 2) ae))))) (ah (bt (lH (dw (au T.Ey (uE T) hr (aa (pv 5) (aa ai (aa ai ae))))) (jg (qi (dw (pv 4)) (mO (dw (au T.Ey (uE T) hr (aa (pv 5) (aa ai (aa ai ae))))))).pt)).pt (aj (aH (aM (aa aF (aa (pv 1) ae))))) aJ) (ah (mQ (dW hr) (pv 3) ((pv 2)∪ai) (pv 5) rfl) (aj (aH (aM (aa aF (aa (aM (aa (pv 3) (aa ((pv 1)∪ai) ae))) ae))))))))))))))
 rintro vs M q ⟨p,r,t,R,T',dd,w,rfl,hp,⟨jG,ht⟩,⟨hR,hT⟩,hD,hO,kq,ke⟩;have p0:0<p:=by omega
 have rh:decide (("tell" :Str)= "drop")=false:=by right
 dsimp?! [jG];intro u hu;have hsz:((yk R).length<sizeLine)=True:=az (k8 (by rw[om];have:=hR.len;omega));have AE:um M u (.dK (yk R)) t=some (.dK (qd T')):=by rw[aP (cF ht hu)];show ht
 dsimp?! [];exact#[t,_,AE,?_];dsimp?! [AE];intro o ks;have dv: ∃cE,w= .tup (ws (kdOf dd)::ws (gd dd)::cE):=by
  cases dd with
  | tell n ds=>let⟨c,rfl,hc⟩:=hD;show#[_,rfl]
  | _=>cases hD;show#[_,rfl]
 let⟨cE,ew⟩:=dv;have e1:fE (ws (kdOf dd)::ws (gd dd)::cE) 1=some (ws (gd dd)):=hV ⋯ rfl;have ek:(qd T').map (λkv=>iW kv.1)=T'.map λz=>ws z.1:=by unfold qd sy;rw[bi];rfl
 rw[ek];exact fD (λz=>wb (!rJ (gd dd) z.2)) (big (by have:=hT.len;omega)) (λM2 s2=>s2 _ _ ao) ?_ λv hv=> ?_;intro z hz M3 N3 s3 kA;have h3:=s3 _ _ ao;dsimp?! [ew,e1,h3,cY,Kd hT.nd hz,bJ];show nP kA;have nvt:t≠v:=cF ao hv;exact#[o,ks,_,by rw[aP nvt];show ao,v,T'.map λz=> !rJ (gd dd) z.2,rfl,by rw[aP nvt.symm,ao,bi];rfl,?_];have eu:(!(T'.map λz=> !rJ (gd dd) z.2).all id)=sx T' (gd dd):=by rw[List.all_map,List.not_all_eq_any_not];unfold sx;congr 1;funext z;simp
 have s1:=Ds (l:= .lst (T'.map λz=>wb (!rJ (gd dd) z.2))) AE hv;generalize um (um (um (um M u (.dK (yk R))) t (.fz o ks (qd T'))) v (.lst (T'.map λz=>wb (!rJ (gd dd) z.2)))) t (.dK (qd T'))=M1 at s1;generalize wt:(T'.map λz=> !rJ (gd dd) z.2).all id=GY at eu;have n8:M1 u=some (.dK (yk R)):=s1 _ _ ao;have st:Sm M M1:=(a6 hu).trans s1;have LX:=hD.sm st;clear hv nvt s1 AE e1 wt ek;by_cases wo:UN dd
 .obtain⟨k1,k2,k3⟩:=kdn wo;let⟨tail,rfl⟩:=dvn LX wo;dsimp?! [k1,k2,k3,aK];exact#[_,rfl,nmn wo hO,?_];cases kY:cg (gd dd) with
  | false=>dsimp?! [aZ];show#[M,st,ke .BadName (El kY (λ_ z=>by subst z;cases wo))]
  | true=>
  dsimp?! [aK,k1,k2,k3,b8];exact fD (l:=jp dd) (fW:=ws) (λz=>wb (cB R z).isSome) (big (by have:=QR dd;omega)) (λ_ _=>trivial) ?_ λv hv=> ?_;intro z hz M3 N3 s3 kA;dsimp?! [s3 _ _ n8,cY,bT];show kA;exact#[v,(jp dd).map λz=>(cB R z).isSome,rfl,by rw[ao,bi];rfl,?_];have st:=st.trans (a6 hv (o:= .lst ((jp dd).map λz=>wb (cB R z).isSome)));have n8:um M1 v (.lst ((jp dd).map λz=>wb (cB R z).isSome)) u=some (.dK (yk R)):=by rw[aP (cF n8 hv)];show n8
  replace LX:=LX.sm (a6 hv (o:= .lst ((jp dd).map λz=>wb (cB R z).isSome)));generalize um M1 v (.lst ((jp dd).map λz=>wb (cB R z).isSome))=M1 at st n8 LX;clear hv;have ea:((jp dd).map λz=>(cB R z).isSome).all id=(jp dd).all λz=>(cB R z).isSome:=by rw[List.all_map];rfl
  have J_: ∀n' T8,dd= .tell n' T8 ->ji T8=true:=λ_ _ z=>by subst z;cases wo
  rw[ea];cases wt:(jp dd).all λz=>(cB R z).isSome with
  | false=>dsimp?! [aZ];show#[M,st,ke .NoRound (W2 wo kY wt)]
  | true=>
  have JW:=Ml (p:=p) wo wt;dsimp?! [aK];exact#[p,u,R,_,_,rfl,hp,n8,hR,LX,hO,JW,λa ha hP hl=> ?_];have ho:=Jj (T:=T') (dd:=dd) p0 kY J_ ha;dsimp?! [];exact#[a,200,200,rfl,hl,?_];cases hf:gF a 200 200 with
  | true=>dsimp?! [];show#[M,st,ke .TooFar (by rw[ho,jE,am (by unfold di;rw[hf];rfl)])]
  | false=>
   cases xk:sx T' (gd dd) with
   | false=>
    have Ku:(!GY)=false:=eu.trans xk;have nT:di T' (gd dd) a=false:=by unfold di;rw[hf,xk];rfl
    have yR:=ho.trans (ak (by change ¬di T' (gd dd) a=true;rw[nT];decide));dsimp?! [Ku,n8,hsz];exact#[_,Sm.refl _,kq _ yR #[hR,λrK=>hR.put rK hP nT] u _ (st.um hu) hu ?_];rw[ao,gr]
   | true=>
    have Ku:(!GY)=true:=eu.trans xk;dsimp?! [Ku];exact#[a,8,24,rfl,hl,?_];cases LV:gF a 8 24 with
    | true=>dsimp?! [];show#[M,st,ke .TooFar (by rw[ho,jE,am (by unfold di;change(gF a 200 200 || (sx T' (gd dd) && gF a 8 24))=true;rw[hf,xk,LV];rfl)])]
    | false=>
     have nT:di T' (gd dd) a=false:=by unfold di;rw[hf,xk,LV];rfl
     have yR:=ho.trans (ak (by change ¬di T' (gd dd) a=true;rw[nT];decide));dsimp?! [n8,hsz];exact#[_,Sm.refl _,kq _ yR #[hR,λrK=>hR.put rK hP nT] u _ (st.um hu) hu ?_];rw[ao,gr]
 cases dd with
 | join n x y=>show absurd trivial wo
 | back n x=>show absurd trivial wo
 | times n x k=>show absurd trivial wo
 | tell n ds=>
  let⟨c,rfl,hc⟩:=LX;let⟨hn,hds,hw⟩:=id hO;have LX:DV M1 (.tell n ds) (.tup [ws "tell",ws n,wr c]):=#[c,rfl,hc]
  dsimp?! [rh,hc,aK];exact#[n,rfl,hn,?_];cases kY:cg n with
  | false=>dsimp?! [aZ];show#[M,st,ke .BadName (El kY (λ_ z=>nomatch z))]
  | true=>
  dsimp?! [aK,rh,hc,b8,hc];exact fD (l:=ds) (fW:=fU) (λz:Str×Int=>wb (decide (z.1= "go") || decide (z.1= "turn"))) (big (by omega)) (λM2 s2=>s2 _ _ hc) ?_ λv hv=> ?_;intro z hz M3 N3 s3 kA;dsimp?! [fU];show#[.str z.1,[.str "go", .str "turn"],rfl, .inl rfl,rfl,rfl,by rw[Xw];show kA];exact#[v,ds.map λz:Str×Int=>(decide (z.1= "go") || decide (z.1= "turn")),rfl,by rw[ao,bi];rfl,?_];have eg:(ds.map λz:Str×Int=>(decide (z.1= "go") || decide (z.1= "turn"))).all id=ji ds:=by rw[List.all_map];rfl
  rw[eg];have st:=st.trans (a6 hv (o:= .lst (ds.map λz:Str×Int=>wb (decide (z.1= "go") || decide (z.1= "turn")))));have n8:um M1 v (.lst (ds.map λz:Str×Int=>wb (decide (z.1= "go") || decide (z.1= "turn")))) u=some (.dK (yk R)):=by rw[aP (cF n8 hv)];show n8
  have hc:um M1 v (.lst (ds.map λz:Str×Int=>wb (decide (z.1= "go") || decide (z.1= "turn")))) c=some (.lst (ds.map fU)):=by rw[aP (cF hc hv)];show hc
  generalize um M1 v (.lst (ds.map λz:Str×Int=>wb (decide (z.1= "go") || decide (z.1= "turn"))))=M1 at st n8 hc;have LX:DV M1 (.tell n ds) (.tup [ws "tell",ws n,wr c]):=#[c,rfl,hc]
  cases UR:ji ds with
  | false=>dsimp?! [aZ];show#[M,st,ke .NoDeed (by rw[cD,ak (by rw[kY];decide),am UR])]
  | true=>
  have J_: ∀n' T8,dF.tell n ds= .tell n' T8 ->ji T8=true:=λ_ _ z=>by cases z;show UR
  have JW:(i0 p R (.tell n ds)).isSome=true:=rfl;have nt:(("tell" :Str)≠ "tell")=False:=by simp
  dsimp?! [aK,nt,decide_false,ne_eq,not_true,not_true_eq_false];exact#[p,u,R,_,_,rfl,hp,n8,hR,LX,hO,JW,λa ha hP hl=> ?_];have ho:=Jj (T:=T') (dd:= .tell n ds) p0 kY J_ ha;dsimp?! [];exact#[a,200,200,rfl,hl,?_];cases hf:gF a 200 200 with
  | true=>dsimp?! [];show#[M,st,ke .TooFar (by rw[ho,jE,am (by unfold di;rw[hf];rfl)])]
  | false=>
   cases xk:sx T' n with
   | false=>
    have Ku:(!GY)=false:=eu.trans xk;have nT:di T' n a=false:=by unfold di;rw[hf,xk];rfl
    have yR:=ho.trans (ak (by change ¬di T' n a=true;rw[nT];decide));dsimp?! [Ku,n8,hsz];exact#[_,Sm.refl _,kq _ yR #[hR,λrK=>hR.put rK hP nT] u _ (st.um hu) hu ?_];rw[ao,gr];rfl
   | true=>
    have Ku:(!GY)=true:=eu.trans xk;dsimp?! [Ku];exact#[a,8,24,rfl,hl,?_];cases LV:gF a 8 24 with
    | true=>dsimp?! [];show#[M,st,ke .TooFar (by rw[ho,jE,am (by unfold di;change(gF a 200 200 || (sx T' n && gF a 8 24))=true;rw[hf,xk,LV];rfl)])]
    | false=>
     have nT:di T' n a=false:=by unfold di;rw[hf,xk,LV];rfl
     have yR:=ho.trans (ak (by change ¬di T' n a=true;rw[nT];decide));dsimp?! [n8,hsz];exact#[_,Sm.refl _,kq _ yR #[hR,λrK=>hR.put rK hP nT] u _ (st.um hu) hu ?_];rw[ao,gr];rfl
 | drop n=>
  cases LX;dsimp?! [b8,n8,cY,bT];cases hx:cB R n with
  | none=>dsimp?! [c_,aZ];show#[M,st,ke .NoRound (by rw[cD,hx])]
  | some a1=>
   cases xk:sx T' n with
   | true=>have Ku:(!GY)=true:=eu.trans xk;dsimp?! [cj,aK,Ku];show#[M,st,ke .InUse (by rw[cD,hx];show am xk)]
   | false=>have Ku:(!GY)=false:=eu.trans xk;dsimp?! [cj,aK,Ku,n8,cY,hx,bJ];exact#[_,Sm.refl _,kq (nW R n) (by rw[cD,hx];show ak (by rw[xk];decide)) #[hR,λ_=>hR.del] u _ (st.um hu) hu ?_];rw[ao,pH]
def g_ {K:Xu}(T:e9 K mg A):bD P w K mg base (gJ P w) 1 A.rQ A.rZ ["self","crew"] (rf K (Ww A.a4 A.bz A.d5)):=by
 have cl:=az T.Book.cl;have qW:=az T.Page.cl;have n2:=az T.n_Book_now;have n4:=az T.n_Page_teams;exact w5 T.jO.fn oy (by rintro vs M q e ⟨b,la,lu,lh,now,p,pa,un,he,R,T',n,rfl,_⟩;rfl) λcdv A' outer s H E e hr hF hP=> ?_;have nd:=oy.nd;exact#[_,(ah (bt (nI (jB (dW hr) (pv 1) (bx (K:=K) rfl (bx (K:=K) rfl (pv 0) rfl) rfl))) (aj (c8 hF rfl (by rfl) T.zy (aa (fH (cr aF (cr (jh (pv 1)) gS))) ae))) aJ) (aj (aH (eT (dW hr) (bx (K:=K) rfl (bx (K:=K) rfl (pv 0) rfl) rfl) (pv 1) (λ_ _=>rfl))))),?_];try dsimp only[d9]
 exact#[_,inferInstance,?_];rintro vs M q ⟨b,la,lu,lh,now,p,pa,un,he,R,T',n,rfl,hB,hl,kq,ke⟩;let⟨dx,hb⟩:=hB.ob;let⟨lg,r,t,h1,h2,h3⟩:=hB.pg;dsimp?! [hb,h1,h3,cl,qW,n2,n4,hJ,nJ,cY];cases hg:cB T' n with
 | some a=>dsimp?! [bJ,cj,aK];dsimp?! [hb,h1,h3,cl,qW,n2,n4,hJ,nJ,cY,hg,bJ];show eC (kq a hg)
 | none=>dsimp?! [Option.map_none,c_,aZ];(repeat (exact#[by first | decide | decide+kernel | show ce (by omega) | show QB (by right) hl | show QA (by right) hl (by right),?_]));show#[M,Sm.refl M,ke hg]
def sG {K:Xu}(T:e9 K mg A):bD P w K mg base (gJ P w) 2 A.l_ A.mx ["self","crew"] (rf K (I_ A.a4 A.bz A.d5)):=by
 exact w5 T.pZ.fn kf (by rintro vs M q e ⟨b,la,lu,lh,now,p,pa,un,he,R,T',n,rfl,_⟩;rfl) λcdv A' outer s H E e hr hF hP=> ?_;have nd:=kf.nd;exact#[_,(aj (aH (cT fc (by rfl) T.iR Boot.«list» (aa (cw hP T.jO (g_ T) (hr.mono ⋯) (pv 0) (aa (pv 1) ae)) ae)))),?_];try dsimp only[d9]
 exact#[_,inferInstance,?_];rintro vs M q ⟨b,la,lu,lh,now,p,pa,un,he,R,T',n,rfl,hB,hl,kq,ke⟩;let⟨dx,hb⟩:=hB.ob;dsimp?! [hb,tX];exact#[b,la,lu,lh,now,p,pa,un,he,R,T',n,rfl,hB,hl,λa hg=> ?_,λhg=>#[M,Sm.refl M,ke hg]];dsimp?! [fo];show λu hu=>eC (kq a hg u hu)
def gl {K:Xu}(T:e9 K mg A):bD P w K mg base fh 3 A.kH A.kN ["self","crew","team"] (fT K (IY A.a4 A.bz)):=by
 have cl:=az T.Book.cl;have qW:=az T.Page.cl;have n2:=az T.n_Book_now;have n3:=az T.n_Page_teams;have n4:=az T.n_Page_rounds;exists T.gu.fn,["self","crew","team"],(aj (bK (eI T.fm (eJ T) (hr.mono ⋯) (pv 0) (aa (iK T.Page (oV T) (hr.mono ⋯) (by rfl) (aa (bx (K:=K) rfl (bx (K:=K) rfl (pv 0) rfl) rfl) (aa (au T.with_thing (nj T) hr (aa (bx (K:=K) rfl (bx (K:=K) rfl (pv 0) rfl) rfl) (aa (pv 1) (aa (pv 2) ae)))) ae))) ae))))
 rintro vs M q ⟨b,la,lu,lh,now,p,pa,un,he,R,T',c,l,rfl,hB,hPa,hT,k⟩;let⟨dx,hb⟩:=hB.ob;let⟨lg,r,t,h1,h2,h3⟩:=hB.pg;dsimp?! [hb,gq];rw[jP];dsimp?! [hb,h1,cl,qW,n2,n3,n4,hJ,nJ,qm];exact#[t,_,c,_,rfl,h3,by rw[om];omega,λu hu=> ?_];intro pg yX mU CF ku;rw[gr] at mU ⊢;exact#[pg,yX,r,u,rfl,ao,rfl,?_];rw[j9];have s2:=(a6 hu (o:= .dK (sy fo (gQ T' c l)))).trans (a6 mU (o:= .ins A.bz yX (kS r u)));have Nn:=cF ao mU;show#[b,la,lu,lh,now,pg,p,pa,un,he,R,T',R,_,rfl,hB.sm s2,#[yX,r,u,ao,s2 _ _ h2,by rw[aP Nn];show ao],by omega,λM' dS B' F BE=>eC (k M' dS pg B' (F.sm s2) (s2.free BE) ((a6 hu).free mU))]
def v_ {K:Xu}(T:e9 K mg A):bD P w K mg base (gJ P w) 4 A.pF A.pR ["self","crew"] (rf K (tN A.a4 A.bz (vB A) TY)):=by
 have cl:=az T.Book.cl;have qW:=az T.Page.cl;have n2:=az T.n_Book_now;have n3:=az T.n_Page_teams;exact w5 T.vQ.fn m_ (by rintro vs M q e ⟨b,la,lu,lh,now,p,pa,un,he,R,T',dd,ys,rfl,⟨c,rfl,_⟩,_⟩;rfl) λcdv A' outer s H E e hr hF hP=> ?_;have nd:=m_.nd;exact#[_,(ah (bK (im hP T.check_name (fA T) (hr.mono ⋯) (by rfl) (aa (pv 1) ae))) (ah (bt (nI (Ca (dW hr) (pv 1) (bx (K:=K) rfl (bx (K:=K) rfl (pv 0) rfl) rfl))) (aj (c8 hF rfl (by rfl) T.xU (aa (fH (cr aF (cr (jh (pv 1)) gS))) ae))) aJ) (aj (bK (eI T.gu (gl T) (hr.mono ⋯) (pv 0) (aa (pv 1) (aa (aM ae) ae))))))),?_];try dsimp only[d9]
 exact#[_,inferInstance,?_];rintro vs M q ⟨b,la,lu,lh,now,p,pa,un,he,R,T',dd,ys,rfl,⟨c,rfl,rfl⟩,hc,hB,hS,hT,kq,ke⟩;let⟨dx,hb⟩:=hB.ob;let⟨lg,r,t,h1,h2,h3⟩:=hB.pg;have kz:=hc.len;have up: ∀C,e C M ->WL.up e C M:=λC h=>#[M,Sm.refl M,h]
 dsimp?! [];exact#[c,rfl,hc.as,hc.len,λkY=> ?_,λkY=>up _ (ke .BadName (by rw[cI,am kY]))];have nS:¬cg c=false:=by rw[kY];decide
 dsimp?! [hb,h1,h3,cl,qW,n2,n3,hJ,nJ,cY,bT];cases hg:cB T' c with
 | some l=>dsimp?! [cj];(repeat (exact#[by first | decide | decide+kernel | show ce (by omega) | show QB (by right) kz | show QA (by right) kz (by right),?_]));show up _ (ke .Taken (by rw[cI,ak nS,hg]))
 | none=>dsimp?! [c_,hb,mG];show#[b,la,lu,lh,now,p,pa,un,he,R,T',c,[],rfl,hB,hS.pa,hS.t,λM' dS pg B' F h1 h2=>eC (kq _ (by rw[cI,ak nS,hg]) M' dS pg B' F h1 h2)]
def sJ {K:Xu}(T:e9 K mg A):bD P w K mg base (gJ P w) 3 A.mf A.mD ["self","crew"] (rf K (tN A.a4 A.bz (vB A) Kp)):=by
 have cl:=az T.Book.cl;have qW:=az T.Page.cl;have n2:=az T.n_Book_now;have n3:=az T.n_Page_teams;have n4:=az T.n_Page_rounds;exact w5 T.p8.fn ki (by rintro vs M q e ⟨b,la,lu,lh,now,p,pa,un,he,R,T',dd,ys,rfl,⟨c,rfl,_⟩,_⟩;rfl) λcdv A' outer s H E e hr hF hP=> ?_;have nd:=ki.nd;exact#[_,(ah (bK (cw hP T.jO (g_ T) (hr.mono ⋯) (pv 0) (aa (pv 1) ae))) (aj (bK (eI T.fm (eJ T) (hr.mono ⋯) (pv 0) (aa (iK T.Page (oV T) (hr.mono ⋯) (by rfl) (aa (bx (K:=K) rfl (bx (K:=K) rfl (pv 0) rfl) rfl) (aa (au T.without (uA T) hr (aa (bx (K:=K) rfl (bx (K:=K) rfl (pv 0) rfl) rfl) (aa (pv 1) ae))) ae))) ae))))),?_];try dsimp only[d9]
 exact#[_,inferInstance,?_];rintro vs M q ⟨b,la,lu,lh,now,p,pa,un,he,R,T',dd,ys,rfl,⟨c,rfl,rfl⟩,hc,hB,hS,hT,kq,ke⟩;let⟨dx,hb⟩:=hB.ob;let⟨lg,r,t,h1,h2,h3⟩:=hB.pg;have hPa:=hS.pa;have up: ∀C,e C M ->WL.up e C M:=λC h=>#[M,Sm.refl M,h]
 dsimp?! [hb,tX];exact#[b,la,lu,lh,now,p,pa,un,he,R,T',c,rfl,hB,hc.len,λl hg=> ?_,λhg=>up _ (ke .NoCrew (by rw[cI,hg]))];have ho:cI R T' (.disband c)= .ok (nW T' c):=by rw[cI,hg]
 dsimp?! [hb,gq];rw[jP];dsimp?! [hb,h1,cl,qW,n2,n3,n4,hJ,nJ,qm];exact#[t,_,c,rfl,h3,by rw[cY,hg];rfl,λu hu=> ?_];intro pg yX mU CF ku;rw[pH] at mU ⊢;exact#[pg,yX,r,u,rfl,ao,rfl,?_];rw[j9];have s2:=(a6 hu (o:= .dK (sy fo (nW T' c)))).trans (a6 mU (o:= .ins A.bz yX (kS r u)));have Nn:=cF ao mU;show#[b,la,lu,lh,now,pg,p,pa,un,he,R,T',R,_,rfl,hB.sm s2,#[yX,r,u,ao,s2 _ _ h2,by rw[aP Nn];show ao],by omega,λM' dS B' F BE=>eC (kq _ ho M' dS pg B' (F.sm s2) (s2.free BE) ((a6 hu).free mU))]
def uH {K:Xu}(T:e9 K mg A):bD P w K mg base (gJ P w) 4 A.nv A.nA ["self","crew","name"] (rf K (tN A.a4 A.bz (vB A) Oh)):=by
 exact w5 T.su.fn lw (by rintro vs M q e ⟨b,la,lu,lh,now,p,pa,un,he,R,T',dd,ys,rfl,⟨c,n,rfl,_⟩,_⟩;rfl) λcdv A' outer s H E e hr hF hP=> ?_;have nd:=lw.nd;exact#[_,(ah (3\(cw hP T.jO (g_ T) (hr.mono ⋯) (pv 0) (aa (pv 1) ae))) (ah (4\(cw hP T.dJ (dj T) (hr.mono ⋯) (pv 0) (aa (pv 2) ae))) (ah (bt (aR (uy (K:=K) rfl) (pv 2) (pv 3) (by rfl)) (aj (c8 hF rfl (by rfl) T.xU (aa (fH (cr (jh (pv 2)) (cr aF (cr (jh (pv 1)) gS)))) ae))) aJ) (ah (bt (aR Af (bg (ez (K:=K) rfl) (by rfl) T.jd Boot.«len» (aa (pv 3) ae)) (fj (by rfl) T.lj.choose_spec (show RelV (.int 6) _ from#[_,rfl])) (a7 _)) (aj (c8 hF rfl (by rfl) T.wF (aa (fH (cr aF (cr (yw (fj (by rfl) T.lj.choose_spec (show RelV (.int 6) _ from#[_,rfl]))) (cr aF gS)))) ae))) aJ) (ah (bt (dM (dw (au T.fits_crew (oU T) hr (aa (pv 4) ae)))) (aj (c8 hF rfl (by rfl) T.oa (aa (fH (cr (jh (pv 2)) (cr aF gS))) ae))) aJ) (aj (bK (eI T.gu (gl T) (hr.mono ⋯) (pv 0) (aa (pv 1) (aa (bH Ei (pv 3) (aM (aa (pv 2) ae))) ae)))))))))),?_];try dsimp only[d9]
 exact#[_,inferInstance,?_];rintro vs M q ⟨b,la,lu,lh,now,p,pa,un,he,R,T',dd,ys,rfl,⟨c,n,rfl,rfl⟩,⟨hc,hn⟩,hB,hS,hT,kq,ke⟩;let⟨dx,hb⟩:=hB.ob;have kz:=hc.len;have n9:=hn.len;have up: ∀C,e C M ->WL.up e C M:=λC h=>#[M,Sm.refl M,h]
 dsimp?! [hb,tX];exact#[b,la,lu,lh,now,p,pa,un,he,R,T',c,rfl,hB,hc.len,λl hg=> ?_,λhg=>up _ (ke .NoCrew (by rw[cI,hg]))];dsimp?! [hb,fe];exact#[b,la,lu,lh,now,p,pa,un,he,R,T',n,rfl,hB,hn.len,λa BF=> ?_,λBF=>up _ (ke .NoRound (by rw[cI,hg];dsimp only;rw[BF]))];dsimp?! [];exact tQ ?_;let⟨z,hz,_,rfl⟩:=eV BF;cases hi:rJ n l with
 | true=>dsimp?! [];exact#[ce (by omega),QB (by right) n9,QA (by right) n9 (by right),ce (by omega),_x (by right) n9 (by right) kz,_x (by right) n9 (by right) kz,?_];show up _ (ke .Taken (by rw[cI,hg];dsimp only;rw[BF];dsimp only;rw[am hi]))
 | false=>
 have EO:¬rJ n l=true:=by rw[hi];decide
 dsimp?! [fo,ag];by_cases h6:6<=l.length
 .have e6:decide ((6:Int) <=(l.length:Int))=true:=bh (by omega);dsimp?! [e6];(repeat (exact#[by first | decide | decide+kernel,?_]));show up _ (ke .TooMany (by rw[cI,hg];dsimp only;rw[BF];dsimp only;rw[ak EO,am h6]))
 .have e6:decide ((6:Int) <=(l.length:Int))=false:=aE (by omega);dsimp?! [e6];exact#[z.2,rfl,by have:=(hS.r.ok z hz).2.1;omega,?_];cases hf:gF z.2 8 24 with
  | true=>dsimp?! [aK,aZ];(repeat (exact#[by first | decide | decide+kernel | show ce (by omega) | show QB (by right) n9 | show QA (by right) n9 (by right),?_]));show up _ (ke .TooFar (by rw[cI,hg];dsimp only;rw[BF];dsimp only;rw[ak EO,ak h6,am hf]))
  | false=>
   have hsz:((l.map ws).length+ [ws n].length<=sizeLine)=True:=az (big (by rw[ag];simp;omega));dsimp?! [aK,aZ,hb,mG];exact#[big (by rw[ag];omega),?_];have el:W.tup (l.map ws++ [ws n])=fo (l++ [n]):=by unfold fo;rw[aB];rfl
   rw[el];show#[b,la,lu,lh,now,p,pa,un,he,R,T',c,l++ [n],rfl,hB,hS.pa,hS.t,λM' dS pg B' F h1 h2=>eC (kq _ (by rw[cI,hg];dsimp only;rw[BF];dsimp only;rw[ak EO,ak h6,ak (by rw[hf];decide)]) M' dS pg B' F h1 h2)]
def sI {K:Xu}(T:e9 K mg A):bD P w K mg base (gJ P w) 4 A.me A.mC ["self","crew","name"] (rf K (tN A.a4 A.bz (vB A) Ko)):=by
 exact w5 T.p7.fn kh (by rintro vs M q e ⟨b,la,lu,lh,now,p,pa,un,he,R,T',dd,ys,rfl,⟨c,n,rfl,_⟩,_⟩;rfl) λcdv A' outer s H E e hr hF hP=> ?_;have nd:=kh.nd;exact#[_,(ah (3\(cw hP T.jO (g_ T) (hr.mono ⋯) (pv 0) (aa (pv 1) ae))) (ah (bt (aR (jC (K:=K) rfl) (pv 2) (pv 3) (by rfl)) (aj (c8 hF rfl (by rfl) T.p_ (aa (fH (cr (jh (pv 2)) (cr aF (cr (jh (pv 1)) gS)))) ae))) aJ) (aj (bK (eI T.gu (gl T) (hr.mono ⋯) (pv 0) (aa (pv 1) (aa (cT gG (by rfl) T.jc Boot.«tuple» (aa (dR rfl (dh.of (sc:=_) (N:= ["self","crew","name","team"]) (own:= ["member"]) (fr:= [2]) (N':= ["member","name"])) (oO (K:=K) rfl (pv 3)) (λ_ _ _ _=>(bj (i:=0) (by change(["member","name"]:cA Str).Nodup;decide+kernel) rfl (by trivial))) eo (λ_ _ _ _=>(tK (aR rA (pv 0) (pv 1) (a7 _)))) (λ_ _ _ _=>(pv 0))) ae)) ae))))))),?_];try dsimp only[d9]
 exact#[_,inferInstance,?_];rintro vs M q ⟨b,la,lu,lh,now,p,pa,un,he,R,T',dd,ys,rfl,⟨c,n,rfl,rfl⟩,⟨hc,hn⟩,hB,hS,hT,kq,ke⟩;let⟨dx,hb⟩:=hB.ob;have kz:=hc.len;have n9:=hn.len;have up: ∀C,e C M ->WL.up e C M:=λC h=>#[M,Sm.refl M,h]
 dsimp?! [hb,tX];exact#[b,la,lu,lh,now,p,pa,un,he,R,T',c,rfl,hB,hc.len,λl hg=> ?_,λhg=>up _ (ke .NoCrew (by rw[cI,hg]))];dsimp?! [];exact nP ?_;cases hi:rJ n l with
 | false=>dsimp?! [aZ];exact#[ce (by omega),QB (by right) n9,QA (by right) n9 (by right),ce (by omega),_x (by right) n9 (by right) kz,_x (by right) n9 (by right) kz,?_];show up _ (ke .NoRound (by rw[cI,hg];dsimp only;rw[am hi]))
 | true=>dsimp?! [aK,hb,mG,fo];let⟨z,hz,_,rfl⟩:=eV hg;exact vx (λm=>decide (m≠n)) ws (big (by have:=hT.mem z hz;omega)) (λ_ _=>trivial) ?_ λu hu=> ?_;intro m hm M3 N3 s3 kA;dsimp?! [];by_cases h:m=n;rw[aE ⇑h] at kA;rw[bh h];show kA;rw[bh h] at kA;rw[aE h];show kA;dsimp?! [ao];have s2:=a6 hu (o:= .lst ((z.2.filter λm=>decide (m≠n)).map ws));show#[b,la,lu,lh,now,p,pa,un,he,R,T',c,z.2.filter λm=>decide (m≠n),rfl,hB.sm s2,hS.pa,hS.t,λM' dS pg B' F h1 h2=>eC (kq _ (by rw[cI,hg];dsimp only;rw[ak (by rw[hi];decide)]) M' dS pg B' (F.sm s2) (s2.free h1) (s2.free h2))]
def yC {K:Xu}(T:e9 K mg A):bD P w K mg base (gJ P w) 1 A.rO A.rX ["self"] (rf K (PK A.a4 A.bz A.d4)):=by
 have cl:=az T.Book.cl;have n2:=az T.n_Book_now;have n3:=az T.n_Book_past;have n4:=az T.n_Book_undone;exact w5 T.xP.fn ou (by rintro vs M q e ⟨b,la,lu,lh,now,p,pa,un,he,R,T',rfl,_⟩;rfl) λcdv A' outer s H E e hr hF hP=> ?_;have nd:=ou.nd;exact#[_,(ah (bt (dM (wY (bx (K:=K) rfl (pv 0) rfl))) (aj (c8 hF rfl (by rfl) T.tZ (aa aF ae))) aJ) (ah (bK (gw aO bB bA dk (bx (K:=K) rfl (pv 0) rfl) (aa (bx (K:=K) rfl (pv 0) rfl) ae))) (aj (iI (pv 0) (uw aO PySem.F.slot_list_pop PySem.F.type_list_pop Cn (bx (K:=K) rfl (pv 0) rfl)) rfl)))),?_];try dsimp only[d9]
 exact#[_,inferInstance,?_];rintro vs M q ⟨b,la,lu,lh,now,p,pa,un,he,R,T',rfl,hB,hl,ke,kq⟩;let⟨dx,hb⟩:=hB.ob;have ha:=hB.pa;have hu:=hB.un;dsimp?! [hb,cl,n2,n3,n4,K_,OB,hJ,ha,hu];rw[zD ha];cases pa using WP.io with
 | h0=>dsimp?! [List.map_nil,List.isEmpty_nil,aK,aZ];show#[M,Sm.refl M,ke rfl]
 | h1 MQ pg=>
  have ku:((MQ++ [pg]).map wr).isEmpty=false:=by simp
  have hs:((un.map wr).length<sizeLine)=True:=az (k8 (by rw[ag];omega));have LL:b≠la:=λz=>by subst z;rw[hb] at ha;cases ha
  have Nu:b≠lu:=λz=>by subst z;rw[hb] at hu;cases hu
  have Nv:=hB.ne.1;dsimp?! [ku,aK,aZ,hb,cl,n2,n3,n4,K_,OB,hJ,hu,hs,aP Nu];have ha1:um M lu (.lst (un.map wr++ [wr now])) la=some (.lst (MQ.map wr++ [wr pg])):=by rw[aP Nv,ha,aB];rfl
  rw[ha1];exact#[_,rfl,la,_,_,rfl,rfl,ha1,?_];dsimp?! [aP LL,aP Nu,hb,cl,n2,Ue,Uc];have hh:=hB.he;have NV:lh≠b:=λz=>by subst z;rw[hb] at hh;cases hh
  have F:U5 b la lu M (um (um (um M lu (.lst (un.map wr++ [wr now]))) la (.lst (MQ.map wr))) b (.ins A.a4 dx (ed p pg la lu lh))):=λa o h n1 n2 n3=>by rw[aP n1,aP n2,aP n3];show h
  let⟨R',T1,hP,kq⟩:=kq MQ pg rfl;exact eC (kq _ #[#[dx,ao],?_,?_,F _ _ hh NV hB.ne.2.1.symm hB.ne.2.2.symm,hB.ne,F.pg hb ha hu hP] F);rw[aP LL.symm];show ao;rw[aP Nu.symm,aP Nv.symm,ao,aB];rfl
def yE {K:Xu}(T:e9 K mg A):bD P w K mg base (gJ P w) 1 A.rR A.r_ ["self"] (rf K (PP A.a4 A.bz A.d4)):=by
 have cl:=az T.Book.cl;have n2:=az T.n_Book_now;have n3:=az T.n_Book_past;have n4:=az T.n_Book_undone;exact w5 T.xR.fn oz (by rintro vs M q e ⟨b,la,lu,lh,now,p,pa,un,he,R,T',rfl,_⟩;rfl) λcdv A' outer s H E e hr hF hP=> ?_;have nd:=oz.nd;exact#[_,(ah (bt (dM (wY (bx (K:=K) rfl (pv 0) rfl))) (aj (c8 hF rfl (by rfl) T.tZ (aa aF ae))) aJ) (ah (bK (gw aO bB bA dk (bx (K:=K) rfl (pv 0) rfl) (aa (bx (K:=K) rfl (pv 0) rfl) ae))) (aj (iI (pv 0) (uw aO PySem.F.slot_list_pop PySem.F.type_list_pop Cn (bx (K:=K) rfl (pv 0) rfl)) rfl)))),?_];try dsimp only[d9]
 exact#[_,inferInstance,?_];rintro vs M q ⟨b,la,lu,lh,now,p,pa,un,he,R,T',rfl,hB,hl,ke,kq⟩;let⟨dx,hb⟩:=hB.ob;have ha:=hB.pa;have hu:=hB.un;dsimp?! [hb,cl,n2,n3,n4,K_,OB,hJ,ha,hu];rw[zD hu];cases un using WP.io with
 | h0=>dsimp?! [List.map_nil,List.isEmpty_nil,aK,aZ];show#[M,Sm.refl M,ke rfl]
 | h1 Ri pg=>
  have ku:((Ri++ [pg]).map wr).isEmpty=false:=by simp
  have hs:((pa.map wr).length<sizeLine)=True:=az (k8 (by rw[ag];omega));have LL:b≠la:=λz=>by subst z;rw[hb] at ha;cases ha
  have Nu:b≠lu:=λz=>by subst z;rw[hb] at hu;cases hu
  have Nv:=hB.ne.1;dsimp?! [ku,aK,aZ,hb,cl,n2,n3,n4,K_,OB,hJ,ha,hs,aP LL];have n8:um M la (.lst (pa.map wr++ [wr now])) lu=some (.lst (Ri.map wr++ [wr pg])):=by rw[aP Nv.symm,hu,aB];rfl
  rw[n8];exact#[_,rfl,lu,_,_,rfl,rfl,n8,?_];dsimp?! [aP LL,aP Nu,hb,cl,n2,Ue,Uc];have hh:=hB.he;have NV:lh≠b:=λz=>by subst z;rw[hb] at hh;cases hh
  have F:U5 b la lu M (um (um (um M la (.lst (pa.map wr++ [wr now]))) lu (.lst (Ri.map wr))) b (.ins A.a4 dx (ed p pg la lu lh))):=λa o h n1 n2 n3=>by rw[aP n1,aP n3,aP n2];show h
  let⟨R',T1,hP,kq⟩:=kq Ri pg rfl;exact eC (kq _ #[#[dx,ao],?_,?_,F _ _ hh NV hB.ne.2.1.symm hB.ne.2.2.symm,hB.ne,F.pg hb ha hu hP] F);rw[aP LL.symm,aP Nv,ao,aB];rfl;rw[aP Nu.symm];show ao
def yF {K:Xu}(T:e9 K mg A):bD P w K mg base fh 1 A.rS A.se ["self"] (fT K (PQ A.a4 A.bz)):=by
 have cl:=az T.Book.cl;have n2:=az T.n_Book_now;have n3:=az T.n_Book_held;exists T.xS.fn,["self"],(ah (bK (gw aO bB bA dk (bx (K:=K) rfl (pv 0) rfl) (aa (bx (K:=K) rfl (pv 0) rfl) ae))) (aj (aH (bH nM (bg (ez (K:=K) rfl) (by rfl) T.jd Boot.«len» (aa (bx (K:=K) rfl (pv 0) rfl) ae)) ai))))
 rintro vs M q ⟨b,la,lu,lh,now,p,pa,un,he,R,T',rfl,hB,hl,kq⟩;let⟨dx,hb⟩:=hB.ob;have hh:=hB.he;have Z2:b≠lh:=λz=>by subst z;rw[hb] at hh;cases hh
 have hs:(he.length<sizeLine)=True:=az (k8 (by omega));dsimp?! [hb,cl,n2,n3,OC,hJ,hh,ag,hs];have e1:um M lh (.lst (he.map wr++ [wr now])) b=_:=(aP Z2).trans hb;have e2:um M lh (.lst (he.map wr++ [wr now])) lh=some (.lst (he.map wr++ [wr now])):=ao;dsimp?! [e1,e2,cl,n3,OC,aD,ag];have F:zw b lh M (um M lh (.lst (he.map wr++ [wr now]))):=λa o h _ n=>by rw[aP n];show h
 have ev:wi ((he.length+1:Nat) - 1:Int)=wi he.length:=by congr 2;omega
 have kq':=kq _ #[#[dx,e1],by rw[aP hB.ne.2.1];show hB.pa,by rw[aP hB.ne.2.2];show hB.un,by rw[ao,aB];rfl,hB.ne,F.pg hb hh hB.pg] F;rw[<- ev] at kq';show eC kq'
def oW {K:Xu}(T:e9 K mg A):bD P w K mg base (gJ P w) 2 A.jI A.jL ["self","k"] (rf K (Wz A.a4 A.bz A.c9)):=by
 have cl:=az T.Book.cl;have n3:=az T.n_Book_held;exact w5 T.mK.fn i6 (by rintro vs M q e ⟨b,la,lu,lh,now,k,p,pa,un,he,R,T',rfl,_⟩;rfl) λcdv A' outer s H E e hr hF hP=> ?_;have nd:=i6.nd;exact#[_,(ah (bt (dM (ut rB lN ai (pv 1) (bg (ez (K:=K) rfl) (by rfl) T.jd Boot.«len» (aa (bx (K:=K) rfl (pv 0) rfl) ae)))) (aj (c8 hF rfl (by rfl) T.wG (aa (fH (cr aF (cr (yw (pv 1)) gS))) ae))) aJ) (aj (bK (eI T.fm (eJ T) (hr.mono ⋯) (pv 0) (aa ((bx (K:=K) rfl (pv 0) rfl)∩(pv 1)) ae))))),?_];try dsimp only[d9]
 exact#[_,inferInstance,?_];rintro vs M q ⟨b,la,lu,lh,now,k,p,pa,un,he,R,T',rfl,hB,hl,hl2,hk,ke,kq⟩;let⟨dx,hb⟩:=hB.ob;have hh:=hB.he;dsimp?! [hb,cl,n3,OC,hh,ag];have bad:¬(0<=k /\ k<he.length) ->up e A.c9 M:=λh=>#[M,Sm.refl M,ke h]
 have kn:=Np hk;have l1:(Str.ofString "nothing is held under ").length=22:=by right
 have rz:up e A.c9 M ->ci ((Str.empty++Str.ofString "nothing is held under ").length<=sizeLine) (ci (k.natAbs.log2<1920) (ci ((Str.empty++Str.ofString "nothing is held under " ++Str.ofString (toString k)).length<=sizeLine) (ci ((Str.empty++Str.ofString "nothing is held under " ++Str.ofString (toString k)).length<=sizeLine) (up e A.c9 M)))):=λh=>by have hh:(Str.empty++Str.ofString "nothing is held under " ++Str.ofString (toString k)).length<=sizeLine:=ce (by rw[QF,gs];omega);show#[ce (by rw[QF];omega),No hk,hh,hh,h]
 by_cases h0:0<=k;by_cases h1:k<he.length;have d0:=bh h0;have d1:=bh h1;let⟨pg,mU⟩: ∃z,he[k.toNat]? =some z:=#[_,aC (by omega)]
 have ek:fE (he.map wr) k=some (wr pg):=hV h0 (by rw[aL,mU];rfl);let⟨R',T1,hP,kq⟩:=kq pg h0 mU;dsimp?! [d0,d1,aK,hb,cl,n3,OC,hh,ek,gq];show#[b,la,lu,lh,now,pg,p,pa,un,he,R,T',R',T1,rfl,hB,hP,hl,λM' dS B' F hu=>eC (kq M' dS B' F hu)];have d0:=bh h0;have d1:=aE h1;dsimp?! [d0,d1,aZ];show rz (bad λh=>h1 h.2);have d0:=aE h0;dsimp?! [d0];show rz (bad λh=>h0 h.1)
def Ai {K:Xu}(T:e9 K mg A):bD P w K mg base fh 4 A.vg A.vq ["_law_p_here","_law_book","_law_stand"] (fT K (MS A.a4 A.bz)):=by
 have q_:=KY (dj (P:=P) (w:=w) (base:=base) T);have tw:=KY (sG (P:=P) (w:=w) (base:=base) T);exists T.Au.fn,["_law_p_here","_law_book","_law_stand","_law_names_here","_law_crews","_law_name","_law_one","_law_crew","_law_members"],(ah (3\(ik T.nZ (nk T) (hr.mono ⋯) (pv 1))) (ah (4\(ik T.n6 (nn T) (hr.mono ⋯) (pv 1))) (ah (bt (lH (dM (dw (bg (fN (K:=K) rfl) (by rfl) T.c6 Boot.«isinstance» (aa (pv 3) (aa (g0 (by rfl) T.iR Boot.«list» (show RelV (.ty "list") _ from rfl)) ae))))) (jg (aR (show gI _ _ (vZ K) from lL (by show hr.FC)) (pv 3) (bg (hG rfl) (by rfl) T.jM Boot.«sorted» (aa ((pv 2)∪ai) ae)) (a7 _)))).pt (aj (aH fL)) aJ) (ah (bt (lH (dM (dw (bg (fN (K:=K) rfl) (by rfl) T.c6 Boot.«isinstance» (aa (pv 4) (aa (g0 (by rfl) T.iR Boot.«list» (show RelV (.ty "list") _ from rfl)) ae))))) (jg (aR (show gI _ _ (vZ K) from lL (by show hr.FC)) (pv 4) (bg (hG rfl) (by rfl) T.jM Boot.«sorted» (aa ((pv 2)∪ai) ae)) (a7 _)))).pt (aj (aH fL)) aJ) (ah (iH PassesOwn.never rfl (lI (K:=K) rfl (pv 3)) (bj (i:=5) nd rfl (by trivial)) (ah (6\(eI T.dJ q_ (hr.mono ⋯) (pv 1) (aa (pv 5) ae))) (aj (bt (lH (dM (dw (au T.uR (v7 T) hr (aa (pv 0) (aa (pv 6) ae))))) (jg (aR (show gI _ _ (vZ K) from lL (by show hr.FC)) (pv 6) (eT (dW hr) ((pv 2)∪ai) (pv 5) (λ_ _=>rfl)) (a7 _)))).pt (aj (aH fL)) aJ)))) (ah (iH PassesOwn.never rfl (lI (K:=K) rfl (pv 4)) (bj (i:=7) nd rfl (by trivial)) (ah (8\(eI T.pZ tw (hr.mono ⋯) (pv 1) (aa (pv 7) ae))) (ah (bt (lH (dM (dw (bg (fN (K:=K) rfl) (by rfl) T.c6 Boot.«isinstance» (aa (pv 8) (aa (g0 (by rfl) T.iR Boot.«list» (show RelV (.ty "list") _ from rfl)) ae))))) (jg (aR (show gI _ _ (vZ K) from lL (by show hr.FC)) (pv 8) (cT fc (by rfl) T.iR Boot.«list» (aa (eT (dW hr) ((pv 2)∪ai) (pv 7) (λ_ _=>rfl)) ae)) (a7 _)))).pt (aj (aH fL)) aJ) (aj (bK (gw aO PySem.F.slot_list_insert PySem.F.type_list_insert xa (pv 8) (aa ai (aa aF ae)))))))) (ah (bK (uw aO PySem.F.slot_list_clear PySem.F.type_list_clear Ak (pv 3))) (ah (bK (uw aO PySem.F.slot_list_clear PySem.F.type_list_clear Ak (pv 4))) (aj (aH fL))))))))))
 rintro vs M q ⟨b,la,lu,lh,now,r,t,p,pa,un,he,R,T',rfl,hB,⟨jG,ht⟩,hR,⟨hT,dO⟩,k⟩;let⟨dx,hb⟩:=hB.ob;have hRl:=hR.len;dsimp?! [hb,Bg];exact#[b,la,lu,lh,now,p,pa,un,he,R,T',rfl,hB,hRl,λnl ns n9 gE AF=> ?_];have s1:Sm M (um M nl (.lst (ns.map ws))):=a6 n9;have hB1:=hB.sm s1;have Qs:um M nl (.lst (ns.map ws)) nl=some (.lst (ns.map ws)):=ao;generalize um M nl (.lst (ns.map ws))=M1 at s1 hB1 Qs;have N1:=s1 _ _ hb;dsimp?! [N1,Bh];exact#[b,la,lu,lh,now,p,pa,un,he,R,T',rfl,hB1,by have:=hT.len;omega,λcl cs kz hpc hsc=> ?_];have s2:=s1.trans (a6 kz (o:= .lst (cs.map ws)));have hB2:=hB.sm s2;have GA:um M1 cl (.lst (cs.map ws)) nl=some (.lst (ns.map ws)):=a6 kz _ _ Qs;have GD:um M1 cl (.lst (cs.map ws)) cl=some (.lst (cs.map ws)):=ao;generalize um M1 cl (.lst (cs.map ws))=M2 at s2 hB2 GA GD;dsimp?! [GA,GD];exact#[r,_,R.map (·.1),rfl,s2 _ _ jG,oq _ _,by rw[ag];show big (by omega),λv BC hv vb gD=> ?_];have en:=zP vb gE gD AF;subst en;exact lQ (DR.list jk (by rw[aP (cF GA hv)];show GA)) (DR.list jk ao) (vo _) rfl ?_;have s3:=s2.trans (a6 hv (o:= .lst (BC.map ws)));have hB3:=hB.sm s3;have hn3:=a6 hv (o:= .lst (BC.map ws)) _ _ GA;have Ye:=a6 hv (o:= .lst (BC.map ws)) _ _ GD;generalize um M2 v (.lst (BC.map ws))=M3 at s3 hB3 hn3 Ye;dsimp?! [hn3,Ye];exact#[t,_,T'.map (·.1),rfl,s3 _ _ ht,oq _ _,by rw[ag];show big (by have:=hT.len;omega),λv2 UV _i hp2 EN=> ?_];have ec:=zP hp2 hpc EN hsc;subst ec;exact lQ (DR.list jk (by rw[aP (cF Ye _i)];show Ye)) (DR.list jk ao) (vo _) rfl ?_;have s4:=s3.trans (a6 _i (o:= .lst (UV.map ws)));have hB4:=hB.sm s4;have _k:=a6 _i (o:= .lst (UV.map ws)) _ _ hn3;have _n:=a6 _i (o:= .lst (UV.map ws)) _ _ Ye;generalize um M3 v2 (.lst (UV.map ws))=M4 at s4 hB4 _k _n;have hr4:=s4 _ _ jG;have _p:=s4 _ _ hb;dsimp?! [_k];exact lY (λi ρ M'=>cc λ(o1 o2:eM W)=>ρ= [some (wi p),some (wr b),some (.tup [wr r,wr t]),some (wr nl),some (wr cl),o1,o2,none,none] /\ M'=M4) #[none,none,rfl,rfl] (by rintro i ρ M' _ ⟨o1,o2,rfl,rfl⟩;show _k) ?_ ?_;rintro i x ρ M' hx ⟨o1,o2,rfl,rfl⟩ N hN;let⟨nm,kY,rfl⟩: ∃nm,BC[i]? =some nm /\ x=ws nm:=by
  rw[aL] at hx;cases e:BC[i]? with
  | none=>rw[e] at hx;cases hx
  | some y=>rw[e] at hx;cases hx;show#[y,rfl,rfl]
 have vc:nm∈R.map (·.1):=gE.mem_iff.mp (a_ kY);let⟨z,hz,rfl⟩:=List.mem_map.mp vc;let⟨a,hg⟩:=N9 hz;let⟨z2,NO,_,rfl⟩:=eV hg;dsimp?! [_p,fe];exact ye ?_;exact#[b,la,lu,lh,now,p,pa,un,he,R,T',z.1,rfl,hB4,dO z hz,λa' yU=> ?_,λyU=>by rw[hg] at yU;cases yU];have ea:a'=z2.2:=by rw[hg] at yU;show(bp yU).symm
 subst ea;dsimp?! [];exact#[p,z2.2,rfl,(hR.ok z2 NO).1,by have:=(hR.ok z2 NO).2.1;omega,?_];dsimp?! [hr4,cY,hg,bJ];exact W6 rfl ?_;dsimp?! [];show hN _ _ #[_,_,rfl,rfl];rintro ρ M5 ⟨o1,o2,rfl,rfl⟩;dsimp?! [_n];have ht4:=s4 _ _ ht;exact lY (λi ρ M'=>cc λ(o3 o4:eM W)=>ρ= [some (wi p),some (wr b),some (.tup [wr r,wr t]),some (wr nl),some (wr cl),o1,o2,o3,o4] /\ Sm M5 M') #[none,none,rfl,Sm.refl M5] (by rintro i ρ M' _ ⟨o3,o4,rfl,s5⟩;show s5 _ _ _n) ?_ ?_;rintro i x ρ M6 hx ⟨o3,o4,rfl,s5⟩ N hN;let⟨nm,kY,rfl⟩: ∃nm,UV[i]? =some nm /\ x=ws nm:=by
  rw[aL] at hx;cases e:UV[i]? with
  | none=>rw[e] at hx;cases hx
  | some y=>rw[e] at hx;cases hx;show#[y,rfl,rfl]
 have vc:nm∈T'.map (·.1):=hpc.mem_iff.mp (a_ kY);let⟨z,hz,rfl⟩:=List.mem_map.mp vc;have hg:=Kd hT.nd hz;have hb6:=s5 _ _ _p;have ht6:=s5 _ _ ht4;dsimp?! [hb6,CT];exact ye ?_;exact#[b,la,lu,lh,now,p,pa,un,he,R,T',z.1,rfl,hB4.sm s5,hT.key z hz,λa' yU u hu=> ?_,λyU=>by rw[hg] at yU;cases yU];have ea:a'=z.2:=by rw[hg] at yU;show(bp yU).symm
 subst ea;have s6:=s5.trans (a6 hu (o:= .lst (z.2.map ws)));have XG:um M6 u (.lst (z.2.map ws)) u=some (.lst (z.2.map ws)):=ao;have ht7:=s6 _ _ ht4;have abV:M5 u=none:=s5.free hu;generalize um M6 u (.lst (z.2.map ws))=M7 at s6 XG ht7;dsimp?! [XG,ht7,cY,hg,bJ,fo];intro v hv;exact lQ (DR.list jk (by rw[aP (cF XG hv)];show XG)) (DR.list jk ao) (vo _) rfl ?_;have s7:=s6.trans (a6 hv (o:= .lst (z.2.map ws)));have hu7:=a6 hv (o:= .lst (z.2.map ws)) _ _ XG;generalize um M7 v (.lst (z.2.map ws))=M8 at s7 hu7;dsimp?! [hu7];exact#[u,_,ws "zz",0,rfl,rfl,hu7,k8 (by rw[ag];have:=hT.mem z hz;omega),dc _,?_];show hN _ _ #[_,_,rfl,s7.um abV];rintro ρ M6 ⟨o3,o4,rfl,s5⟩;have hn6:=s5 _ _ _k;have hc6:=s5 _ _ _n;have s6:=s4.trans s5;dsimp?! [hn6,hc6];by_cases hcn:cl=nl;subst hcn;dsimp?! [ao];show#[M,s6.um (s1.free kz),k];dsimp?! [aP hcn,hc6];show#[M,(s6.um n9).um (s1.free kz),k]
def sF {K:Xu}(T:e9 K mg A):bD P w K mg base fh 2 A.l7 A.mq ["_law_draw"] (fT K MY):=by
 exists T.o6.fn,["_law_draw","_law_deeds","_law_k","_law_word","_law_way"],(ah (1\(eP ae)) (ah (iH PassesOwn.never rfl (fi (by rfl) T.hU (aa (au T.bZ (bv T) hr (aa (pv 0) (aa ai ae))) ae)) (bj (i:=2) nd rfl (by trivial)) (ah (3\((aM (aa aF (aa aF (aa aF ae))))∪(au T.bZ (bv T) hr (aa (pv 0) (aa ai ae))))) (aj (bK (gw aO bB bA dk (pv 1) (aa (aM (aa (pv 3) (aa (bH nM (au T.bZ (bv T) hr (aa (pv 0) (aa ai ae))) ai) ae))) ae)))))) (ah (4\(au T.bZ (bv T) hr (aa (pv 0) (aa ai ae)))) (ah (bt (aR dn (pv 4) ai (a7 _)) (ah (bK (gw aO bB bA dk (pv 1) (aa (aM (aa aF (aa ((aM (aa ai (aa ai (aa (fZ eE ai) (aa (fZ eE ai) (aa ai (aa ai (aa (fZ eE ai) (aa (fZ eE ai) (aa ai (aa ai (aa (fZ eE ai) (aa (fZ eE ai) ae)))))))))))))∪(au T.bZ (bv T) hr (aa (pv 0) (aa ai ae)))) ae))) ae))) (ah (bK (gw aO bB bA dk (pv 1) (aa (aM (aa aF (aa (au T.bZ (bv T) hr (aa (pv 0) (aa ai ae))) ae))) ae))) (aj (bK (gw aO bB bA dk (pv 1) (aa (aM (aa aF (aa ((aM (aa ai (aa (fZ eE ai) (aa ai (aa (fZ eE ai) (aa ai ae))))))∪(au T.bZ (bv T) hr (aa (pv 0) (aa ai ae)))) ae))) ae)))))) aJ) (ah (bt (aR dn (pv 4) ai (a7 _)) (aj (bK (gw aO PySem.F.slot_list_insert PySem.F.type_list_insert xa (pv 1) (aa (au T.bZ (bv T) hr (aa (pv 0) (aa (bH dY (bg (ez (K:=K) rfl) (by rfl) T.jd Boot.«len» (aa (pv 1) ae)) ai) ae))) (aa (aM (aa ((aM (aa aF (aa aF (aa aF ae))))∪(au T.bZ (bv T) hr (aa (pv 0) (aa ai ae)))) (aa ai ae))) ae))))) aJ) (aj (aH (pv 1))))))))
 rintro vs M q ⟨d,l,rfl,hD,k⟩;dsimp?! [];intro u hu;let⟨Em,nul⟩:=hD.ne hu;have D0:=hD.put hu (o:= .lst []);have F0:Fs d M (um M u (.lst [])):=λa o h n=>by rw[aP (cF h hu)];show h
 have NR:um M u (.lst []) u=some (.lst (([]:cA (Str×Int)).map fU)):=ao;generalize um M u (.lst [])=M1 at D0 F0 NR;dsimp?! [];exact#[d,l,5,rfl,D0,⋯,⋯,λm M2 m0 m1 D2 b2=> ?_];have F2:Fs d M M2:=λa o h n=>by rw[b2 a n];show F0 a o h n
 have hu2:M2 u=some (.lst (([]:cA (Str×Int)).map fU)):=by rw[b2 u Em];show NR
 have put: ∀ (M':Mp) (o:MO),Dr M' d l ->Fs d M M' ->Dr (um M' u o) d l /\ Fs d M (um M' u o):=λM' o hD' hF=>#[hD'.RP Em nul,λa o' h n=>by rw[aP (cF h hu)];show hF a o' h n]
 have dr: ∀ (M' QO:Mp),NB d M' QO ->Fs d M M' ->Fs d M QO:=λM' QO hb hF a o h n=>by rw[hb a n];show hF a o h n
 have wd: ∀ {ds:cA (Str×Int)} {z:Str×Int},(∀y∈ds,y.1.length<=100) ->z.1.length<=100 -> ∀y∈ds++ [z],y.1.length<=100:=λ{ds z} h hz y hy=>by obtain h' | h':=a8.mp hy;show h y h';rw[aV.mp h'];show hz
 have sz: ∀ {ds:cA (Str×Int)},ds.length<=50 ->((ds.map fU).length<sizeLine)=True:=λ{ds} h=>az (k8 (by rw[ag];omega));have snoc: ∀ (ds:cA (Str×Int)) (z:Str×Int),(MO.lst (ds.map fU++ [fU z]))= .lst ((ds++ [z]).map fU):=λds z=>by rw[aB];rfl
 simp?! [↓cS];exact#[#[by omega,by omega],lY (λi ρ M'=>eh λ(o1 o2:eM W) (ds:cA (Str×Int))=>k9 (ρ= [some (wr d),some (wr u),o1,o2,none]) (ds.length=i) (∀y∈ds,y.1.length<=100) (M' u=some (.lst (ds.map fU))) (Dr M' d l) (Fs d M M')) #[none,none,[],rfl,rfl,by simp,hu2,D2,F2] (λ_ _ _ _ _=>trivial) ?_ ?_]
 .rintro i x ρ M3 hx ⟨o1,o2,ds,rfl,hl,hw,hM,D3,F3⟩ N hN;let⟨hi,rfl⟩:=jy hx;dsimp?! [];exact#[d,l,3,rfl,D3,⋯,⋯,λr M4 r0 r1 D4 b4=> ?_];have TM:M4 u=some (.lst (ds.map fU)):=by rw[b4 u Em];show hM
  have F4:=dr _ _ b4 F3;have hr3:r=0 \/ r=1 \/ r=2:=by omega
  obtain rfl | rfl | rfl:=hr3;all_goals
   dsimp?! [YE,TM]
   exact#[d,l,7,rfl,D4,⋯,⋯,λx M5 x0 x1 D5 b5=> ?_]
   have TK:M5 u=some (.lst (ds.map fU)):=by rw[b5 u Em];show TM
   have F5:=dr _ _ b5 F4
   dsimp?! [TK,sz (ds:=ds) (by omega)]
   exact hN _ _ #[_,_,ds++ [(_,x - 3)],rfl,by simp[hl],wd hw ?_,by rw[ao];show congrArg some (snoc ds (_,x - 3)),(put _ _ D5 F5).1,(put _ _ D5 F5).2]
   first | show(by right:Str.length "go" <=100) | show(by right:Str.length "turn" <=100)
 rintro ρ M3 ⟨o1,o2,ds,rfl,hl,hw,hM,D3,F3⟩;rw[h_] at hl;have hl4:ds.length<=4:=by omega
 clear hl;simp?! [↓cS];exact f9 ?_;simp?! [↓cS];exact#[d,l,12,rfl,D3,⋯,⋯,λwy M4 w0 w1 D4 b4=> ?_];have TM:M4 u=some (.lst (ds.map fU)):=by rw[b4 u Em];show hM
 have F4:=dr _ _ b4 F3;simp?! [↓cS];exact f9 (lU (λρ M'=> ∃ds:cA (Str×Int),k9 (ρ= [some (wr d),some (wr u),o1,o2,some (wi wy)]) (ds.length<=7) (∀y∈ds,y.1.length<=100) (M' u=some (.lst (ds.map fU))) (Dr M' d l) (Fs d M M')) ?_ λN hN=> ?_);clear TM F4 hM D3 F3 hl4 hw;rintro ρ M5 ⟨ds,rfl,hl,hw,TK,D5,F5⟩;exact lU (λρ M'=> ∃ds:cA (Str×Int),k9 (ρ= [some (wr d),some (wr u),o1,o2,some (wi wy)]) (ds.length<=8) (∀y∈ds,y.1.length<=100) (M' u=some (.lst (ds.map fU))) (Dr M' d l) (Fs d M M')) ?_ λN hN=> ?_;rintro ρ M6 ⟨ds,rfl,hl,hw,N5,D6,F6⟩;dsimp?! [];show eC (k u ds M6 hu N5 (by omega) hw D6 F6);simp?! [↓cS];exact dC (λh=> ?_) λh=>hN _ _ #[ds,rfl,by omega,hw,TK,D5,F5];dsimp?! [TK,ag];exact#[d,l,_,rfl,D5,by omega,by omega,λj M6 j0 j1 D6 b6=> ?_];have N5:M6 u=some (.lst (ds.map fU)):=by rw[b6 u Em];show TK
 have F6:=dr _ _ b6 F5;dsimp?! [];exact#[d,l,3,rfl,D6,⋯,⋯,λr M7 r0 r1 D7 b7=> ?_];have hM7:M7 u=some (.lst (ds.map fU)):=by rw[b7 u Em];show N5
 have F7:=dr _ _ b7 F6;dsimp?! [];exact mR (λx=> ∃e:Str,x=ws e /\ e.length<=100) r0 (by change r< ((3:Nat):Int);omega) (λx hx=> ?_) ?_;simp![aS,List.not_mem_nil,or_false] at hx;obtain h | h | h:=hx <;>show#[_,h,by right];rintro _ ⟨v,rfl,hv⟩;let⟨jn,rfl⟩:=Int.eq_ofNat_of_zero_le j0;dsimp?! [];exact#[u,_,fU (v,1),jn,rfl,rfl,hM7,k8 (by rw[ag];omega),by rw[ag];omega,?_];have em:(ds.map fU).take jn++fU (v,1)::(ds.map fU).drop jn=(ds.take jn++(v,1)::ds.drop jn).map fU:=by rw[aB,aT,List.map_take,List.map_drop]
 rw[em];exact hN _ _ #[ds.take jn++(v,1)::ds.drop jn,rfl,by simp;omega,λy hy=> ?_,ao,(put _ _ D7 F7).1,(put _ _ D7 F7).2];obtain h' | h':=a8.mp hy;show hw y (List.mem_of_mem_take h');obtain h' | h':=aS.mp h';rw[h'];show hv;show hw y (List.mem_of_mem_drop h');simp?! [↓cS];exact dC (λh=> ?_) λh=>hN _ _ #[ds,rfl,by omega,hw,TM,D4,F4];dsimp?! [TM];exact#[⋯,d,l,12,rfl,D4,⋯,⋯,λj M5 j0 j1 D5 b5=> ?_];have TK:M5 u=some (.lst (ds.map fU)):=by rw[b5 u Em];show TM
 have F5:=dr _ _ b5 F4;dsimp?! [];exact mR (λx=> ∃e:Int,x=wi e) j0 (by change j< ((12:Nat):Int);omega) (λx hx=> ?_) ?_;simp![aS,List.not_mem_nil,or_false] at hx;obtain h | h | h | h | h | h | h | h | h | h | h | h:=hx <;>show#[_,h];rintro _ ⟨v,rfl⟩;dsimp?! [TK,sz (ds:=ds) (by omega)];have P6:=put M5 (.lst (ds.map fU++ [fU ("go",v)])) D5 F5;have N5:um M5 u (.lst (ds.map fU++ [fU ("go",v)])) u=some (.lst ((ds++ [(("go" :Str),v)]).map fU)):=by rw[ao,snoc]
 have w6:=wd (z:=("go",v)) hw (by change Str.length "go" <=100;decide+kernel);have l6:(ds++ [(("go" :Str),v)]).length<=5:=by simp;omega
 change mF _ _ (um M5 u (.lst (ds.map fU++ [fU ("go",v)]))) _;generalize um M5 u (.lst (ds.map fU++ [fU ("go",v)]))=M6 at P6 N5 ⊢;generalize ds++ [(("go" :Str),v)]=d6 at N5 w6 l6;let⟨D6,F6⟩:=P6;exact#[d,l,2,rfl,D6,⋯,⋯,λx7 M7 _ _ D7 b7=> ?_];have hM7:M7 u=some (.lst (d6.map fU)):=by rw[b7 u Em];show N5
 have F7:=dr _ _ b7 F6;dsimp?! [hM7,sz (ds:=d6) (by omega)];have P8:=put M7 (.lst (d6.map fU++ [fU ("turn",x7)])) D7 F7;have hM8:um M7 u (.lst (d6.map fU++ [fU ("turn",x7)])) u=some (.lst ((d6++ [(("turn" :Str),x7)]).map fU)):=by rw[ao,snoc]
 have w8:=wd (z:=("turn",x7)) w6 (by change Str.length "turn" <=100;decide+kernel);have l8:(d6++ [(("turn" :Str),x7)]).length<=6:=by simp;omega
 change mF _ _ (um M7 u (.lst (d6.map fU++ [fU ("turn",x7)]))) _;generalize um M7 u (.lst (d6.map fU++ [fU ("turn",x7)]))=M8 at P8 hM8 ⊢;generalize d6++ [(("turn" :Str),x7)]=d8 at hM8 w8 l8;let⟨D8,F8⟩:=P8;exact#[d,l,5,rfl,D8,⋯,⋯,λx9 M9 x90 x91 D9 b9=> ?_];have hM9:M9 u=some (.lst (d8.map fU)):=by rw[b9 u Em];show hM8
 have F9:=dr _ _ b9 F8;dsimp?! [];exact mR (λx=> ∃e:Int,x=wi e) x90 (by change x9< ((5:Nat):Int);omega) (λx hx=> ?_) ?_;simp![aS,List.not_mem_nil,or_false] at hx;obtain h | h | h | h | h:=hx <;>show#[_,h];rintro _ ⟨v9,rfl⟩;dsimp?! [hM9,sz (ds:=d8) (by omega)];show hN _ _ #[d8++ [(("go" :Str),v9)],rfl,by simp;omega,wd (z:=("go",v9)) w8 (by change Str.length "go" <=100;decide+kernel),by rw[ao];show congrArg some (snoc d8 ("go",v9)),(put _ _ D9 F9).1,(put _ _ D9 F9).2]
def gy {K:Xu}(T:e9 K mg A):bD P w K mg base fh 2 A.vf A.vp ["_law_draw","_law_names_here"] (fT K yx):=by
 exists T.jF.fn,["_law_draw","_law_names_here"],(ah (bt (aR dn (au T.bZ (bv T) hr (aa (pv 0) (aa ai ae))) ai (a7 _)) (aj (aH ((aM (aa aF (aa aF (aa aF (aa aF (aa aF (aa aF (aa aF (aa aF (aa aF (aa aF ae)))))))))))∪(au T.bZ (bv T) hr (aa (pv 0) (aa ai ae)))))) aJ) (aj (aH ((pv 1)∩(au T.bZ (bv T) hr (aa (pv 0) (aa (bg (ez (K:=K) rfl) (by rfl) T.jd Boot.«len» (aa (pv 1) ae)) ae)))))))
 rintro vs M q ⟨d,l,nl,ns,rfl,hD,n9,LK,⟨n0,n1⟩,vU,k⟩;dsimp?! [];exact#[d,l,15,rfl,hD,⋯,⋯,λm M2 m0 m1 D2 b2=> ?_];dsimp?! [];exact dC (λh=> ?_) λh=> ?_;dsimp?! [];exact#[⋯,d,l,10,rfl,D2,⋯,⋯,λj M3 j0 j1 D3 b3=> ?_];dsimp?! [];exact mR (λx=> ∃e:Str,x=ws e /\ Nm e) j0 (by change j< ((10:Nat):Int);omega) (λx hx=> ?_) ?_;simp![aS,List.not_mem_nil,or_false] at hx;obtain h | h | h | h | h | h | h | h | h | h:=hx <;>show#[_,h,by right,by right];rintro _ ⟨v,rfl,hv⟩;show eC (k v _ hv D3 (NB.trans b2 b3));have XX:M2 nl=some (.lst (ns.map ws)):=by rw[b2 nl LK];show n9
 dsimp?! [XX,ag];exact#[d,l,_,rfl,D2,by omega,by omega,λj M3 j0 j1 D3 b3=> ?_];have abM:M3 nl=some (.lst (ns.map ws)):=by rw[b3 nl LK];show XX
 let⟨z,hz⟩: ∃z,ns[j.toNat]? =some z:=#[_,aC (by omega)]
 have ek:fE (ns.map ws) j=some (ws z):=hV j0 (by rw[aL,hz];rfl);dsimp?! [abM,ek];show eC (k z _ (vU z (a_ hz)) D3 (NB.trans b2 b3))
def sC {K:Xu}(T:e9 K mg A):bD P w K mg base fh 3 A.l0 A.ml ["_law_draw","_law_names_here"] (fT K R9):=by
 exists T.oY.fn,["_law_draw","_law_names_here","_law_name","_law_one","_law_way"],(ah (2\(au T.jF (gy T) hr (aa (pv 0) (aa (pv 1) ae)))) (ah (3\(au T.jF (gy T) hr (aa (pv 0) (aa (pv 1) ae)))) (ah (4\(au T.bZ (bv T) hr (aa (pv 0) (aa ai ae)))) (ah (bt (aR lN (pv 4) ai (a7 _)) (aj (aH (aM (aa aF (aa (pv 2) (aa (au T.o6 (sF T) hr (aa (pv 0) ae)) ae)))))) aJ) (ah (bt (aR dn (pv 4) ai (a7 _)) (aj (aH (aM (aa aF (aa (pv 2) (aa (aM (aa (pv 3) (aa (au T.jF (gy T) hr (aa (pv 0) (aa (pv 1) ae))) ae))) ae)))))) aJ) (ah (bt (aR dn (pv 4) ai (a7 _)) (aj (aH (aM (aa aF (aa (pv 2) (aa (aM (aa (pv 3) ae)) (aa (fZ eE ai) ae))))))) aJ) (ah (bt (aR dn (pv 4) ai (a7 _)) (aj (aH (aM (aa aF (aa (pv 2) (aa (aM (aa (pv 3) ae)) (aa ((aM (aa (bH nM (au T.bZ (bv T) hr (aa (pv 0) (aa ai ae))) ai) (aa (bH nM (au T.bZ (bv T) hr (aa (pv 0) (aa ai ae))) ai) ae)))∪(au T.bZ (bv T) hr (aa (pv 0) (aa ai ae)))) ae))))))) aJ) (aj (aH (aM (aa aF (aa (pv 2) ae))))))))))))
 rintro vs M q ⟨d,l,nl,ns,rfl,hD,n9,LK,n0,vU,k⟩;have tg: ∀ (M':Mp) (q':WK),Dr M' d l ->NB d M M' ->(∀ (n:Str) (M2:Mp),Nm n ->Dr M2 d l ->NB d M M2 ->q' (ws n) M2) ->yx [wr d,wr nl] M' q':=λM' q' D' b' k'=>#[d,l,nl,ns,rfl,D',by rw[b' nl LK];show n9,LK,n0,vU,λn M2 hn D2 b2=>k' n M2 hn D2 (NB.trans b' b2)]
 have fs: ∀M':Mp,NB d M M' ->Fs d M M':=λM' b a o h n=>by rw[b a n];show h
 dsimp?! [];exact tg M _ hD (λ_ _=>rfl) λn M1 hn D1 b1=> ?_;dsimp?! [];exact tg M1 _ D1 b1 λx M2 hx D2 b2=> ?_;dsimp?! [];exact#[d,l,8,rfl,D2,⋯,⋯,λwy M3 w0 w1 D3 b3=> ?_];replace b3:=NB.trans b2 b3;dsimp?! [];exact dC (λh=> ?_) λh=> ?_;dsimp?! [];exact#[d,l,rfl,D3,λu ds M4 hu hM hl hw D4 F4=> ?_];dsimp?! [];show eC (k (.tell n ds) _ M4 #[u,rfl,hM] #[hn,hl,hw] (λa n' e=>by cases e;rw[<- b3 u (D3.ne hu).1];show hu) D4 (λa o h n=>F4 a o (by rw[b3 a n];show h) n));dsimp?! [];exact dC (λh=> ?_) λh=> ?_;dsimp?! [];exact tg M3 _ D3 b3 λy M4 hy D4 b4=> ?_;dsimp?! [];show eC (k (.join n x y) _ M4 rfl #[hn,hx,hy] (λa n' e=>nomatch e) D4 (fs _ b4));dsimp?! [];exact dC (λh=> ?_) λh=> ?_;dsimp?! [];show eC (k (.back n x) _ M3 rfl #[hn,hx] (λa n' e=>nomatch e) D3 (fs _ b3));dsimp?! [];exact dC (λh=> ?_) λh=> ?_;dsimp?! [];exact#[d,l,7,rfl,D3,⋯,⋯,λy1 M4 y0 y2 D4 b4=> ?_];dsimp?! [];exact#[d,l,101,rfl,D4,⋯,⋯,λz1 M5 z0 z2 D5 b5=> ?_];dsimp?! [];exact#[d,l,2,rfl,D5,⋯,⋯,λr M6 r0 r1 D6 b6=> ?_];dsimp?! [];exact mR (λx=> ∃e:Int,cW (x=wi e) (-100<=e) (e<=100)) r0 (by change r< ((2:Nat):Int);omega) (λx hx=> ?_) ?_;simp![aS,List.not_mem_nil,or_false] at hx;obtain h | h:=hx <;>show#[_,h,by omega,by omega];rintro _ ⟨v,rfl,v0,v1⟩;dsimp?! [];show eC (k (.times n x v) _ M6 rfl #[hn,hx,v0,v1] (λa n' e=>nomatch e) D6 (fs _ (NB.trans (NB.trans (NB.trans b3 b4) b5) b6)));dsimp?! [];show eC (k (.drop n) _ M3 rfl hn (λa n' e=>nomatch e) D3 (fs _ b3))
def sE {K:Xu}(T:e9 K mg A):bD P w K mg base fh 2 A.l5 A.mn ["_law_stand","_law_deed"] (fT K PU):=by
 exists T.o0.fn,["_law_stand","_law_deed","_law_names_here"],(ah (2\(eT (dW hr) ((pv 0)∪ai) ((pv 1)∪ai) (λ_ _=>rfl))) (ah (bt (aR dn ((pv 1)∪ai) aF (a7 _)) (ah (bt (aR (jC (K:=K) rfl) ((pv 1)∪ai) (pv 2) (by rfl)) (aj (aH (aM (aa aF (aa (aM ae) ae))))) aJ) (aj (aH (aM (aa aF (aa (cT gG (by rfl) T.jc Boot.«tuple» (aa (dR rfl (dh.of (sc:=_) (N:= ["_law_stand","_law_deed","_law_names_here"]) (own:= ["_law_name"]) (fr:= [1]) (N':= ["_law_name","_law_deed"])) (oO (K:=K) rfl (pv 2)) (λ_ _ _ _=>(bj (i:=0) (by change(["_law_name","_law_deed"]:cA Str).Nodup;decide+kernel) rfl (by trivial))) eo (λ_ _ _ _=>(tK (aR rA (pv 0) ((pv 1)∪ai) (a7 _)))) (λ_ _ _ _=>(pv 0))) ae)) ae)))))) aJ) (ah (bt (nI (jB (dW hr) ((pv 1)∪ai) ((pv 0)∪ai))) (aj (aH (aM (aa aF (aa (aM ae) ae))))) aJ) (ah (bt (aR (uy (K:=K) rfl) ((pv 1)∪ai) (pv 2) (by rfl)) (aj (aH (aM (aa aF (aa (aM ae) ae))))) aJ) (ah (bt (aR Af (bg (ez (K:=K) rfl) (by rfl) T.jd Boot.«len» (aa (pv 2) ae)) ai (a7 _)) (aj (aH (aM (aa aF (aa (aM ae) ae))))) aJ) (ah (bt (dw (au T.Ey (uE T) hr (aa (eT (dW hr) ((pv 0)∪ai) ((pv 1)∪ai) (λ_ _=>rfl)) (aa ai (aa ai ae))))) (aj (aH (aM (aa aF (aa (aM ae) ae))))) aJ) (aj (aH (aM (aa aF (aa (bH Ei (pv 2) (aM (aa ((pv 1)∪ai) ae))) ae)))))))))))
 rintro vs M q ⟨r,t,R,T',d,w,l,rfl,⟨jG,ht⟩,⟨hm,hc⟩,hD,hg,⟨hl,hR⟩,kq,ke⟩;cases d with
 | found c=>cases hm
 | disband c=>cases hm
 | enlist c n=>
  cases hD;replace hg:cB T' c=some l:=hg;have bad: ∀f,nO R l (.enlist c n)= .bad f -> ∃M0,Sm M0 M /\ q (.tup [ws (DO f), .tup []]) M0:=λf h=>eC (ke f h);dsimp?! [ht,cY,hg,bJ,k_enlist_dismiss,jG,bT];cases hx:cB R n with
  | none=>dsimp?! [c_,aZ];show bad .NoRound (by rw[nO,hx])
  | some a=>
  dsimp?! [cj,aK];exact tQ ?_;cases hi:rJ n l with
  | true=>dsimp?! [];show bad .Taken (by rw[nO,hx];show am hi)
  | false=>
  have EO:¬rJ n l=true:=by rw[hi];decide
  dsimp?! [fo,ag];by_cases h6:6<=l.length;have e6:decide ((6:Int) <=(l.length:Int))=true:=bh (by omega);dsimp?! [e6];show bad .TooMany (by rw[nO,hx];dsimp only;rw[ak EO,am h6]);have e6:decide ((6:Int) <=(l.length:Int))=false:=aE (by omega);dsimp?! [e6,jG,cY,hx,bJ];let⟨z,hz,_,rfl⟩:=eV hx;exact#[z.2,8,24,rfl,by have:=hR z hz;omega,?_];cases hf:gF z.2 8 24 with
  | true=>dsimp?! [];show bad .TooFar (by rw[nO,hx];dsimp only;rw[ak EO,ak h6,am hf])
  | false=>
   dsimp?! [];exact#[big (by rw[ag];simp;omega),?_];have el:W.tup (l.map ws++ [ws n])=fo (l++ [n]):=by unfold fo;rw[aB];rfl
   rw[el];show eC (kq _ (by rw[nO,hx];dsimp only;rw[ak EO,ak h6,ak (by rw[hf];decide)]))
 | dismiss c n=>
  cases hD;replace hg:cB T' c=some l:=hg;dsimp?! [ht,cY,hg,bJ,b8];exact nP ?_;cases hi:rJ n l with
  | false=>dsimp?! [aZ];show eC (ke .NoRound (by rw[nO];show am hi))
  | true=>dsimp?! [aK,fo];exact vx (λm=>decide (m≠n)) ws (big (by omega)) (λ_ _=>trivial) ?_ λu hu=> ?_;intro m hm M3 N3 s3 kA;dsimp?! [];by_cases h:m=n;rw[aE ⇑h] at kA;rw[bh h];show kA;rw[bh h] at kA;rw[aE h];show kA;dsimp?! [ao];show#[M,a6 hu,kq _ (by rw[nO];show ak (by rw[hi];decide))]
def v8 {K:Xu}(T:e9 K mg A):bD P w K mg base fh 3 A.pC A.pN ["_law_stand","_law_deed"] (fT K WH):=by
 exists T.uS.fn,["_law_stand","_law_deed","_law_crews","_law_told"],(ah (2\(cT j6 (by rfl) T.y_ Boot.«dict» (aa ((pv 0)∪ai) ae))) (ah (bt (aR dn ((pv 1)∪ai) aF (a7 _)) (ah (bt (dM (dw (au T.qx (oT T) hr (aa ((pv 1)∪ai) ae)))) (aj (aH (aM (aa aF (aa (pv 0) ae))))) aJ) (ah (bt (nI (Ca (dW hr) ((pv 1)∪ai) (pv 2))) (aj (aH (aM (aa aF (aa (pv 0) ae))))) aJ) (ah (mQ (dW hr) (pv 2) ((pv 1)∪ai) (aM ae) rfl) (aj (aH (aM (aa aF (aa (aM (aa ((pv 0)∪ai) (aa (pv 2) ae))) ae)))))))) aJ) (ah (bt (nI (jB (dW hr) ((pv 1)∪ai) (pv 2))) (aj (aH (aM (aa aF (aa (pv 0) ae))))) aJ) (ah (bt (aR dn ((pv 1)∪ai) aF (a7 _)) (ah (bK (Ab (pv 2) ((pv 1)∪ai) #[by rfl,by rfl,by rfl,by rfl])) (aj (aH (aM (aa aF (aa (aM (aa ((pv 0)∪ai) (aa (pv 2) ae))) ae)))))) aJ) (ah (3\(au T.o0 (sE T) hr (aa (pv 0) (aa (pv 1) ae)))) (ah (bt (aR rA ((pv 3)∪ai) aF (a7 _)) (aj (aH (aM (aa ((pv 3)∪ai) (aa (pv 0) ae))))) aJ) (ah (mQ (dW hr) (pv 2) ((pv 1)∪ai) ((pv 3)∪ai) rfl) (aj (aH (aM (aa aF (aa (aM (aa ((pv 0)∪ai) (aa (pv 2) ae))) ae))))))))))))
 rintro vs M q ⟨r,t,R,T',d,w,rfl,⟨jG,ht⟩,hc,hD,hT,hR,kq,ke⟩;dsimp?! [ht];intro u hu;have st:=a6 hu (o:= .dK (qd T'));have n8:um M u (.dK (qd T')) u=some (.dK (qd T')):=ao;have hsz:((qd T').length<sizeLine)=True:=az (k8 (by rw[om];have:=hT.len;omega));have mem: ∀ (d:gb) (w:W) (q':WK),JQ d ->Bz d ->DA M (.c d) w -> ∀l,cB T' (Ot d)=some l ->(∀l',nO R l d= .ok l' ->q' (.tup [ws "",fo l']) (um M u (.dK (qd T')))) ->(∀f,nO R l d= .bad f ->q' (.tup [ws (DO f), .tup []]) (um M u (.dK (qd T')))) ->PU [.tup [wr r,wr t],w] (um M u (.dK (qd T'))) q':=λd w q' hm hc hD l hg h1 h2=>#[r,t,R,T',d,w,l,rfl,#[st _ _ jG,st _ _ ht],#[hm,hc],hD.sm st,hg,#[ET hT hg,hR],h1,h2]
 change hold _ _ (um M u (.dK (qd T')));generalize um M u (.dK (qd T'))=M1 at st n8 mem ⊢;have fin: ∀T2,cI R T' d= .ok T2 -> ∀M2,M2=um M1 u (.dK (qd T2)) -> ∃M0,Sm M0 M2 /\ q (.tup [ws "", .tup [wr r,wr u]]) M0:=λT2 h M2 e=>eC (kq T2 h u M2 (by rw[e];show st.um hu) (by rw[e];show ao));have bad: ∀f,cI R T' d= .bad f -> ∃M0,Sm M0 M1 /\ q (.tup [ws (DO f), .tup [wr r,wr t]]) M0:=λf h=>#[M,st,ke f h]
 cases d with
 | found c=>
  cases hD;dsimp?! [b8];exact#[c,rfl,hc,?_];cases kY:cg c with
  | false=>dsimp?! [aZ];show bad .BadName (by rw[cI];show am kY)
  | true=>
  have nS:¬cg c=false:=by rw[kY];decide
  dsimp?! [aK,n8,cY,bT];cases hg:cB T' c with
  | some l=>dsimp?! [cj];show bad .Taken (by rw[cI,ak nS,hg])
  | none=>dsimp?! [c_,n8,hsz];exact fin (gQ T' c []) (by rw[cI,ak nS,hg]) _ ?_;show congrArg (λz=>um M1 u (.dK z)) (gr fo T' c [])
 | disband c=>
  cases hD;dsimp?! [k_disband_found,b8,n8,cY,bT];cases hg:cB T' c with
  | none=>dsimp?! [c_,aZ];show bad .NoCrew (by rw[cI,hg])
  | some l=>dsimp?! [cj,aK,b8,n8,cY,hg,bJ];exact fin (nW T' c) (by rw[cI,hg]) _ ?_;rw[pH]
 | enlist c n=>
  cases hD;dsimp?! [k_enlist_found,k_enlist_disband,n8,cY,bT];cases hg:cB T' c with
  | none=>dsimp?! [c_,aZ];show bad .NoCrew (by rw[cI,hg])
  | some l=>
   have ec:=Ba (R:=R) (d:= .enlist c n) trivial hg;dsimp?! [cj,aK,k_enlist_disband];exact mem (.enlist c n) _ _ trivial hc rfl l hg (λl' h=> ?_) λf h=> ?_;have ef:decide (("" :Str)= "")=true:=by right
   dsimp?! [ef,b8,n8,hsz];exact fin _ (by rw[ec,h]) _ ?_;rw[gr];rfl;have Yb:decide (DO f=Str.ofString "")=false:=aE (Ir f);dsimp?! [Yb,aZ];show bad f (by rw[ec,h])
 | dismiss c n=>
  cases hD;dsimp?! [k_dismiss_found,k_dismiss_disband,n8,cY,bT];cases hg:cB T' c with
  | none=>dsimp?! [c_,aZ];show bad .NoCrew (by rw[cI,hg])
  | some l=>
   have ec:=Ba (R:=R) (d:= .dismiss c n) trivial hg;dsimp?! [cj,aK,k_dismiss_disband];exact mem (.dismiss c n) _ _ trivial hc rfl l hg (λl' h=> ?_) λf h=> ?_;have ef:decide (("" :Str)= "")=true:=by right
   dsimp?! [ef,b8,n8,hsz];exact fin _ (by rw[ec,h]) _ ?_;rw[gr];rfl;have Yb:decide (DO f=Str.ofString "")=false:=aE (Ir f);dsimp?! [Yb,aZ];show bad f (by rw[ec,h])
def Jg {K:Xu}(T:e9 K mg A):bD P w K mg base fh 7 A.E4 A.Fk ["_law_p_here","_law_stand","_law_deed"] (fT K WJ):=by
 exists T.Qc.fn,["_law_p_here","_law_stand","_law_deed"],(ah (bt (aR (uy (K:=K) rfl) ((pv 2)∪ai) (aM (aa aF (aa aF (aa aF (aa aF ae))))) (by rfl)) (aj (aH (au T.uS (v8 T) hr (aa (pv 1) (aa (pv 2) ae))))) aJ) (aj (aH (au T.rF (uF T) hr (aa (pv 0) (aa (pv 1) (aa (pv 2) ae)))))))
 rintro vs M q ⟨p,r,t,R,T',dd,w,rfl,hp,⟨jG,ht⟩,hS,⟨hD,Gz⟩,hO,kq,ke⟩;have inl: ∀ (x:Str) (M:Mp) (q':WK),q' (wb (rJ x ["found","disband","enlist","dismiss"])) M ->Zo false (ws x) (.tup [ws "found",ws "disband",ws "enlist",ws "dismiss"]) M q':=λx M q' h=>tQ (l:= ["found","disband","enlist","dismiss"]) h;cases dd with
 | r d=>
  let⟨cE,rfl⟩:=DV.head hD;have e0:fE (ws (kdOf d)::cE) 0=some (ws (kdOf d)):=hV ⋯ rfl;have e1:rJ (kdOf d) ["found","disband","enlist","dismiss"]=false:=by cases d<;>(simp![kdOf];decide+kernel)
  dsimp?! [e0];exact inl _ _ _ ?_;dsimp?! [e1];exact#[p,r,t,R,T',d,_,rfl,hp,#[jG,ht],#[hS.r,hS.t],hD,hO,λR' ho hR r' M' s _ hr2=>eC ?_,λf ho=>eC (ke f (by rw[yI,ho]))];let⟨hk,hl⟩:=Nj ho hS.k;show kq R' T' (by rw[yI,ho]) (λh _=>#[hR.2 h,hS.t,hk,hS.m]) #[hl,by omega] r' t M' s hr2 (s _ _ ht)
 | c d=>
  let⟨kd,cE,rfl,e1⟩: ∃ (k:Str) (cE:cA W),w= .tup (ws k::cE) /\ rJ k ["found","disband","enlist","dismiss"]=true:=by cases d<;>cases hD<;>show#[_,_,rfl,by right]
  have e0:fE (ws kd::cE) 0=some (ws kd):=hV ⋯ rfl;dsimp?! [e0];exact inl _ _ _ ?_;dsimp?! [e1];exact#[r,t,R,T',d,_,rfl,#[jG,ht],hO,hD,hS.t,λz hz=>by have:=(hS.r.ok z hz).2.1;omega,λT2 ho t' M' s ht2=>eC ?_,λf ho=>eC (ke f (by rw[yI,ho]))];let⟨hk,hl⟩:=Op hO hS.t ho;show kq R T2 (by rw[yI,ho]) (λ_ h=>#[hS.r,hk h,hS.k,Oq hO hS.m ho]) #[by omega,hl] r t' M' s (s _ _ jG) ht2
 | _=>cases Gz
def Jd {K:Xu}(T:e9 K mg A):bD P w K mg base (gJ P w) 7 A.EZ A.Fg ["_law_book","_law_deed"] (rf K (Wy Ji A.a4 A.bz (vB A))):=by
 exact w5 T.Qa.fn zR (by rintro vs M q e ⟨b,la,lu,lh,now,p,S,dd,w,rfl,_⟩;rfl) λcdv A' outer s H E e hr hF hP=> ?_;have nd:=zR.nd;exact#[_,(ah (bt (aR dn ((pv 1)∪ai) aF (a7 _)) (ah (2\(cT fc (by rfl) T.iR Boot.«list» (aa ((pv 1)∪ai) ae))) (ah (3\(cw hP T.xQ (yD T) (hr.mono ⋯) (pv 0) (aa ((pv 1)∪ai) (aa (pv 2) ae)))) (ah (bt (aR (show gI _ _ (vZ K) from lL (by show hr.FC)) (pv 2) (cT fc (by rfl) T.iR Boot.«list» (aa ((pv 1)∪ai) ae)) (a7 _)) (aj (aH aF)) aJ) (ah (bK (gw aO bB bA dk (pv 2) (aa (aM (aa aF (aa ai ae))) ae))) (aj (aH (pv 3))))))) aJ) (ah (bt (aR dn ((pv 1)∪ai) aF (a7 _)) (aj (aH (cw hP T.p6 (sH T) (hr.mono ⋯) (pv 0) (aa ((pv 1)∪ai) (aa (((pv 1)∪ai)∪ai) (aa (((pv 1)∪ai)∪ai) ae)))))) aJ) (ah (bt (aR dn ((pv 1)∪ai) aF (a7 _)) (aj (aH (cw hP T.p9 (sK T) (hr.mono ⋯) (pv 0) (aa ((pv 1)∪ai) (aa (((pv 1)∪ai)∪ai) ae))))) aJ) (ah (bt (aR dn ((pv 1)∪ai) aF (a7 _)) (aj (aH (cw hP T.nC (qq T) (hr.mono ⋯) (pv 0) (aa ((pv 1)∪ai) (aa (((pv 1)∪ai)∪ai) (aa ((pv 1)∪ai) ae)))))) aJ) (ah (bt (aR dn ((pv 1)∪ai) aF (a7 _)) (aj (aH (cw hP T.xT (yG T) (hr.mono ⋯) (pv 0) (aa ((pv 1)∪ai) ae)))) aJ) (ah (bt (aR dn ((pv 1)∪ai) aF (a7 _)) (aj (aH (cw hP T.vQ (v_ T) (hr.mono ⋯) (pv 0) (aa ((pv 1)∪ai) ae)))) aJ) (ah (bt (aR dn ((pv 1)∪ai) aF (a7 _)) (aj (aH (cw hP T.p8 (sJ T) (hr.mono ⋯) (pv 0) (aa ((pv 1)∪ai) ae)))) aJ) (ah (bt (aR dn ((pv 1)∪ai) aF (a7 _)) (aj (aH (cw hP T.su (uH T) (hr.mono ⋯) (pv 0) (aa ((pv 1)∪ai) (aa ((pv 1)∪ai) ae))))) aJ) (ah (bt (aR dn ((pv 1)∪ai) aF (a7 _)) (aj (aH (cw hP T.p7 (sI T) (hr.mono ⋯) (pv 0) (aa ((pv 1)∪ai) (aa ((pv 1)∪ai) ae))))) aJ) (ah (bt (aR dn ((pv 1)∪ai) aF (a7 _)) (aj (aH (wZ hP T.xP (yC T) (hr.mono ⋯) (pv 0)))) aJ) (ah (bt (aR dn ((pv 1)∪ai) aF (a7 _)) (aj (aH (wZ hP T.xR (yE T) (hr.mono ⋯) (pv 0)))) aJ) (ah (bt (aR dn ((pv 1)∪ai) aF (a7 _)) (aj (aH (ik T.xS (yF T) (hr.mono ⋯) (pv 0)))) aJ) (aj (aH (cw hP T.mK (oW T) (hr.mono ⋯) (pv 0) (aa ((pv 1)∪ai) ae)))))))))))))))),?_];try dsimp only[d9]
 exact#[_,inferInstance,?_];rintro vs M q ⟨b,la,lu,lh,now,p,S,dd,w,rfl,⟨hD,Gz⟩,hF',hO,Qw,N2,kq,ke⟩;have hB:=Qw.bk;have hS:=N2.bk;let⟨dx,hb⟩:=hB.ob;have up: ∀C,e C M ->WL.up e C M:=λC h=>#[M,Sm.refl M,h]
 have pg2: ∀z:Rm×Tm,yI p S.R S.T dd= .ok z ->yQ dd ->sv A.a4 A.bz M b la lh p now (S.past.map (·.1)) (S.held.map (·.1)) z.1 z.2 q:=λz h hi=>Le Qw (kq _ _ (by rw[uI hi,h]));have pb2: ∀f,yI p S.R S.T dd= .bad f ->yQ dd ->e (vB A f) M:=λf h hi=>ke f (by rw[uI hi,h]);cases dd with
 | r d=>
  have kq: ∀R',cD p S.R S.T d= .ok R' ->sv A.a4 A.bz M b la lh p now (S.past.map (·.1)) (S.held.map (·.1)) R' S.T q:=λR' h=>pg2 (R',S.T) (by rw[yI,h]) trivial;have ke: ∀f,cD p S.R S.T d= .bad f ->e (vB A f) M:=λf h=>pb2 f (by rw[yI,h]) trivial;cases d with
  | tell n ds=>let⟨c,rfl,hc⟩:=hD;exact Hg rfl ?_;dsimp?! [hc];intro h hh;have s1:Sm M (um M h (.lst (ds.map fU))):=a6 hh;have Z2:=cF hb hh;dsimp?! [aP Z2,hb,Ow];exact#[b,la,lu,lh,now,p,_,_,_,_,_, .tell n ds,_,rfl,#[n,h,ds,rfl,rfl,ao],hO,hB.sm s1,hS,λR' ho M' dS pg B' F tR vb=> ?_,λr ho=>#[M,s1,ke r ho]];have nah:=cF hB.pa hh;have PY:=cF hB.he hh;have nuh:h≠dS:=cF ao tR;have _o:M' c=some (.lst (ds.map fU)):=F _ _ (s1 _ _ hc) (λz=>by subst z;rw[hb] at hc;cases hc) (λz=>by subst z;show hF' _ rfl);have Ya:M' h=some (.lst (ds.map fU)):=F _ _ ao Z2.symm nah.symm;dsimp?! [_o];intro g hg;exact lQ (DR.list KO (by rw[aP (cF Ya hg)];show Ya)) (DR.list KO ao) (T_ ds) rfl ?_;have hsz:((ds.map fU).length<sizeLine)=True:=az (k8 (by rw[ag];have:=hO.2;omega));dsimp?! [aP (cF Ya hg),Ya,hsz];show#[Iq M' h,MA (a6 hg),kq R' ho _ dS pg (B'.Iq Ya nah nuh.symm PY) (F.Iq s1 hh) (s1.free tR) (s1.free vb)]
  | join n x y=>cases hD;exact eG rfl k_join_tell (Hg rfl ?_);dsimp?! [hb,CU];exact#[b,la,lu,lh,now,p,_,_,_,_,_, .join n x y,_,rfl,#[n,x,y,rfl,rfl],hO,hB,hS,λR' ho M' dS pg B' F tR vb=> ?_,λr ho=>up _ (ke r ho)];dsimp?! [];show eC (kq R' ho M' dS pg B' F tR vb)
  | back n x=>cases hD;exact eG rfl k_back_tell (eG rfl k_back_join (Hg rfl ?_));dsimp?! [hb,CY];exact#[b,la,lu,lh,now,p,_,_,_,_,_, .back n x,_,rfl,#[n,x,rfl,rfl],hO,hB,hS,λR' ho M' dS pg B' F tR vb=> ?_,λr ho=>up _ (ke r ho)];dsimp?! [];show eC (kq R' ho M' dS pg B' F tR vb)
  | times n x j=>cases hD;exact eG rfl k_times_tell (eG rfl k_times_join (eG rfl k_times_back (Hg rfl ?_)));dsimp?! [hb,Bd];exact#[b,la,lu,lh,now,p,_,_,_,_,_, .times n x j,_,rfl,#[n,x,j,rfl,rfl],hO,hB,hS,λR' ho M' dS pg B' F tR vb=> ?_,λr ho=>up _ (ke r ho)];dsimp?! [];show eC (kq R' ho M' dS pg B' F tR vb)
  | drop n=>cases hD;exact eG rfl k_drop_tell (eG rfl k_drop_join (eG rfl k_drop_back (eG rfl k_drop_times (Hg rfl ?_))));dsimp?! [hb,Oz];exact#[b,la,lu,lh,now,p,_,_,_,_,_, .drop n,_,rfl,#[n,rfl,rfl],hO,hB,hS,λR' ho M' dS pg B' F tR vb=> ?_,λr ho=>up _ (ke r ho)];dsimp?! [];show eC (kq R' ho M' dS pg B' F tR vb)
 | c d=>
  have kq: ∀T',cI S.R S.T d= .ok T' ->sv A.a4 A.bz M b la lh p now (S.past.map (·.1)) (S.held.map (·.1)) S.R T' q:=λT' h=>pg2 (S.R,T') (by rw[yI,h]) trivial;have ke: ∀f,cI S.R S.T d= .bad f ->e (vB A f) M:=λf h=>pb2 f (by rw[yI,h]) trivial;have hT:=N2.s.t;cases d with
  | found c=>cases hD;exact eG rfl k_found_tell (eG rfl k_found_join (eG rfl k_found_back (eG rfl k_found_times (eG rfl k_found_drop (Hg rfl ?_)))));dsimp?! [hb,K'];exact#[b,la,lu,lh,now,p,_,_,_,_,_, .found c,_,rfl,#[c,rfl,rfl],hO,hB,hS,hT,λR' ho M' dS pg B' F tR vb=> ?_,λr ho=>up _ (ke r ho)];dsimp?! [];show eC (kq R' ho M' dS pg B' F tR vb)
  | disband c=>cases hD;exact eG rfl k_disband_tell (eG rfl k_disband_join (eG rfl k_disband_back (eG rfl k_disband_times (eG rfl k_disband_drop (eG rfl k_disband_found (Hg rfl ?_))))));dsimp?! [hb,CW];exact#[b,la,lu,lh,now,p,_,_,_,_,_, .disband c,_,rfl,#[c,rfl,rfl],hO,hB,hS,hT,λR' ho M' dS pg B' F tR vb=> ?_,λr ho=>up _ (ke r ho)];dsimp?! [];show eC (kq R' ho M' dS pg B' F tR vb)
  | enlist c n=>cases hD;exact eG rfl k_enlist_tell (eG rfl k_enlist_join (eG rfl k_enlist_back (eG rfl k_enlist_times (eG rfl k_enlist_drop (eG rfl k_enlist_found (eG rfl k_enlist_disband (Hg rfl ?_)))))));dsimp?! [hb,GW];exact#[b,la,lu,lh,now,p,_,_,_,_,_, .enlist c n,_,rfl,#[c,n,rfl,rfl],hO,hB,hS,hT,λR' ho M' dS pg B' F tR vb=> ?_,λr ho=>up _ (ke r ho)];dsimp?! [];show eC (kq R' ho M' dS pg B' F tR vb)
  | dismiss c n=>cases hD;exact eG rfl k_dismiss_tell (eG rfl k_dismiss_join (eG rfl k_dismiss_back (eG rfl k_dismiss_times (eG rfl k_dismiss_drop (eG rfl k_dismiss_found (eG rfl k_dismiss_disband (eG rfl k_dismiss_enlist (Hg rfl ?_))))))));dsimp?! [hb,CV];exact#[b,la,lu,lh,now,p,_,_,_,_,_, .dismiss c n,_,rfl,#[c,n,rfl,rfl],hO,hB,hS,hT,λR' ho M' dS pg B' F tR vb=> ?_,λr ho=>up _ (ke r ho)];dsimp?! [];show eC (kq R' ho M' dS pg B' F tR vb)
 | undo=>cases hD;exact eG rfl k_undo_tell (eG rfl k_undo_join (eG rfl k_undo_back (eG rfl k_undo_times (eG rfl k_undo_drop (eG rfl k_undo_found (eG rfl k_undo_disband (eG rfl k_undo_enlist (eG rfl k_undo_dismiss (Hg rfl ?_)))))))));dsimp?! [hb,Ov];exact Mm Qw N2.un (λh=>up _ (ke .NoMore (by rw[oA,h];rfl))) λz l h M' B' F=> ?_;dsimp?! [];show eC (kq _ _ (by rw[oA,h,List.getLast?_concat,List.dropLast_concat]) M' lu z.1 B' F (.inl rfl))
 | redo=>cases hD;exact eG rfl k_redo_tell (eG rfl k_redo_join (eG rfl k_redo_back (eG rfl k_redo_times (eG rfl k_redo_drop (eG rfl k_redo_found (eG rfl k_redo_disband (eG rfl k_redo_enlist (eG rfl k_redo_dismiss (eG rfl k_redo_undo (Hg rfl ?_))))))))));dsimp?! [hb,Ox];exact MB Qw N2.pa (λh=>up _ (ke .NoMore (by rw[oA,h];rfl))) λz l h M' B' F=> ?_;dsimp?! [];show eC (kq _ _ (by rw[oA,h,List.getLast?_concat,List.dropLast_concat]) M' lu z.1 B' F (.inl rfl))
 | hold=>cases hD;exact eG rfl k_hold_tell (eG rfl k_hold_join (eG rfl k_hold_back (eG rfl k_hold_times (eG rfl k_hold_drop (eG rfl k_hold_found (eG rfl k_hold_disband (eG rfl k_hold_enlist (eG rfl k_hold_dismiss (eG rfl k_hold_undo (eG rfl k_hold_redo (Hg rfl ?_)))))))))));dsimp?! [hb,Oy];exact NU Qw N2.he λM' B' F=> ?_;dsimp?! [];show eC (kq _ _ rfl M' lu now B' F (.inl rfl))
 | ret k=>cases hD;exact eG rfl k_return_tell (eG rfl k_return_join (eG rfl k_return_back (eG rfl k_return_times (eG rfl k_return_drop (eG rfl k_return_found (eG rfl k_return_disband (eG rfl k_return_enlist (eG rfl k_return_dismiss (eG rfl k_return_undo (eG rfl k_return_redo (eG rfl k_return_hold (?_))))))))))));dsimp?! [hb,y9];exact RH Qw N2.pa N2.he (be Gz ⋯) (λh=>up _ (ke .NoState ?_)) λz k0 h M' dS B' F hu=> ?_;rw[oA];split;rename_i k0;rw[List.getElem?_eq_none (by have:=λh2=>h #[k0,h2];omega)];rfl;dsimp?! [];show eC (kq _ _ (by rw[oA,am k0,h]) M' dS z.1 B' F (.inr hu))
def mS {K:Xu}(T:e9 K mg A):bD P w K mg base fh 8 A.AS A.A5 ["_law_book","_law_deed"] (fT K (Se Ji A.a4 A.bz)):=by
 exists T.uT.fn,["_law_book","_law_deed","_law_told","_law_value_here"],(ah (2\aF) (ah (3\lK) (ah (MD (iy:=3) rfl rfl T.Qa (Jd T) (hr.mono ⋯) (by rfl) (aa (pv 0) (aa (pv 1) ae)) nd rfl (by rfl) (Bm.cons (by rfl) T.wH (λea=>(aj (2\aF))) (Bm.cons (by rfl) T.zx (λea=>(aj (2\aF))) (Bm.cons (by rfl) T.p_ (λea=>(aj (2\aF))) (Bm.cons (by rfl) T.zy (λea=>(aj (2\aF))) (Bm.cons (by rfl) T.xU (λea=>(aj (2\aF))) (Bm.cons (by rfl) T.Di (λea=>(aj (2\aF))) (Bm.cons (by rfl) T.wF (λea=>(aj (2\aF))) (Bm.cons (by rfl) T.oa (λea=>(aj (2\aF))) (Bm.cons (by rfl) T.tZ (λea=>(aj (2\aF))) (Bm.cons (by rfl) T.wG (λea=>(aj (2\aF))) Bm.nil))))))))))) (aj (aH (aM (aa (pv 2) (aa (pv 3) ae))))))))
 rintro vs M q ⟨b,la,lu,lh,now,p,S,dd,w,rfl,hD,hF',hO,Qw,N2,kq,ke⟩;dsimp?! [];exact#[b,la,lu,lh,now,p,S,dd,w,rfl,hD,hF',hO,Qw,N2,λS' v ho M' dS oX B' F tR=> ?_,λr ho ea tT=> ?_];dsimp?! [];show eC (kq S' v ho M' dS oX B' F tR);have fin: ∃M0,Sm M0 (um M ea (.exc (vB A r))) /\ q (.tup [ws (DO r),wn]) M0:=#[M,a6 tT,ke r ho]
 cases r with
 | BadName=>exact nB ?_;dsimp?! [];show fin
 | NoDeed=>exact cG T.qO (nB ?_);dsimp?! [];show fin
 | NoRound=>exact cG T.pj (cG T.qJ (nB ?_));dsimp?! [];show fin
 | NoCrew=>exact cG T.qQ (cG T.sY (cG T.qP (nB ?_)));dsimp?! [];show fin
 | Taken=>exact cG T.sS (cG T.uZ (cG T.sR (cG T.u4 (nB ?_))));dsimp?! [];show fin
 | InUse=>exact cG T.s_ (cG T.u_ (cG T.sZ (cG T.va (cG T.wg (nB ?_)))));dsimp?! [];show fin
 | TooMany=>exact cG T.pd (cG T.qA (cG T.pc (cG T.qB (cG T.sN (cG T.sO (nB ?_))))));dsimp?! [];show fin
 | TooFar=>exact cG T.qE (cG T.sP (cG T.qD (cG T.sQ (cG T.uX (cG T.uY (cG T.qC (nB ?_)))))));dsimp?! [];show fin
 | NoMore=>exact cG T.qM (cG T.sW (cG T.qL (cG T.sX (cG T.u8 (cG T.u9 (cG T.qK (cG T.sV (nB ?_))))))));dsimp?! [];show fin
 | NoState=>exact cG T.pi (cG T.qH (cG T.pf (cG T.qI (cG T.sT (cG T.sU (cG T.pe (cG T.qF (cG T.qG (nB ?_)))))))));dsimp?! [];show fin
def uG {K:Xu}(T:e9 K mg A):bD P w K mg base fh 3 A.nu A.nz ["_law_draw","_law_names_here"] (fT K Sf):=by
 exists T.rG.fn,["_law_draw","_law_names_here","_law_crew","_law_name","_law_way"],(ah (2\((pv 1)∩(au T.bZ (bv T) hr (aa (pv 0) (aa ai ae))))) (ah (bt (aR dn (au T.bZ (bv T) hr (aa (pv 0) (aa ai ae))) ai (a7 _)) (aj (2\(au T.jF (gy T) hr (aa (pv 0) (aa (pv 1) ae))))) aJ) (ah (3\(au T.jF (gy T) hr (aa (pv 0) (aa (pv 1) ae)))) (ah (4\(au T.bZ (bv T) hr (aa (pv 0) (aa ai ae)))) (ah (bt (aR lN (pv 4) ai (a7 _)) (aj (aH (aM (aa aF (aa ((aM (aa (pv 2) (aa (pv 2) (aa (pv 2) (aa (pv 3) ae)))))∪(au T.bZ (bv T) hr (aa (pv 0) (aa ai ae)))) ae))))) aJ) (ah (bt (aR dn (pv 4) ai (a7 _)) (aj (aH (aM (aa aF (aa (pv 2) ae))))) aJ) (ah (bt (aR lN (pv 4) ai (a7 _)) (aj (aH (aM (aa aF (aa (pv 2) (aa (pv 3) ae)))))) aJ) (aj (aH (aM (aa aF (aa (pv 2) (aa (pv 3) ae)))))))))))))
 rintro vs M q ⟨d,l,nl,ns,rfl,hD,n9,LK,⟨n0,n1⟩,vU,k⟩;have tg: ∀ (M':Mp) (q':WK),Dr M' d l ->NB d M M' ->(∀ (n:Str) (M2:Mp),Nm n ->Dr M2 d l ->NB d M M2 ->q' (ws n) M2) ->yx [wr d,wr nl] M' q':=λM' q' D' b' k'=>#[d,l,nl,ns,rfl,D',by rw[b' nl LK];show n9,LK,#[by omega,by omega],vU,λn M2 hn D2 b2=>k' n M2 hn D2 (NB.trans b' b2)]
 dsimp?! [];exact#[d,l,2,rfl,hD,⋯,⋯,λj M1 j0 j1 D1 b1=> ?_];have XY:M1 nl=some (.lst (ns.map ws)):=by rw[b1 nl LK];show n9
 let⟨z,hz⟩: ∃z,ns[j.toNat]? =some z:=#[_,aC (by omega)]
 have hzn:=vU z (a_ hz);have ek:fE (ns.map ws) j=some (ws z):=hV j0 (by rw[aL,hz];rfl);simp?! [↓cS,XY,ek];exact f9 (lU (λρ M'=> ∃c:Str,fg (ρ= [some (wr d),some (wr nl),some (ws c),none,none]) (Nm c) (Dr M' d l) (NB d M M')) ?_ λN hN=> ?_);clear D1 b1 XY ek hzn hz;rintro ρ M2 ⟨c,rfl,hc,D2,b2⟩;dsimp?! [];dsimp?! [];exact tg M2 _ D2 b2 λn M3 hn D3 b3=> ?_;dsimp?! [];exact#[d,l,11,rfl,D3,⋯,⋯,λwy M4 w0 w1 D4 b4=> ?_];replace b4:=NB.trans b3 b4;dsimp?! [];exact dC (λh=> ?_) λh=> ?_;dsimp?! [];exact#[d,l,4,rfl,D4,⋯,⋯,λr M5 r0 r1 D5 b5=> ?_];dsimp?! [];exact mR (λx=> ∃e:Str,x=ws e /\ Nm e) r0 (by change r< ((4:Nat):Int);omega) (λx hx=> ?_) ?_;simp![aS,List.not_mem_nil,or_false] at hx;obtain h | h | h | h:=hx;show#[c,h,hc];show#[c,h,hc];show#[c,h,hc];show#[n,h,hn];rintro _ ⟨v,rfl,hv⟩;dsimp?! [];show eC (k (.found v) _ M5 rfl hv D5 (NB.trans b4 b5));dsimp?! [];exact dC (λh=> ?_) λh=> ?_;dsimp?! [];show eC (k (.disband c) _ M4 rfl hc D4 b4);dsimp?! [];exact dC (λh=> ?_) λh=> ?_;dsimp?! [];show eC (k (.enlist c n) _ M4 rfl #[hc,hn] D4 b4);dsimp?! [];show eC (k (.dismiss c n) _ M4 rfl #[hc,hn] D4 b4);dsimp?! [];exact#[d,l,12,rfl,D1,⋯,⋯,λr M2 r0 r1 D2 b2=> ?_];replace b2:=NB.trans b1 b2;dsimp?! [];exact dC (λh=> ?_) λh=>hN _ _ #[z,rfl,hzn,D2,b2];dsimp?! [];exact tg M2 _ D2 b2 λn M3 hn D3 b3=> ?_;dsimp?! [];show hN _ _ #[n,rfl,hn,D3,b3]
def Jf {K:Xu}(T:e9 K mg A):bD P w K mg base fh 9 A.E1 A.Fh ["_law_number"] (fT K aaZ):=by
 exists T.Qb.fn,["_law_number","_law_told","_law_made","e"],(ah (1\lK) (ah (2\(eP ae)) (ah (ME rfl rfl (MG (i:=2) nd rfl (by rfl) (MK (IK T.Book (Ek T) (hr.mono ⋯) (by rfl) (aa (pv 0) ae)))) (OJ.name (i:=3) (by rfl) T.iu nd rfl (by rfl) (λea=>(aj (1\(aM (aa (bg (show eY _ _ (Ix K) from vA) (by rfl) T.c6 Boot.«isinstance» (aa (pv 3) (aa (fj (by rfl) T.wc (show RelV (.ref A.jl) _ from rfl)) ae))) (aa (bg (show eY _ _ (Ix K) from vA) (by rfl) T.c6 Boot.«isinstance» (aa (pv 3) (aa (g0 (by rfl) T.za Boot.«ValueError» (show RelV (.ty "ValueError") _ from rfl)) ae))) (aa (bg (show eY _ _ (Ix K) from vA) (by rfl) T.c6 Boot.«isinstance» (aa (pv 3) (aa (fj (by rfl) T.Gj (show RelV (.ref A.dm) _ from rfl)) ae))) ae))))))) OJ.nil)) (ah (bt (aR (jC (K:=K) rfl) (pv 0) (aM (aa ai (aa ai (aa ai (aa ai ae))))) (by rfl)) (aj (aH (eU (show gI _ _ (B6 K) from uz (by show hr.FC)) (pv 1) (aM (aa fL (aa fL (aa fL ae)))) (a7 _)))) aJ) (ah (bt (lH (aR Jb (pv 1) lK (a7 _)) (jg (aR rA (ik T.nD (qt T) (hr.mono ⋯) ((pv 2)∩ai)) (pv 0) (a7 _)))).pt (aj (aH fL)) aJ) (ah (bt (aR (show gI _ _ (vZ K) from lL (by show hr.FC)) (au T.uT (mS T) hr (aa ((pv 2)∩ai) (aa (aM (aa aF ae)) ae))) (aM (aa aF (aa lK ae))) (a7 _)) (aj (aH fL)) aJ) (ah (bt (aR (show gI _ _ (vZ K) from lL (by show hr.FC)) (au T.uT (mS T) hr (aa ((pv 2)∩ai) (aa (aM (aa aF ae)) ae))) (aM (aa aF (aa lK ae))) (a7 _)) (aj (aH fL)) aJ) (aj (aH (nK (eU (show gI _ _ (B6 K) from uz (by show hr.FC)) (ik T.nZ (nk T) (hr.mono ⋯) ((pv 2)∩ai)) (eP ae) (a7 _)) (lJ (eU (show gI _ _ (B6 K) from uz (by show hr.FC)) (ik T.n6 (nn T) (hr.mono ⋯) ((pv 2)∩ai)) (eP ae) (a7 _)))))))))))))
 rintro vs M q ⟨n,rfl,kq⟩;dsimp?! [];intro a0 h0;dsimp?! [Ma,Vi,Vg,Vh];intro b dx hb CF ku;exact#[b,dx,n,rfl,ao,λhp M2 la lu lh now B2 F2 Qt BE Ts Jo=>#[rfl,?_],λhp ea tT=>Uh ?_];intro v hv;have s2:Sm M M2:=λa o h=>F2 a o (a6 hb _ _ (a6 h0 _ _ h)) (cF (a6 h0 _ _ h) hb);have s3:=s2.trans (a6 hv (o:= .lst [wr b]));have S3:kQ A.a4 A.bz (um M2 v (.lst [wr b])) b la lu lh n now #[[],[],[],[],[]]:=kQ.sm #[B2,nofun,nofun,nofun] (a6 hv);have UP:um M2 v (.lst [wr b]) v=some (.lst [wr b]):=ao;generalize um M2 v (.lst [wr b])=M3 at s3 S3 UP ⊢;let⟨dx3,hb3⟩:=S3.bk.ob;have hk:G3 n #[[],[],[],[],[]]:=U6.sk hp ⋯;have vc:(if true=true then !CA (.int n) [.int 2, .int 3, .int 5, .int 7] else CA (.int n) [.int 2, .int 3, .int 5, .int 7])=false:=by rw[JS,bh hp];rfl
 have e0:fE [wr b] 0=some (wr b):=rfl;have e1:Sq wn=true:=by simp[Sq]
 dsimp?! [];exact#[.int n,[.int 2, .int 3, .int 5, .int 7],rfl, .inl rfl,rfl,rfl,?_];rw[vc];dsimp?! [];exact#[rfl,?_];dsimp?! [e1,aK,UP,e0,hb3,Be];exact#[b,la,lu,lh,now,n,_,_,_,_,_,rfl,S3.bk,?_];dsimp?! [b8,aK,UP,e0];exact#[b,la,lu,lh,now,n,_, .undo,_,rfl,#[rfl,trivial],(λn e=>nomatch e),trivial,S3,hk,(λS' v ho=>nomatch ho),λr ho=> ?_];cases ho;dsimp?! [];exact lQ (d:= .tup [.str "NoMore", .dG]) (.inl rfl) (.inl rfl) ⋯ rfl ?_;dsimp?! [UP,e0];exact#[b,la,lu,lh,now,n,_, .redo,_,rfl,#[rfl,trivial],(λn e=>nomatch e),trivial,S3,hk,(λS' v ho=>nomatch ho),λr ho=> ?_];cases ho;dsimp?! [];exact lQ (d:= .tup [.str "NoMore", .dG]) (.inl rfl) (.inl rfl) ⋯ rfl ?_;dsimp?! [UP,e0,hb3,Bg];exact#[b,la,lu,lh,now,n,_,_,_,_,_,rfl,S3.bk,by simp,λu ns hu gE _=> ?_];obtain rfl:ns= []:= ⇑gE;dsimp?! [];intro w hw;have s4:Sm M3 (um (um M3 u (.lst [])) w (.lst [])):=(a6 hu).trans (a6 hw);have hu4:um (um M3 u (.lst [])) w (.lst []) u=some (.lst (([]:cA Str).map ws)):=a6 hw _ _ ao;have hw4:um (um M3 u (.lst [])) w (.lst []) w=some (.lst (([]:cA Str).map ws)):=ao;generalize um (um M3 u (.lst [])) w (.lst [])=M4 at s4 hu4 hw4 ⊢;have hv4:=s4 _ _ UP;have _p:=s4 _ _ hb3;dsimp?! [];exact vj (DR.list jk hu4) (DR.list jk hw4) (vo _) rfl ?_;dsimp?! [hv4,e0,_p,Bh];exact#[b,la,lu,lh,now,n,_,_,_,_,_,rfl,(S3.sm s4).bk,by simp,λu2 ns hu2 gE _=> ?_];obtain rfl:ns= []:= ⇑gE;dsimp?! [];intro w2 UO;have s5:Sm M4 (um (um M4 u2 (.lst [])) w2 (.lst [])):=(a6 hu2).trans (a6 UO);dsimp?! [];show vj (DR.list jk (l:= []) (a6 UO _ _ ao)) (DR.list jk (l:= []) ao) (vo _) rfl #[M,s3.trans (s4.trans s5),kq];have e0:=kq;dsimp?! [VC];exact EK ao T.iu.k T.jX ?_;dsimp?! [];exact Tb ao T.iu.k T.kW ?_;dsimp?! [];exact EK ao T.iu.k T.nR ?_;have vc:(if true=true then !CA (.int n) [.int 2, .int 3, .int 5, .int 7] else CA (.int n) [.int 2, .int 3, .int 5, .int 7])=true:=by rw[JS,aE hp];rfl
 dsimp?! [Kc];exact#[.int n,[.int 2, .int 3, .int 5, .int 7],rfl, .inl rfl,rfl,rfl,?_];rw[vc];dsimp?! [];show vj (d:= .tup [.bl true, .bl true, .bl false]) (.inl rfl) (.inl rfl) ⋯ rfl #[M,(a6 h0).trans ((a6 hb).trans (a6 tT)),kq]
def qp {K:Xu}(T:e9 K mg A):bD P w K mg base fh 5 A.AT A.A6 ["_law_ps","_law_books","_law_rows"] (fT K (WU A.a4 A.bz)):=by
 exists T.yM.fn,["_law_ps","_law_books","_law_rows"],(aj (aH (bg (gm rfl) (by rfl) T.vD Boot.«all» (aa (dR rfl (dh.of (sc:=_) (N:= ["_law_ps","_law_books","_law_rows"]) (own:= ["_law_j"]) (fr:= [0,1,2]) (N':= ["_law_j","_law_ps","_law_books","_law_rows"])) (fi (by rfl) T.hU (aa ai ae)) (λ_ _ _ _=>(bj (i:=0) (by change(["_law_j","_law_ps","_law_books","_law_rows"]:cA Str).Nodup;decide+kernel) rfl (by trivial))) eo (λ_ _ _ _=>dP) (λ_ _ _ _=>(au T.Au (Ai T) hr (aa ((pv 1)∩(pv 0)) (aa ((pv 2)∩(pv 0)) (aa (((pv 3)∩(pv 0))∩(fZ eE ai)) ae)))))) ae))))
 rintro vs M q ⟨p,b,now,g,ns,S,R,rfl,h,hS,hR,kq⟩;dsimp?! [];exact#[#[⋯,⋯],?_];rw[show gk 0 (2:Int).toNat= [0,1].map (λ(k:Nat)=>wi (0+(k:Int))) from rfl];exact fD (λ_=>wb true) ⋯ (λ_ _=>trivial) ?_ λu hu=> ?_;intro j hj M3 N3 s3 kA;have hj:j<2:=by simp at hj;omega
 have h3:=h.sm s3;have h1:=h3.ps;have h2:=h3.bs;have h4:=h3.rs;let⟨l,z,h5,_,hz,h7⟩:=h3.last hj (hR j hj);have hq:=h7 z (by simp);rw[hz] at hq;have e4:fE ((l++ [z]).map zN) (-1)=some (zN z):=Bj (by rw[aB];show List.getLast?_concat);have e1:fE [wi (p 0),wi (p 1)] (0+(j:Int))=some (wi (p j)):=by rw[Int.zero_add];show mH hj
 have e2:fE [wr (b 0),wr (b 1)] (0+(j:Int))=some (wr (b j)):=by rw[Int.zero_add];show mH hj
 have e3:fE [wr (g 6),wr (g 7)] (0+(j:Int))=some (wr (g (6+j))):=by rw[Int.zero_add];show mH (q:=λj=>g (6+j)) hj
 dsimp?! [h1,h2,h4,e1,e2,e3,h5,e4,zN];have hb:=(h3.bk j hj).bk;have hs:=hS j hj;exact#[b j,_,_,_,now j,z.1.1,z.1.2,p j,_,_,_,_,_,rfl,hb,hq,hs.r,#[hs.t,hs.k],?_];dsimp?! [];show kA;dsimp?! [];exact#[u,[true,true],rfl,ao,?_];dsimp?! [];show#[M,a6 hu,kq]
def So {K:Xu}(T:e9 K mg A):bD P w K mg base fh 10 A.QD A.QH ["_law_script"] (zO K):=by
 have cl:=az T.Book.cl;have Fp:=KY (Ek (P:=P) (w:=w) (base:=base) T);exact W0 T.law.fn Ie ⋯ λcdv A' outer s H E hr=> ?_;have nd:=Ie.nd;exact#[_,(ah (1\(au T.Ez (Ck T) hr (aa (pv 0) ae))) (ah (2\((aM (aa (bH nM (au T.bZ (bv T) hr (aa (pv 1) (aa ai ae))) ai) (aa (au T.Jv (F' T) hr (aa (pv 1) ae)) ae)))∪(au T.bZ (bv T) hr (aa (pv 1) (aa ai ae))))) (ah (bt (dM (dw (au T.Qb (Jf T) hr (aa (pv 2) ae)))) (aj (aH fL)) aJ) (ah (3\(eP (aa (au T.l_p (Je T) hr (aa (pv 1) ae)) (aa (au T.l_p (Je T) hr (aa (pv 1) ae)) ae)))) (ah (4\(au T.Ev (Cj T) hr (aa (pv 1) (aa ai ae)))) (ah (5\(eP (aa (iK T.Book Fp (hr.mono ⋯) (by rfl) (aa ((pv 3)∩ai) ae)) (aa (iK T.Book Fp (hr.mono ⋯) (by rfl) (aa ((pv 3)∩ai) ae)) ae)))) (ah (6\(eP (aa (eP (aa (aM (aa gv (aa gv ae))) ae)) (aa (eP (aa (aM (aa gv (aa gv ae))) ae)) ae)))) (ah (iH PassesOwn.never rfl (fi (by rfl) T.hU (aa (au T.bZ (bv T) hr (aa (pv 1) (aa ai ae))) ae)) (bj (i:=7) nd rfl (by trivial)) (ah (8\(au T.bZ (bv T) hr (aa (pv 1) (aa ai ae)))) (ah (9\(au T.rG (uG T) hr (aa (pv 1) (aa (pv 4) ae)))) (ah (bt (aR dn (au T.bZ (bv T) hr (aa (pv 1) (aa ai ae))) ai (a7 _)) (aj (9\(au T.oY (sC T) hr (aa (pv 1) (aa (pv 4) ae))))) aJ) (ah (10\(au T.Qc (Jg T) hr (aa ((pv 3)∩(pv 8)) (aa (((pv 6)∩(pv 8))∩(fZ eE ai)) (aa (pv 9) ae))))) (ah (bt (aR (show gI _ _ (vZ K) from lL (by show hr.FC)) (au T.uT (mS T) hr (aa ((pv 5)∩(pv 8)) (aa (pv 9) ae))) (aM (aa ((pv 10)∪ai) (aa lK ae))) (a7 _)) (aj (aH fL)) aJ) (ah (bt (aR dn ((pv 10)∪ai) aF (a7 _)) (aj (bK (gw aO bB bA dk ((pv 6)∩(pv 8)) (aa ((pv 10)∪ai) ae)))) aJ) (aj (bt (dM (dw (au T.yM (qp T) hr (aa (pv 3) (aa (pv 5) (aa (pv 6) ae)))))) (aj (aH fL)) aJ))))))))) (ah (8\(au T.bZ (bv T) hr (aa (pv 1) (aa ai ae)))) (ah (11\(au T.uT (mS T) hr (aa ((pv 5)∩(pv 8)) (aa (aM (aa aF ae)) ae)))) (ah (bt (aR dn (bg (ez (K:=K) rfl) (by rfl) T.jd Boot.«len» (aa ((pv 6)∩(pv 8)) ae)) ai (a7 _)) (aj (aH (nK (eU (show gI _ _ (B6 K) from uz (by show hr.FC)) (pv 11) (aM (aa aF (aa lK ae))) (a7 _)) (lJ (au T.yM (qp T) hr (aa (pv 3) (aa (pv 5) (aa (pv 6) ae)))))))) aJ) (ah (bK (uw aO PySem.F.slot_list_pop PySem.F.type_list_pop Cn ((pv 6)∩(pv 8)))) (aj (aH (nK (eU (show gI _ _ (B6 K) from uz (by show hr.FC)) (pv 11) (aM (aa aF (aa lK ae))) (a7 _)) (lJ (au T.yM (qp T) hr (aa (pv 3) (aa (pv 5) (aa (pv 6) ae)))))))))))))))))))),?_];try dsimp only[d9]
 exact#[_,inferInstance,?_];intro d l M hD;dsimp?! [];exact#[d,l,16,rfl,hD,⋯,⋯,λk1 M1 k10 k11 D1 b1=> ?_];dsimp?! [];exact#[d,l,rfl,D1,λw1 M2 w10 w11 D2 b2=> ?_];dsimp?! [];exact#[d,l,2,rfl,D2,⋯,⋯,λk2 M3 k20 k21 D3 b3=> ?_];dsimp?! [];let⟨num,XT⟩: ∃e:Int,fE [wi (k1 - 4),wi w1] k2=some (wi e):=by obtain rfl | rfl:=(show k2=0 \/ k2=1 by omega);show#[_,rfl];show#[_,rfl]
 dsimp?! [XT];exact#[num,rfl,?_];dsimp?! [aK];exact#[d,l,rfl,D3,λp0 M4 Tl D4 _=> ?_];dsimp?! [];exact#[d,l,rfl,D4,λp1 M5 XR D5 _=> ?_];dsimp?! [];intro ap UT;have D6:Dr (um M5 ap (.lst [wi p0,wi p1])) d l:=D5.put UT;dsimp?! [];exact#[d,l,5,rfl,D6,⋯,⋯,λnl ns M7 n9 hln vU LK nnl D7 F7 hn0=> ?_];have K6:=(Kn.start D5).add UT (y:= [wi p0,wi p1]);have K7:Kn [nl,ap,l,d] M7:=(K6.fs F7 (Kz D7)).cons (K6.out hn0) n9;have TJ:M7 ap=some (.lst [wi p0,wi p1]):=F7 _ _ ao (D5.ne UT).1;clear D1 D2 D3 D4 D5 D6 K6 hD b1 b2 b3 F7 hn0 UT;have e0:fE [wi p0,wi p1] 0=some (wi p0):=rfl;have e1:fE [wi p0,wi p1] 1=some (wi p1):=rfl;dsimp?! [];rw[jP];dsimp?! [TJ,e0];intro b0 dx0 Qv abT ajI;exact ye #[b0,dx0,p0,rfl,ao,λ_ M8 Xj Xe Xg Jm B8 F8 X8 X2 X6 _=>#[rfl,?_],λh=>absurd Tl h];have s8:Sm M7 M8:=λa o h=>F8 a o (a6 Qv _ _ h) (cF h Qv);have S8:kQ A.a4 A.bz M8 b0 Xj Xe Xg p0 Jm #[[],[],[],[],[]]:=#[B8,nofun,nofun,nofun]
 have K8:=K7.book s8 S8 ((a6 Qv).free X8) ((a6 Qv).free X2) ((a6 Qv).free X6);have TH:=s8 _ _ TJ;have XW:=s8 _ _ n9;have D8:=E8 D7 s8;clear K7 D7 TJ n9 F8 B8 X8 X2 X6 Qv abT s8;rw[jP];dsimp?! [TH,e1];intro b1 dx1 N1 abS ajH;exact ye #[b1,dx1,p1,rfl,ao,λ_ M9 Xi Xd Xf Jl B9 F9 X7 X1 X5 _=>#[rfl,?_],λh=>absurd XR h];have s9:Sm M8 M9:=λa o h=>F9 a o (a6 N1 _ _ h) (cF h N1);have S9:kQ A.a4 A.bz M9 b1 Xi Xd Xf p1 Jl #[[],[],[],[],[]]:=#[B9,nofun,nofun,nofun]
 have K9:=K8.book s9 S9 ((a6 N1).free X7) ((a6 N1).free X1) ((a6 N1).free X5);have nb:b0≠b1:=by let⟨dx,hb⟩:=S8.bk.ob;show cF hb N1
 have Yh:=s9 _ _ TH;have XU:=s9 _ _ XW;have D9:=E8 D8 s9;have S8:=S8.sm s9;clear K8 D8 TH XW F9 B9 X7 X1 X5 N1 abS s9;dsimp?! [];intro ab xm;dsimp?! [];intro r0 XQ;dsimp?! [];intro t0 NS;dsimp?! [];intro w0 XF;dsimp?! [];intro r1 XO;dsimp?! [];intro t1 XJ;dsimp?! [];intro w1' XE;dsimp?! [];intro ar Yg;simp?! [↓cS];let⟨p,b,now,g,S,R,h,⟨rfl,rfl,rfl,rfl,rfl,rfl⟩,hp,hR,hZ⟩:=TB.start D9 XU Yh S8 S9 nb K9 rfl xm rfl XQ rfl NS rfl XF rfl XO rfl XJ rfl XE rfl Yg Tl XR;revert h;generalize um (um (um (um (um (um (um (um M9 (g 4) (.lst [wr b0,wr b1])) r0 (.dK [])) t0 (.dK [])) w0 (.lst [.tup [wr r0,wr t0]])) r1 (.dK [])) t1 (.dK [])) w1' (.lst [.tup [wr r1,wr t1]])) (g 5) (.lst [wr w0,wr w1'])=M16;intro h;clear K9 S8 S9 D9 XU Yh xm XQ NS XF XO XJ XE Yg nb Tl XR e0 e1 XT k10 k11 k20 k21 w10 w11 nnl;dsimp?! [];exact#[g 0,g 1,21,rfl,h.dr,⋯,⋯,λm M17 m0 m1 D17 b17=> ?_];have h17:=h.fs (λa o h n=>by rw[b17 a n];show h) D17;clear h D17 b17;dsimp?! [];exact#[#[by omega,by omega],lY (λi ρ M'=>fQ λ(o7 o8 o9 Nl:eM W)=>fQ λ(now g:Nat ->fM) (S:Nat ->fG) (R:Nat ->cA (Rm×Tm))=>fg (ρ=Pw g num o7 o8 o9 Nl) (TB A.a4 A.bz p b now g ns S R M') (∀j,j<2 ->R j=qg (S j)) (∀j,j<2 ->G2 (p j) i (S j).pure)) #[none,none,none,none,now,g,S,R,rfl,h17,hR,hZ] (λ_ _ _ _ _=>trivial) ?_ ?_];clear h17 hR hZ;rintro i x ρ M8 hx ⟨o7,o8,o9,Nl,now,g,S,R,rfl,h8,hR,hZ⟩ N hN;let⟨hi,rfl⟩:=jy hx;dsimp?! [Pw];exact#[g 0,g 1,2,rfl,h8.dr,⋯,⋯,λat_ M9 a0 a1 D9 b9=> ?_];have h9:=h8.fs (λa o h n=>by rw[b9 a n];show h) D9;clear h8 D9 b9;let⟨j,rfl⟩:=Int.eq_ofNat_of_zero_le a0;have hj:j<2:=by omega
 dsimp?! [];exact#[g 0,g 1,g 2,ns,rfl,h9.dr,h9.nl,h9.n ⋯ ⋯ ⋯,#[by omega,by omega],vU,λcd w8 M10 TN hO D10 b10=> ?_];have TU:=h9.fs (λa o h n=>by rw[b10 a n];show h) D10;clear h9 D10 b10;simp?! [↓cS];exact f9 (lU (λρ M'=>cc λ(dd:gg) (w:W)=>f_ (ρ=Pw g num (some (wi (0+(i:Int)))) (some (wi j)) (some w) Nl) (DA M' dd w /\ yQ dd) (TX (g (8+j)) w) (_R dd) (TB A.a4 A.bz p b now g ns S R M')) ?_ λN hN=> ?_);clear TU TN hO;rintro ρ M11 ⟨dd,w9,rfl,⟨TN,Gz⟩,EQ,hO,AK⟩;have cH:Ji dd:=by cases dd<;>first | trivial | show Gz.elim
 let⟨lr,z,h5,J1,hz,h7⟩:=AK.last hj (hR j hj);have hq:=h7 z (by simp);rw[hz] at hq;have Tf:=hZ j hj;have h1:=AK.ps;have h4:=AK.rs;have e1:fE [wi (p 0),wi (p 1)] (j:Int)=some (wi (p j)):=mH hj;have e2:fE [wr (b 0),wr (b 1)] (j:Int)=some (wr (b j)):=mH hj;have e3:fE [wr (g 6),wr (g 7)] (j:Int)=some (wr (g (6+j))):=mH (q:=λj=>g (6+j)) hj;have e4:fE ((lr++ [z]).map zN) (-1)=some (zN z):=Bj (by rw[aB];show List.getLast?_concat);have zl:lr.length<=i:=by have:=Tf.pa.1;rw[<- ag (f:=(·.2)),J1];show this
 dsimp?! [Pw,h1,e1,h4,e3,h5,e4,zN];exact#[p j,z.1.1,z.1.2,(S j).R,(S j).T,dd,w9,rfl,hp j hj,hq,Tf.now.s,#[TN,Gz],hO,λR' T' ho pk hle r' t' M12 RF hr2 ht2=> ?_,λf ho=> ?_];have Qy:=AK.sm RF;have c1:=Tf.now.r;have c2:=Tf.now.t;dsimp only[fG.pure] at c1 c2;have pk:=pk (by omega) (by omega);have h2:=Qy.bs;dsimp?! [h2,e2];exact#[b j,_,_,_,now j,p j,S j,dd,w9,rfl,#[TN.sm RF,cH],EQ,hO,Qy.bk j hj,Tf.sk (hp j hj) (by omega),λS' v vT M13 dS oX B13 Up tR=> ?_,λf vT=> ?_];have hoS:=Nk (p:=p j) (now:=now j) (S:=S j) (dd:=dd);rw[vT] at hoS;rw[uI Gz,ho] at vT;cases vT;have hZ':=(Tf.step hoS λ_=>#[pk,hle]).1;dsimp?! [];exact lQ (d:= .tup [.str "", .dG]) (.inl rfl) (.inl rfl) ⋯ rfl ?_;have h4':=Qy.li hj Up ⋯ Qy.rs;have _s:=Qy.li hj Up (by omega) (RF _ _ h5);have dO:(((lr++ [z]).map zN).length<sizeLine)=True:=az (k8 (by rw[ag,aD];simp;omega));dsimp?! [b8,h4',e3,_s,dO];have eL:(lr++ [z]++ [((r',t'),R',T')]).map zN=(lr++ [z]).map zN++ [.tup [wr r',wr t']]:=by rw[aB];rfl
 have hT:=Qy.Ju hj Up B13 tR (lp:=lr++ [z]++ [((r',t'),R',T')]) (λy hy=>(a8.mp hy).elim (λhy=>#[RF _ _ (h7 y hy).1,RF _ _ (h7 y hy).2]) λhy=>by rw[aV.mp hy];show#[hr2,ht2]) (by rw[aB,aB,J1,qg,aB];show congrArg (λx=>_++ [x]++_) hz);rw[eL] at hT;exact#[p,b,_,_,ns,_,_,Ip hj,hT,xZ (Q:=λk (s:fG)=>sr (p k) s.R s.T) (λk hk=>(hZ k hk).now.s) pk,Il hR,?_];dsimp?! [aK];show hN _ _ #[_,_,_,_,_,_,_,_,RG.symm,hT,Il hR,xZ (Q:=λk (s:fG)=>G2 (p k) (i+1) s.pure) (λk hk=>(hZ k hk).up) hZ'];rw[uI Gz,ho] at vT;cases vT;have h2:=AK.bs;dsimp?! [h2,e2];exact#[b j,_,_,_,now j,p j,S j,dd,w9,rfl,#[TN,cH],EQ,hO,AK.bk j hj,Tf.sk (hp j hj) (by omega),λS' v vT=> ?_,λf' vT=> ?_];rw[uI Gz,ho] at vT;cases vT;rw[uI Gz,ho] at vT;cases vT;dsimp?! [];exact lQ (d:= .tup [.str (DO f), .dG]) (.inl rfl) (.inl rfl) (by simp[qV,kZ]) rfl ?_;have Yb:decide (DO f=Str.ofString "")=false:=aE (Ir f);dsimp?! [Yb];exact#[p,b,_,_,ns,_,_,rfl,AK,λk hk=>(hZ k hk).now.s,hR,?_];dsimp?! [aK];show hN _ _ #[_,_,_,_,now,g,S,R,rfl,AK,hR,λk hk=>(hZ k hk).up];dsimp?! [];exact#[g 0,g 1,2,rfl,TU.dr,⋯,⋯,λk M11 k0 k1 D11 b11=> ?_];have AK:=TU.fs (λa o h n=>by rw[b11 a n];show h) D11;have abW:DA M11 (.c cd) w8:=by cases cd<;>show TN
 dsimp?! [];exact dC (λh=> ?_) λh=>hN _ _ #[.c cd,w8,rfl,#[abW,trivial],(λn e=>by cases cd<;>cases TN<;>cases e),hO,AK];dsimp?! [];exact#[g 0,g 1,g 2,ns,rfl,AK.dr,AK.nl,AK.n ⋯ ⋯ ⋯,#[by omega,by omega],vU,λdd w M' hDV hO2 hf D2 F2=> ?_];dsimp?! [];show hN _ _ #[.r dd,w,rfl,#[hDV,trivial],(λn e=>by have h1:=(AK.bk j hj).bk.pa;rw[hf _ n e] at h1;cases h1),hO2,AK.fs F2 D2];clear h17 hR hZ;rintro ρ M7 ⟨o7,o8,o9,Nl,now,g,S,R,rfl,h8,hR,hZ⟩;dsimp?! [Pw];exact#[g 0,g 1,2,rfl,h8.dr,⋯,⋯,λat_ M9 a0 a1 D9 b9=> ?_];have h9:=h8.fs (λa o h n=>by rw[b9 a n];show h) D9;clear h8 D9 b9;let⟨j,rfl⟩:=Int.eq_ofNat_of_zero_le a0;have hj:j<2:=by omega
 rw[h_] at hZ;let⟨lr,z,h5,J1,hz,h7⟩:=h9.last hj (hR j hj);have h2:=h9.bs;have h4:=h9.rs;have e2:fE [wr (b 0),wr (b 1)] (j:Int)=some (wr (b j)):=mH hj;have e3:fE [wr (g 6),wr (g 7)] (j:Int)=some (wr (g (6+j))):=mH (q:=λj=>g (6+j)) hj;dsimp?! [h2,e2];exact#[b j,_,_,_,now j,p j,S j, .undo,_,rfl,#[rfl,trivial],(λn e=>nomatch e),trivial,h9.bk j hj,(hZ j hj).sk (hp j hj) (by omega),λS' v vT M13 dS oX B13 Up tR=> ?_,λf vT=> ?_]
 .rcases fY (S j).past with e0 | ⟨lq,y,e0⟩;rw[oA,e0] at vT;cases vT
  .rw[oA,e0,List.getLast?_concat,List.dropLast_concat] at vT;cases vT;rw[e0,aB] at J1;obtain f0 | ⟨l',z',f0⟩:=fY lr;rw[f0] at J1;simp at J1
   .subst f0;rw[aB] at J1;have _s:=h9.li hj Up (by omega) h5;have h4':=h9.li hj Up ⋯ h9.rs;have hn:decide (((((l'++ [z']++ [z]).map zN).length:Nat):Int)=1)=false:=aE (by rw[ag,aD,aD];simp;omega);dsimp?! [h4',e3,_s,hn];exact QU (l:=(l'++ [z']).map zN) (y:=zN z) (by rw[_s,aB];rfl) ?_;dsimp?! [];have hy:z'.2=y.2:= ⇑((List.append_inj' J1 rfl).2);have hlq:=(List.append_inj' J1 rfl).1;have hT:=h9.Ju hj Up B13 tR (lp:=l'++ [z']) (λx hx=>h7 x (List.mem_append_left _ hx)) (by rw[aB,hlq,qg];show congrArg (λx=>_++ [x]) hy);exact vj (d:= .tup [.str "", .dG]) (.inl rfl) (.inl rfl) ⋯ rfl ?_;dsimp?! [];exact#[p,b,_,_,ns,_,_,Ip hj,hT,xZ (Q:=λk (s:fG)=>sr (p k) s.R s.T) (λk hk=>(hZ k hk).now.s) ((hZ j hj).pa.2 y.2 (by rw[fG.pure,e0];simp)).s,Il hR,?_];dsimp?! []
 obtain e0 | ⟨lq,y,e0⟩:=fY (S j).past
 .rw[oA,e0] at vT;cases vT;rw[e0] at J1;obtain rfl:lr= []:= ⇑J1;have hn:decide (((1:Nat):Int)=1)=true:=bh rfl;dsimp?! [h4,e3,h5,hn];exact vj (d:= .tup [.str "NoMore", .dG]) (.inl rfl) (.inl rfl) ⋯ rfl ?_;dsimp?! [];exact#[p,b,_,_,ns,_,_,rfl,h9,λk hk=>(hZ k hk).now.s,hR,?_];dsimp?! []
 rw[oA,e0,List.getLast?_concat,List.dropLast_concat] at vT;cases vT
end eR
namespace eR
open PySem L2 WL WQ PyProof.Rows
theorem walk {l:W.OpenLaw}{XP:(Str ->eM c5) ->Heap ->Prop}{d:DefRec}{K:Params ->Xu}(hn:l.most=some 63)(Tz:d.params.defaults= [])(hY: ∀ (w:World) (h:Heap),YP w h ->(K w.params).In h)(nm:d.name= "law")(F: ∀ (w:World) (mg:Str ->eM c5) (h:Heap),(K w.params).In h ->h.Ns mainGlobals mg -> ∃A,e9 (K w.params) mg A): W.WalkO q xb XP YP l.row.toRowW d [] (λf vs=>PySem.call f vs):=L2.L_ (n:=63) (k:=10) (x:= "_law_script") (CX:=λ_=>fh) (sp:=λw=>zO (K w.params)) hn ⋯ Tz #[rfl,⋯,⋯] hY (λw mg fa h X G e=>(F w mg h X G).elim λ_ T=>SF T.law (nm▸e) (λ_ _ _ _ _ _ _=>rfl) λ_=>So T) (λ_ _ a ns hl _ hS=>#[a,ns,rfl,hS,λ_=>rfl]) λ_ _ _ _ _ z=>z
end eR
end
def PySem.W.Fast.tw5193763484571110444:Nat:=0
def PySem.W.Fast.tw8608355581441754137:Nat:=0
def PySem.W.Fast.tw6311537192586293816:Nat:=0
def PySem.W.Fast.tw5238714687359698981:Nat:=0
def PySem.W.Fast.tw6609472543674302501:Nat:=0
def PySem.W.Fast.tw548184828179588510:Nat:=0
def PySem.W.Fast.tw13289362489819265136:Nat:=0
def PySem.W.Fast.tw119008061165169191:Nat:=0
def PySem.W.Fast.tw6871727337789344086:Nat:=0
def PySem.W.Fast.tw12506313147635606734:Nat:=0
def PySem.W.Fast.tw9167780054883002179:Nat:=0
def PySem.W.Fast.tw6507960163220398118:Nat:=0
def PySem.W.Fast.tw7426657154860963664:Nat:=0
def PySem.W.Fast.tw2760084342898540647:Nat:=0
def PySem.W.Fast.tw3391630778713755894:Nat:=0
def PySem.W.Fast.tw10304900549638282779:Nat:=0
def PySem.W.Fast.tw6808007660895527992:Nat:=0
def PySem.W.Fast.tw7277811292153908620:Nat:=0
def PySem.W.Fast.tw7649523665295832839:Nat:=0
def PySem.W.Fast.tw10304865068679807281:Nat:=0
def PySem.W.Fast.tw15217616126751602841:Nat:=0
def PySem.W.Fast.tw8885841478890926857:Nat:=0
def PySem.W.Fast.tw7332664076666734909:Nat:=0
def PySem.W.Fast.tw1686476097968788882:Nat:=0
def PySem.W.Fast.tw16871111916892770077:Nat:=0
def PySem.W.Fast.tw68624609231428376:Nat:=0
def PySem.W.Fast.tw4754286365235855250:Nat:=0
def PySem.W.Fast.tw7159176042740504416:Nat:=0
def PySem.W.Fast.tw4210764433821482105:Nat:=0
def PySem.W.Fast.tw1316343460926268079:Nat:=0
def PySem.W.Fast.tw17078002493489432078:Nat:=0
def PySem.W.Fast.tw739659459896779069:Nat:=0
def PySem.W.Fast.tw2045653797915773866:Nat:=0
def PySem.W.Fast.tw173118705574792280:Nat:=0
def PySem.W.Fast.tw1534599383402222176:Nat:=0
def PySem.W.Fast.tw12146135627280836798:Nat:=0
def PySem.W.Fast.tw14541643422055380992:Nat:=0
def PySem.W.Fast.tw15717972515103941543:Nat:=0
def PySem.W.Fast.tw5019003401446211793:Nat:=0
def PySem.W.Fast.tw4122154856019400404:Nat:=0
def PySem.W.Fast.tw7439828606138113888:Nat:=0
def PySem.W.Fast.tw10410133781251089917:Nat:=0
def PySem.W.Fast.tw7909888897890185365:Nat:=0
def PySem.W.Fast.tw3829149699431570047:Nat:=0
def PySem.W.Fast.tw5705831966887365052:Nat:=0
def PySem.W.Fast.tw16384142605338462379:Nat:=0
def PySem.W.Fast.tw3444904972550520689:Nat:=0
def PySem.W.Fast.tw8692979328149475924:Nat:=0
def PySem.W.Fast.tw13091446954837801315:Nat:=0
def PySem.W.Fast.tw10357460103446381689:Nat:=0
def PySem.W.Fast.tw14966092935544089186:Nat:=0
def PySem.W.Fast.tw5376880905538199183:Nat:=0
def PySem.W.Fast.tw7775366692757933400:Nat:=0
def PySem.W.Fast.tw5424287092212414251:Nat:=0
def PySem.W.Fast.tw6926939891674319815:Nat:=0
def PySem.W.Fast.tw4825013378750401629:Nat:=0
def PySem.W.Fast.tw1499671741059054868:Nat:=0
def PySem.W.Fast.tw14307204659233172404:Nat:=0
def PySem.W.Fast.tw9002452929106240709:Nat:=0
def PySem.W.Fast.tw17918166037594912623:Nat:=0
def PySem.W.Fast.tw10428826036160948475:Nat:=0
def PySem.W.Fast.tw1447989861537563112:Nat:=0
def PySem.W.Fast.tw4143223780006675350:Nat:=0
def PySem.W.Fast.tw2887417118280607092:Nat:=0
def PySem.W.Fast.tw8449577844035527119:Nat:=0
def PySem.W.Fast.tw18413962257743964556:Nat:=0
def PySem.W.Fast.tw6194429532242789829:Nat:=0
def PySem.W.Fast.tw16568948481523004536:Nat:=0
def PySem.W.Fast.tw4334865333598348263:Nat:=0
def PySem.W.Fast.tw640372227884559263:Nat:=0
def PySem.W.Fast.tw12636659503920387362:Nat:=0
def PySem.W.Fast.tw4615896154630898722:Nat:=0
def PySem.W.Fast.tw9725224297724413818:Nat:=0
def PySem.W.Fast.tw7749606271299099732:Nat:=0
def PySem.W.Fast.tw18413552756524811715:Nat:=0
def PySem.W.Fast.tw9679497427111312378:Nat:=0
def PySem.W.Fast.tw15457184678906220959:Nat:=0
def PySem.W.Fast.tw6253865715247367803:Nat:=0
def PySem.W.Fast.tw2462683272700050561:Nat:=0
def PySem.W.Fast.tw4767004776070732511:Nat:=0
def PySem.W.Fast.tw5605981803781988934:Nat:=0
def PySem.W.Fast.tw9023901450352259304:Nat:=0
def PySem.W.Fast.tw8904446786512020426:Nat:=0
def PySem.W.Fast.tw6489614564155317:Nat:=0
def PySem.W.Fast.tw16497256142010716539:Nat:=0
def PySem.W.Fast.tw15710862418004535200:Nat:=0
def PySem.W.Fast.tw10240855306752354788:Nat:=0
def PySem.W.Fast.tw2210865881885481839:Nat:=0
def PySem.W.Fast.tw16961957348249036294:Nat:=0
def PySem.W.Fast.tw971560884357121540:Nat:=0
def PySem.W.Fast.tw13966227527119160895:Nat:=0
def PySem.W.Fast.tw16955903224658748009:Nat:=0
def PySem.W.Fast.tw16722584112090707715:Nat:=0
def PySem.W.Fast.tw9937475412413782355:Nat:=0
def PySem.W.Fast.tw7209914078266613901:Nat:=0
def PySem.W.Fast.tw2224079159729907888:Nat:=0
def PySem.W.Fast.tw11440410240437564261:Nat:=0
def PySem.W.Fast.tw3617851408137694779:Nat:=0
def PySem.W.Fast.tw17742340885556538433:Nat:=0
def PySem.W.Fast.tw10955426605746562018:Nat:=0
def PySem.W.Fast.tw2637741801177730636:Nat:=0
def PySem.W.Fast.tw3001873040643980966:Nat:=0
def PySem.W.Fast.tw7258825519345118008:Nat:=0
def PySem.W.Fast.tw7033383192439031483:Nat:=0
def PySem.W.Fast.tw14610165453672165529:Nat:=0
def PySem.W.Fast.tw9642031902978845578:Nat:=0
def PySem.W.Fast.tw2567513759000093666:Nat:=0
def PySem.W.Fast.tw7082644477374648521:Nat:=0
def PySem.W.Fast.tw17036476162844386820:Nat:=0
def PySem.W.Fast.tw9985907426194012914:Nat:=0
def PySem.W.Fast.tw4074488606784260272:Nat:=0
def PySem.W.Fast.tw947925749607150611:Nat:=0
def PySem.W.Fast.tw8314879665461030566:Nat:=0
def PySem.W.Fast.tw12722699349092672826:Nat:=0
def PySem.W.Fast.tw10672319974829694170:Nat:=0
def PySem.W.Fast.tw6828676709596700458:Nat:=0
def PySem.W.Fast.tw6906278042990522590:Nat:=0
def PySem.W.Fast.tw8058810339770384128:Nat:=0
def PySem.W.Fast.tw950377905437079611:Nat:=0
def PySem.W.Fast.tw12456080953878265776:Nat:=0
def PySem.W.Fast.tw6177521605914954410:Nat:=0
def PySem.W.Fast.tw11973553261868471374:Nat:=0
def PySem.W.Fast.tw10504927281605762569:Nat:=0
def PySem.W.Fast.tw15041496508177056261:Nat:=0
def PySem.W.Fast.tw18404671056856797362:Nat:=0
def PySem.W.Fast.tw12219755331738420113:Nat:=0
def PySem.W.Fast.tw13623727595666039551:Nat:=0
def PySem.W.Fast.tw5093465404597840189:Nat:=0
def PySem.W.Fast.tw9669305243957433890:Nat:=0
def PySem.W.Fast.tw6750827156858922043:Nat:=0
def PySem.W.Fast.tw17478927987537561511:Nat:=0
def PySem.W.Fast.tw1661480312292238201:Nat:=0
def PySem.W.Fast.tw6378827889201518922:Nat:=0
def PySem.W.Fast.tw1478000568868739558:Nat:=0
def PySem.W.Fast.tw15132873938797618614:Nat:=0
def PySem.W.Fast.tw7113346507538203756:Nat:=0
def PySem.W.Fast.tw4832756299746712614:Nat:=0
def PySem.W.Fast.tw964373889603583759:Nat:=0
def PySem.W.Fast.tw8577794070916999168:Nat:=0
def PySem.W.Fast.tw18091283673817842619:Nat:=0
def PySem.W.Fast.tw2382047713557111261:Nat:=0
def PySem.W.Fast.tw12464796004192511256:Nat:=0
def PySem.W.Fast.tw3916835033034792602:Nat:=0
def PySem.W.Fast.tw4696311512002935313:Nat:=0
def PySem.W.Fast.tw17805023838943641135:Nat:=0
def PySem.W.Fast.tw14903667648794987170:Nat:=0
def PySem.W.Fast.tw18135806019574815047:Nat:=0
def PySem.W.Fast.tw5293554243205899583:Nat:=0
def PySem.W.Fast.tw14093566386153459488:Nat:=0
def PySem.W.Fast.tw1465876642606631103:Nat:=0
def PySem.W.Fast.tw17522489528979149954:Nat:=0
def PySem.W.Fast.tw17260588252550747339:Nat:=0
def PySem.W.Fast.tw4995743142346877922:Nat:=0
def PySem.W.Fast.tw5701199574594690242:Nat:=0
def PySem.W.Fast.tw8777665689909730005:Nat:=0
def PySem.W.Fast.tw13028937259325850544:Nat:=0
def PySem.W.Fast.tw657359304602902557:Nat:=0
def PySem.W.Fast.tw16547457987777175828:Nat:=0
def PySem.W.Fast.tw4751283718204213272:Nat:=0
def PySem.W.Fast.tw2597796439095629210:Nat:=0
def PySem.W.Fast.tw3131107494131348020:Nat:=0
def PySem.W.Fast.tw14614311564379166907:Nat:=0
def PySem.W.Fast.tw2437409242437959927:Nat:=0
def PySem.W.Fast.tw1087865845141458345:Nat:=0
def PySem.W.Fast.tw15751680556523318261:Nat:=0
def PySem.W.Fast.tw8289620334402731673:Nat:=0
def PySem.W.Fast.tw14758604934019912425:Nat:=0
def PySem.W.Fast.tw9039764651112751142:Nat:=0
def PySem.W.Fast.tw11856077924100377863:Nat:=0
def PySem.W.Fast.tw6886038708907475843:Nat:=0
def PySem.W.Fast.tw1823836790309249376:Nat:=0
def PySem.W.Fast.tw12963526349538318260:Nat:=0
def PySem.W.Fast.tw11971934052515296350:Nat:=0
def PySem.W.Fast.tw14042251422208417092:Nat:=0
def PySem.W.Fast.tw596437510105252391:Nat:=0
def PySem.W.Fast.tw9223402644882210118:Nat:=0
def PySem.W.Fast.tw7994185911822304198:Nat:=0
def PySem.W.Fast.tw4491007848600325276:Nat:=0
def PySem.W.Fast.tw16762577456769886638:Nat:=0
def PySem.W.Fast.tw2188806668830425207:Nat:=0
def PySem.W.Fast.tw10287029524266149031:Nat:=0
def PySem.W.Fast.tw10536419412839809800:Nat:=0
def PySem.W.Fast.tw6913757129167522966:Nat:=0
def PySem.W.Fast.tw6063476738332228244:Nat:=0
def PySem.W.Fast.tw10706269844543333925:Nat:=0
def PySem.W.Fast.tw11147595547832064029:Nat:=0
def PySem.W.Fast.tw8196606368978965211:Nat:=0
def PySem.W.Fast.tw14636977337972018202:Nat:=0
def PySem.W.Fast.tw2928588073496127508:Nat:=0
def PySem.W.Fast.tw5620549166952862980:Nat:=0
def PySem.W.Fast.tw15797632825851639404:Nat:=0
def PySem.W.Fast.tw17421942668135229008:Nat:=0
def PySem.W.Fast.tw699803387128570579:Nat:=0
def PySem.W.Fast.tw4823305104268936791:Nat:=0
def PySem.W.Fast.tw15127860223131862381:Nat:=0
def PySem.W.Fast.tw2931808704389291164:Nat:=0
def PySem.W.Fast.tw10177831686367161019:Nat:=0
def PySem.W.Fast.tw1458290340084272212:Nat:=0
def PySem.W.Fast.tw5167395088762170973:Nat:=0
def PySem.W.Fast.tw11617361606728980664:Nat:=0
def PySem.W.Fast.tw13970931165261419115:Nat:=0
def PySem.W.Fast.tw7487876575177914686:Nat:=0
def PySem.W.Fast.tw10377085566124953808:Nat:=0
def PySem.W.Fast.tw15642524405602028273:Nat:=0
def PySem.W.Fast.tw3981832958830891014:Nat:=0
def PySem.W.Fast.tw11055207743780112163:Nat:=0
def PySem.W.Fast.tw7721914480667547248:Nat:=0
def PySem.W.Fast.tw2637333556077395136:Nat:=0
def PySem.W.Fast.tw13868453766448329101:Nat:=0
def PySem.W.Fast.tw15178174479495824674:Nat:=0
def PySem.W.Fast.tw14142178418150305371:Nat:=0
def PySem.W.Fast.tw5873249450133488236:Nat:=0
def PySem.W.Fast.tw17795949073772950554:Nat:=0
def PySem.W.Fast.tw15005446745039480395:Nat:=0
def PySem.W.Fast.tw13653369705245246233:Nat:=0
def PySem.W.Fast.tw6102228306898038837:Nat:=0
def PySem.W.Fast.tw6077288519464215876:Nat:=0
def PySem.W.Fast.tw9265138554809626807:Nat:=0
def PySem.W.Fast.tw8024588487731171654:Nat:=0
def PySem.W.Fast.tw7219390982815896899:Nat:=0
def PySem.W.Fast.tw8772762776034152210:Nat:=0
def PySem.W.Fast.tw11728328203213966196:Nat:=0
def PySem.W.Fast.tw7594792143070540095:Nat:=0
def PySem.W.Fast.tw15871631768957858228:Nat:=0
def PySem.W.Fast.tw4834788841183614295:Nat:=0
def PySem.W.Fast.tw1229938603116532372:Nat:=0
def PySem.W.Fast.tw4792447398234294704:Nat:=0
def PySem.W.Fast.tw10109661160383457188:Nat:=0
def PySem.W.Fast.tw9774457629849938184:Nat:=0
def PySem.W.Fast.tw3881379507291059730:Nat:=0
def PySem.W.Fast.tw17687767911402209112:Nat:=0
def PySem.W.Fast.tw8128771536897355569:Nat:=0
def PySem.W.Fast.tw7718312982869457274:Nat:=0
def PySem.W.Fast.tw7461733194640490816:Nat:=0
def PySem.W.Fast.tw813620182173071911:Nat:=0
def PySem.W.Fast.tw16024414922909398933:Nat:=0
def PySem.W.Fast.tw4626514782521262418:Nat:=0
def PySem.W.Fast.tw7027460710652547562:Nat:=0
def PySem.W.Fast.tw8032314779483801521:Nat:=0
def PySem.W.Fast.tw9366508931600038070:Nat:=0
def PySem.W.Fast.tw415269753539020915:Nat:=0
def PySem.W.Fast.tw18137148630943271155:Nat:=0
def PySem.W.Fast.tw12311946471461387628:Nat:=0
def PySem.W.Fast.tw11149149719885118196:Nat:=0
def PySem.W.Fast.tw3437932383249963944:Nat:=0
def PySem.W.Fast.tw3133837859247249719:Nat:=0
def PySem.W.Fast.tw4854017476962772510:Nat:=0
def PySem.W.Fast.tw6653746981227649712:Nat:=0
def PySem.W.Fast.tw7222220148287489863:Nat:=0
def PySem.W.Fast.tw4426826091426892122:Nat:=0
def PySem.W.Fast.tw3978596209613974093:Nat:=0
def PySem.W.Fast.tw519246678782299898:Nat:=0
def PySem.W.Fast.tw12887987705713260516:Nat:=0
def PySem.W.Fast.tw1578377550552338512:Nat:=0
def PySem.W.Fast.tw2471765699979500446:Nat:=0
def PySem.W.Fast.tw119851425536510363:Nat:=0
def PySem.W.Fast.tw12505389370306690146:Nat:=0
def PySem.W.Fast.tw10915170705460324446:Nat:=0
def PySem.W.Fast.tw6794368825772115814:Nat:=0
def PySem.W.Fast.tw11377147237513505525:Nat:=0
def PySem.W.Fast.tw16999471094101440279:Nat:=0
def PySem.W.Fast.tw11745689503274473931:Nat:=0
def PySem.W.Fast.tw17472907982205085063:Nat:=0
def PySem.W.Fast.tw14999502201313719163:Nat:=0
def PySem.W.Fast.tw5882992098941707831:Nat:=0
def PySem.W.Fast.tw18004363783120181634:Nat:=0
open PySem PySem.W PyProof.Rows L2
set_option maxRecDepth 100000 in
set_option maxHeartbeats 0 in
theorem PySem.Challenge.cw_duskround_k49_two_books_at_once_holds : PySem.Challenge.rw_duskround_k49_two_books_at_once.Holds := by
 w_on;o_law;k_head;(case hw=>w_witness2)
 k_fill
 refine eR.walk (l:=PySem.Challenge.rw_duskround_k49_two_books_at_once) rfl rfl (λw h Y=>PySem.W.kIn_of Y) rfl λw mg h X G=> ?_
 have' Um:=bP (x:= "tidy") (ps:= ["p","pairs"]) (st:=eR.BW) X G ?g14 ?g15 ?g16 ?g17;(case g14 | g15 | g16 | g17=>k_is);have' OV:=bP (x:= "added") (ps:= ["p","one","other"]) (st:=eR.DL) X G ?g18 ?g19 ?g20 ?g21;(case g18 | g19 | g20 | g21=>k_is);have' OO:=bP (x:= "moved") (ps:= ["pattern","by"]) (st:=eR.yh) X G ?g22 ?g23 ?g24 ?g25;(case g22 | g23 | g24 | g25=>k_is);have' ON:=bP (x:= "timed") (ps:= ["p","pattern","n"]) (st:=eR.yg) X G ?g26 ?g27 ?g28 ?g29;(case g26 | g27 | g28 | g29=>k_is);have' Uo:=bP (x:= "gone") (ps:= ["p","deeds"]) (st:=eR.BX) X G ?g30 ?g31 ?g32 ?g33;(case g30 | g31 | g32 | g33=>k_is);have' Ly:=bP (x:= "joined") (ps:= ["p","one","other"]) (st:=eR.z3) X G ?g34 ?g35 ?g36 ?g37;(case g34 | g35 | g36 | g37=>k_is);have' C9:=bP (x:= "backward") (ps:= ["p","one"]) (st:=eR.uq) X G ?g38 ?g39 ?g40 ?g41;(case g38 | g39 | g40 | g41=>k_is);have' C6:=bP (x:= "repeated") (ps:= ["p","one","n"]) (st:=eR.iA) X G ?g42 ?g43 ?g44 ?g45;(case g42 | g43 | g44 | g45=>k_is);have' wz:=bP (x:= "lies_within") (ps:= ["one","farthest_end","farthest_place"]) (st:=eR.je) X G ?g46 ?g47 ?g48 ?g49;(case g46 | g47 | g48 | g49=>k_is);have' Bs:=bP (x:= "fits_crew") (ps:= ["one"]) (st:=eR.rm) X G ?g50 ?g51 ?g52 ?g53;(case g50 | g51 | g52 | g53=>k_is);have' zm:=bP (x:= "check_name") (ps:= ["name"]) (st:=eR.jS) X G ?g54 ?g55 ?g56 ?g57;(case g54 | g55 | g56 | g57=>k_is);have' zi:=bP (x:= "with_thing") (ps:= ["things","name","thing"]) (st:=eR.oC) X G ?g58 ?g59 ?g60 ?g61;(case g58 | g59 | g60 | g61=>k_is);have' G8:=bP (x:= "without") (ps:= ["things","name"]) (st:=eR.wT) X G ?g62 ?g63 ?g64 ?g65;(case g62 | g63 | g64 | g65=>k_is);have' C_:=KS (x:= "Page") (ps:= ["self","rounds","teams"]) (st:=eR.Ih) X G ?g66 ?g67 ?g68 ?g69 ?g70 ?g71 ?g72 ?g73 ?g74 ?g75 ?g76 ?g77;(case g66 | g67 | g68 | g69 | g70 | g71 | g72 | g73 | g74 | g75 | g76 | g77=>k_is);have' c7:=KS (x:= "Book") (ps:= ["self","p"]) (st:=eR.BY) X G ?g78 ?g79 ?g80 ?g81 ?g82 ?g83 ?g84 ?g85 ?g86 ?g87 ?g88 ?g89;(case g78 | g79 | g80 | g81 | g82 | g83 | g84 | g85 | g86 | g87 | g88 | g89=>k_is);have' tD:=dN (m:= "settings") (ps:= ["self"]) (st:=eR.kl) c7 ?g90 ?g91 ?g92 ?g93 ?g94;(case g90 | g91 | g92 | g93 | g94=>k_is);have' vK:=dN (m:= "turn_to") (ps:= ["self","page"]) (st:=eR.lC) c7 ?g95 ?g96 ?g97 ?g98 ?g99;(case g95 | g96 | g97 | g98 | g99=>k_is);have' Db:=dN (m:= "put") (ps:= ["self","name","one"]) (st:=eR.nH) c7 ?g100 ?g101 ?g102 ?g103 ?g104;(case g100 | g101 | g102 | g103 | g104=>k_is);have' tF:=dN (m:= "put_team") (ps:= ["self","crew","team"]) (st:=eR.km) c7 ?g105 ?g106 ?g107 ?g108 ?g109;(case g105 | g106 | g107 | g108 | g109=>k_is);have' tG:=dN (m:= "enlisted") (ps:= ["self","name"]) (st:=eR.ko) c7 ?g110 ?g111 ?g112 ?g113 ?g114;(case g110 | g111 | g112 | g113 | g114=>k_is);have' Bv:=dN (m:= "team") (ps:= ["self","crew"]) (st:=eR.lE) c7 ?g115 ?g116 ?g117 ?g118 ?g119;(case g115 | g116 | g117 | g118 | g119=>k_is);have' Bu:=dN (m:= "tell") (ps:= ["self","name","deeds"]) (st:=eR.lD) c7 ?g120 ?g121 ?g122 ?g123 ?g124;(case g120 | g121 | g122 | g123 | g124=>k_is);have' vM:=dN (m:= "join_as") (ps:= ["self","name","one","other"]) (st:=eR.iC) c7 ?g125 ?g126 ?g127 ?g128 ?g129;(case g125 | g126 | g127 | g128 | g129=>k_is);have' vP:=dN (m:= "back_as") (ps:= ["self","name","one"]) (st:=eR.iF) c7 ?g130 ?g131 ?g132 ?g133 ?g134;(case g130 | g131 | g132 | g133 | g134=>k_is);have' tz:=dN (m:= "times_as") (ps:= ["self","name","one","n"]) (st:=eR.gO) c7 ?g135 ?g136 ?g137 ?g138 ?g139;(case g135 | g136 | g137 | g138 | g139=>k_is);have' By:=dN (m:= "drop") (ps:= ["self","name"]) (st:=eR.lG) c7 ?g140 ?g141 ?g142 ?g143 ?g144;(case g140 | g141 | g142 | g143 | g144=>k_is);have' zo:=dN (m:= "found") (ps:= ["self","crew"]) (st:=eR.jT) c7 ?g145 ?g146 ?g147 ?g148 ?g149;(case g145 | g146 | g147 | g148 | g149=>k_is);have' vO:=dN (m:= "disband") (ps:= ["self","crew"]) (st:=eR.iE) c7 ?g150 ?g151 ?g152 ?g153 ?g154;(case g150 | g151 | g152 | g153 | g154=>k_is);have' wD:=dN (m:= "enlist") (ps:= ["self","crew","name"]) (st:=eR.jf) c7 ?g155 ?g156 ?g157 ?g158 ?g159;(case g155 | g156 | g157 | g158 | g159=>k_is);have' vN:=dN (m:= "dismiss") (ps:= ["self","crew","name"]) (st:=eR.iD) c7 ?g160 ?g161 ?g162 ?g163 ?g164;(case g160 | g161 | g162 | g163 | g164=>k_is);have' Bt:=dN (m:= "undo") (ps:= ["self"]) (st:=eR.lB) c7 ?g165 ?g166 ?g167 ?g168 ?g169;(case g165 | g166 | g167 | g168 | g169=>k_is);have' Bw:=dN (m:= "redo") (ps:= ["self"]) (st:=eR.lF) c7 ?g170 ?g171 ?g172 ?g173 ?g174;(case g170 | g171 | g172 | g173 | g174=>k_is);have' Bx:=dN (m:= "hold") (ps:= ["self"]) (st:=eR.rn) c7 ?g175 ?g176 ?g177 ?g178 ?g179;(case g175 | g176 | g177 | g178 | g179=>k_is);have' ra:=dN (m:= "return_to") (ps:= ["self","k"]) (st:=eR.gi) c7 ?g180 ?g181 ?g182 ?g183 ?g184;(case g180 | g181 | g182 | g183 | g184=>k_is);have' zn:=dN (m:= "names") (ps:= ["self"]) (st:=eR.oG) c7 ?g185 ?g186 ?g187 ?g188 ?g189;(case g185 | g186 | g187 | g188 | g189=>k_is);have' zp:=dN (m:= "crews") (ps:= ["self"]) (st:=eR.oH) c7 ?g190 ?g191 ?g192 ?g193 ?g194;(case g190 | g191 | g192 | g193 | g194=>k_is);have' tE:=dN (m:= "round_of") (ps:= ["self","name"]) (st:=eR.gP) c7 ?g195 ?g196 ?g197 ?g198 ?g199;(case g195 | g196 | g197 | g198 | g199=>k_is);have' vL:=dN (m:= "members") (ps:= ["self","crew"]) (st:=eR.iB) c7 ?g200 ?g201 ?g202 ?g203 ?g204;(case g200 | g201 | g202 | g203 | g204=>k_is);have' Ha:=bP (x:= "_law_begin") (ps:= ["_law_script"]) (st:=eR.qf) X G ?g205 ?g206 ?g207 ?g208;(case g205 | g206 | g207 | g208=>k_is);have' Ls:=bP (x:= "_law_take") (ps:= ["_law_draw","_law_many"]) (st:=eR.zV) X G ?g209 ?g210 ?g211 ?g212;(case g209 | g210 | g211 | g212=>k_is);have' Lo:=bP (x:= "_law_wide") (ps:= ["_law_draw"]) (st:=eR.zS) X G ?g213 ?g214 ?g215 ?g216;(case g213 | g214 | g215 | g216=>k_is);have' Y1:=bP (x:= "_law_p") (ps:= ["_law_draw"]) (st:=eR.Pq) X G ?g217 ?g218 ?g219 ?g220;(case g217 | g218 | g219 | g220=>k_is);have' G_:=bP (x:= "_law_names") (ps:= ["_law_draw","_law_many"]) (st:=eR.wX) X G ?g221 ?g222 ?g223 ?g224;(case g221 | g222 | g223 | g224=>k_is);have' Lr:=bP (x:= "_law_tidy") (ps:= ["_law_p_here","_law_pairs"]) (st:=eR.zU) X G ?g225 ?g226 ?g227 ?g228;(case g225 | g226 | g227 | g228=>k_is);have' OP:=bP (x:= "_law_sum") (ps:= ["_law_p_here","_law_one","_law_other","_law_by","_law_many"]) (st:=eR.DG) X G ?g229 ?g230 ?g231 ?g232;(case g229 | g230 | g231 | g232=>k_is);have' Lu:=bP (x:= "_law_join") (ps:= ["_law_p_here","_law_one","_law_other"]) (st:=eR.zW) X G ?g233 ?g234 ?g235 ?g236;(case g233 | g234 | g235 | g236=>k_is);have' Lx:=bP (x:= "_law_back") (ps:= ["_law_p_here","_law_one"]) (st:=eR.zZ) X G ?g237 ?g238 ?g239 ?g240;(case g237 | g238 | g239 | g240=>k_is);have' G':=bP (x:= "_law_times") (ps:= ["_law_p_here","_law_one","_law_n"]) (st:=eR.wW) X G ?g241 ?g242 ?g243 ?g244;(case g241 | g242 | g243 | g244=>k_is);have' Br:=bP (x:= "_law_is_name") (ps:= ["_law_name"]) (st:=eR.rj) X G ?g245 ?g246 ?g247 ?g248;(case g245 | g246 | g247 | g248=>k_is);have' OT:=bP (x:= "_law_far") (ps:= ["_law_one","_law_most","_law_reach"]) (st:=eR.DJ) X G ?g249 ?g250 ?g251 ?g252;(case g249 | g250 | g251 | g252=>k_is);have' Lq:=bP (x:= "_law_walk") (ps:= ["_law_p_here","_law_deeds"]) (st:=eR.zT) X G ?g253 ?g254 ?g255 ?g256;(case g253 | g254 | g255 | g256=>k_is);have' G9:=bP (x:= "_law_value") (ps:= ["_law_p_here","_law_rounds","_law_deed"]) (st:=eR.wV) X G ?g257 ?g258 ?g259 ?g260;(case g257 | g258 | g259 | g260=>k_is);have' wA:=bP (x:= "_law_due_round") (ps:= ["_law_p_here","_law_stand","_law_deed"]) (st:=eR.nc) X G ?g261 ?g262 ?g263 ?g264;(case g261 | g262 | g263 | g264=>k_is);have' vI:=bP (x:= "_law_due_member") (ps:= ["_law_stand","_law_deed"]) (st:=eR.lz) X G ?g265 ?g266 ?g267 ?g268;(case g265 | g266 | g267 | g268=>k_is);have' zk:=bP (x:= "_law_due_crew") (ps:= ["_law_stand","_law_deed"]) (st:=eR.oF) X G ?g269 ?g270 ?g271 ?g272;(case g269 | g270 | g271 | g272=>k_is);have' OU:=bP (x:= "_law_due") (ps:= ["_law_p_here","_law_stand","_law_deed"]) (st:=eR.DK) X G ?g273 ?g274 ?g275 ?g276;(case g273 | g274 | g275 | g276=>k_is);have' OQ:=bP (x:= "_law_run") (ps:= ["_law_book","_law_deed"]) (st:=eR.yi) X G ?g277 ?g278 ?g279 ?g280;(case g277 | g278 | g279 | g280=>k_is);have' Lv:=bP (x:= "_law_call") (ps:= ["_law_book","_law_deed"]) (st:=eR.zX) X G ?g281 ?g282 ?g283 ?g284;(case g281 | g282 | g283 | g284=>k_is);have' OS:=bP (x:= "_law_int") (ps:= ["_law_thing"]) (st:=eR.DI) X G ?g285 ?g286 ?g287 ?g288;(case g285 | g286 | g287 | g288=>k_is);have' vH:=bP (x:= "_law_is_pattern") (ps:= ["_law_p_here","_law_thing"]) (st:=eR.ly) X G ?g289 ?g290 ?g291 ?g292;(case g289 | g290 | g291 | g292=>k_is);have' zj:=bP (x:= "_law_is_round") (ps:= ["_law_p_here","_law_thing"]) (st:=eR.oE) X G ?g293 ?g294 ?g295 ?g296;(case g293 | g294 | g295 | g296=>k_is);have' C8:=bP (x:= "_law_stands") (ps:= ["_law_p_here","_law_book","_law_stand"]) (st:=eR.uo) X G ?g297 ?g298 ?g299 ?g300;(case g297 | g298 | g299 | g300=>k_is);have' vJ:=bP (x:= "_law_draw_deeds") (ps:= ["_law_draw"]) (st:=eR.lA) X G ?g301 ?g302 ?g303 ?g304;(case g301 | g302 | g303 | g304=>k_is);have' C7:=bP (x:= "_law_target") (ps:= ["_law_draw","_law_names_here"]) (st:=eR.ul) X G ?g305 ?g306 ?g307 ?g308;(case g305 | g306 | g307 | g308=>k_is);have' vG:=bP (x:= "_law_round_deed") (ps:= ["_law_draw","_law_names_here"]) (st:=eR.lx) X G ?g309 ?g310 ?g311 ?g312;(case g309 | g310 | g311 | g312=>k_is);have' wB:=bP (x:= "_law_crew_deed") (ps:= ["_law_draw","_law_names_here"]) (st:=eR.ng) X G ?g313 ?g314 ?g315 ?g316;(case g313 | g314 | g315 | g316=>k_is);have' OR:=bP (x:= "_law_new") (ps:= ["_law_number"]) (st:=eR.DH) X G ?g317 ?g318 ?g319 ?g320;(case g317 | g318 | g319 | g320=>k_is);have' Lw:=bP (x:= "_law_both") (ps:= ["_law_ps","_law_books","_law_rows"]) (st:=eR.zY) X G ?g321 ?g322 ?g323 ?g324;(case g321 | g322 | g323 | g324=>k_is);have' Y0:=bP (x:= "law") (ps:= ["_law_script"]) (st:=eR.Ig) X G ?g325 ?g326 ?g327 ?g328;(case g325 | g326 | g327 | g328=>k_is);have' Bo:=uM c7 "held" ?n_Book_held;(case n_Book_held=>k_is);have' C2:=uM c7 "now" ?n_Book_now;(case n_Book_now=>k_is);have' Li:=uM c7 "p" ?n_Book_p;(case n_Book_p=>k_is);have' Bn:=uM c7 "past" ?n_Book_past;(case n_Book_past=>k_is);have' ww:=uM c7 "undone" ?n_Book_undone;(case n_Book_undone=>k_is);have' wv:=uM C_ "rounds" ?n_Page_rounds;(case n_Page_rounds=>k_is);have' zg:=uM C_ "teams" ?n_Page_teams;(case n_Page_teams=>k_is);have' C3:=gT (x:= "BadCount") X G ?g337;(case g337=>k_is);have' G7:=gT (x:= "BadName") X G ?g338;(case g338=>k_is);have' OL:=gT (x:= "InUse") X G ?g339;(case g339=>k_is);have' Ln:=gT (x:= "NoCrew") X G ?g340;(case g340=>k_is);have' Lm:=gT (x:= "NoDeed") X G ?g341;(case g341=>k_is);have' Ll:=gT (x:= "NoMore") X G ?g342;(case g342=>k_is);have' G6:=gT (x:= "NoRound") X G ?g343;(case g343=>k_is);have' G5:=gT (x:= "NoState") X G ?g344;(case g344=>k_is);have' wx:=gT (x:= "StreetError") X G ?g345;(case g345=>k_is);have' OK:=gT (x:= "Taken") X G ?g346;(case g346=>k_is);have' Lk:=gT (x:= "TooFar") X G ?g347;(case g347=>k_is);have' G4:=gT (x:= "TooMany") X G ?g348;(case g348=>k_is);have' De:=iq (x:= "BadCount") X ?g349 ?g350 ?g351 ?g352 ?g353 ?g354 ?g355 ?g356;(case g349=>k_is);(case g350=>k_exc);(case g351 | g352 | g353 | g354 | g355 | g356=>k_is);have' He:=iq (x:= "BadName") X ?g357 ?g358 ?g359 ?g360 ?g361 ?g362 ?g363 ?g364;(case g357=>k_is);(case g358=>k_exc);(case g359 | g360 | g361 | g362 | g363 | g364=>k_is);have' OX:=iq (x:= "InUse") X ?g365 ?g366 ?g367 ?g368 ?g369 ?g370 ?g371 ?g372;(case g365=>k_is);(case g366=>k_exc);(case g367 | g368 | g369 | g370 | g371 | g372=>k_is);have' LD:=iq (x:= "NoCrew") X ?g373 ?g374 ?g375 ?g376 ?g377 ?g378 ?g379 ?g380;(case g373=>k_is);(case g374=>k_exc);(case g375 | g376 | g377 | g378 | g379 | g380=>k_is);have' LC:=iq (x:= "NoDeed") X ?g381 ?g382 ?g383 ?g384 ?g385 ?g386 ?g387 ?g388;(case g381=>k_is);(case g382=>k_exc);(case g383 | g384 | g385 | g386 | g387 | g388=>k_is);have' LA:=iq (x:= "NoMore") X ?g389 ?g390 ?g391 ?g392 ?g393 ?g394 ?g395 ?g396;(case g389=>k_is);(case g390=>k_exc);(case g391 | g392 | g393 | g394 | g395 | g396=>k_is);have' Hd:=iq (x:= "NoRound") X ?g397 ?g398 ?g399 ?g400 ?g401 ?g402 ?g403 ?g404;(case g397=>k_is);(case g398=>k_exc);(case g399 | g400 | g401 | g402 | g403 | g404=>k_is);have' Hc:=iq (x:= "NoState") X ?g405 ?g406 ?g407 ?g408 ?g409 ?g410 ?g411 ?g412;(case g405=>k_is);(case g406=>k_exc);(case g407 | g408 | g409 | g410 | g411 | g412=>k_is);have' OW:=iq (x:= "Taken") X ?g413 ?g414 ?g415 ?g416 ?g417 ?g418 ?g419 ?g420;(case g413=>k_is);(case g414=>k_exc);(case g415 | g416 | g417 | g418 | g419 | g420=>k_is);have' Lz:=iq (x:= "TooFar") X ?g421 ?g422 ?g423 ?g424 ?g425 ?g426 ?g427 ?g428;(case g421=>k_is);(case g422=>k_exc);(case g423 | g424 | g425 | g426 | g427 | g428=>k_is);have' Hb:=iq (x:= "TooMany") X ?g429 ?g430 ?g431 ?g432 ?g433 ?g434 ?g435 ?g436;(case g429=>k_is);(case g430=>k_exc);(case g431 | g432 | g433 | g434 | g435 | g436=>k_is)
 refine' ⟨⟨_,_,_,_,_,_,_,_,_,_,_,_,_,_,_,_,_,_,_,_,_,_,_,_,_,_,_,_,_,_,_,_,_,_,_,_,_,_,_,_,_,_,_,_,_,_,_,_,_,_,_,_,_,_,_,_,_,_,_,_,_,_,_,_,_,_,_,_,_,_,_,_,_,_,_,_,_,_,_,_,_,_,_,_,_,_,_,_,_,_,_,_,_,_,_,_,_,_,_,_,_,_,_,_,_,_,_,_,_,_,_,_,_,_,_,_,_,_,_,_,_,_,_,_,_,_,_,_,_,_,_,_,_,_,_,_,_,_,_,_,_,_,_,_,_,_,_,_,_,_,_,_⟩,bN X G ?g1,bN X G ?g2,bN X G ?g3,bN X G ?g4,bN X G ?g5,bN X G ?g6,bN X G ?g7,bN X G ?g8,bN X G ?g9,bN X G ?g10,bN X G ?g11,bN X G ?g12,bN X G ?g13,Um,OV,OO,ON,Uo,Ly,C9,C6,wz,Bs,zm,zi,G8,C_,c7,tD,vK,Db,tF,tG,Bv,Bu,vM,vP,tz,By,zo,vO,wD,vN,Bt,Bw,Bx,ra,zn,zp,tE,vL,Ha,Ls,Lo,Y1,G_,Lr,OP,Lu,Lx,G',Br,OT,Lq,G9,wA,vI,zk,OU,OQ,Lv,OS,vH,zj,C8,vJ,C7,vG,wB,OR,Lw,Y0,Bo,C2,Li,Bn,ww,wv,zg,uW X G ?g329,uW X G ?g330,uW X G ?g331,uW X G ?g332,uW X G ?g333,Rx X G ?g334,Rl X G ?g335 ?g336,C3,G7,OL,Ln,Lm,Ll,G6,G5,wx,OK,Lk,G4,De,He,OX,LD,LC,LA,Hd,Hc,OW,Lz,Hb,?g437,?g438,?g439,?g440,?g441,?g442,?g443,?g444,?g445,?g446,?g447,?g448,?g449,?g450,?g451,?g452,?g453,?g454,?g455,?g456,?g457,?g458,?g459,?g460,?g461,?g462,?g463,?g464,?g465,?g466,?g467,?g468,?g469,?g470,?g471,?g472,?g473,?g474,?g475,?g476,?g477,?g478,?g479,?g480,?g481,?g482,?g483,?g484⟩
 (case g1 | g2 | g3 | g4 | g5 | g6 | g7 | g8 | g9 | g10 | g11 | g12 | g13 | g329 | g330 | g331 | g332 | g333 | g334 | g335 | g336=>k_is);(case g437 | g438 | g439 | g440 | g441 | g442 | g443 | g444 | g445 | g446 | g447 | g448 | g449 | g450 | g451 | g452 | g453 | g454 | g455 | g456 | g457 | g458 | g459 | g460 | g461 | g462 | g463 | g464 | g465 | g466 | g467 | g468 | g469 | g470 | g471 | g472 | g473 | g474 | g475 | g476 | g477 | g478 | g479 | g480 | g481 | g482 | g483 | g484=>kit_is)
